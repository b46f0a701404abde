import Derived.Test.YtalgidagiojbpaaGreatDoorQGL4
import Derived.Test.YtalgidagiojbpaaGreatDoorQGI
import Derived.Shelf.Vars
import Derived.OpenVars
import Derived.ChangeVars
/- FnExactInferLabels: the row and its card. -/
namespace Go.Proofs.YtalgidagiojbpaaGreatDoor
open Go Go.RowKit Go.ChangeShapes Go.WideShapes Go.ChangeAt
theorem gTabL : Tryz.prog.globalNamed "math/bits.deBruijn32tab" = some 1 := by kernel_rfl
theorem gTabTypeL : (Tryz.prog.globals[1]?).map (·.type) = some 221 := by kernel_rfl
theorem cellsTabL : Tryz.prog.cellsOf 221 = 32 := by kernel_rfl
theorem cellsU8L : Tryz.prog.cellsOf 5 = 1 := by kernel_rfl
/-- What the row's list gives of chapter 1's table. -/
theorem tab_head {W : World} {rest : List (String × DataW Unit)} (h : laidMet Tryz.prog (("math/bits.deBruijn32tab", Rows.laid_math_bits_deBruijn32tab) :: rest) W) : Tab W := by
 have T : Lib.TabIs Tryz.prog W "math/bits.deBruijn32tab" .u8 (Lib.deBruijn32tab.map (fun n => ((n : Nat) : Int))) :=
  Lib.tabIs_of_head (rest := rest) gTabL gTabTypeL Tryz.underlying221 Tryz.underlying5 cellsU8L cellsTabL h
 have e : ∀ j, j < 32 -> (Lib.deBruijn32tab.map (fun n => ((n : Nat) : Int))).getD j 0 = ((Lib.deBruijn32tab.getD j 0 : Nat) : Int) := by decide +kernel
 intro j hj
 rw [<- e j hj]
 exact T.cell gTabL j (by simpa [Lib.deBruijn32tab] using hj)
set_option maxRecDepth 100000 in
theorem contractIL (H : Type) (enc : TypeId × Value -> H) (W : World) (base : Nat) (args : Array Value) (ds gs : List (DataW H)) (before : List MemPlace)
 (hval : ∀ (j : Nat) t v, Tryz.f3.params[j]? = some t -> args[j]? = some v -> Value.okWide Tryz.prog W .any base t v)
 (hW : DataW.Whole enc Tryz.prog Tryz.f3.params.toList Rows.fnExactInferLabelsSpec.vars false W args.toList ds gs before) (ht : Tabs W) (hy : TyW W) (htb : Tab W) :
 Calls Tryz.prog 3 args W fun e W' => ∃ v, e = .returned v /\ Rows.fnExactInferLabelsSpec.post enc Tryz.prog Tryz.f3 false true false false W args v W' := by
 have hW' := hW
 obtain ⟨p, q, hA0, hV, rfl, hfz, hnd⟩ := hW
 have hA : DataW.TrodAll enc Tryz.prog W 0 (fun _ => true) true Tryz.f3.params.toList args.toList ds p := hA0
 rw [Tryz.params3] at hA hval
 obtain ⟨v0, d0, rfl, rfl, h0⟩ := trodAll_one hA
 obtain ⟨g0, t0', cs0, f0, d1, p1, g1, t1', cs1, f1, d2, p2, rfl, -, -, -, -, -, -, -, -, -⟩ := trodVars_two hV
 have h0k := h0
 clear hA0
 have hlt : ∀ x ∈ p, x.block < W.heap.size := fun x hx => by simpa using hW'.lt x (List.mem_append_left _ hx)
 have hargs : ∀ (W' : World), Below W.heap.size W W' -> DataW.Trod enc Tryz.prog W' 0 (fun b => decide (b < W.heap.size)) true 27 v0 d0 p :=
  fun W' hn => Below.trod laidOutV (by kernel_rfl) (of_decide_eq_true (by kernel_rfl)) h0k hn hlt
 obtain ⟨u0, u1, u2, u3, y0, y1, y2, y3, n, rfl, rfl, rfl, t0, t1, t2, t3⟩ := Go.Joins.open_agg4 Tryz.underlying27 (by kernel_rfl) cellsForm (hval 0 27 v0 rfl rfl) h0
 obtain ⟨al, ll, alc, rfl, hl1, hl2, hl3⟩ := got_strs Tryz.underlying22 Tryz.underlying9 cellsStr t0 (fun x hx => hlt x (by simp [hx]))
 obtain ⟨ap, lp, apc, rfl, hp1, hp2⟩ := got_prs Tryz.underlying23 Tryz.underlying107 cellsPairL rfl rfl Tryz.underlying3 Tryz.underlying3 cellsInt0 cellsInt0 t1 (fun x hx => hlt x (by simp [hx]))
 obtain ⟨ar, lr, arc, rfl, hr1, hr2, hr3⟩ := got_rls Tryz.underlying24 Tryz.underlying85 cellsRoleL rfl rfl Tryz.underlying9 Tryz.underlying3 cellsStr cellsInt0 t2 (fun x hx => hlt x (by simp [hx]))
 obtain ⟨af, lf, AF, afc, rfl, hf1, hf2, hf3⟩ := got_flds t3 (fun x hx => hlt x (by simp [hx]))
 refine (lawInfer_any ⟨ll, lp, lr, lf⟩ ⟨al, alc, ap, apc, ar, arc, af, afc, AF⟩ W ⟨hl1, hp1, hr1, hf1, hl3, hr3, hf3⟩ ⟨hl2, hp2, hr2, hf2⟩ ht hy htb).mono fun e W' ⟨he, hn⟩ => ?_
 subst he
 exact ⟨_, rfl, ⟨_, _, _, [], _, _, hW', trodAll_mk1 (shut_bool Tryz.underlying4 _), trodAll_mk1 (hargs _ hn), Below.trodVars laidOutV hn (by kernel_rfl) hV, hn.frame _, fun h => by cases h⟩⟩
set_option maxRecDepth 100000 in
theorem witnessIL (os : Os) {H : Type} (enc : TypeId × Value -> H) (w0 : World) (e : w0 = { World.holding Tryz.prog os ⟨#[], #[], []⟩ with heap := (((((World.holding Tryz.prog os ⟨#[], #[], []⟩).heap.modify 1 (laidT .u8 (Lib.deBruijn32tab.map (fun n => ((n : Nat) : Int))))).modify 5 (laidT .u8 (Lib.deBruijn64tab.map (fun n => ((n : Nat) : Int))))).modify 4 (laidT .u64 Lib.pow10Tab)).modify 3 (laidS wrdT)).modify 0 (laidS tyT) }) :
 ∃ (w : World) (tape : Tape) (i : Input), w.os = os /\ (w.forCall tape i).Shaped Tryz.checked.prog /\ i.vars = [] /\ Input.okWide Tryz.checked.prog (w.forCall tape i) .any w.heap.size 3 i /\
  (OpenSpec.ofChange Rows.fnExactInferLabelsSpec).preRow enc Tryz.checked.prog Tryz.f3 Rows.fnExactInferLabelsRow.domain false Rows.fnExactInferLabelsRow.laid (w.forCall tape i).memory i.args /\ ({ modest := false } : Assume).holds Tryz.checked.prog (lone (Frame.enter Tryz.checked.prog 3 i.args .normal) [] (w.forCall tape i)) := by
 exact witness_row_at (enc := enc) (C := Tryz.checked) false w0 #[.agg #[.slice none 0 0, .slice none 0 0, .slice none 0 0, .slice none 0 0]] (by subst e; rfl) (by subst e; kernel_rfl) (by subst e; kernel_rfl) (by subst e; kernel_rfl)
  (OpenSpec.preRow_of_cond (x := ([.agg [.nil, .nil, .nil, .nil]], [Rows.laid_loop_example_s0011_impl_operatorWords, Rows.laid_loop_example_s0011_impl_typeWords], MemPlace.row ⟨3, 0, none⟩ 26 ++ MemPlace.row ⟨0, 0, none⟩ 4)) 8 (by subst e; kernel_rfl) (by subst e; kernel_rfl) (fun k hk => by cases hk) (by subst e; kernel_rfl) (laidMet_of_run' 8 (by subst e; kernel_rfl) (by subst e; kernel_rfl)))
set_option maxRecDepth 100000 in
theorem liftedIL (os : Os) (started : os.Started) (H : Type) (enc : TypeId × Value -> H) (F : Stop.Interp) :
 ReturnsInHanded {} Tryz.checked os 3 .any ((OpenSpec.ofChange Rows.fnExactInferLabelsSpec).preRow enc Tryz.prog Tryz.f3 Rows.fnExactInferLabelsRow.domain false Rows.fnExactInferLabelsRow.laid) (((OpenSpec.ofChange Rows.fnExactInferLabelsSpec).at F).post enc Tryz.prog Tryz.f3 false true false false) := by
 refine returnsInHanded_of_row (C := Tryz.checked) (s := OpenSpec.ofChange Rows.fnExactInferLabelsSpec) knobsV started (by kernel_rfl) Tryz.func3 (witnessIL os enc _ rfl) ?_
 intro W base args ds gs before hval hW _ _ _ hL _ _
 exact contractIL H enc W base args ds gs before hval hW ⟨wrd_of_head hL.tail.tail.tail, pow_of hL⟩ (ty_of_head hL.tail.tail.tail.tail) (tab_head hL)
theorem saidIL : Rows.FnExactInferLabelsSaid :=
 OpenClaim.holds_of_cond 3 Tryz.f3 rfl rfl rfl rfl rfl rfl rfl ⟨rfl, rfl, rfl, rfl, rfl⟩ rfl rfl rfl rfl rfl (by kernel_rfl) Tryz.func3 (by kernel_rfl)
  (of_decide_eq_true (by kernel_rfl)) (by unfold Func.isWrapper; first | (rw [if_pos (by decide +kernel)]; kernel_rfl) | (rw [if_neg (by decide +kernel)]; exact ⟨rfl, rfl⟩))
  (fun os started H enc _ F => by rw [OpenClaim.pre_eq_preRow]; exact liftedIL os started H enc F)
theorem plainIL (f : FuncId) (fn : Func) (hf : Tryz.pinned.checked.prog.funcNamed "loop.example/s0011/laws.FnExactInferLabels" = some f) (hfn : Tryz.pinned.checked.prog.funcs[f]? = some fn) :
 Rows.fnExactInferLabelsCard.stood.looks = Tryz.pinned.checked.prog.looks [] /\ ∀ (j : Nat) t, fn.params[j]? = some t -> Tryz.pinned.checked.prog.wantsStandIn t = false := by
 obtain rfl : f = 3 := Option.some.inj ((show Tryz.prog.funcNamed "loop.example/s0011/laws.FnExactInferLabels" = some 3 by kernel_rfl).symm.trans hf) |>.symm
 obtain rfl : fn = Tryz.f3 := (Option.some.inj (Tryz.func3.symm.trans hfn)).symm
 refine ⟨by kernel_rfl, fun j t ht => ?_⟩
 rw [Tryz.params3] at ht
 obtain rfl : t = 27 := by simpa using Array.mem_of_getElem? ht
 exact (show Tryz.prog.wantsStandIn 27 = false by kernel_rfl)
theorem cardIL : Rows.FnExactInferLabelsCardSaid :=
 Claim7.holds_tied_plain_at .later [] _ _ _ _ saidIL (fun _ h => by cases h) (by kernel_rfl) (fun _ h => by cases h) fnExactInferLabels_row_tie rfl ⟨rfl, rfl⟩ (by kernel_rfl) rfl plainIL (by kernel_rfl)
end Go.Proofs.YtalgidagiojbpaaGreatDoor
