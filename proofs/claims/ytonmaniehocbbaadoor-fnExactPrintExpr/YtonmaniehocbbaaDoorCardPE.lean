/- FnExactPrintExpr: the row and its card. -/
import Derived.Test.YtonmaniehocbbaaDoorLawPE
import Derived.Test.YtonmaniehocbbaaDoorCardN
import Derived.Shelf.Vars
import Derived.OpenVars
import Derived.ChangeVars
namespace Go.Proofs.YtonmaniehocbbaaDoor
open Go Go.RowKit Go.ChangeShapes Go.WideShapes Go.ChangeAt

set_option maxRecDepth 100000 in
theorem contractPE (H : Type) (enc : TypeId × Value → H) (W : World) (base : Nat) (args : Array Value) (ds gs : List (DataW H)) (before : List MemPlace)
    (hval : ∀ (j : Nat) t v, Tryd.f3.params[j]? = some t → args[j]? = some v → Value.okWide Tryd.prog W .any base t v)
    (hW : DataW.Whole enc Tryd.prog Tryd.f3.params.toList Rows.fnExactPrintExprSpec.vars false W args.toList ds gs before) (hg : Wrds W) (hp : Pow W) :
    Calls Tryd.prog 3 args W fun e W' => ∃ v, e = .returned v ∧ Rows.fnExactPrintExprSpec.post enc Tryd.prog Tryd.f3 false true false false W args v W' := by
  have hW' := hW
  obtain ⟨p, q, hA0, hV, rfl, hfz, hnd⟩ := hW
  have hA : DataW.TrodAll enc Tryd.prog W 0 (fun _ => true) true Tryd.f3.params.toList args.toList ds p := hA0
  rw [Tryd.params3] at hA hval
  obtain ⟨v0, d0, rfl, rfl, h0⟩ := trodAll_one hA
  obtain ⟨g, t, cs, fuel', d1, p1, rfl, -, -, -, -, -⟩ := trodVars_one hV
  have h0k := h0
  clear hA0
  have hlt : ∀ x ∈ p, x.block < W.heap.size := fun x hx => by simpa using hW'.lt x (List.mem_append_left _ hx)
  have hargs : ∀ (W' : World), Below W.heap.size W W' → DataW.Trod enc Tryd.prog W' 0 (fun b => decide (b < W.heap.size)) true 22 v0 d0 p :=
    fun W' hn => Below.trod laidOutV (by kernel_rfl) (of_decide_eq_true (by kernel_rfl)) h0k hn hlt
  obtain ⟨a4, m0, c4, rfl⟩ := okWide_slice Tryd.underlying22 (hval 0 22 v0 rfl rfl)
  obtain ⟨fuel, hf⟩ := h0
  obtain ⟨a4', m, c4', f, e4, l4, k4, s4⟩ := got_nodes (v := .slice a4 m0 c4) Tryd.underlying22 Tryd.underlying33 cellsNode rfl rfl rfl Tryd.underlying31 cellsVal rfl rfl rfl Tryd.underlying3 Tryd.underlying9 cellsInt0 cellsStr Tryd.underlying3 Tryd.underlying2 Tryd.underlying9 cellsInt0 cellsI640 cellsStr hf hlt
  simp only [Value.slice.injEq] at e4
  obtain ⟨rfl, rfl, rfl⟩ := e4
  refine (lawPrintExpr_any a4 m0 c4 f W l4 k4 s4 hg hp).mono fun e W' ⟨he, hn⟩ => ?_
  subst he
  exact ⟨_, rfl, ⟨_, _, _, [], _, _, hW', trodAll_mk1 (shut_bool Tryd.underlying4 _), trodAll_mk1 (hargs _ hn), Below.trodVars laidOutV hn (by kernel_rfl) hV, hn.frame _, fun h => by cases h⟩⟩

set_option maxRecDepth 100000 in
theorem witnessPE (os : Os) {H : Type} (enc : TypeId × Value → H) (w0 : World) (e : w0 = { World.holding Tryd.prog os ⟨#[], #[], []⟩ with heap := ((((World.holding Tryd.prog os ⟨#[], #[], []⟩).heap.modify 3 (laidT .u8 (Lib.deBruijn32tab.map (fun n => ((n : Nat) : Int))))).modify 4 (laidT .u8 (Lib.deBruijn64tab.map (fun n => ((n : Nat) : Int))))).modify 1 (laidT .u64 Lib.pow10Tab)).modify 0 (laidS wrdT) }) :
    ∃ (w : World) (tape : Tape) (i : Input), w.os = os ∧ (w.forCall tape i).Shaped Tryd.checked.prog ∧ i.vars = [] ∧ Input.okWide Tryd.checked.prog (w.forCall tape i) .any w.heap.size 3 i ∧
      (OpenSpec.ofChange Rows.fnExactPrintExprSpec).preRow enc Tryd.checked.prog Tryd.f3 Rows.fnExactPrintExprRow.domain false Rows.fnExactPrintExprRow.laid (w.forCall tape i).memory i.args ∧ ({ modest := false } : Assume).holds Tryd.checked.prog (lone (Frame.enter Tryd.checked.prog 3 i.args .normal) [] (w.forCall tape i)) := by
  exact witness_row_at (enc := enc) (C := Tryd.checked) false w0 #[.slice none 0 0] (by subst e; rfl) (by subst e; kernel_rfl) (by subst e; kernel_rfl) (by subst e; kernel_rfl)
    (OpenSpec.preRow_of_cond (x := ([.nil], [Rows.laid_loop_example_s0011_impl_operatorWords], MemPlace.row ⟨0, 0, none⟩ 26)) 8 (by subst e; kernel_rfl) (by subst e; kernel_rfl) (fun k hk => by cases hk) (by subst e; kernel_rfl) (laidMet_of_run' 8 (by subst e; kernel_rfl) (by subst e; kernel_rfl)))

set_option maxRecDepth 100000 in
theorem liftedPE (os : Os) (started : os.Started) (H : Type) (enc : TypeId × Value → H) (F : Stop.Interp) :
    ReturnsInHanded {} Tryd.checked os 3 .any ((OpenSpec.ofChange Rows.fnExactPrintExprSpec).preRow enc Tryd.prog Tryd.f3 Rows.fnExactPrintExprRow.domain false Rows.fnExactPrintExprRow.laid) (((OpenSpec.ofChange Rows.fnExactPrintExprSpec).at F).post enc Tryd.prog Tryd.f3 false true false false) := by
  refine returnsInHanded_of_row (C := Tryd.checked) (s := OpenSpec.ofChange Rows.fnExactPrintExprSpec) knobsV started (by kernel_rfl) Tryd.func3 (witnessPE os enc _ rfl) ?_
  intro W base args ds gs before hval hW _ _ _ hL _ _
  exact contractPE H enc W base args ds gs before hval hW (wrd_of_head hL.tail.tail.tail) (pow_of hL)

theorem saidPE : Rows.FnExactPrintExprSaid :=
  OpenClaim.holds_of_cond 3 Tryd.f3 rfl rfl rfl rfl rfl rfl rfl ⟨rfl, rfl, rfl, rfl, rfl⟩ rfl rfl rfl rfl rfl (by kernel_rfl) Tryd.func3 (by kernel_rfl)
    (of_decide_eq_true (by kernel_rfl)) (by unfold Func.isWrapper; first | (rw [if_pos (by decide +kernel)]; kernel_rfl) | (rw [if_neg (by decide +kernel)]; exact ⟨rfl, rfl⟩))
    (fun os started H enc _ F => by rw [OpenClaim.pre_eq_preRow]; exact liftedPE os started H enc F)

theorem plainPE (f : FuncId) (fn : Func) (hf : Tryd.pinned.checked.prog.funcNamed "loop.example/s0011/laws.FnExactPrintExpr" = some f) (hfn : Tryd.pinned.checked.prog.funcs[f]? = some fn) :
    Rows.fnExactPrintExprCard.stood.looks = Tryd.pinned.checked.prog.looks [] ∧ ∀ (j : Nat) t, fn.params[j]? = some t → Tryd.pinned.checked.prog.wantsStandIn t = false := by
  obtain rfl : f = 3 := Option.some.inj ((show Tryd.prog.funcNamed "loop.example/s0011/laws.FnExactPrintExpr" = some 3 by kernel_rfl).symm.trans hf) |>.symm
  obtain rfl : fn = Tryd.f3 := (Option.some.inj (Tryd.func3.symm.trans hfn)).symm
  refine ⟨by kernel_rfl, fun j t ht => ?_⟩
  rw [Tryd.params3] at ht
  obtain rfl : t = 22 := by simpa using Array.mem_of_getElem? ht
  exact (show Tryd.prog.wantsStandIn 22 = false by kernel_rfl)

theorem cardPE : Rows.FnExactPrintExprCardSaid :=
  Claim7.holds_tied_plain_at .later [] _ _ _ _ saidPE (fun _ h => by cases h) (by kernel_rfl) (fun _ h => by cases h) fnExactPrintExpr_row_tie rfl ⟨rfl, rfl⟩ (by kernel_rfl) rfl plainPE (by kernel_rfl)
end Go.Proofs.YtonmaniehocbbaaDoor
