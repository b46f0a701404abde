/- FnExactJoinAll: the row and its card. -/
import Derived.Test.YtnmpkdmflijhpaaDoorCardC
import Derived.Test.YtnmpkdmflijhpaaDoorLawJ
namespace Go.Proofs.YtnmpkdmflijhpaaDoor
open Go Go.RowKit Go.ChangeShapes Go.WideShapes Go.ChangeAt

set_option maxRecDepth 100000 in
theorem contractJ (H : Type) (enc : TypeId × Value → H) (W : World) (base : Nat) (args : Array Value) (ds gs : List (DataW H)) (before : List MemPlace)
    (hval : ∀ (j : Nat) t v, Tryd.f5.params[j]? = some t → args[j]? = some v → Value.okWide Tryd.prog W .any base t v)
    (hW : DataW.Whole enc Tryd.prog Tryd.f5.params.toList Rows.fnExactJoinAllSpec.vars false W args.toList ds gs before) (hL : laidMetH Tryd.prog Rows.fnExactJoinAllRow.laid W) :
    Calls Tryd.prog 5 args W fun e W' => ∃ v, e = .returned v ∧ Rows.fnExactJoinAllSpec.post enc Tryd.prog Tryd.f5 false true false false W args v W' := by
  have hW' := hW
  obtain ⟨p, q, hA0, hV, rfl, hfz, hnd⟩ := hW
  have hA : DataW.TrodAll enc Tryd.prog W 0 (fun _ => true) true Tryd.f5.params.toList args.toList ds p := hA0
  rw [Tryd.params5] at hA hval
  obtain ⟨v0, v1, d0, d1, p0, p1, rfl, rfl, rfl, h0, hs0⟩ := trodAll_two hA
  obtain ⟨rfl, rfl⟩ := trodVars_none hV
  have h0k := h0
  have h1k := hs0
  clear hA0
  simp only [List.append_nil] at hW'
  have hlt : ∀ x ∈ p0 ++ p1, x.block < W.heap.size := fun x hx => by simpa using hW'.lt x hx
  have hargs : ∀ (W' : World), Below W.heap.size W W' → DataW.Trod enc Tryd.prog W' 0 (fun b => decide (b < W.heap.size)) true 41 v0 d0 p0 :=
    fun W' hn => Below.trod laidOut (by kernel_rfl) (of_decide_eq_true (by kernel_rfl)) h0k hn (fun x hx => hlt x (List.mem_append.2 (.inl hx)))
  have hargs1 : ∀ (W' : World), Below W.heap.size W W' → DataW.Trod enc Tryd.prog W' 0 (fun b => decide (b < W.heap.size)) true 27 v1 d1 p1 :=
    fun W' hn => Below.trod laidOut (by kernel_rfl) (of_decide_eq_true (by kernel_rfl)) h1k hn (fun x hx => hlt x (List.mem_append.2 (.inr hx)))
  obtain ⟨a4, m0, c4, rfl⟩ := okWide_slice Tryd.underlying27 (hval 1 27 v1 rfl rfl)
  obtain ⟨fuel, hf⟩ := hs0
  obtain ⟨a4', m, c4', x, e4, l4, k4⟩ := got_ints (v := .slice a4 m0 c4) Tryd.underlying27 Tryd.underlying3 cellsInt hf (fun x hx => hlt x (List.mem_append.2 (.inr hx)))
  simp only [Value.slice.injEq] at e4
  obtain ⟨rfl, rfl, rfl⟩ := e4
  obtain ⟨u0, u1, u2, u3, u4, u5, y0, y1, y2, y3, y4, y5, n, rfl, rfl, rfl, t0, t1, t2, t3, t4, t5⟩ := open_agg6 Tryd.underlying41 (by kernel_rfl) cellsLat (hval 0 41 v0 rfl rfl) h0
  obtain ⟨N, rfl⟩ := got_int Tryd.underlying3 t0
  obtain ⟨a1, n1, c1, f, rfl, l1, k1⟩ := got_bools Tryd.underlying26 Tryd.underlying4 cellsBool t1 (fun x hx => hlt x (by simp [hx]))
  obtain ⟨a2, n2, c2, g, rfl, l2, k2⟩ := got_ints Tryd.underlying27 Tryd.underlying3 cellsInt t2 (fun x hx => hlt x (by simp [hx]))
  obtain ⟨a3, n3, c3, h, rfl, l3, k3⟩ := got_ints Tryd.underlying27 Tryd.underlying3 cellsInt t3 (fun x hx => hlt x (by simp [hx]))
  obtain ⟨bot, rfl⟩ := got_int Tryd.underlying3 t4
  obtain ⟨top, rfl⟩ := got_int Tryd.underlying3 t5
  refine (lawJoin_any N bot top a1 a2 a3 a4 n1 n2 n3 m0 c1 c2 c3 c4 f g h x W l1 l2 l3 l4 k1 k2 k3 k4 (tab_of hL)).mono fun e W' ⟨he, hn⟩ => ?_
  subst he
  exact ⟨_, rfl, ⟨_, _, _, [], _, [], hW', trodAll_mk1 (shut_bool Tryd.underlying4 _), trodAll_mk2 (hargs _ hn) (hargs1 _ hn), rfl, hn.frame _, fun h => by cases h⟩⟩

set_option maxRecDepth 100000 in
theorem witnessJ (os : Os) {H : Type} (enc : TypeId × Value → H) (w0 : World) (e : w0 = { World.holding Tryd.prog os ⟨#[], #[], []⟩ with heap := (World.holding Tryd.prog os ⟨#[], #[], []⟩).heap.modify 0 fun
      | .cells _ t frozen => .cells (Lib.deBruijn32tab.map (fun n => Value.int .u8 ((n : Nat) : Int))).toArray t frozen
      | o => o }) :
    ∃ (w : World) (tape : Tape) (i : Input), w.os = os ∧ (w.forCall tape i).Shaped Tryd.checked.prog ∧ i.vars = [] ∧ Input.okWide Tryd.checked.prog (w.forCall tape i) .any w.heap.size 5 i ∧
      (OpenSpec.ofChange Rows.fnExactJoinAllSpec).preRow enc Tryd.checked.prog Tryd.f5 Rows.fnExactJoinAllRow.domain false Rows.fnExactJoinAllRow.laid (w.forCall tape i).memory i.args ∧ ({ modest := false } : Assume).holds Tryd.checked.prog (lone (Frame.enter Tryd.checked.prog 5 i.args .normal) [] (w.forCall tape i)) := by
  exact witness_row_at (enc := enc) (C := Tryd.checked) false w0 #[.agg #[.int .i64 0, .slice none 0 0, .slice none 0 0, .slice none 0 0, .int .i64 0, .int .i64 0], .slice none 0 0] (by subst e; rfl) (by subst e; kernel_rfl) (by subst e; kernel_rfl) (by subst e; kernel_rfl)
    (OpenSpec.preRow_of_cond (x := ([.agg [.lit (.int .i64 0), .nil, .nil, .nil, .lit (.int .i64 0), .lit (.int .i64 0)], .nil], [], [])) 8 (by subst e; kernel_rfl) (by subst e; kernel_rfl) (fun k hk => by cases hk) (by subst e; kernel_rfl) (laidMet_of_run' 8 (by subst e; kernel_rfl) (by subst e; kernel_rfl)))

set_option maxRecDepth 100000 in
theorem liftedJ (os : Os) (started : os.Started) (H : Type) (enc : TypeId × Value → H) (F : Stop.Interp) :
    ReturnsInHanded {} Tryd.checked os 5 .any ((OpenSpec.ofChange Rows.fnExactJoinAllSpec).preRow enc Tryd.prog Tryd.f5 Rows.fnExactJoinAllRow.domain false Rows.fnExactJoinAllRow.laid) (((OpenSpec.ofChange Rows.fnExactJoinAllSpec).at F).post enc Tryd.prog Tryd.f5 false true false false) := by
  refine returnsInHanded_of_row (C := Tryd.checked) (s := OpenSpec.ofChange Rows.fnExactJoinAllSpec) knobs started (by kernel_rfl) Tryd.func5 (witnessJ os enc _ rfl) ?_
  intro W base args ds gs before hval hW _ _ _ hL _ _
  exact contractJ H enc W base args ds gs before hval hW hL

theorem saidJ : Rows.FnExactJoinAllSaid :=
  OpenClaim.holds_of_cond 5 Tryd.f5 rfl rfl rfl rfl rfl rfl rfl ⟨rfl, rfl, rfl, rfl, rfl⟩ rfl rfl rfl rfl rfl (by kernel_rfl) Tryd.func5 (by kernel_rfl)
    (of_decide_eq_true (by kernel_rfl)) (by unfold Func.isWrapper; first | (rw [if_pos (by decide +kernel)]; kernel_rfl) | (rw [if_neg (by decide +kernel)]; exact ⟨rfl, rfl⟩))
    (fun os started H enc _ F => by rw [OpenClaim.pre_eq_preRow]; exact liftedJ os started H enc F)

theorem plainJ (f : FuncId) (fn : Func) (hf : Tryd.pinned.checked.prog.funcNamed "loop.example/s0011/laws.FnExactJoinAll" = some f) (hfn : Tryd.pinned.checked.prog.funcs[f]? = some fn) :
    Rows.fnExactJoinAllCard.stood.looks = Tryd.pinned.checked.prog.looks [] ∧ ∀ (j : Nat) t, fn.params[j]? = some t → Tryd.pinned.checked.prog.wantsStandIn t = false := by
  obtain rfl : f = 5 := Option.some.inj ((show Tryd.prog.funcNamed "loop.example/s0011/laws.FnExactJoinAll" = some 5 by kernel_rfl).symm.trans hf) |>.symm
  obtain rfl : fn = Tryd.f5 := (Option.some.inj (Tryd.func5.symm.trans hfn)).symm
  refine ⟨by kernel_rfl, fun j t ht => ?_⟩
  rw [Tryd.params5] at ht
  rcases (show t = 41 ∨ t = 27 by simpa using Array.mem_of_getElem? ht) with rfl | rfl
  · exact (show Tryd.prog.wantsStandIn 41 = false by kernel_rfl)
  · exact (show Tryd.prog.wantsStandIn 27 = false by kernel_rfl)

theorem cardJ : Rows.FnExactJoinAllCardSaid :=
  Claim7.holds_tied_plain_at .later [] _ _ _ _ saidJ (fun _ h => by cases h) (by kernel_rfl) (fun _ h => by cases h) fnExactJoinAll_row_tie rfl ⟨rfl, rfl⟩ (by kernel_rfl) rfl plainJ (by kernel_rfl)
end Go.Proofs.YtnmpkdmflijhpaaDoor
