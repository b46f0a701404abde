/- FnExactBuildLattice: the row and its card. -/
import Derived.Test.YtnmpkdmflijhpaaDoorCardC
import Derived.Test.YtnmpkdmflijhpaaDoorLawB
import Derived.Deep.SlicePairs
namespace Go.Proofs.YtnmpkdmflijhpaaDoor
open Go Go.RowKit Go.ChangeShapes Go.WideShapes Go.ChangeAt

theorem cellsOrder : Tryd.prog.cellsOf 24 = 2 := by kernel_rfl
theorem cellsPair : Tryd.prog.cellsOf 105 = 2 := by kernel_rfl

section
variable {H : Type} {enc : TypeId × Value → H} {P : Program} {w : World} {base : Nat} {held : Bool}
/-- A slice of pairs of numbers, opened. -/
theorem got_pairs {t e : TypeId} {f0 f1 : Field} {n : Nat} {v : Value} {y : DataW H × List MemPlace} (ht : P.underlying t = some (.slice e)) (he : P.underlying e = some (.struct #[f0, f1])) (ce : P.cellsOf e = 2) (o0 : f0.offset = 0) (o1 : f1.offset = 1)
    (i0 : P.underlying f0.type = some (.int .i64)) (i1 : P.underlying f1.type = some (.int .i64)) (c0 : P.cellsOf f0.type = 1) (c1 : P.cellsOf f1.type = 1) (h : DataW.trod enc P w base (fun _ => true) held n t [v] = some y)
    (hlt : ∀ x ∈ y.2, x.block < w.heap.size) : ∃ a len cap f g, v = .slice a len cap ∧ len ≤ 9223372036854775807 ∧ Pairs w a len f g := by
  rcases Deep.open_slice_pairs ht he ce o0 o1 c0 c1 h with ⟨h0, -⟩ | ⟨a, len, cap, m, k, V0, V1, D0, D1, P0, P1, h0, -, hl, hm, hmm, rfl, hx⟩
  · exact ⟨none, 0, 0, fun _ => 0, fun _ => 0, by simpa using h0, by omega, fun k hk => absurd hk (Nat.not_lt_zero _)⟩
  · simp only [if_true] at hmm
    subst hmm
    refine ⟨some a, len, m, fun k => intOf (V0 k), fun k => intOf (V1 k), by simpa using h0, by have : maxLen = 9223372036854775807 := rfl; omega, fun i hi => ?_⟩
    obtain ⟨x0, x1, r0, r1⟩ := hx i (by omega)
    obtain ⟨z0, e0⟩ := got_int i0 r0
    obtain ⟨z1, e1⟩ := got_int i1 r1
    obtain ⟨b, off, spot⟩ := a
    have hs : spot = none := by simpa [Addr.add] using World.cell?_spot (hx 0 (by omega)).1
    subst hs
    rw [add_none] at x0 x1
    refine ⟨b, off, rfl, hlt (.cell b (off + i * 2)) ?_, ?_, ?_⟩
    · exact List.mem_append_left _ (MemPlace.mem_row.2 ⟨i * 2, by omega, by simp⟩)
    · rw [x0]; simp [e0, intOf]
    · rw [Nat.add_assoc, x1]; simp [e1, intOf]
end

set_option maxRecDepth 100000 in
theorem contractB (H : Type) (enc : TypeId × Value → H) (W : World) (base : Nat) (args : Array Value) (ds gs : List (DataW H)) (before : List MemPlace)
    (hval : ∀ (j : Nat) t v, Tryd.f3.params[j]? = some t → args[j]? = some v → Value.okWide Tryd.prog W .any base t v)
    (hW : DataW.Whole enc Tryd.prog Tryd.f3.params.toList Rows.fnExactBuildLatticeSpec.vars false W args.toList ds gs before) (hL : laidMetH Tryd.prog Rows.fnExactBuildLatticeRow.laid W) :
    Calls Tryd.prog 3 args W fun e W' => ∃ v, e = .returned v ∧ Rows.fnExactBuildLatticeSpec.post enc Tryd.prog Tryd.f3 false true false false W args v W' := by
  have hW' := hW
  obtain ⟨p, q, hA0, hV, rfl, hfz, hnd⟩ := hW
  have hA : DataW.TrodAll enc Tryd.prog W 0 (fun _ => true) true Tryd.f3.params.toList args.toList ds p := hA0
  rw [Tryd.params3] at hA hval
  obtain ⟨v0, d0, rfl, rfl, h0⟩ := trodAll_one hA
  obtain ⟨rfl, rfl⟩ := trodVars_none hV
  have h0k := h0
  clear hA0
  simp only [List.append_nil] at hW'
  have hlt : ∀ x ∈ p, x.block < W.heap.size := fun x hx => by simpa using hW'.lt x hx
  have hargs : ∀ (W' : World), Below W.heap.size W W' → DataW.Trod enc Tryd.prog W' 0 (fun b => decide (b < W.heap.size)) true 24 v0 d0 p :=
    fun W' hn => Below.trod laidOut (by kernel_rfl) (of_decide_eq_true (by kernel_rfl)) h0k hn hlt
  obtain ⟨u0, u1, y0, y1, n, rfl, rfl, rfl, t0, t1⟩ := Go.Joins.open_agg2 Tryd.underlying24 (by kernel_rfl) cellsOrder (hval 0 24 v0 rfl rfl) h0
  obtain ⟨N, rfl⟩ := got_int Tryd.underlying3 t0
  obtain ⟨a, m, c, f, g, rfl, l1, k1⟩ := got_pairs Tryd.underlying22 Tryd.underlying105 cellsPair rfl rfl Tryd.underlying3 Tryd.underlying3 cellsInt cellsInt t1 (fun x hx => hlt x (by simp [hx]))
  refine (lawBuild_any N a m c f g W l1 k1 (tab_of hL)).mono fun e W' ⟨he, hn⟩ => ?_
  subst he
  exact ⟨_, rfl, ⟨_, _, _, [], _, [], hW', trodAll_mk1 (shut_bool Tryd.underlying4 _), trodAll_mk1 (hargs _ hn), rfl, hn.frame _, fun h => by cases h⟩⟩

set_option maxRecDepth 100000 in
theorem witnessB (os : Os) {H : Type} (enc : TypeId × Value → H) (w0 : World) (e : w0 = { World.holding Tryd.prog os ⟨#[], #[], []⟩ with heap := (World.holding Tryd.prog os ⟨#[], #[], []⟩).heap.modify 0 fun
      | .cells _ t frozen => .cells (Lib.deBruijn32tab.map (fun n => Value.int .u8 ((n : Nat) : Int))).toArray t frozen
      | o => o }) :
    ∃ (w : World) (tape : Tape) (i : Input), w.os = os ∧ (w.forCall tape i).Shaped Tryd.checked.prog ∧ i.vars = [] ∧ Input.okWide Tryd.checked.prog (w.forCall tape i) .any w.heap.size 3 i ∧
      (OpenSpec.ofChange Rows.fnExactBuildLatticeSpec).preRow enc Tryd.checked.prog Tryd.f3 Rows.fnExactBuildLatticeRow.domain false Rows.fnExactBuildLatticeRow.laid (w.forCall tape i).memory i.args ∧ ({ modest := false } : Assume).holds Tryd.checked.prog (lone (Frame.enter Tryd.checked.prog 3 i.args .normal) [] (w.forCall tape i)) := by
  exact witness_row_at (enc := enc) (C := Tryd.checked) false w0 #[.agg #[.int .i64 0, .slice none 0 0]] (by subst e; rfl) (by subst e; kernel_rfl) (by subst e; kernel_rfl) (by subst e; kernel_rfl)
    (OpenSpec.preRow_of_cond (x := ([.agg [.lit (.int .i64 0), .nil]], [], [])) 8 (by subst e; kernel_rfl) (by subst e; kernel_rfl) (fun k hk => by cases hk) (by subst e; kernel_rfl) (laidMet_of_run' 8 (by subst e; kernel_rfl) (by subst e; kernel_rfl)))

set_option maxRecDepth 100000 in
theorem liftedB (os : Os) (started : os.Started) (H : Type) (enc : TypeId × Value → H) (F : Stop.Interp) :
    ReturnsInHanded {} Tryd.checked os 3 .any ((OpenSpec.ofChange Rows.fnExactBuildLatticeSpec).preRow enc Tryd.prog Tryd.f3 Rows.fnExactBuildLatticeRow.domain false Rows.fnExactBuildLatticeRow.laid) (((OpenSpec.ofChange Rows.fnExactBuildLatticeSpec).at F).post enc Tryd.prog Tryd.f3 false true false false) := by
  refine returnsInHanded_of_row (C := Tryd.checked) (s := OpenSpec.ofChange Rows.fnExactBuildLatticeSpec) knobs started (by kernel_rfl) Tryd.func3 (witnessB os enc _ rfl) ?_
  intro W base args ds gs before hval hW _ _ _ hL _ _
  exact contractB H enc W base args ds gs before hval hW hL

theorem saidB : Rows.FnExactBuildLatticeSaid :=
  OpenClaim.holds_of_cond 3 Tryd.f3 rfl rfl rfl rfl rfl rfl rfl ⟨rfl, rfl, rfl, rfl, rfl⟩ rfl rfl rfl rfl rfl (by kernel_rfl) Tryd.func3 (by kernel_rfl)
    (of_decide_eq_true (by kernel_rfl)) (by unfold Func.isWrapper; first | (rw [if_pos (by decide +kernel)]; kernel_rfl) | (rw [if_neg (by decide +kernel)]; exact ⟨rfl, rfl⟩))
    (fun os started H enc _ F => by rw [OpenClaim.pre_eq_preRow]; exact liftedB os started H enc F)

theorem plainB (f : FuncId) (fn : Func) (hf : Tryd.pinned.checked.prog.funcNamed "loop.example/s0011/laws.FnExactBuildLattice" = some f) (hfn : Tryd.pinned.checked.prog.funcs[f]? = some fn) :
    Rows.fnExactBuildLatticeCard.stood.looks = Tryd.pinned.checked.prog.looks [] ∧ ∀ (j : Nat) t, fn.params[j]? = some t → Tryd.pinned.checked.prog.wantsStandIn t = false := by
  obtain rfl : f = 3 := Option.some.inj ((show Tryd.prog.funcNamed "loop.example/s0011/laws.FnExactBuildLattice" = some 3 by kernel_rfl).symm.trans hf) |>.symm
  obtain rfl : fn = Tryd.f3 := (Option.some.inj (Tryd.func3.symm.trans hfn)).symm
  refine ⟨by kernel_rfl, fun j t ht => ?_⟩
  rw [Tryd.params3] at ht
  obtain rfl : t = 24 := by simpa using Array.mem_of_getElem? ht
  exact (show Tryd.prog.wantsStandIn 24 = false by kernel_rfl)

theorem cardB : Rows.FnExactBuildLatticeCardSaid :=
  Claim7.holds_tied_plain_at .later [] _ _ _ _ saidB (fun _ h => by cases h) (by kernel_rfl) (fun _ h => by cases h) fnExactBuildLattice_row_tie rfl ⟨rfl, rfl⟩ (by kernel_rfl) rfl plainB (by kernel_rfl)
end Go.Proofs.YtnmpkdmflijhpaaDoor
