/- FnExactValidLattice: the row and its card. -/
import Derived.Test.YtmkigeodngookaaDoorLawV
import Derived.Test.YtmkigeodngookaaDoorCards
import Derived.Test.YtmkigeodngookaaDoorTie
import Derived.OpenShut
import Derived.Carry
import Derived.Deep.DeepHandedRow
import Derived.Deep.Grids
import Derived.Lib.LaidTab
import Derived.Lib.SmallJoins
namespace Go.Proofs.YtmkigeodngookaaDoor
open Go Go.RowKit Go.ChangeShapes Go.WideShapes Go.ChangeAt

theorem array6 {α : Type} {cs : Array α} (h : cs.size = 6) : ∃ c0 c1 c2 c3 c4 c5, cs = #[c0, c1, c2, c3, c4, c5] := by
  obtain ⟨l⟩ := cs
  match l, h with
  | [c0, c1, c2, c3, c4, c5], _ => exact ⟨c0, c1, c2, c3, c4, c5, rfl⟩

theorem add_none (b off k : Nat) : (⟨b, off, none⟩ : Addr).add k = ⟨b, off + k, none⟩ := by
  by_cases h : k = 0 <;> simp [Addr.add, h]

section
variable {H : Type} {enc : TypeId × Value → H} {P : Program} {w : World} {base : Nat} {spare : Nat → Bool} {held : Bool}
/-- A struct of six fields of one cell each, by value, opened. -/
theorem open_agg6 {r : Go.Reach} {b0 : Nat} {t : TypeId} {f0 f1 f2 f3 f4 f5 : Field} {v : Value} {d : DataW H} {p : List MemPlace} (hs : P.underlying t = some (.struct #[f0, f1, f2, f3, f4, f5])) (hone : Deep.oneCellFields P #[f0, f1, f2, f3, f4, f5] = true) (hC : P.cellsOf t = 6)
    (hv : Value.okWide P w r b0 t v) (h : DataW.Trod enc P w base spare held t v d p) :
    ∃ (v0 v1 v2 v3 v4 v5 : Value) (y0 y1 y2 y3 y4 y5 : DataW H × List MemPlace) (n : Nat), v = .agg #[v0, v1, v2, v3, v4, v5] ∧ d = .agg [y0.1, y1.1, y2.1, y3.1, y4.1, y5.1] ∧ p = y0.2 ++ (y1.2 ++ (y2.2 ++ (y3.2 ++ (y4.2 ++ y5.2)))) ∧
      DataW.trod enc P w base spare held n f0.type [v0] = some y0 ∧ DataW.trod enc P w base spare held n f1.type [v1] = some y1 ∧ DataW.trod enc P w base spare held n f2.type [v2] = some y2 ∧ DataW.trod enc P w base spare held n f3.type [v3] = some y3 ∧
      DataW.trod enc P w base spare held n f4.type [v4] = some y4 ∧ DataW.trod enc P w base spare held n f5.type [v5] = some y5 := by
  obtain ⟨cs, rfl, hsz⟩ := okWide_struct hs hv
  obtain ⟨c0, c1, c2, c3, c4, c5, rfl⟩ := array6 (hsz.trans hC)
  obtain ⟨fuel, hf⟩ := h
  obtain ⟨xs, n, _, hx, _, hlen, hq⟩ := DataW.trod_struct hs hf
  obtain ⟨o0, k0⟩ := Deep.hone_of hone 0 f0 rfl
  obtain ⟨o1, k1⟩ := Deep.hone_of hone 1 f1 rfl
  obtain ⟨o2, k2⟩ := Deep.hone_of hone 2 f2 rfl
  obtain ⟨o3, k3⟩ := Deep.hone_of hone 3 f3 rfl
  obtain ⟨o4, k4⟩ := Deep.hone_of hone 4 f4 rfl
  obtain ⟨o5, k5⟩ := Deep.hone_of hone 5 f5 rfl
  match xs, hlen with
  | [y0, y1, y2, y3, y4, y5], _ =>
    simp only [Prod.mk.injEq] at hx
    refine ⟨c0, c1, c2, c3, c4, c5, y0, y1, y2, y3, y4, y5, n, rfl, by simpa using hx.1, by simpa using hx.2, ?_, ?_, ?_, ?_, ?_, ?_⟩
    · simpa [Value.cells, o0, k0] using hq 0 f0 rfl
    · simpa [Value.cells, o1, k1] using hq 1 f1 rfl
    · simpa [Value.cells, o2, k2] using hq 2 f2 rfl
    · simpa [Value.cells, o3, k3] using hq 3 f3 rfl
    · simpa [Value.cells, o4, k4] using hq 4 f4 rfl
    · simpa [Value.cells, o5, k5] using hq 5 f5 rfl

theorem got_int {t : TypeId} {n : Nat} {v : Value} {y : DataW H × List MemPlace} (ht : P.underlying t = some (.int .i64)) (h : DataW.trod enc P w base spare held n t [v] = some y) : ∃ x, v = .int .i64 x := by
  obtain ⟨x, h1, _⟩ := DataW.trod_int ht h
  exact ⟨x, by simpa using h1⟩
theorem got_bools {t e : TypeId} {n : Nat} {v : Value} {y : DataW H × List MemPlace} (ht : P.underlying t = some (.slice e)) (he : P.underlying e = some .bool) (hc : P.cellsOf e = 1) (h : DataW.trod enc P w base (fun _ => true) held n t [v] = some y)
    (hlt : ∀ x ∈ y.2, x.block < w.heap.size) : ∃ a len cap f, v = .slice a len cap ∧ len ≤ 9223372036854775807 ∧ Bools w a len f := by
  rcases Deep.open_bools ht he hc h with ⟨h0, -⟩ | ⟨a, len, cap, B, h0, -, hl, hm, rfl, hx⟩
  · exact ⟨none, 0, 0, fun _ => false, by simpa using h0, by omega, fun k hk => absurd hk (Nat.not_lt_zero _)⟩
  · refine ⟨some a, len, cap, B, by simpa using h0, by have : maxLen = 9223372036854775807 := rfl; omega, fun k hk => ?_⟩
    have hk' : k < cap := by omega
    obtain ⟨b, off, spot⟩ := a
    have hs : spot = none := by simpa [Addr.add] using World.cell?_spot (hx 0 (by omega))
    subst hs
    exact ⟨b, off, rfl, hlt (.cell b (off + k)) (MemPlace.mem_row.2 ⟨k, hk', by simp⟩), by have hq := hx k hk'; rw [add_none] at hq; exact hq⟩
theorem got_ints {t e : TypeId} {n : Nat} {v : Value} {y : DataW H × List MemPlace} (ht : P.underlying t = some (.slice e)) (he : P.underlying e = some (.int .i64)) (hc : P.cellsOf e = 1) (h : DataW.trod enc P w base (fun _ => true) held n t [v] = some y)
    (hlt : ∀ x ∈ y.2, x.block < w.heap.size) : ∃ a len cap f, v = .slice a len cap ∧ len ≤ 9223372036854775807 ∧ Ints w a len f := by
  rcases open_ints ht he hc h with ⟨h0, -⟩ | ⟨a, len, cap, zs, h0, -, hl, hm, hz, rfl, hx, -⟩
  · exact ⟨none, 0, 0, fun _ => 0, by simpa using h0, by omega, fun k hk => absurd hk (Nat.not_lt_zero _)⟩
  · simp only [if_true] at hz
    refine ⟨some a, len, cap, fun k => zs.getD k 0, by simpa using h0, by have : maxLen = 9223372036854775807 := rfl; omega, fun k hk => ?_⟩
    have hk' : k < zs.length := by omega
    obtain ⟨b, off, spot⟩ := a
    have hs : spot = none := by simpa [Addr.add] using World.cell?_spot (hx 0 (by omega))
    subst hs
    exact ⟨b, off, rfl, hlt (.cell b (off + k)) (MemPlace.mem_row.2 ⟨k, hk', by simp⟩), by have hq := hx k hk'; rw [add_none] at hq; exact hq⟩
end

theorem knobs : ownKnob Tryd.prog.godebug = none := by kernel_rfl
theorem laidOut : laidOutB Tryd.prog = true := by kernel_rfl
theorem gTab : Tryd.prog.globalNamed "math/bits.deBruijn32tab" = some 0 := by kernel_rfl
theorem gTabType : (Tryd.prog.globals[0]?).map (·.type) = some 102 := by kernel_rfl
theorem cellsTab : Tryd.prog.cellsOf 102 = 32 := by kernel_rfl
theorem cellsU8 : Tryd.prog.cellsOf 5 = 1 := by kernel_rfl
theorem cellsInt : Tryd.prog.cellsOf 3 = 1 := by kernel_rfl
theorem cellsBool : Tryd.prog.cellsOf 4 = 1 := by kernel_rfl
theorem cellsLat : Tryd.prog.cellsOf 46 = 6 := by kernel_rfl

/-- What the row's list gives: the table's cells hold its numbers. -/
theorem tab_of {W : World} (h : laidMetH Tryd.prog [("math/bits.deBruijn32tab", Rows.laid_math_bits_deBruijn32tab)] W) : Tab W := by
  have T : Lib.TabIs Tryd.prog W "math/bits.deBruijn32tab" .u8 (Lib.deBruijn32tab.map (fun n => ((n : Nat) : Int))) :=
    Lib.tabIs_of_head (rest := []) gTab gTabType Tryd.underlying102 Tryd.underlying5 cellsU8 cellsTab h
  have e : ∀ j, j < 32 → (Lib.deBruijn32tab.map (fun n => ((n : Nat) : Int))).getD j 0 = ((Lib.deBruijn32tab.getD j 0 : Nat) : Int) := by decide +kernel
  intro j hj
  rw [← e j hj]
  exact T.cell gTab j (by simpa [Lib.deBruijn32tab] using hj)

theorem contractV (H : Type) (enc : TypeId × Value → H) (W : World) (base : Nat) (args : Array Value) (ds gs : List (DataW H)) (before : List MemPlace)
    (hval : ∀ (j : Nat) t v, Tryd.f5.params[j]? = some t → args[j]? = some v → Value.okWide Tryd.prog W .any base t v)
    (hW : DataW.Whole enc Tryd.prog Tryd.f5.params.toList Rows.fnExactValidLatticeSpec.vars false W args.toList ds gs before) (hL : laidMetH Tryd.prog Rows.fnExactValidLatticeRow.laid W) :
    Calls Tryd.prog 5 args W fun e W' => ∃ v, e = .returned v ∧ Rows.fnExactValidLatticeSpec.post enc Tryd.prog Tryd.f5 false true false false W args v W' := by
  have hW' := hW
  obtain ⟨p, q, hA0, hV, rfl, hfz, hnd⟩ := hW
  have hA : DataW.TrodAll enc Tryd.prog W 0 (fun _ => true) true Tryd.f5.params.toList args.toList ds p := hA0
  rw [Tryd.params5] at hA hval
  obtain ⟨v0, d0, rfl, rfl, h0⟩ := trodAll_one hA
  obtain ⟨rfl, rfl⟩ := trodVars_none hV
  have h0k := h0
  clear hA0
  simp only [List.append_nil] at hW'
  have hlt : ∀ x ∈ p, x.block < W.heap.size := fun x hx => by simpa using hW'.lt x hx
  have hargs : ∀ (W' : World), Below W.heap.size W W' → DataW.Trod enc Tryd.prog W' 0 (fun b => decide (b < W.heap.size)) true 46 v0 d0 p :=
    fun W' hn => Below.trod laidOut (by kernel_rfl) (of_decide_eq_true (by kernel_rfl)) h0k hn hlt
  obtain ⟨u0, u1, u2, u3, u4, u5, y0, y1, y2, y3, y4, y5, n, rfl, rfl, rfl, t0, t1, t2, t3, t4, t5⟩ := open_agg6 Tryd.underlying46 (by kernel_rfl) cellsLat (hval 0 46 v0 rfl rfl) h0
  obtain ⟨N, rfl⟩ := got_int Tryd.underlying3 t0
  obtain ⟨a1, n1, c1, f, rfl, l1, k1⟩ := got_bools Tryd.underlying23 Tryd.underlying4 cellsBool t1 (fun x hx => hlt x (by simp [hx]))
  obtain ⟨a2, n2, c2, g, rfl, l2, k2⟩ := got_ints Tryd.underlying24 Tryd.underlying3 cellsInt t2 (fun x hx => hlt x (by simp [hx]))
  obtain ⟨a3, n3, c3, h, rfl, l3, k3⟩ := got_ints Tryd.underlying24 Tryd.underlying3 cellsInt t3 (fun x hx => hlt x (by simp [hx]))
  obtain ⟨bot, rfl⟩ := got_int Tryd.underlying3 t4
  obtain ⟨top, rfl⟩ := got_int Tryd.underlying3 t5
  refine (lawValid_any N bot top a1 a2 a3 n1 n2 n3 c1 c2 c3 f g h W l1 l2 l3 k1 k2 k3 (tab_of hL)).mono fun e W' ⟨he, hn⟩ => ?_
  subst he
  exact ⟨_, rfl, ⟨_, _, _, [], _, [], hW', trodAll_mk1 (shut_bool Tryd.underlying4 _), trodAll_mk1 (hargs _ hn), rfl, hn.frame _, fun h => by cases h⟩⟩

set_option maxRecDepth 100000 in
theorem witnessV (os : Os) {H : Type} (enc : TypeId × Value → H) (w0 : World) (e : w0 = { World.holding Tryd.prog os ⟨#[], #[], []⟩ with heap := (World.holding Tryd.prog os ⟨#[], #[], []⟩).heap.modify 0 fun
      | .cells _ t frozen => .cells (Lib.deBruijn32tab.map (fun n => Value.int .u8 ((n : Nat) : Int))).toArray t frozen
      | o => o }) :
    ∃ (w : World) (tape : Tape) (i : Input), w.os = os ∧ (w.forCall tape i).Shaped Tryd.checked.prog ∧ i.vars = [] ∧ Input.okWide Tryd.checked.prog (w.forCall tape i) .any w.heap.size 5 i ∧
      (OpenSpec.ofChange Rows.fnExactValidLatticeSpec).preRow enc Tryd.checked.prog Tryd.f5 Rows.fnExactValidLatticeRow.domain false Rows.fnExactValidLatticeRow.laid (w.forCall tape i).memory i.args ∧ ({ modest := false } : Assume).holds Tryd.checked.prog (lone (Frame.enter Tryd.checked.prog 5 i.args .normal) [] (w.forCall tape i)) := by
  exact witness_row_at (enc := enc) (C := Tryd.checked) false w0 #[.agg #[.int .i64 0, .slice none 0 0, .slice none 0 0, .slice none 0 0, .int .i64 0, .int .i64 0]] (by subst e; rfl) (by subst e; kernel_rfl) (by subst e; kernel_rfl) (by subst e; kernel_rfl)
    (OpenSpec.preRow_of_cond (x := ([.agg [.lit (.int .i64 0), .nil, .nil, .nil, .lit (.int .i64 0), .lit (.int .i64 0)]], [], [])) 8 (by subst e; kernel_rfl) (by subst e; kernel_rfl) (fun k hk => by cases hk) (by subst e; kernel_rfl) (laidMet_of_run' 8 (by subst e; kernel_rfl) (by subst e; kernel_rfl)))

set_option maxRecDepth 100000 in
theorem liftedV (os : Os) (started : os.Started) (H : Type) (enc : TypeId × Value → H) (F : Stop.Interp) :
    ReturnsInHanded {} Tryd.checked os 5 .any ((OpenSpec.ofChange Rows.fnExactValidLatticeSpec).preRow enc Tryd.prog Tryd.f5 Rows.fnExactValidLatticeRow.domain false Rows.fnExactValidLatticeRow.laid) (((OpenSpec.ofChange Rows.fnExactValidLatticeSpec).at F).post enc Tryd.prog Tryd.f5 false true false false) := by
  refine returnsInHanded_of_row (C := Tryd.checked) (s := OpenSpec.ofChange Rows.fnExactValidLatticeSpec) knobs started (by kernel_rfl) Tryd.func5 (witnessV os enc _ rfl) ?_
  intro W base args ds gs before hval hW _ _ _ hL _ _
  exact contractV H enc W base args ds gs before hval hW hL

theorem saidV : Rows.FnExactValidLatticeSaid :=
  OpenClaim.holds_of_cond 5 Tryd.f5 rfl rfl rfl rfl rfl rfl rfl ⟨rfl, rfl, rfl, rfl, rfl⟩ rfl rfl rfl rfl rfl (by kernel_rfl) Tryd.func5 (by kernel_rfl)
    (of_decide_eq_true (by kernel_rfl)) (by unfold Func.isWrapper; first | (rw [if_pos (by decide +kernel)]; kernel_rfl) | (rw [if_neg (by decide +kernel)]; exact ⟨rfl, rfl⟩))
    (fun os started H enc _ F => by rw [OpenClaim.pre_eq_preRow]; exact liftedV os started H enc F)

theorem plainV (f : FuncId) (fn : Func) (hf : Tryd.pinned.checked.prog.funcNamed "loop.example/s0011/laws.FnExactValidLattice" = some f) (hfn : Tryd.pinned.checked.prog.funcs[f]? = some fn) :
    false = Tryd.pinned.checked.prog.looks [] ∧ ∀ (j : Nat) t, fn.params[j]? = some t → Tryd.pinned.checked.prog.wantsStandIn t = false := by
  obtain rfl : f = 5 := Option.some.inj ((show Tryd.prog.funcNamed "loop.example/s0011/laws.FnExactValidLattice" = some 5 by kernel_rfl).symm.trans hf) |>.symm
  obtain rfl : fn = Tryd.f5 := (Option.some.inj (Tryd.func5.symm.trans hfn)).symm
  refine ⟨by kernel_rfl, fun j t ht => ?_⟩
  rw [Tryd.params5] at ht
  obtain rfl : t = 46 := by simpa using Array.mem_of_getElem? ht
  exact (show Tryd.prog.wantsStandIn 46 = false by kernel_rfl)

theorem cardV : Rows.FnExactValidLatticeCardSaid :=
  Claim7.holds_tied_plain_at .later [] _ _ _ _ saidV (fun _ h => by cases h) (by kernel_rfl) (fun _ h => by cases h) fnExactValidLattice_row_tie rfl ⟨rfl, rfl⟩ (by kernel_rfl) rfl plainV (by kernel_rfl)
end Go.Proofs.YtmkigeodngookaaDoor
