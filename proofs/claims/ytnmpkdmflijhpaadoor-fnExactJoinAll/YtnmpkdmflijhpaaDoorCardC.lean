/- Opening arguments; the table that the rows list. -/
import Derived.Test.YtnmpkdmflijhpaaDoorLawC
import Derived.Test.YtnmpkdmflijhpaaDoorCards
import Derived.Test.YtnmpkdmflijhpaaDoorTie
import Derived.OpenShut
import Derived.Carry
import Derived.Deep.DeepHandedRow
import Derived.Deep.Grids
import Derived.Lib.LaidTab
import Derived.Lib.SmallJoins
namespace Go.Proofs.YtnmpkdmflijhpaaDoor
open Go Go.RowKit Go.ChangeShapes Go.WideShapes Go.ChangeAt

theorem array6 {α : Type} {cs : Array α} (h : cs.size = 6) : ∃ c0 c1 c2 c3 c4 c5, cs = #[c0, c1, c2, c3, c4, c5] := by
  obtain ⟨l⟩ := cs
  match l, h with
  | [c0, c1, c2, c3, c4, c5], _ => exact ⟨c0, c1, c2, c3, c4, c5, rfl⟩

theorem add_none (b off k : Nat) : (⟨b, off, none⟩ : Addr).add k = ⟨b, off + k, none⟩ := by
  by_cases h : k = 0 <;> simp [Addr.add, h]

section
variable {H : Type} {enc : TypeId × Value → H} {P : Program} {w : World} {base : Nat} {spare : Nat → Bool} {held : Bool}
/-- A struct of six fields of one cell each, by value, opened. -/
theorem open_agg6 {r : Go.Reach} {b0 : Nat} {t : TypeId} {f0 f1 f2 f3 f4 f5 : Field} {v : Value} {d : DataW H} {p : List MemPlace} (hs : P.underlying t = some (.struct #[f0, f1, f2, f3, f4, f5])) (hone : Deep.oneCellFields P #[f0, f1, f2, f3, f4, f5] = true) (hC : P.cellsOf t = 6)
    (hv : Value.okWide P w r b0 t v) (h : DataW.Trod enc P w base spare held t v d p) :
    ∃ (v0 v1 v2 v3 v4 v5 : Value) (y0 y1 y2 y3 y4 y5 : DataW H × List MemPlace) (n : Nat), v = .agg #[v0, v1, v2, v3, v4, v5] ∧ d = .agg [y0.1, y1.1, y2.1, y3.1, y4.1, y5.1] ∧ p = y0.2 ++ (y1.2 ++ (y2.2 ++ (y3.2 ++ (y4.2 ++ y5.2)))) ∧
      DataW.trod enc P w base spare held n f0.type [v0] = some y0 ∧ DataW.trod enc P w base spare held n f1.type [v1] = some y1 ∧ DataW.trod enc P w base spare held n f2.type [v2] = some y2 ∧ DataW.trod enc P w base spare held n f3.type [v3] = some y3 ∧
      DataW.trod enc P w base spare held n f4.type [v4] = some y4 ∧ DataW.trod enc P w base spare held n f5.type [v5] = some y5 := by
  obtain ⟨cs, rfl, hsz⟩ := okWide_struct hs hv
  obtain ⟨c0, c1, c2, c3, c4, c5, rfl⟩ := array6 (hsz.trans hC)
  obtain ⟨fuel, hf⟩ := h
  obtain ⟨xs, n, _, hx, _, hlen, hq⟩ := DataW.trod_struct hs hf
  obtain ⟨o0, k0⟩ := Deep.hone_of hone 0 f0 rfl
  obtain ⟨o1, k1⟩ := Deep.hone_of hone 1 f1 rfl
  obtain ⟨o2, k2⟩ := Deep.hone_of hone 2 f2 rfl
  obtain ⟨o3, k3⟩ := Deep.hone_of hone 3 f3 rfl
  obtain ⟨o4, k4⟩ := Deep.hone_of hone 4 f4 rfl
  obtain ⟨o5, k5⟩ := Deep.hone_of hone 5 f5 rfl
  match xs, hlen with
  | [y0, y1, y2, y3, y4, y5], _ =>
    simp only [Prod.mk.injEq] at hx
    refine ⟨c0, c1, c2, c3, c4, c5, y0, y1, y2, y3, y4, y5, n, rfl, by simpa using hx.1, by simpa using hx.2, ?_, ?_, ?_, ?_, ?_, ?_⟩
    · simpa [Value.cells, o0, k0] using hq 0 f0 rfl
    · simpa [Value.cells, o1, k1] using hq 1 f1 rfl
    · simpa [Value.cells, o2, k2] using hq 2 f2 rfl
    · simpa [Value.cells, o3, k3] using hq 3 f3 rfl
    · simpa [Value.cells, o4, k4] using hq 4 f4 rfl
    · simpa [Value.cells, o5, k5] using hq 5 f5 rfl

theorem got_int {t : TypeId} {n : Nat} {v : Value} {y : DataW H × List MemPlace} (ht : P.underlying t = some (.int .i64)) (h : DataW.trod enc P w base spare held n t [v] = some y) : ∃ x, v = .int .i64 x := by
  obtain ⟨x, h1, _⟩ := DataW.trod_int ht h
  exact ⟨x, by simpa using h1⟩
theorem got_bools {t e : TypeId} {n : Nat} {v : Value} {y : DataW H × List MemPlace} (ht : P.underlying t = some (.slice e)) (he : P.underlying e = some .bool) (hc : P.cellsOf e = 1) (h : DataW.trod enc P w base (fun _ => true) held n t [v] = some y)
    (hlt : ∀ x ∈ y.2, x.block < w.heap.size) : ∃ a len cap f, v = .slice a len cap ∧ len ≤ 9223372036854775807 ∧ Bools w a len f := by
  rcases Deep.open_bools ht he hc h with ⟨h0, -⟩ | ⟨a, len, cap, B, h0, -, hl, hm, rfl, hx⟩
  · exact ⟨none, 0, 0, fun _ => false, by simpa using h0, by omega, fun k hk => absurd hk (Nat.not_lt_zero _)⟩
  · refine ⟨some a, len, cap, B, by simpa using h0, by have : maxLen = 9223372036854775807 := rfl; omega, fun k hk => ?_⟩
    have hk' : k < cap := by omega
    obtain ⟨b, off, spot⟩ := a
    have hs : spot = none := by simpa [Addr.add] using World.cell?_spot (hx 0 (by omega))
    subst hs
    exact ⟨b, off, rfl, hlt (.cell b (off + k)) (MemPlace.mem_row.2 ⟨k, hk', by simp⟩), by have hq := hx k hk'; rw [add_none] at hq; exact hq⟩
theorem got_ints {t e : TypeId} {n : Nat} {v : Value} {y : DataW H × List MemPlace} (ht : P.underlying t = some (.slice e)) (he : P.underlying e = some (.int .i64)) (hc : P.cellsOf e = 1) (h : DataW.trod enc P w base (fun _ => true) held n t [v] = some y)
    (hlt : ∀ x ∈ y.2, x.block < w.heap.size) : ∃ a len cap f, v = .slice a len cap ∧ len ≤ 9223372036854775807 ∧ Ints w a len f := by
  rcases open_ints ht he hc h with ⟨h0, -⟩ | ⟨a, len, cap, zs, h0, -, hl, hm, hz, rfl, hx, -⟩
  · exact ⟨none, 0, 0, fun _ => 0, by simpa using h0, by omega, fun k hk => absurd hk (Nat.not_lt_zero _)⟩
  · simp only [if_true] at hz
    refine ⟨some a, len, cap, fun k => zs.getD k 0, by simpa using h0, by have : maxLen = 9223372036854775807 := rfl; omega, fun k hk => ?_⟩
    have hk' : k < zs.length := by omega
    obtain ⟨b, off, spot⟩ := a
    have hs : spot = none := by simpa [Addr.add] using World.cell?_spot (hx 0 (by omega))
    subst hs
    exact ⟨b, off, rfl, hlt (.cell b (off + k)) (MemPlace.mem_row.2 ⟨k, hk', by simp⟩), by have hq := hx k hk'; rw [add_none] at hq; exact hq⟩
end

theorem knobs : ownKnob Tryd.prog.godebug = none := by kernel_rfl
theorem laidOut : laidOutB Tryd.prog = true := by kernel_rfl
theorem gTab : Tryd.prog.globalNamed "math/bits.deBruijn32tab" = some 0 := by kernel_rfl
theorem gTabType : (Tryd.prog.globals[0]?).map (·.type) = some 145 := by kernel_rfl
theorem cellsTab : Tryd.prog.cellsOf 145 = 32 := by kernel_rfl
theorem cellsU8 : Tryd.prog.cellsOf 5 = 1 := by kernel_rfl
theorem cellsInt : Tryd.prog.cellsOf 3 = 1 := by kernel_rfl
theorem cellsBool : Tryd.prog.cellsOf 4 = 1 := by kernel_rfl
theorem cellsLat : Tryd.prog.cellsOf 41 = 6 := by kernel_rfl

/-- What the row's list gives: the table's cells hold its numbers. -/
theorem tab_of {W : World} (h : laidMetH Tryd.prog [("math/bits.deBruijn32tab", Rows.laid_math_bits_deBruijn32tab)] W) : Tab W := by
  have T : Lib.TabIs Tryd.prog W "math/bits.deBruijn32tab" .u8 (Lib.deBruijn32tab.map (fun n => ((n : Nat) : Int))) :=
    Lib.tabIs_of_head (rest := []) gTab gTabType Tryd.underlying145 Tryd.underlying5 cellsU8 cellsTab h
  have e : ∀ j, j < 32 → (Lib.deBruijn32tab.map (fun n => ((n : Nat) : Int))).getD j 0 = ((Lib.deBruijn32tab.getD j 0 : Nat) : Int) := by decide +kernel
  intro j hj
  rw [← e j hj]
  exact T.cell gTab j (by simpa [Lib.deBruijn32tab] using hj)
end Go.Proofs.YtnmpkdmflijhpaaDoor
