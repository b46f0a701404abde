/- The model's exact integers with a sign. -/
import Derived.Test.YtnmpkdmflijhpaaGreatDoorBig3
import Derived.Test.YtnmpkdmflijhpaaGreatDoorBnd
import Derived.Deep.RegionHeld3
namespace Go.Proofs.YtnmpkdmflijhpaaGreatDoor
open Go Go.RowKit

/-- The value v is the exact integer z. -/
def BigV (w : World) (v : Value) (z : Int) : Prop := ∃ u, v = .agg #[.bool (decide (z < 0)), u] ∧ DigS w u (digs z.natAbs)
theorem BigV.mono {w w' : World} {v : Value} {z : Int} (h : BigV w v z) (hb : Below w.heap.size w w') : BigV w' v z := by
  obtain ⟨u, e, hu⟩ := h
  exact ⟨u, e, hu.mono hb⟩

theorem two {w : World} {b : Nat} {t : TypeId} {v0 v1 : Value} (h : Blk w b t [v0, v1]) :
    (w.cell? ⟨b, 0, none⟩ = some v0 ∧ w.cell? ⟨b, 1, none⟩ = some v1) ∧ (w.frozen? ⟨b, 0, none⟩ = false ∧ w.frozen? ⟨b, 1, none⟩ = false) := ⟨⟨h.cell 0, h.cell 1⟩, ⟨h.free 0, h.free 1⟩⟩

set_option maxRecDepth 100000 in
set_option maxHeartbeats 1000000 in
theorem l2BigNeg_any (v : Value) (z : Int) (w : World) (hv : BigV w v z) :
    Calls Tryz.prog 31 #[v] w fun e w' => ∃ r, e = .returned r ∧ BigV w' r (-z) ∧ Below w.heap.size w w' := by
  obtain ⟨u, rfl, hu⟩ := hv
  obtain ⟨a, ca, rfl, -, -, -⟩ := id hu
  have HU := hide hu; clear hu
  by_cases hz : z = 0
  · subst hz
    have e0 : (digs (Int.natAbs 0)).length = 0 := by simp [digs_zero]
    rw [e0] at HU ⊢
    have hB : ∀ o1 o2, Below w.heap.size w ((w.alloc o1).alloc o2) := fun o1 o2 => ((Below.refl _ w).alloc (Nat.le_refl _) o1).alloc (by simp) o2
    have HB := hide hB; clear hB
    go_enter Tryz.func31, Tryz.ntmps31
    go_wp2
    refine bodyPost_ret (v := .agg #[.bool false, .slice a 0 ca]) (by simp [results, Tryz.results31, go_sem, *]) rfl ⟨_, rfl, ⟨_, rfl, ?_⟩, unhide HB _ _⟩
    exact (unhide HU).mono (unhide HB _ _)
  · have hn : (digs z.natAbs).length ≠ 0 := by intro e; have := digs_nil.1 (List.length_eq_zero_iff.1 e); omega
    have hB : ∀ o1 o2, Below w.heap.size w ((w.alloc o1).alloc o2) := fun o1 o2 => ((Below.refl _ w).alloc (Nat.le_refl _) o1).alloc (by simp) o2
    have HB := hide hB; clear hB
    have hs : decide (-z < 0) = !decide (z < 0) := by
      by_cases h : z < 0
      · simp [h]; omega
      · simp [h]; omega
    have HS := hide hs; clear hs
    go_enter Tryz.func31, Tryz.ntmps31
    go_wp2
    refine bodyPost_ret (v := .agg #[.bool (!decide (z < 0)), .slice a (digs z.natAbs).length ca]) (by simp [results, Tryz.results31, go_sem, *]) rfl ⟨_, rfl, ⟨_, by rw [unhide HS], ?_⟩, unhide HB _ _⟩
    rw [Int.natAbs_neg]
    exact (unhide HU).mono (unhide HB _ _)
end Go.Proofs.YtnmpkdmflijhpaaGreatDoor
