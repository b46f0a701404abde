/- The program's Apply: the first argument of a kind. -/
import Derived.Test.YtnmpkdmflijhpaaGreatDoorApK
namespace Go.Proofs.YtnmpkdmflijhpaaGreatDoor
open Go Go.RowKit

/-- The place of the first value of a kind, or -1. -/
def firstK (f : Nat → Vx) (m : Nat) (kind r : Int) : Prop :=
  (∃ k : Nat, k < m ∧ r = k ∧ (f k).k = kind ∧ ∀ j, j < k → ¬ (f j).k = kind) ∨ (r = -1 ∧ ∀ j, j < m → ¬ (f j).k = kind)

set_option maxRecDepth 100000 in
theorem ofKind_any (u : Vx) (kind : Int) (X : Nat) (w : World) (hX : X < w.heap.size) (hc : w.cell? ⟨X, 0, none⟩ = some (.int .i64 kind)) :
    Calls Tryz.prog 59 #[.agg #[.int .i64 u.k, .int .i64 u.n, .string u.s], .pointer (some ⟨X, 0, none⟩)] w fun e w' => e = .returned (.bool (u.k == kind)) ∧ Below w.heap.size w w' := by
  have hc' : ∀ o, (w.alloc o).cell? ⟨X, 0, none⟩ = some (.int .i64 kind) := fun o => (Below.cell ((Below.refl w.heap.size w).alloc (Nat.le_refl _) o) (p := ⟨X, 0, none⟩) hX).trans hc
  have HB : ∀ o, Hid (Below w.heap.size w (w.alloc o)) := fun o => hide ((Below.refl _ _).alloc (Nat.le_refl _) _)
  clear hc hX
  go_enter Tryz.func59, Tryz.ntmps59
  go_wp2
  go_ret
  exact ⟨rfl, unhide (HB _)⟩

set_option maxRecDepth 100000 in
set_option maxHeartbeats 4000000 in
theorem indexKind_any (a : Option Addr) (m c X : Nat) (f : Nat → Vx) (kind : Int) (w : World) (hm : m ≤ 1048576) (ha : Vals w a m f) (hX : X < w.heap.size) (hc : w.cell? ⟨X, 0, none⟩ = some (.int .i64 kind)) :
    Calls Tryz.prog 58 #[.slice a m c, .func (.func 59) #[] #[.pointer (some ⟨X, 0, none⟩)]] w fun e w' => ∃ r, e = .returned (.int .i64 r) ∧ firstK f m kind r ∧ Below w.heap.size w w' := by
  have HA := hide ha; have HC := hide (And.intro hX hc)
  clear ha hX hc
  go_enter Tryz.func58, Tryz.ntmps58
  go_wp2
  go_loopw [5, 8] (fun _ i wr => ∃ k : Nat, k ≤ m ∧ i = .int .i64 k ∧ (∀ j, j < k → ¬ (f j).k = kind) ∧ Below w.heap.size w wr) (fun _ i _ => m - (intOf i).toNat)
  case atStart => exact ⟨0, Nat.zero_le _, rfl, fun j hj => absurd hj (Nat.not_lt_zero _), Below.refl _ _⟩
  case round =>
    obtain ⟨k, hk, rfl, hall, hb⟩ := hrel
    have HALL := hide hall; have HB := hide hb
    have hV := (unhide HA).mono hb
    have hX2 : X < wr.heap.size := Nat.lt_of_lt_of_le (unhide HC).1 hb.size
    have hc2 : wr.cell? ⟨X, 0, none⟩ = some (.int .i64 kind) := (hb.cell (p := ⟨X, 0, none⟩) (unhide HC).1).trans (unhide HC).2
    have HV := hide hV; have HC2 := hide (And.intro hX2 hc2)
    clear hall hb hV hX2 hc2
    by_cases hlt : k < m
    · have hlt' : (k : Int) < m := by omega
      obtain ⟨b, o, rfl, -, c0, c1, c2⟩ := unhide HV k hlt
      go_wp2_with fail
      refine (ofKind_any (f k) kind X wr (unhide HC2).1 (unhide HC2).2).mono ?_
      rintro e w2 ⟨rfl, hb⟩
      have HB9 := hide ((unhide HB).trans (hb.mono (unhide HB).size))
      clear hb c0 c1 c2
      by_cases hq : (f k).k = kind
      · have hq' : ((f k).k == kind) = true := beq_iff_eq.2 hq
        rw [hq']
        have HF : Hid (firstK f m kind k) := hide (.inl ⟨k, hlt, rfl, hq, unhide HALL⟩)
        clear hq hq'
        go_wp2
        go_ret
        exact ⟨_, rfl, unhide HF, unhide HB9⟩
      · have hq' : ((f k).k == kind) = false := beq_eq_false_iff_ne.2 hq
        rw [hq']
        have HS : Hid (∀ j, j < k + 1 → ¬ (f j).k = kind) := hide fun j hj => by
          by_cases e : j = k
          · rw [e]; exact hq
          · exact unhide HALL j (by omega)
        clear hq hq'
        go_wp2
        go_roundw
        case rel => exact ⟨k + 1, by omega, by go_num, unhide HS, unhide HB9⟩
        case measure => simp [intOf]; omega
    · obtain rfl : k = m := by omega
      have HF : Hid (firstK f k kind (-1)) := hide (.inr ⟨rfl, unhide HALL⟩)
      go_wp2
      go_ret
      exact ⟨_, rfl, unhide HF, unhide HB⟩

set_option maxRecDepth 100000 in
set_option maxHeartbeats 4000000 in
theorem firstOfKind_any (a : Option Addr) (m c : Nat) (f : Nat → Vx) (kind : Int) (w : World) (hm : m ≤ 1048576) (ha : Vals w a m f) :
    Calls Tryz.prog 44 #[.slice a m c, .int .i64 kind] w fun e w' => ∃ r, e = .returned (.int .i64 r) ∧ firstK f m kind r ∧ Below w.heap.size w w' := by
  obtain ⟨W, hW⟩ : ∃ W, w.alloc (.cells #[.int .i64 kind] 3) = W := ⟨_, rfl⟩
  have hb : Below w.heap.size w W := by rw [← hW]; exact (Below.refl _ _).alloc (Nat.le_refl _) _
  have bX : Blk W w.heap.size 3 [.int .i64 kind] := by rw [← hW]; exact Blk.new w 3 #[.int .i64 kind]
  have HV := hide (ha.mono hb); have HX := hide bX; have HB := hide hb
  clear hb bX ha
  go_enter Tryz.func44, Tryz.ntmps44
  go_wp2_with fail
  try rw [hW]
  clear hW
  refine (indexKind_any a m c w.heap.size f kind W hm (unhide HV) (unhide HX).lt ((unhide HX).cell 0)).mono ?_
  rintro e w2 ⟨r, rfl, hr, hb⟩
  have HR := hide hr; have HB2 := hide ((unhide HB).trans (hb.mono (unhide HB).size))
  clear hr hb
  go_wp2
  go_ret
  exact ⟨r, rfl, unhide HR, unhide HB2⟩
end Go.Proofs.YtnmpkdmflijhpaaGreatDoor
