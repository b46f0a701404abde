/- The model's Apply: how many arguments, and of which kind. -/
import Derived.Test.YtnmpkdmflijhpaaGreatDoorApV
namespace Go.Proofs.YtnmpkdmflijhpaaGreatDoor
open Go Go.RowKit

def allK (f : Nat → Vx) (m : Nat) (kind : Int) : Bool := (List.range m).all fun i => decide ((f i).k = kind)
theorem allK_yes {f : Nat → Vx} {m : Nat} {kind : Int} (h : ∀ i, i < m → (f i).k = kind) : allK f m kind = true := by
  rw [allK, List.all_eq_true]
  exact fun i hi => decide_eq_true (h i (List.mem_range.1 hi))
theorem allK_no {f : Nat → Vx} {m i : Nat} {kind : Int} (hi : i < m) (h : ¬ (f i).k = kind) : allK f m kind = false := by
  rw [allK, List.all_eq_false]
  exact ⟨i, List.mem_range.2 hi, by simpa using h⟩

set_option maxRecDepth 100000 in
set_option maxHeartbeats 4000000 in
theorem l2AllKind_any (a : Option Addr) (m c : Nat) (f : Nat → Vx) (kind : Int) (w : World) (hm : m ≤ 1048576) (ha : Vals w a m f) :
    Calls Tryz.prog 18 #[.slice a m c, .int .i64 kind] w fun e w' => e = .returned (.bool (allK f m kind)) ∧ w' = w := by
  have HA := hide ha
  clear ha
  go_enter Tryz.func18, Tryz.ntmps18
  go_wp2
  go_loopw [5] (fun i wr => ∃ k : Nat, k ≤ m ∧ i = .int .i64 k ∧ (∀ j, j < k → (f j).k = kind) ∧ wr = w) (fun i _ => m - (intOf i).toNat)
  case atStart => exact ⟨0, Nat.zero_le _, rfl, fun j hj => absurd hj (Nat.not_lt_zero _), rfl⟩
  case round =>
    obtain ⟨k, hk, rfl, hall, rfl⟩ := hrel
    have HALL := hide hall
    clear hall
    by_cases hlt : k < m
    · have hlt' : (k : Int) < m := by omega
      obtain ⟨b, o, rfl, -, c0, -, -⟩ := unhide HA k hlt
      by_cases hq : (f k).k = kind
      · have HS : Hid (∀ j, j < k + 1 → (f j).k = kind) := hide fun j hj => by
          by_cases e : j = k
          · rw [e]; exact hq
          · exact unhide HALL j (by omega)
        go_wp2
        go_roundw
        case rel => exact ⟨k + 1, by omega, by go_num, unhide HS, trivial⟩
        case measure => simp [intOf]; omega
      · have HN := hide (allK_no hlt hq)
        go_wp2
        go_ret
        exact ⟨by rw [unhide HN]; rfl, rfl⟩
    · obtain rfl : k = m := by omega
      have HY := hide (allK_yes (unhide HALL))
      go_wp2
      go_ret
      exact ⟨by rw [unhide HY]; rfl, rfl⟩
end Go.Proofs.YtnmpkdmflijhpaaGreatDoor
