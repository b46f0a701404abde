/- (loose) The contracts of the small helpers of package laws: sizes, copies, comparisons of slices of bools and of integers. -/
import Derived.Test.YtngjdgcekflooaaGreatDoorBase
namespace Go.Proofs.YtngjdgcekflooaaGreatDoor
open Go Go.RowKit

theorem upto_succ {α : Type} {f g : Nat → α} {k : Nat} (h : ∀ j, j < k → f j = g j) (h' : f k = g k) : ∀ j, j < k + 1 → f j = g j := fun j hj => by
  by_cases e : j = k
  · rw [e]; exact h'
  · exact h j (by omega)
theorem ine_ff {a b : Int} (h : (a != b) = false) : a = b := by simpa using h
theorem ine_tt {a b : Int} (h : (a != b) = true) : ¬ a = b := by simpa using h
theorem bne_ff {a b : Bool} (h : (!a == b) = false) : a = b := by simpa using h
theorem bne_tt {a b : Bool} (h : (!a == b) = true) : ¬ a = b := by simpa using h

set_option maxHeartbeats 400000 in
theorem szIntS_any (a0 : Option Addr) (len cap : Nat) (left : Int) (w : World) (h0 : 0 ≤ left) (h1 : left ≤ 1048576) (hl : len ≤ 140737488355328) :
    Calls Tryz.prog 68 #[.slice a0 len cap, .int .i64 left] w fun e w' => e = .returned (.int .i64 (if left < len then -1 else left - len)) ∧ w' = w := by
  go_enter Tryz.func68, Tryz.ntmps68
  go_wp2
  all_goals go_ret
  all_goals exact ⟨rfl, rfl⟩

set_option maxHeartbeats 400000 in
theorem eqIntS_same (a b : Option Addr) (f g : Nat → Int) (n : Nat) (ca cb : Nat) (w : World) (ha : Ints w a n f) (hb : Ints w b n g) (hlx : n ≤ 140737488355328) :
    Calls Tryz.prog 9 #[.slice a n ca, .slice b n cb] w fun e w' => e = .returned (.bool (sameI n f g)) ∧ Below w.heap.size w w' := by
  go_enter Tryz.func9, Tryz.ntmps9
  go_wp2
  go_loopw [5] (fun i wr => ∃ k : Nat, k ≤ n ∧ i = .int .i64 k ∧ (∀ j, j < k → f j = g j) ∧ ∃ n, wr = w.drewN n) (fun i _ => n - (intOf i).toNat)
  case atStart => exact ⟨0, Nat.zero_le _, rfl, fun j h => absurd h (Nat.not_lt_zero _), 0, rfl⟩
  case round =>
    obtain ⟨k, hk, rfl, heq, m, rfl⟩ := hrel
    have HE : Hid (∀ j, j < k → f j = g j) := heq
    clear heq
    by_cases hlt : k < n
    · obtain ⟨b1, o1, rfl, -, hc1⟩ := ha k hlt
      obtain ⟨b2, o2, rfl, -, hc2⟩ := hb k hlt
      go_wp2
      go_quiet (fail)
      go_wp2
      · have ht : (f k != g k) = true := by assumption
        go_ret
        exact ⟨ret_bool (sameI_false k hlt (ine_tt ht)).symm, ⟨rfl, rfl, rfl, Nat.le_refl _, fun _ _ => rfl⟩⟩
      · have ht : (f k != g k) = false := by assumption
        go_roundw
        case rel => exact ⟨k + 1, by omega, by go_num, upto_succ HE.out (ine_ff ht), _, rfl⟩
        case measure => simp [intOf]; omega
    · go_wp2
      go_ret
      exact ⟨ret_bool (sameI_true fun j hj => HE.out j (by omega)).symm, ⟨rfl, rfl, rfl, Nat.le_refl _, fun _ _ => rfl⟩⟩
end Go.Proofs.YtngjdgcekflooaaGreatDoor
