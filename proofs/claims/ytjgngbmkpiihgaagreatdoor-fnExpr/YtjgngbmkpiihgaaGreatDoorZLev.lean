import Derived.Test.YtjgngbmkpiihgaaGreatDoorZExM
/- Levels and words of the operators: the model and the program. -/
namespace Go.Proofs.YtjgngbmkpiihgaaGreatDoor
open Go Go.RowKit

theorem lvl_out {op : Int} (h : ¬ (2 ≤ op ∧ op ≤ 15)) : lvl op = 7 := by
  unfold lvl; rw [if_neg (by omega), if_neg (by omega), if_neg (by omega), if_neg (by omega), if_neg (by omega), if_neg (by omega)]
set_option maxRecDepth 100000 in
set_option maxHeartbeats 4000000 in
theorem l3Level_any (op : Int) (w : World) : Calls Tryz.prog 53 #[.int .i64 op] w fun e w' => e = .returned (.int .i64 (lvl op)) ∧ w' = w := by
  by_cases h : 2 ≤ op ∧ op ≤ 15
  · have h : op = 2 ∨ op = 3 ∨ op = 4 ∨ op = 5 ∨ op = 6 ∨ op = 7 ∨ op = 8 ∨ op = 9 ∨ op = 10 ∨ op = 11 ∨ op = 12 ∨ op = 13 ∨ op = 14 ∨ op = 15 := by omega
    rcases h with rfl | rfl | rfl | rfl | rfl | rfl | rfl | rfl | rfl | rfl | rfl | rfl | rfl | rfl
    all_goals
      go_enter Tryz.func53, Tryz.ntmps53
      go_wp2
      go_ret
      exact ⟨rfl, rfl⟩
  · rw [lvl_out h]
    have n2 : (op == 2) = false := beq_eq_false_iff_ne.2 (by omega)
    have n3 : (op == 3) = false := beq_eq_false_iff_ne.2 (by omega)
    have n4 : (op == 4) = false := beq_eq_false_iff_ne.2 (by omega)
    have n5 : (op == 5) = false := beq_eq_false_iff_ne.2 (by omega)
    have n6 : (op == 6) = false := beq_eq_false_iff_ne.2 (by omega)
    have n7 : (op == 7) = false := beq_eq_false_iff_ne.2 (by omega)
    have n8 : (op == 8) = false := beq_eq_false_iff_ne.2 (by omega)
    have n9 : (op == 9) = false := beq_eq_false_iff_ne.2 (by omega)
    have n10 : (op == 10) = false := beq_eq_false_iff_ne.2 (by omega)
    have n11 : (op == 11) = false := beq_eq_false_iff_ne.2 (by omega)
    have n12 : (op == 12) = false := beq_eq_false_iff_ne.2 (by omega)
    have n13 : (op == 13) = false := beq_eq_false_iff_ne.2 (by omega)
    have n14 : (op == 14) = false := beq_eq_false_iff_ne.2 (by omega)
    have n15 : (op == 15) = false := beq_eq_false_iff_ne.2 (by omega)
    rcases (show op < 2 ∨ 15 < op by omega) with h' | h'
    all_goals
      clear h
      go_enter Tryz.func53, Tryz.ntmps53
      go_wp2
      go_ret
      exact ⟨rfl, rfl⟩
set_option maxRecDepth 100000 in
set_option maxHeartbeats 4000000 in
theorem levelOf_any (op : Int) (w : World) : Calls Tryz.prog 84 #[.int .i64 op] w fun e w' => e = .returned (.int .i64 (lvl op)) ∧ w' = w := by
  by_cases h : 2 ≤ op ∧ op ≤ 15
  · have h : op = 2 ∨ op = 3 ∨ op = 4 ∨ op = 5 ∨ op = 6 ∨ op = 7 ∨ op = 8 ∨ op = 9 ∨ op = 10 ∨ op = 11 ∨ op = 12 ∨ op = 13 ∨ op = 14 ∨ op = 15 := by omega
    rcases h with rfl | rfl | rfl | rfl | rfl | rfl | rfl | rfl | rfl | rfl | rfl | rfl | rfl | rfl
    all_goals
      go_enter Tryz.func84, Tryz.ntmps84
      go_wp2
      go_ret
      exact ⟨rfl, rfl⟩
  · rw [lvl_out h]
    have n2 : (op == 2) = false := beq_eq_false_iff_ne.2 (by omega)
    have n3 : (op == 3) = false := beq_eq_false_iff_ne.2 (by omega)
    have n4 : (op == 4) = false := beq_eq_false_iff_ne.2 (by omega)
    have n5 : (op == 5) = false := beq_eq_false_iff_ne.2 (by omega)
    have n6 : (op == 6) = false := beq_eq_false_iff_ne.2 (by omega)
    have n7 : (op == 7) = false := beq_eq_false_iff_ne.2 (by omega)
    have n8 : (op == 8) = false := beq_eq_false_iff_ne.2 (by omega)
    have n9 : (op == 9) = false := beq_eq_false_iff_ne.2 (by omega)
    have n10 : (op == 10) = false := beq_eq_false_iff_ne.2 (by omega)
    have n11 : (op == 11) = false := beq_eq_false_iff_ne.2 (by omega)
    have n12 : (op == 12) = false := beq_eq_false_iff_ne.2 (by omega)
    have n13 : (op == 13) = false := beq_eq_false_iff_ne.2 (by omega)
    have n14 : (op == 14) = false := beq_eq_false_iff_ne.2 (by omega)
    have n15 : (op == 15) = false := beq_eq_false_iff_ne.2 (by omega)
    rcases (show op < 2 ∨ 15 < op by omega) with h' | h'
    all_goals
      clear h
      go_enter Tryz.func84, Tryz.ntmps84
      go_wp2
      go_ret
      exact ⟨rfl, rfl⟩
set_option maxRecDepth 100000 in
set_option maxHeartbeats 4000000 in
theorem l3FuncName_any (op : Int) (w : World) (h0 : 16 ≤ op) (h1 : op ≤ 25) : Calls Tryz.prog 55 #[.int .i64 op] w fun e w' => e = .returned (.string (wrd op)) ∧ w' = w := by
  have h : op = 16 ∨ op = 17 ∨ op = 18 ∨ op = 19 ∨ op = 20 ∨ op = 21 ∨ op = 22 ∨ op = 23 ∨ op = 24 ∨ op = 25 := by omega
  clear h0 h1
  rcases h with rfl | rfl | rfl | rfl | rfl | rfl | rfl | rfl | rfl | rfl
  all_goals
    go_enter Tryz.func55, Tryz.ntmps55
    go_wp2
    go_ret
    exact ⟨rfl, rfl⟩
set_option maxRecDepth 100000 in
set_option maxHeartbeats 4000000 in
theorem l3Sign_any (op : Int) (w : World) (h0 : 4 ≤ op) (h1 : op ≤ 15) : Calls Tryz.prog 56 #[.int .i64 op] w fun e w' => e = .returned (.string (wrd op)) ∧ w' = w := by
  have h : op = 4 ∨ op = 5 ∨ op = 6 ∨ op = 7 ∨ op = 8 ∨ op = 9 ∨ op = 10 ∨ op = 11 ∨ op = 12 ∨ op = 13 ∨ op = 14 ∨ op = 15 := by omega
  clear h0 h1
  rcases h with rfl | rfl | rfl | rfl | rfl | rfl | rfl | rfl | rfl | rfl | rfl | rfl
  all_goals
    go_enter Tryz.func56, Tryz.ntmps56
    go_wp2
    go_ret
    exact ⟨rfl, rfl⟩
end Go.Proofs.YtjgngbmkpiihgaaGreatDoor
