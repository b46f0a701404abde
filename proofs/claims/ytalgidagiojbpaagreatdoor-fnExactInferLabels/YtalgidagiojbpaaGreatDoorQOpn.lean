/- The program: which operators there are, and how many operands each takes. -/
import Derived.Test.YtalgidagiojbpaaGreatDoorQVx
namespace Go.Proofs.YtalgidagiojbpaaGreatDoor
open Go Go.RowKit
set_option maxRecDepth 100000 in
theorem isOperator_any (op : Int) (w : World) : Calls Tryz.prog 211 #[.int .i64 op] w fun e w' => e = .returned (.bool (decide (2 <= op /\ op <= 25))) /\ w' = w := by
 by_cases h2 : 2 <= op
 . by_cases h25 : op <= 25
   . rw [decide_eq_true ⟨h2, h25⟩]
     go_enter Tryz.func211, Tryz.ntmps211
     go_wp2
     go_ret
     exact ⟨by simp, rfl⟩
   . have e : decide (2 <= op /\ op <= 25) = false := decide_eq_false (fun h => h25 h.2)
     rw [e]
     clear e
     go_enter Tryz.func211, Tryz.ntmps211
     go_wp2
     go_ret
     exact ⟨by simp, rfl⟩
 . have e : decide (2 <= op /\ op <= 25) = false := decide_eq_false (fun h => h2 h.1)
   rw [e]
   clear e
   go_enter Tryz.func211, Tryz.ntmps211
   go_wp2
   go_ret
   exact ⟨by rfl, rfl⟩
def opn (op : Int) : Int := if op = 2 ∨ op = 3 ∨ op = 21 ∨ op = 22 ∨ op = 23 ∨ op = 24 ∨ op = 25 then 1 else if op = 16 then 3 else 2
theorem ar_opn (op : Int) : ar op = if 2 <= op /\ op <= 25 then opn op else 0 := by
 unfold ar opn
 by_cases h1 : op = 2 ∨ op = 3 ∨ op = 21 ∨ op = 22 ∨ op = 23 ∨ op = 24 ∨ op = 25
 . rw [if_pos h1, if_pos h1, if_pos (by omega)]
 . rw [if_neg h1, if_neg h1]
   by_cases h2 : op = 16
   . rw [if_pos h2, if_pos h2, if_pos (by omega)]
   . rw [if_neg h2, if_neg h2]
     by_cases h3 : 4 <= op /\ op <= 20
     . rw [if_pos h3, if_pos (by omega)]
     . rw [if_neg h3, if_neg (by omega)]
set_option maxRecDepth 100000 in
set_option maxHeartbeats 4000000 in
theorem operandsOf_any (op : Int) (w : World) : Calls Tryz.prog 212 #[.int .i64 op] w fun e w' => e = .returned (.int .i64 (opn op)) /\ w' = w := by
 rcases ar_cases op with (rfl | rfl | rfl | rfl | rfl | rfl | rfl | rfl) | ⟨⟨n1, n2, n3, n4⟩, ⟨n5, n6, n7, n8⟩, -⟩
 case inr =>
  have e : opn op = 2 := by rw [opn, if_neg (by omega), if_neg n8]
  rw [e]
  clear e
  go_enter Tryz.func212, Tryz.ntmps212
  go_wp2
  go_ret
  exact ⟨rfl, rfl⟩
 all_goals (
  go_enter Tryz.func212, Tryz.ntmps212
  go_wp2
  go_ret
  exact ⟨rfl, rfl⟩)
end Go.Proofs.YtalgidagiojbpaaGreatDoor
