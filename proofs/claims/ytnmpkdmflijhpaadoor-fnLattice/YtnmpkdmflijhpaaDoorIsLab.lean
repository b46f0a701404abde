/- The program's isLabel. -/
import Derived.Test.YtnmpkdmflijhpaaDoorBase
namespace Go.Proofs.YtnmpkdmflijhpaaDoor
open Go Go.RowKit

set_option maxHeartbeats 400000 in
theorem isLabel_yes (a n : Int) (w : World) (h0 : 0 ≤ a) (h1 : a < n) :
    Calls Tryd.prog 60 #[.int .i64 a, .int .i64 n] w fun e w' => e = .returned (.bool true) ∧ w' = w := by
  go_enter Tryd.func60, Tryd.ntmps60
  go_wp2
  go_ret
  exact ⟨ret_bool (by simp <;> omega), rfl⟩
set_option maxHeartbeats 400000 in
theorem isLabel_no (a n : Int) (w : World) (h : a < 0 ∨ n ≤ a) :
    Calls Tryd.prog 60 #[.int .i64 a, .int .i64 n] w fun e w' => e = .returned (.bool false) ∧ w' = w := by
  by_cases h0 : 0 ≤ a
  · have h1 : n ≤ a := by omega
    clear h
    go_enter Tryd.func60, Tryd.ntmps60
    go_wp2
    go_ret
    exact ⟨ret_bool (by simp <;> omega), rfl⟩
  · clear h
    go_enter Tryd.func60, Tryd.ntmps60
    go_wp2
    go_ret
    exact ⟨ret_bool (by simp <;> omega), rfl⟩
end Go.Proofs.YtnmpkdmflijhpaaDoor
