/- Values in package laws: size and copy. -/
import Derived.Test.YtngjdgcekflooaaGreatDoorVal
namespace Go.Proofs.YtngjdgcekflooaaGreatDoor
open Go Go.RowKit

set_option maxHeartbeats 400000 in
theorem szValue_any (kind num : Int) (s : ByteArray) (left : Int) (w : World) (hs : s.size ≤ 9223372036854775807) (h0 : 0 ≤ left) (h1 : left ≤ 1048576) :
    Calls Tryz.prog 101 #[.agg #[.int .i64 kind, .int .i64 num, .string s], .int .i64 left] w fun e w' => e = .returned (.int .i64 (if left < s.size then -1 else left - s.size)) ∧ Below w.heap.size w w' := by
  by_cases h : left < s.size
  all_goals
    go_enter Tryz.func101, Tryz.ntmps101
    go_wp2
    go_ret
    exact ⟨rfl, (Below.refl _ _).alloc (Nat.le_refl _) _⟩

set_option maxHeartbeats 400000 in
theorem toValue_any (kind num : Int) (s : ByteArray) (w : World) :
    Calls Tryz.prog 113 #[.agg #[.int .i64 kind, .int .i64 num, .string s]] w fun e w' => e = .returned (.agg #[.int .i64 kind, .int .i64 num, .string s]) ∧ Below w.heap.size w w' := by
  go_enter Tryz.func113, Tryz.ntmps113
  go_wp2
  refine bodyPost_ret (v := .agg #[.int .i64 kind, .int .i64 num, .string s]) (by simp [results, Tryz.results113, go_sem, *]) rfl ⟨rfl, ?_⟩
  exact (((Below.refl _ w).alloc (Nat.le_refl _) _).alloc (by simp) _).alloc (by simp; omega) _
end Go.Proofs.YtngjdgcekflooaaGreatDoor
