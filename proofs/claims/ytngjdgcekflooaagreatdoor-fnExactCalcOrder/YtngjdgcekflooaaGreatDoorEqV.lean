/- A value equals itself. -/
import Derived.Test.YtngjdgcekflooaaGreatDoorBase
namespace Go.Proofs.YtngjdgcekflooaaGreatDoor
open Go Go.RowKit

set_option maxRecDepth 100000 in
set_option maxHeartbeats 1000000 in
theorem eqValue_refl (k n : Int) (t : ByteArray) (w : World) :
    Calls Tryz.prog 125 #[.agg #[.int .i64 k, .int .i64 n, .string t], .agg #[.int .i64 k, .int .i64 n, .string t]] w fun e w' => e = .returned (.bool true) ∧ Below w.heap.size w w' := by
  have hq : (t.toList == t.toList) = true := by simp
  have hB : ∀ o1 o2, Below w.heap.size w ((w.alloc o1).alloc o2) := fun o1 o2 => ((Below.refl _ w).alloc (Nat.le_refl _) o1).alloc (by simp) o2
  have HB := hide hB; clear hB
  go_enter Tryz.func125, Tryz.ntmps125
  go_wp2
  go_ret
  exact ⟨rfl, unhide HB _ _⟩
end Go.Proofs.YtngjdgcekflooaaGreatDoor
