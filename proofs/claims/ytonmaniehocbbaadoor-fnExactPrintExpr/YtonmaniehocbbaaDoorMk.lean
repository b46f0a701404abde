/- (loose) The small makers of values, the model's and the program's. -/
import Derived.Test.YtonmaniehocbbaaDoorVal
namespace Go.Proofs.YtonmaniehocbbaaDoor
open Go Go.RowKit

set_option maxRecDepth 100000 in
theorem blankValue_any (w : World) : Calls Tryd.prog 38 #[] w fun e w' => e = .returned (.agg #[.int .i64 0, .int .i64 0, .string ⟨#[]⟩]) ∧ Below w.heap.size w w' := by
  go_enter Tryd.func38, Tryd.ntmps38
  go_wp2
  exact bodyPost_ret (v := .agg #[.int .i64 0, .int .i64 0, .string ⟨#[]⟩]) (by simp [results, Tryd.results38, go_sem]) rfl ⟨rfl, (Below.refl _ _).alloc (Nat.le_refl _) _⟩
end Go.Proofs.YtonmaniehocbbaaDoor
