/- (loose) The small makers of values, the model's and the program's. -/
import Derived.Test.YtalgidagiojbpaaGreatDoorQVal
namespace Go.Proofs.YtalgidagiojbpaaGreatDoor
open Go Go.RowKit
set_option maxRecDepth 100000 in
theorem blankValue_any (w : World) : Calls Tryz.prog 210 #[] w fun e w' => e = .returned (.agg #[.int .i64 0, .int .i64 0, .string ⟨#[]⟩]) /\ Below w.heap.size w w' := by
 go_enter Tryz.func210, Tryz.ntmps210
 go_wp2
 exact bodyPost_ret (v := .agg #[.int .i64 0, .int .i64 0, .string ⟨#[]⟩]) (by simp [results, Tryz.results210, go_sem]) rfl ⟨rfl, (Below.refl _ _).alloc (Nat.le_refl _) _⟩
set_option maxRecDepth 100000 in
theorem textValue_any (s : ByteArray) (w : World) : Calls Tryz.prog 180 #[.string s] w fun e w' => e = .returned (.agg #[.int .i64 3, .int .i64 0, .string s]) /\ Below w.heap.size w w' := by
 go_enter Tryz.func180, Tryz.ntmps180
 go_wp2
 exact bodyPost_ret (v := .agg #[.int .i64 3, .int .i64 0, .string s]) (by simp [results, Tryz.results180, go_sem]) rfl ⟨rfl, (Below.refl _ _).alloc (Nat.le_refl _) _⟩
end Go.Proofs.YtalgidagiojbpaaGreatDoor
