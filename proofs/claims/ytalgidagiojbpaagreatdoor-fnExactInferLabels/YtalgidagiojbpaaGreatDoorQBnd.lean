/- A frame behind a draw. -/
import Derived.Test.YtalgidagiojbpaaGreatDoorQBase
namespace Go.Proofs.YtalgidagiojbpaaGreatDoor
open Go Go.RowKit
theorem below_of_drew {B : Nat} {w w' : World} (h : Below B w.drew w') : Below B w w' := ⟨h.os, h.tape, h.output, h.size, h.block⟩
end Go.Proofs.YtalgidagiojbpaaGreatDoor
