import Derived.Test.YtalgidagiojbpaaGreatDoorSGRa
import Derived.Test.YtalgidagiojbpaaGreatDoorSGVa
import Derived.Test.YtalgidagiojbpaaGreatDoorSOwn
import Derived.Laws.BytesString
/- Marking what a form holds, in package laws: texts, and rows of one kind. -/
namespace Go.Proofs.YtalgidagiojbpaaGreatDoor
open Go Go.RowKit
end Go.Proofs.YtalgidagiojbpaaGreatDoor
