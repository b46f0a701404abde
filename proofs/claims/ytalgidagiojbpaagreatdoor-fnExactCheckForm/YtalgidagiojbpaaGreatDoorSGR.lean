import Derived.Test.YtalgidagiojbpaaGreatDoorSZMrk
import Derived.Test.YtalgidagiojbpaaGreatDoorSGH
import Derived.Test.YtalgidagiojbpaaGreatDoorSGM
import Derived.Test.YtalgidagiojbpaaGreatDoorSGO
/- Marking what a form holds, in package laws: fields, forms. -/
namespace Go.Proofs.YtalgidagiojbpaaGreatDoor
open Go Go.RowKit
end Go.Proofs.YtalgidagiojbpaaGreatDoor
/- Marking an answer's row, and looking whether the marks hold. -/
namespace Go.Proofs.YtalgidagiojbpaaGreatDoor
open Go Go.RowKit
theorem own_some {w : World} {base c n i : Nat} {a : Option Addr} {xs : List Value} (h : w.ownsRow base 3 1 (.slice a n c) n xs) (hi : i < n) : ∃ g, a = some ⟨g, 0, none⟩ /\ base <= g /\ g < w.heap.size := by
 rcases h.2 with ⟨h1, h2⟩ | ⟨g, cap, cur, h1, hb, hg, r⟩
 . omega
 . cases h1
   exact ⟨g, rfl, hb, (Array.getElem?_eq_some_iff.1 hg).1⟩
end Go.Proofs.YtalgidagiojbpaaGreatDoor
