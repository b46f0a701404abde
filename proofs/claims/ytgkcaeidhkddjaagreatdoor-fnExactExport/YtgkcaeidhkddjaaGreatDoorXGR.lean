import Derived.Laws.BytesString
import Derived.Test.YtgkcaeidhkddjaaGreatDoorXGH
import Derived.Test.YtgkcaeidhkddjaaGreatDoorXGO
namespace Go.Proofs.YtgkcaeidhkddjaaGreatDoor
open Go Go.RowKit
theorem qff {w:World} {base c n i:Nat} {a:Option Addr} {xs:List Value} (h:w.ownsRow base 3 1 (.slice a n c) n xs) (hi:i<n):∃ g,a=some ⟨g,0,none⟩/\base<=g/\g<w.heap.size:=by
 rcases h.2 with ⟨h1,h2⟩ | ⟨g,cap,cur,h1,hb,hg,r⟩
 . omega
 . cases h1
   exact ⟨g,rfl,hb,(Array.getElem?_eq_some_iff.1 hg).1⟩
end Go.Proofs.YtgkcaeidhkddjaaGreatDoor
