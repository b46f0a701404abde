import Derived.Test.YtmdjbldpclbkhaaGreatDoorW31
import Derived.Test.YtmdjbldpclbkhaaGreatDoorW30
set_option linter.all false
namespace Go.Proofs.YtmdjbldpclbkhaaGreatDoor
open Value renaming slice->Sl,string->St,bool->Bo
open Obj renaming cells->Cl
open Ending renaming returned->Rt
open Go Go.RowKit Go.Proofs.Tryz
def qjn {w:Tw}{base c n i:Nat}{a:To}{x:Tl}(e:w.ownsRow base 3 1 (Sl a n c) n x)(hi:i<n):∃b,a=some ⟨b,0,none⟩/\base<=b/\b<w.1.size:=by rcases e.2 with ⟨d,k⟩ | ⟨b,h,j,d,f,g,l⟩;{omega};cases d;exact⟨b,rfl,f,(Y4.1 g).1⟩
