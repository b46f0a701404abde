import Derived.Test.YtebbgodlijlioaaGreatDoorW25
import Derived.Test.YtebbgodlijlioaaGreatDoorW33
namespace Go.Proofs.YtebbgodlijlioaaGreatDoor
open Go Go.RowKit
def SC (w:World)(g:Nat)(l:List Fl)(AF:Nat->FA):Prop:=∀j (h:j<l.length),w.cell? ⟨g,j*9+3,none⟩=some (.slice (AF j).b l[j].bys.length (AF j).bc)/\w.cell? ⟨g,j*9+4,none⟩=some (.slice (AF j).i l[j].is.length (AF j).ic)/\w.cell? ⟨g,j*9+5,none⟩=some (.slice (AF j).h l[j].wh.length (AF j).hc)/\w.cell? ⟨g,j*9+6,none⟩=some (.slice (AF j).v l[j].va.length (AF j).vc)/\w.cell? ⟨g,j*9+8,none⟩=some (.slice (AF j).u l[j].mu.length (AF j).uc)
theorem SC.keep {w w':World}{g:Nat}{l:List Fl}{AF:Nat->FA}(h:SC w g l AF)(hk:w'.heap[g]? = w.heap[g]?):SC w' g l AF:=fun j hj=>by
 obtain⟨h3,h4,h5,h6,h8⟩:=h j hj
 exact⟨(World.cell?_of_block (a:=⟨g,j*9+3,none⟩) hk).trans h3,(World.cell?_of_block (a:=⟨g,j*9+4,none⟩) hk).trans h4,(World.cell?_of_block (a:=⟨g,j*9+5,none⟩) hk).trans h5,(World.cell?_of_block (a:=⟨g,j*9+6,none⟩) hk).trans h6,(World.cell?_of_block (a:=⟨g,j*9+8,none⟩) hk).trans h8⟩
theorem SC.set {w:World}{g:Nat}{t:TypeId}{n:Nat}{l:List Fl}{AF:Nat->FA}(h:SC w g l AF)(hb:Bk w g t n){p:Nat}(hp:∀j,p≠j*9+3/\p≠j*9+4/\p≠j*9+5/\p≠j*9+6/\p≠j*9+8)(v:Value):SC (w.setCell ⟨g,p,none⟩ v) g l AF:=fun j hj=>by
 obtain⟨h3,h4,h5,h6,h8⟩:=h j hj
 obtain⟨n3,n4,n5,n6,n8⟩:=hp j
 exact⟨(hb.cell_ne n3 v).trans h3,(hb.cell_ne n4 v).trans h4,(hb.cell_ne n5 v).trans h5,(hb.cell_ne n6 v).trans h6,(hb.cell_ne n8 v).trans h8⟩
structure MkS (g hi:Nat)(l:List Fl)(AF:Nat->FA)(w W:World):Prop where
 m:MkL g hi w W
 s:SC W g l AF
theorem MkS.below {g hi:Nat}{l:List Fl}{AF:Nat->FA}{w W W':World}(h:MkS g hi l AF w W)(hg:g<W.heap.size)(hb:Below W.heap.size W W'):MkS g hi l AF w W':=⟨h.m.trans (MkL.below hb),h.s.keep (hb.block g hg)⟩
theorem MkS.set {g hi:Nat}{l:List Fl}{AF:Nat->FA}{w W:World}{t:TypeId}{n:Nat}(h:MkS g hi l AF w W)(hb:Bk W g t n)(hh:g<hi){p:Nat}(hp:∀j,p≠j*9+3/\p≠j*9+4/\p≠j*9+5/\p≠j*9+6/\p≠j*9+8)(v:Value):MkS g hi l AF w (W.setCell ⟨g,p,none⟩ v):=⟨h.m.trans (MkL.set p v (nR _) hh),h.s.set hb hp v⟩
theorem qdp {w:World}{base c n i:Nat}{a:Option Addr}{xs:List Value}(h:w.ownsRow base 3 1 (.slice a n c) n xs)(hi:i<n):∃g,a=some ⟨g,0,none⟩/\base<=g/\g<w.heap.size:=by
 rcases h.2 with ⟨h1,h2⟩ | ⟨g,cap,cur,h1,hb,hg,r⟩
 . omega
 . cases h1
   exact⟨g,rfl,hb,(Yt.1 hg).1⟩
end Go.Proofs.YtebbgodlijlioaaGreatDoor
