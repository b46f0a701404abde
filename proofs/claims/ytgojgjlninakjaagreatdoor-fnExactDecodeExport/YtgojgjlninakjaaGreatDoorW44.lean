import Derived.Test.YtgojgjlninakjaaGreatDoorW40
import Derived.Test.YtgojgjlninakjaaGreatDoorW43
set_option maxRecDepth 100000
set_option maxHeartbeats 64000000
namespace Go.Proofs.YtgojgjlninakjaaGreatDoor
open Go Go.RowKit
def hC (c:Cx)(f:Fl)(A:FA):List Value:=[.int .i64 c.v.k,.int .i64 c.v.n,.string c.v.s,.bool c.rel,.bool c.ok,.bool c.must,.string f.nm,.int .i64 f.ty,.int .i64 f.lb,.slice A.b f.bys.length A.bc,.slice A.i f.is.length A.ic,.slice A.h f.wh.length A.hc,.slice A.v f.va.length A.vc,.string f.sy,.slice A.u f.mu.length A.uc]
def zCx:Cx:=⟨⟨0,0,⟨#[]⟩⟩,false,false,false⟩
def inpB (f:Fl):Bool:=decide (f.is.length=0)
def ctT (i:Bool):TypeId:=if i=true then 161 else 164
def ctP (i:Bool):TypeId:=if i=true then 159 else 162
def ctC (i:Bool)(c:Cx)(f:Fl)(A:FA):List Value:=hC c f A++if i=true then [.int .i64 0,.int .i64 0,.string ⟨#[]⟩] else []
def ifV (i:Bool)(B:Nat):Value:=.iface (ctP i) (.pointer (some ⟨B,0,none⟩))
theorem q60 (f:Fl)(A:FA)(b:Nat)(t:TypeId)(l:List Value)(w:World)(hb:Blk w b t (hC zCx f A++l)) :
 Calls Tryz.prog 85 #[J9 b 0] w fun x w'=>x=.returned (.bool (inpB f))/\Below w.heap.size w w':=by
 have z:w.cell? ⟨b,10,none⟩=some (.slice A.i f.is.length A.ic):=by rw[hb.cell];rfl
 clear hb
 unfold inpB
 by_cases h:f.is.length=0
 . have h':((f.is.length:Int)==0)=true:=by simp[h]
   rw[Yj h];clear h;go_enter Tryz.func85,Tryz.ntmps85;go_wp2_with fail;go_ret;exact⟨rfl,bR _ _⟩
 . have h':((f.is.length:Int)==0)=false:=by
    have:(f.is.length:Int)≠0:=(by omega);simpa using this
   rw[Yb h];clear h;go_enter Tryz.func85,Tryz.ntmps85;go_wp2_with fail;go_ret;exact⟨rfl,bR _ _⟩
theorem qb7 {ops:Array Oper}{rest:List Oper}{o:Oper}{a:Act}{w:World}{Q:Exit->Act->World->Prop}(hg:o.guard=none)(t:TypeId)(parts:Array (Nat × Operand))(ho:o.op=.build t parts)(cells:Array Value)
 (hc:Tryz.prog.built t (parts.map fun (i,x)=>(i,a.eval x)).toList=some cells) (h:wpList Tryz.prog ops Q rest (a.put o.dst (.agg cells)) w):wpList Tryz.prog ops Q (o :: rest) a w :=
 wpList_build hg t parts ho (by rw[hc];rfl) (by rw[hc];exact h)
theorem q85 (f:Fl)(A:FA)(w:World) :
 Calls Tryz.prog 49 #[fV f A] w fun x w'=>∃B,x=.returned (ifV (inpB f) B)/\w.heap.size<=B/\Blk w' B (ctT (inpB f)) (ctC (inpB f) zCx f A)/\Below w.heap.size w w':=by
 have HCi:=h_ fun b t l W (h:Blk W b t (hC zCx f A++l))=>q60 f A b t l W h
 unfold fV
 have HK:=h_ ((Blk.new w 88 (Ja f A.b A.bc A.i A.ic A.h A.hc A.v A.vc A.u A.uc)).alloc (.cells (Jj f A.b A.bc A.i A.ic A.h A.hc A.v A.vc A.u A.uc) 157))
 have HH:=h_ (Blk.new (w.alloc (.cells (Ja f A.b A.bc A.i A.ic A.h A.hc A.v A.vc A.u A.uc) 88)) 157 (Jj f A.b A.bc A.i A.ic A.h A.hc A.v A.vc A.u A.uc))
 rw[Yk]at HH
 have HB:=h_ (((bR w.heap.size w).alloc (nR _) (.cells (Ja f A.b A.bc A.i A.ic A.h A.hc A.v A.vc A.u A.uc) 88)).alloc (by simp) (.cells (Jj f A.b A.bc A.i A.ic A.h A.hc A.v A.vc A.u A.uc) 157))
 have HK0:=h_ (Blk.new w 88 (Ja f A.b A.bc A.i A.ic A.h A.hc A.v A.vc A.u A.uc))
 obtain⟨W0,hW0⟩:=Nq (w.alloc (.cells (Ja f A.b A.bc A.i A.ic A.h A.hc A.v A.vc A.u A.uc) 88))
 rw[hW0]at HK HH HB HK0
 have hs0:W0.heap.size=w.heap.size+1:=by rw[<- hW0];simp
 obtain⟨W1,hW1⟩:=Nq (W0.alloc (.cells (Jj f A.b A.bc A.i A.ic A.h A.hc A.v A.vc A.u A.uc) 157))
 rw[hW1]at HK HH HB
 obtain⟨y0,y1,y2,y3,y4,y5,y6,y7,y8⟩:=nine HK0.u
 have HC1:=h_ (HCi.u (w.heap.size+1) 157 [] W1 HH.u)
 go_enter Tryz.func49,Tryz.ntmps49
 go_wp2_with (refine qb7 rfl 157 #[(1,.tmp 4)] rfl (Jj f A.b A.bc A.i A.ic A.h A.hc A.v A.vc A.u A.uc) (by kernel_rfl) ?_)
 try rw[hW0]
 try rw[hs0]
 try rw[hW1]
 refine HC1.u.mono ?_
 rintro x W2 ⟨rfl,hb⟩
 replace HH:=mB HH hb;replace HB:=mT HB hb
 clear hb hW0 hW1 hs0 y0 y1 y2 y3 y4 y5 y6 y7 y8 HK HK0 HC1 HCi
 cases hq:inpB f
 . have HI:=h_ hq
   clear hq;have HX:=h_ (Blk.new W2 164 (Jj f A.b A.bc A.i A.ic A.h A.hc A.v A.vc A.u A.uc));have hbx:=(bR W2.heap.size W2).alloc (nR _) (.cells (Jj f A.b A.bc A.i A.ic A.h A.hc A.v A.vc A.u A.uc) 164);have HB9:=mT HB hbx;have hle:w.heap.size<=W2.heap.size:=HB.u.size;have hld:(W2.cell? ⟨w.heap.size+1,0,none⟩=some (J6 0)/\W2.cell? ⟨w.heap.size+1,1,none⟩=some (J6 0)/\W2.cell? ⟨w.heap.size+1,2,none⟩=some J8/\W2.cell? ⟨w.heap.size+1,3,none⟩=some (.bool false)/\W2.cell? ⟨w.heap.size+1,4,none⟩=some (.bool false)/\W2.cell? ⟨w.heap.size+1,5,none⟩=some (.bool false))/\(W2.cell? ⟨w.heap.size+1,6,none⟩=some (.string f.nm)/\W2.cell? ⟨w.heap.size+1,7,none⟩=some (J6 f.ty)/\W2.cell? ⟨w.heap.size+1,8,none⟩=some (J6 f.lb)/\W2.cell? ⟨w.heap.size+1,9,none⟩=some (.slice A.b f.bys.length A.bc)/\W2.cell? ⟨w.heap.size+1,10,none⟩=some (.slice A.i f.is.length A.ic)/\W2.cell? ⟨w.heap.size+1,11,none⟩=some (.slice A.h f.wh.length A.hc)/\W2.cell? ⟨w.heap.size+1,12,none⟩=some (.slice A.v f.va.length A.vc)/\W2.cell? ⟨w.heap.size+1,13,none⟩=some (.string f.sy)/\W2.cell? ⟨w.heap.size+1,14,none⟩=some (.slice A.u f.mu.length A.uc)):=by
    have h:=HH.u;exact⟨⟨h.cell 0,h.cell 1,h.cell 2,h.cell 3,h.cell 4,h.cell 5⟩,⟨h.cell 6,h.cell 7,h.cell 8,h.cell 9,h.cell 10,h.cell 11,h.cell 12,h.cell 13,h.cell 14⟩⟩
   obtain⟨⟨l0,l1,l2,l3,l4,l5⟩,⟨l6,l7,l8,l9,l10,l11,l12,l13,l14⟩⟩:=hld;clear hbx;go_wp2_with (refine qb7 rfl 164 #[(0,.tmp 11)] rfl (Jj f A.b A.bc A.i A.ic A.h A.hc A.v A.vc A.u A.uc) (by kernel_rfl) ?_);go_ret;refine⟨W2.heap.size,?_,hle,?_,HB9.u⟩
   . rw[HI.u];rfl
   . rw[HI.u];exact HX.u
 . have HI:=h_ hq
   clear hq;have HX:=h_ (Blk.new W2 161 (Jo f A.b A.bc A.i A.ic A.h A.hc A.v A.vc A.u A.uc));have hbx:=(bR W2.heap.size W2).alloc (nR _) (.cells (Jo f A.b A.bc A.i A.ic A.h A.hc A.v A.vc A.u A.uc) 161);have HB9:=mT HB hbx;have hle:w.heap.size<=W2.heap.size:=HB.u.size;have hld:(W2.cell? ⟨w.heap.size+1,0,none⟩=some (J6 0)/\W2.cell? ⟨w.heap.size+1,1,none⟩=some (J6 0)/\W2.cell? ⟨w.heap.size+1,2,none⟩=some J8/\W2.cell? ⟨w.heap.size+1,3,none⟩=some (.bool false)/\W2.cell? ⟨w.heap.size+1,4,none⟩=some (.bool false)/\W2.cell? ⟨w.heap.size+1,5,none⟩=some (.bool false))/\(W2.cell? ⟨w.heap.size+1,6,none⟩=some (.string f.nm)/\W2.cell? ⟨w.heap.size+1,7,none⟩=some (J6 f.ty)/\W2.cell? ⟨w.heap.size+1,8,none⟩=some (J6 f.lb)/\W2.cell? ⟨w.heap.size+1,9,none⟩=some (.slice A.b f.bys.length A.bc)/\W2.cell? ⟨w.heap.size+1,10,none⟩=some (.slice A.i f.is.length A.ic)/\W2.cell? ⟨w.heap.size+1,11,none⟩=some (.slice A.h f.wh.length A.hc)/\W2.cell? ⟨w.heap.size+1,12,none⟩=some (.slice A.v f.va.length A.vc)/\W2.cell? ⟨w.heap.size+1,13,none⟩=some (.string f.sy)/\W2.cell? ⟨w.heap.size+1,14,none⟩=some (.slice A.u f.mu.length A.uc)):=by
    have h:=HH.u;exact⟨⟨h.cell 0,h.cell 1,h.cell 2,h.cell 3,h.cell 4,h.cell 5⟩,⟨h.cell 6,h.cell 7,h.cell 8,h.cell 9,h.cell 10,h.cell 11,h.cell 12,h.cell 13,h.cell 14⟩⟩
   obtain⟨⟨l0,l1,l2,l3,l4,l5⟩,⟨l6,l7,l8,l9,l10,l11,l12,l13,l14⟩⟩:=hld;clear hbx;go_wp2_with (refine qb7 rfl 161 #[(0,.tmp 7)] rfl (Jo f A.b A.bc A.i A.ic A.h A.hc A.v A.vc A.u A.uc) (by kernel_rfl) ?_);go_ret;refine⟨W2.heap.size,?_,hle,?_,HB9.u⟩
   . rw[HI.u];rfl
   . rw[HI.u];exact HX.u
end Go.Proofs.YtgojgjlninakjaaGreatDoor
