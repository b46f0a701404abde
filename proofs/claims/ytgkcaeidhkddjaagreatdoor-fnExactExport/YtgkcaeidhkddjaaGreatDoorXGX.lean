import Derived.Test.YtgkcaeidhkddjaaGreatDoorXGW
import Derived.Laws.Tables
set_option maxRecDepth 100000
set_option maxHeartbeats 20000000
namespace Go.Proofs.YtgkcaeidhkddjaaGreatDoor
open Go Go.RowKit
structure SF where
 l:Option Addr
 nl:Nat
 lc:Nat
 p:Option Addr
 np:Nat
 pc:Nat
 r:Option Addr
 nr:Nat
 rc:Nat
 f:Option Addr
 nf:Nat
 fc:Nat
 mp:Option Nat
 N:Int
 a1:Option Addr
 s1:Nat
 c1:Nat
 a2:Option Addr
 s2:Nat
 c2:Nat
 a3:Option Addr
 s3:Nat
 c3:Nat
 bot:Int
 top:Int
 lb:Option Addr
 n5:Nat
 c5:Nat
def sfV (S:SF):Value:=.agg #[.slice S.l S.nl S.lc,.slice S.p S.np S.pc,.slice S.r S.nr S.rc,.slice S.f S.nf S.fc,.map S.mp,.int .i64 S.N,.slice S.a1 S.s1 S.c1,.slice S.a2 S.s2 S.c2,.slice S.a3 S.s3 S.c3,.int .i64 S.bot,.int .i64 S.top,.slice S.lb S.n5 S.c5]
def sf0:SF:=⟨none,0,0,none,0,0,none,0,0,none,0,0,none,0,none,0,0,none,0,0,none,0,0,0,0,none,0,0⟩
theorem twelve {w:World} {b:Nat} {t:TypeId} {v0 v1 v2 v3 v4 v5 v6 v7 v8 v9 v10 v11:Value} (h:Blk w b t [v0,v1,v2,v3,v4,v5,v6,v7,v8,v9,v10,v11]) :
 (w.cell? ⟨b,0,none⟩=some v0/\w.cell? ⟨b,1,none⟩=some v1/\w.cell? ⟨b,2,none⟩=some v2/\w.cell? ⟨b,3,none⟩=some v3/\w.cell? ⟨b,4,none⟩=some v4/\w.cell? ⟨b,5,none⟩=some v5/\w.cell? ⟨b,6,none⟩=some v6/\w.cell? ⟨b,7,none⟩=some v7/\w.cell? ⟨b,8,none⟩=some v8/\w.cell? ⟨b,9,none⟩=some v9/\w.cell? ⟨b,10,none⟩=some v10/\w.cell? ⟨b,11,none⟩=some v11)/\(w.frozen? ⟨b,0,none⟩=false/\w.frozen? ⟨b,1,none⟩=false/\w.frozen? ⟨b,2,none⟩=false/\w.frozen? ⟨b,3,none⟩=false/\w.frozen? ⟨b,4,none⟩=false/\w.frozen? ⟨b,5,none⟩=false/\w.frozen? ⟨b,6,none⟩=false/\w.frozen? ⟨b,7,none⟩=false/\w.frozen? ⟨b,8,none⟩=false/\w.frozen? ⟨b,9,none⟩=false/\w.frozen? ⟨b,10,none⟩=false/\w.frozen? ⟨b,11,none⟩=false) :=
 ⟨⟨h.cell 0,h.cell 1,h.cell 2,h.cell 3,h.cell 4,h.cell 5,h.cell 6,h.cell 7,h.cell 8,h.cell 9,h.cell 10,h.cell 11⟩,⟨h.free 0,h.free 1,h.free 2,h.free 3,h.free 4,h.free 5,h.free 6,h.free 7,h.free 8,h.free 9,h.free 10,h.free 11⟩⟩
theorem q4r {B:Nat} {w w':World} (h:Below B w w') {R:Nat} (hR:B<=R) (v0 v1 v2 v3 v4 v5 v6 v7 v8 v9 v10 v11:Value):Below B w ((((((((((((w'.setCell ⟨R,0,none⟩ v0).setCell ⟨R,1,none⟩ v1).setCell ⟨R,2,none⟩ v2).setCell ⟨R,3,none⟩ v3).setCell ⟨R,4,none⟩ v4).setCell ⟨R,5,none⟩ v5).setCell ⟨R,6,none⟩ v6).setCell ⟨R,7,none⟩ v7).setCell ⟨R,8,none⟩ v8).setCell ⟨R,9,none⟩ v9).setCell ⟨R,10,none⟩ v10).setCell ⟨R,11,none⟩ v11) :=
 ((((((((((((h.setCell (p:=⟨R,0,none⟩) hR v0).setCell (p:=⟨R,1,none⟩) hR v1).setCell (p:=⟨R,2,none⟩) hR v2).setCell (p:=⟨R,3,none⟩) hR v3).setCell (p:=⟨R,4,none⟩) hR v4).setCell (p:=⟨R,5,none⟩) hR v5).setCell (p:=⟨R,6,none⟩) hR v6).setCell (p:=⟨R,7,none⟩) hR v7).setCell (p:=⟨R,8,none⟩) hR v8).setCell (p:=⟨R,9,none⟩) hR v9).setCell (p:=⟨R,10,none⟩) hR v10).setCell (p:=⟨R,11,none⟩) hR v11)
def SndW (m:Fm) (A:MA) (n:Nat) (F:Nat->Bool) (f:Nat->Nat) (S:SF) (W:World):Prop :=
 ∃ b bt top a1 a2 a3 c1 c2 c3 a5 c5,S=⟨A.l,n,A.lc,A.p,m.P.length,A.pc,A.r,m.R.length,A.rc,A.f,m.F.length,A.fc,some b,n,a1,n*n,c1,a2,n*n,c2,a3,n*n,c3,bt,top,a5,m.F.length,c5⟩/\PMap W b (fNames m)/\Bools W a1 (n*n) F/\Plc W a5 (lsL f m.F.length)
theorem qa9 {lo hi n:Nat} {F:Nat->Bool} {a:Option Addr} {W W':World} (h:Out lo hi W W') (hB:Bools W a n F) (hn:∀ g i b,lo<=g->g<hi->W.cell? ⟨g,i,none⟩ ≠ some (.bool b)):Bools W' a n F:=fun k hk=>by
 obtain ⟨b,o,e,hl,hc⟩:=hB k hk
 refine ⟨b,o,e,Nat.lt_of_lt_of_le hl h.size,?_⟩
 have hg:¬ (lo<=b/\b<hi):=fun c=>hn b (o+k) _ c.1 c.2 hc
 rw [<- hc]
 simp only [World.cell?,h.block b hl hg]
theorem qfn {lo hi:Nat} {l:List ByteArray} {b:Nat} {W W':World} (h:Out lo hi W W') (hm:PMap W b l) (hn:∀ g,lo<=g->g<hi->∃ cs t f,W.heap[g]? = some (.cells cs t f)):PMap W' b l:=by
 have hlt:=World.ownsMap.lt hm
 obtain ⟨es,clock,h1,F,hs,hD⟩:=hm
 have hg:¬ (lo<=b/\b<hi):=fun c=>by
  obtain ⟨cs,t,f,e⟩:=hn b c.1 c.2
  rw [e] at h1
  cases h1
 exact ⟨es,clock,(h.block b hlt hg).trans h1,F,hs,hD⟩
theorem qjx {lo hi base n c:Nat} {l:List Nat} {a:Option Addr} {W W':World} (h:Out lo hi W W') (ho:W.ownsRow base 3 1 (.slice a n c) n (ui l)) (hb:hi<=base):Plc W' a l:=by
 have h9:=h.owns ho (fun q e=>by have:=(ho.lt q e).1;omega)
 obtain ⟨a',c',e,-,hp⟩:=q69 h9
 cases e
 exact hp
theorem nobool2 {W:World} {s:Nat} {t t':TypeId} {cs cs':List Value} (h:Blk W (s+1) t cs) (h':Blk W (s+2) t' cs') (k:∀ b,Value.bool b ∉ cs) (k':∀ b,Value.bool b ∉ cs'):∀ g i b,s+1<=g->g<s+3->W.cell? ⟨g,i,none⟩ ≠ some (.bool b):=fun g i b h1 h2 e=>by
 have:g=s+1 ∨ g=s+2:=by omega
 rcases this with rfl | rfl
 . rw [h.cell i] at e
   exact k b (List.mem_of_getElem? e)
 . rw [h'.cell i] at e
   exact k' b (List.mem_of_getElem? e)
theorem cells2 {W:World} {s:Nat} {t t':TypeId} {cs cs':List Value} (h:Blk W (s+1) t cs) (h':Blk W (s+2) t' cs'):∀ g,s+1<=g->g<s+3->∃ cs t f,W.heap[g]? = some (.cells cs t f):=fun g h1 h2=>by
 have:g=s+1 ∨ g=s+2:=by omega
 rcases this with rfl | rfl
 . exact ⟨_,_,_,h⟩
 . exact ⟨_,_,_,h'⟩
theorem qcw (m:Fm) (A:MA) (w:World) (hq:vfB m=false) (hf:FitM m) (hcap:Caps m A) (ha:MSl w m A) (ht:Tabs w) (hy:TyW w) (htb:Tab w) :
 Calls Tryz.prog 50 #[mV m A] w fun r w'=>r=.returned (.tuple #[sfV sf0,dgV 20 0])/\Below w.heap.size w w':=by
 have HCw:=h_ fun W (hs:MSl W m A) (ht:Tabs W) (hy:TyW W)=>q4n m A W hf hcap hs ht hy
 obtain ⟨al,alc,ap,apc,ar,arc,af,afc,afa⟩:=A
 unfold mV at HCw ⊢
 unfold wV at HCw
 unfold sfV sf0
 dsimp only at HCw ⊢
 have HK:=h_ (((Blk.new w 36 #[.slice al m.L.length alc,.slice ap m.P.length apc,.slice ar m.R.length arc,.slice af m.F.length afc]).alloc (.cells #[.slice none 0 0,.slice none 0 0,.slice none 0 0,.slice none 0 0,.map none,.int .i64 0,.slice none 0 0,.slice none 0 0,.slice none 0 0,.int .i64 0,.int .i64 0,.slice none 0 0] 116)).alloc (.cells #[.int .i64 0,.int .i64 0] 90))
 have HQ:=h_ ((Blk.new (w.alloc (.cells #[.slice al m.L.length alc,.slice ap m.P.length apc,.slice ar m.R.length arc,.slice af m.F.length afc] 36)) 116 #[.slice none 0 0,.slice none 0 0,.slice none 0 0,.slice none 0 0,.map none,.int .i64 0,.slice none 0 0,.slice none 0 0,.slice none 0 0,.int .i64 0,.int .i64 0,.slice none 0 0]).alloc (.cells #[.int .i64 0,.int .i64 0] 90))
 have HR:=h_ (Blk.new ((w.alloc (.cells #[.slice al m.L.length alc,.slice ap m.P.length apc,.slice ar m.R.length arc,.slice af m.F.length afc] 36)).alloc (.cells #[.slice none 0 0,.slice none 0 0,.slice none 0 0,.slice none 0 0,.map none,.int .i64 0,.slice none 0 0,.slice none 0 0,.slice none 0 0,.int .i64 0,.int .i64 0,.slice none 0 0] 116)) 90 #[.int .i64 0,.int .i64 0])
 rw [World.size_alloc] at HQ
 rw [World.size_alloc,World.size_alloc] at HR
 have HB:=h_ ((((bR w.heap.size w).alloc (nR _) (.cells #[.slice al m.L.length alc,.slice ap m.P.length apc,.slice ar m.R.length arc,.slice af m.F.length afc] 36)).alloc (by simp) (.cells #[.slice none 0 0,.slice none 0 0,.slice none 0 0,.slice none 0 0,.map none,.int .i64 0,.slice none 0 0,.slice none 0 0,.slice none 0 0,.int .i64 0,.int .i64 0,.slice none 0 0] 116)).alloc (by simp;omega) (.cells #[.int .i64 0,.int .i64 0] 90))
 obtain ⟨W0,hW0⟩:∃ W0,((w.alloc (.cells #[.slice al m.L.length alc,.slice ap m.P.length apc,.slice ar m.R.length arc,.slice af m.F.length afc] 36)).alloc (.cells #[.slice none 0 0,.slice none 0 0,.slice none 0 0,.slice none 0 0,.map none,.int .i64 0,.slice none 0 0,.slice none 0 0,.slice none 0 0,.int .i64 0,.int .i64 0,.slice none 0 0] 116)).alloc (.cells #[.int .i64 0,.int .i64 0] 90)=W0:=⟨_,rfl⟩
 have hs0:W0.heap.size=w.heap.size+3:=by rw [<- hW0];simp
 rw [hW0] at HK HQ HR HB
 have HS:=h_ (ha.mono (u_ HB));have HT:=h_ (ht.mono (u_ HB));have HY:=h_ (hy.mono (u_ HB));have HTb:=h_ (htb.mono (u_ HB))
 clear ha ht hy hf hcap htb
 have HNo:=h_ hq
 clear hq
 obtain ⟨y0,y1,y2,y3⟩:=quad (u_ HK)
 go_enter Tryz.func50,Tryz.ntmps50
 go_wp2_with fail
 try rw [hW0]
 refine (u_ HCw W0 (u_ HS) (u_ HT) (u_ HY)).mono ?_
 rintro r W1 ⟨h | h,hb⟩
 . obtain ⟨-,rfl⟩:=h
   replace HQ:=mB HQ hb;replace HR:=mB HR hb;replace HB:=mT HB hb
   replace hb:=(bR W1.heap.size W1).alloc (nR _) (.cells #[.slice none 0 0,.slice none 0 0,.slice none 0 0,.slice none 0 0,.map none] 112)
   replace HQ:=mB HQ hb;replace HR:=mB HR hb;replace HB:=mT HB hb
   clear hb hW0 y0 y1 y2 y3
   obtain ⟨⟨p0,p1,p2,p3,p4,p5,p6,p7,p8,p9,p10,p11⟩,⟨e0,e1,e2,e3,e4,e5,e6,e7,e8,e9,e10,e11⟩⟩:=twelve (u_ HQ)
   obtain ⟨⟨r0,r1⟩,⟨f0,f1⟩⟩:=two' (u_ HR)
   have HQ9:=h_ (((((((((((((((u_ HQ).set 0 (.slice none 0 0)).set 1 (.slice none 0 0)).set 2 (.slice none 0 0)).set 3 (.slice none 0 0)).set 4 (.map none)).set 5 (.int .i64 0)).set 6 (.slice none 0 0)).set 7 (.slice none 0 0)).set 8 (.slice none 0 0)).set 9 (.int .i64 0)).set 10 (.int .i64 0)).set 11 (.slice none 0 0)).other (a:=⟨w.heap.size+2,0,none⟩) (.int .i64 (20)) (by show _ ≠ w.heap.size+2;omega)).other (a:=⟨w.heap.size+2,1,none⟩) (.int .i64 (0)) (by show _ ≠ w.heap.size+2;omega))
   simp only [List.set_cons_zero,List.set_cons_succ] at HQ9
   have HR9:=h_ (((((((((((((((u_ HR).other (a:=⟨w.heap.size+1,0,none⟩) (.slice none 0 0) (by show _ ≠ w.heap.size+1;omega)).other (a:=⟨w.heap.size+1,1,none⟩) (.slice none 0 0) (by show _ ≠ w.heap.size+1;omega)).other (a:=⟨w.heap.size+1,2,none⟩) (.slice none 0 0) (by show _ ≠ w.heap.size+1;omega)).other (a:=⟨w.heap.size+1,3,none⟩) (.slice none 0 0) (by show _ ≠ w.heap.size+1;omega)).other (a:=⟨w.heap.size+1,4,none⟩) (.map none) (by show _ ≠ w.heap.size+1;omega)).other (a:=⟨w.heap.size+1,5,none⟩) (.int .i64 0) (by show _ ≠ w.heap.size+1;omega)).other (a:=⟨w.heap.size+1,6,none⟩) (.slice none 0 0) (by show _ ≠ w.heap.size+1;omega)).other (a:=⟨w.heap.size+1,7,none⟩) (.slice none 0 0) (by show _ ≠ w.heap.size+1;omega)).other (a:=⟨w.heap.size+1,8,none⟩) (.slice none 0 0) (by show _ ≠ w.heap.size+1;omega)).other (a:=⟨w.heap.size+1,9,none⟩) (.int .i64 0) (by show _ ≠ w.heap.size+1;omega)).other (a:=⟨w.heap.size+1,10,none⟩) (.int .i64 0) (by show _ ≠ w.heap.size+1;omega)).other (a:=⟨w.heap.size+1,11,none⟩) (.slice none 0 0) (by show _ ≠ w.heap.size+1;omega)).set 0 (.int .i64 (20))).set 1 (.int .i64 (0)))
   simp only [List.set_cons_zero,List.set_cons_succ] at HR9
   have HB9:=h_ (((q4r (u_ HB) (show w.heap.size<=w.heap.size+1 by omega) (.slice none 0 0) (.slice none 0 0) (.slice none 0 0) (.slice none 0 0) (.map none) (.int .i64 0) (.slice none 0 0) (.slice none 0 0) (.slice none 0 0) (.int .i64 0) (.int .i64 0) (.slice none 0 0)).setCell (p:=⟨w.heap.size+2,0,none⟩) (by simp) (.int .i64 (20))).setCell (p:=⟨w.heap.size+2,1,none⟩) (by simp) (.int .i64 (0)))
   go_wp2_with fail
   obtain ⟨k0,k1⟩:=(two' (u_ HR9)).1
   obtain ⟨j0,j1,j2,j3,j4,j5,j6,j7,j8,j9,j10,j11⟩:=(twelve (u_ HQ9)).1
   exact bodyPost_ret (v:=.tuple #[.agg #[.slice none 0 0,.slice none 0 0,.slice none 0 0,.slice none 0 0,.map none,.int .i64 0,.slice none 0 0,.slice none 0 0,.slice none 0 0,.int .i64 0,.int .i64 0,.slice none 0 0],dgV (20) (0)]) (by simp [results,Tryz.results50,go_sem,k0,k1,j0,j1,j2,j3,j4,j5,j6,j7,j8,j9,j10,j11]) rfl ⟨rfl,u_ HB9⟩
 . exact absurd (h.1.symm.trans (u_ HNo)) (by decide)
theorem qcx (m:Fm) (A:MA) (w:World) (code:Int) (hq:vfB m=true) (hc:1<=code/\code<=4) (hz:ImplZ m.L.length m.P.length (pr1 m) (pr2 m) code) (hf:FitM m) (hcap:Caps m A) (ha:MSl w m A) (ht:Tabs w) (hy:TyW w) (htb:Tab w) :
 Calls Tryz.prog 50 #[mV m A] w fun r w'=>r=.returned (.tuple #[sfV sf0,dgV (10+code) 0])/\Below w.heap.size w w':=by
 have HCw:=h_ fun W (hs:MSl W m A) (ht:Tabs W) (hy:TyW W)=>q4n m A W hf hcap hs ht hy
 have HCl:=h_ fun W b (hs:MSl W m A) (ht:Tab W)=>q1e m A b code W hz hf hs ht
 obtain ⟨al,alc,ap,apc,ar,arc,af,afc,afa⟩:=A
 unfold mV at HCw ⊢
 unfold wV at HCw HCl
 unfold zeroL at HCl
 unfold sfV sf0
 dsimp only at HCw HCl ⊢
 have HK:=h_ (((Blk.new w 36 #[.slice al m.L.length alc,.slice ap m.P.length apc,.slice ar m.R.length arc,.slice af m.F.length afc]).alloc (.cells #[.slice none 0 0,.slice none 0 0,.slice none 0 0,.slice none 0 0,.map none,.int .i64 0,.slice none 0 0,.slice none 0 0,.slice none 0 0,.int .i64 0,.int .i64 0,.slice none 0 0] 116)).alloc (.cells #[.int .i64 0,.int .i64 0] 90))
 have HQ:=h_ ((Blk.new (w.alloc (.cells #[.slice al m.L.length alc,.slice ap m.P.length apc,.slice ar m.R.length arc,.slice af m.F.length afc] 36)) 116 #[.slice none 0 0,.slice none 0 0,.slice none 0 0,.slice none 0 0,.map none,.int .i64 0,.slice none 0 0,.slice none 0 0,.slice none 0 0,.int .i64 0,.int .i64 0,.slice none 0 0]).alloc (.cells #[.int .i64 0,.int .i64 0] 90))
 have HR:=h_ (Blk.new ((w.alloc (.cells #[.slice al m.L.length alc,.slice ap m.P.length apc,.slice ar m.R.length arc,.slice af m.F.length afc] 36)).alloc (.cells #[.slice none 0 0,.slice none 0 0,.slice none 0 0,.slice none 0 0,.map none,.int .i64 0,.slice none 0 0,.slice none 0 0,.slice none 0 0,.int .i64 0,.int .i64 0,.slice none 0 0] 116)) 90 #[.int .i64 0,.int .i64 0])
 rw [World.size_alloc] at HQ
 rw [World.size_alloc,World.size_alloc] at HR
 have HB:=h_ ((((bR w.heap.size w).alloc (nR _) (.cells #[.slice al m.L.length alc,.slice ap m.P.length apc,.slice ar m.R.length arc,.slice af m.F.length afc] 36)).alloc (by simp) (.cells #[.slice none 0 0,.slice none 0 0,.slice none 0 0,.slice none 0 0,.map none,.int .i64 0,.slice none 0 0,.slice none 0 0,.slice none 0 0,.int .i64 0,.int .i64 0,.slice none 0 0] 116)).alloc (by simp;omega) (.cells #[.int .i64 0,.int .i64 0] 90))
 obtain ⟨W0,hW0⟩:∃ W0,((w.alloc (.cells #[.slice al m.L.length alc,.slice ap m.P.length apc,.slice ar m.R.length arc,.slice af m.F.length afc] 36)).alloc (.cells #[.slice none 0 0,.slice none 0 0,.slice none 0 0,.slice none 0 0,.map none,.int .i64 0,.slice none 0 0,.slice none 0 0,.slice none 0 0,.int .i64 0,.int .i64 0,.slice none 0 0] 116)).alloc (.cells #[.int .i64 0,.int .i64 0] 90)=W0:=⟨_,rfl⟩
 have hs0:W0.heap.size=w.heap.size+3:=by rw [<- hW0];simp
 rw [hW0] at HK HQ HR HB
 have HS:=h_ (ha.mono (u_ HB));have HT:=h_ (ht.mono (u_ HB));have HY:=h_ (hy.mono (u_ HB));have HTb:=h_ (htb.mono (u_ HB))
 clear ha ht hy hf hcap htb hz
 have HNo:=h_ hq
 clear hq
 obtain ⟨y0,y1,y2,y3⟩:=quad (u_ HK)
 go_enter Tryz.func50,Tryz.ntmps50
 go_wp2_with fail
 try rw [hW0]
 refine (u_ HCw W0 (u_ HS) (u_ HT) (u_ HY)).mono ?_
 rintro r W1 ⟨h | h,hb⟩
 . exact absurd (h.1.symm.trans (u_ HNo)) (by decide)
 . obtain ⟨-,b,rfl,-⟩:=h
   replace HQ:=mB HQ hb;replace HR:=mB HR hb;replace HB:=mT HB hb;replace HS:=h_ ((u_ HS).mono hb);replace HTb:=h_ ((u_ HTb).mono hb)
   clear hb hW0 y0 y1 y2 y3 HT HY HCw
   have HW:=h_ (Blk.new W1 112 #[.slice al m.L.length alc,.slice ap m.P.length apc,.slice ar m.R.length arc,.slice af m.F.length afc,.map (some b)])
   have hb:=(bR W1.heap.size W1).alloc (nR _) (.cells #[.slice al m.L.length alc,.slice ap m.P.length apc,.slice ar m.R.length arc,.slice af m.F.length afc,.map (some b)] 112)
   replace HQ:=mB HQ hb;replace HR:=mB HR hb;replace HB:=mT HB hb;replace HS:=h_ ((u_ HS).mono hb);replace HTb:=h_ ((u_ HTb).mono hb)
   obtain ⟨W2,hW2⟩:∃ W2,W1.alloc (.cells #[.slice al m.L.length alc,.slice ap m.P.length apc,.slice ar m.R.length arc,.slice af m.F.length afc,.map (some b)] 112)=W2:=⟨_,rfl⟩
   obtain ⟨X,hX⟩:∃ X,W1.heap.size=X:=⟨_,rfl⟩
   rw [hW2] at HW HQ HR HB HS HTb
   rw [hX] at HW
   clear hb
   obtain ⟨z0,z1,z2,z3,z4⟩:=five (u_ HW)
   go_wp2_with fail
   try rw [hW2]
   refine (u_ HCl W2 b (u_ HS) (u_ HTb)).mono ?_
   rintro r W3 ⟨rfl,hb⟩
   replace HQ:=mB HQ hb;replace HR:=mB HR hb;replace HB:=mT HB hb
   replace hb:=(bR W3.heap.size W3).alloc (nR _) (.cells #[.int .i64 0,.slice none 0 0,.slice none 0 0,.slice none 0 0,.int .i64 0,.int .i64 0] 114)
   replace HQ:=mB HQ hb;replace HR:=mB HR hb;replace HB:=mT HB hb
   obtain ⟨hc1,hc2⟩:=hc
   have hc3:(code != 0)=true:=by have:code ≠ 0:=(by omega);simpa using this
   clear hb hW2 z0 z1 z2 z3 z4 hX
   obtain ⟨⟨p0,p1,p2,p3,p4,p5,p6,p7,p8,p9,p10,p11⟩,⟨e0,e1,e2,e3,e4,e5,e6,e7,e8,e9,e10,e11⟩⟩:=twelve (u_ HQ)
   obtain ⟨⟨r0,r1⟩,⟨f0,f1⟩⟩:=two' (u_ HR)
   have HQ9:=h_ (((((((((((((((u_ HQ).set 0 (.slice none 0 0)).set 1 (.slice none 0 0)).set 2 (.slice none 0 0)).set 3 (.slice none 0 0)).set 4 (.map none)).set 5 (.int .i64 0)).set 6 (.slice none 0 0)).set 7 (.slice none 0 0)).set 8 (.slice none 0 0)).set 9 (.int .i64 0)).set 10 (.int .i64 0)).set 11 (.slice none 0 0)).other (a:=⟨w.heap.size+2,0,none⟩) (.int .i64 (10+code)) (by show _ ≠ w.heap.size+2;omega)).other (a:=⟨w.heap.size+2,1,none⟩) (.int .i64 (0)) (by show _ ≠ w.heap.size+2;omega))
   simp only [List.set_cons_zero,List.set_cons_succ] at HQ9
   have HR9:=h_ (((((((((((((((u_ HR).other (a:=⟨w.heap.size+1,0,none⟩) (.slice none 0 0) (by show _ ≠ w.heap.size+1;omega)).other (a:=⟨w.heap.size+1,1,none⟩) (.slice none 0 0) (by show _ ≠ w.heap.size+1;omega)).other (a:=⟨w.heap.size+1,2,none⟩) (.slice none 0 0) (by show _ ≠ w.heap.size+1;omega)).other (a:=⟨w.heap.size+1,3,none⟩) (.slice none 0 0) (by show _ ≠ w.heap.size+1;omega)).other (a:=⟨w.heap.size+1,4,none⟩) (.map none) (by show _ ≠ w.heap.size+1;omega)).other (a:=⟨w.heap.size+1,5,none⟩) (.int .i64 0) (by show _ ≠ w.heap.size+1;omega)).other (a:=⟨w.heap.size+1,6,none⟩) (.slice none 0 0) (by show _ ≠ w.heap.size+1;omega)).other (a:=⟨w.heap.size+1,7,none⟩) (.slice none 0 0) (by show _ ≠ w.heap.size+1;omega)).other (a:=⟨w.heap.size+1,8,none⟩) (.slice none 0 0) (by show _ ≠ w.heap.size+1;omega)).other (a:=⟨w.heap.size+1,9,none⟩) (.int .i64 0) (by show _ ≠ w.heap.size+1;omega)).other (a:=⟨w.heap.size+1,10,none⟩) (.int .i64 0) (by show _ ≠ w.heap.size+1;omega)).other (a:=⟨w.heap.size+1,11,none⟩) (.slice none 0 0) (by show _ ≠ w.heap.size+1;omega)).set 0 (.int .i64 (10+code))).set 1 (.int .i64 (0)))
   simp only [List.set_cons_zero,List.set_cons_succ] at HR9
   have HB9:=h_ (((q4r (u_ HB) (show w.heap.size<=w.heap.size+1 by omega) (.slice none 0 0) (.slice none 0 0) (.slice none 0 0) (.slice none 0 0) (.map none) (.int .i64 0) (.slice none 0 0) (.slice none 0 0) (.slice none 0 0) (.int .i64 0) (.int .i64 0) (.slice none 0 0)).setCell (p:=⟨w.heap.size+2,0,none⟩) (by simp) (.int .i64 (10+code))).setCell (p:=⟨w.heap.size+2,1,none⟩) (by simp) (.int .i64 (0)))
   go_wp2_with fail
   obtain ⟨k0,k1⟩:=(two' (u_ HR9)).1
   obtain ⟨j0,j1,j2,j3,j4,j5,j6,j7,j8,j9,j10,j11⟩:=(twelve (u_ HQ9)).1
   exact bodyPost_ret (v:=.tuple #[.agg #[.slice none 0 0,.slice none 0 0,.slice none 0 0,.slice none 0 0,.map none,.int .i64 0,.slice none 0 0,.slice none 0 0,.slice none 0 0,.int .i64 0,.int .i64 0,.slice none 0 0],dgV (10+code) (0)]) (by simp [results,Tryz.results50,go_sem,k0,k1,j0,j1,j2,j3,j4,j5,j6,j7,j8,j9,j10,j11]) rfl ⟨rfl,u_ HB9⟩
theorem Blk.row {w:World} {g:Nat} {t:TypeId} {cs:List Value} (h:Blk w g t cs) (cells:List Value):Blk (w.setRow g cells.toArray) g t cells:=setRow_heap w g cs.toArray cells.toArray t (0,0) h
theorem Blk.row_other {w:World} {g g':Nat} {t:TypeId} {cs:List Value} (h:Blk w g' t cs) (hne:g' ≠ g) (cells:Array Value):Blk (w.setRow g cells) g' t cs:=(setRow_other w g g' cells hne).trans h
theorem qjp {lo hi g:Nat} (W:World) (cells:Array Value) (h1:lo<=g) (h2:g<hi):Out lo hi W (W.setRow g cells):=⟨rfl,rfl,rfl,by simp [World.setRow],fun b _ hn=>setRow_other W g b cells (fun e=>hn (by omega))⟩
theorem qa0 {ops:Array Oper} {rest:List Oper} {o:Oper} {a:Act} {w:World} {Q:Exit->Act->World->Prop} (hg:o.guard=none) (parts:Array (Nat × Operand)) (ho:o.op=.build 116 parts) (cells:Array Value)
 (hc:Tryz.prog.built 116 (parts.map fun (i,x)=>(i,a.eval x)).toList=some cells) (h:wpList Tryz.prog ops Q rest (a.put o.dst (.agg cells)) w):wpList Tryz.prog ops Q (o :: rest) a w :=
 wpList_build hg 116 parts ho (by rw [hc];rfl) (by rw [hc];exact h)
theorem qcv (m:Fm) (A:MA) (w:World) (bot top:Int) (s n bt tp:Nat) (F:Nat->Bool) (J M:Nat->Int) (hq:vfB m=true) (hv:VfA m) (hz:ImplF m.L.length m.P.length (pr1 m) (pr2 m) s F J M bot top) (hL:ValidP m.L.length s s s F J M bot top n bt tp) (hf:FitM m) (hcap:Caps m A) (ha:MSl w m A) (ht:Tabs w) (hy:TyW w) (htb:Tab w) :
 Calls Tryz.prog 50 #[mV m A] w fun r w'=>∃ S c a,r=.returned (.tuple #[sfV S,dgV c a])/\ChkF m n F c a/\(c=0->∃ f,Sol m n (fun a b=>F (a*n+b)=true) f/\Low m n (fun a b=>F (a*n+b)=true) f/\SndW m A n F f S w')/\Below w.heap.size w w':=by
 have hN:m.L.length=n:=by have:=hL.hN;omega
 have HCw:=h_ fun W (hs:MSl W m A) (ht:Tabs W) (hy:TyW W)=>q4n m A W hf hcap hs ht hy
 have HCl:=h_ fun W b (hs:MSl W m A) (ht:Tab W)=>q1d m A b s F J M bot top W hz hf hs ht
 have HCc:=h_ fun W b (hs:MSl W m A) (hm:PMap W b (fNames m))=>q0l m A b W hv hf hs hm
 have HCs:=h_ fun W (z:Int) (h0:0<=z) (h1:z<m.F.length)=>q05 m A z W hv h0 h1
 have HCi:=h_ fun W b (a1 a2 a3:Option Addr) (c1 c2 c3:Nat) (hs:MSl W m A) (hm:PMap W b (fNames m)) (hI:Ints W a2 (n*n) J)=>q0x m A b n bt (fun a b=>F (a*n+b)) _ J a1 a2 a3 c1 c2 c3 top W hv hf (qj1 hL) hN hL.h32 (fun a b ha hb=>qes hL ha hb) hs hm hI
 have HCt:=h_ fun W b c5 base f (a1 a2 a3 a5:Option Addr) (c1 c2 c3:Nat) (hsol:Sol m n (fun a b=>F (a*n+b)=true) f) (hs:MSl W m A) (hm:PMap W b (fNames m)) (hO:Bools W a1 (n*n) F) (hI:Ints W a2 (n*n) J) hR=>q0v m A b n bt c5 base f F _ J a1 a2 a3 a5 c1 c2 c3 top W hv hf (qj1 hL) hL.h32 (fun a b ha hb=>qes hL ha hb) hsol hs hm hO hI hR
 have HDw:=h_ fun f (hsol:Sol m n (fun a b=>F (a*n+b)=true) f) k (hk:k<m.F.length)=>qe0 hv (qj1 hL) hsol.lt (k:=k) hk
 have e1:=hL.l1
 have e2:=hL.hb
 subst e1
 subst e2
 have hfr:frst m<=400/\0<=frst m:=by have g1:=hv.nl;have g2:=hv.np;have g3:=hv.nr;unfold frst;omega
 obtain ⟨hfr1,hfr2⟩:=hfr
 have hnf:=hv.nf
 obtain ⟨al,alc,ap,apc,ar,arc,af,afc,afa⟩:=A
 unfold mV at HCw HCs ⊢
 unfold wV at HCw HCl HCc HCi HCt
 unfold latV at HCl
 rw [hN] at HCw HCl HCc HCs HCi HCt
 try rw [hN]
 dsimp only at HCw HCl HCc HCs HCi HCt ⊢
 have HK:=h_ (((Blk.new w 36 #[.slice al n alc,.slice ap m.P.length apc,.slice ar m.R.length arc,.slice af m.F.length afc]).alloc (.cells #[.slice none 0 0,.slice none 0 0,.slice none 0 0,.slice none 0 0,.map none,.int .i64 0,.slice none 0 0,.slice none 0 0,.slice none 0 0,.int .i64 0,.int .i64 0,.slice none 0 0] 116)).alloc (.cells #[.int .i64 0,.int .i64 0] 90))
 have HQ:=h_ ((Blk.new (w.alloc (.cells #[.slice al n alc,.slice ap m.P.length apc,.slice ar m.R.length arc,.slice af m.F.length afc] 36)) 116 #[.slice none 0 0,.slice none 0 0,.slice none 0 0,.slice none 0 0,.map none,.int .i64 0,.slice none 0 0,.slice none 0 0,.slice none 0 0,.int .i64 0,.int .i64 0,.slice none 0 0]).alloc (.cells #[.int .i64 0,.int .i64 0] 90))
 have HR:=h_ (Blk.new ((w.alloc (.cells #[.slice al n alc,.slice ap m.P.length apc,.slice ar m.R.length arc,.slice af m.F.length afc] 36)).alloc (.cells #[.slice none 0 0,.slice none 0 0,.slice none 0 0,.slice none 0 0,.map none,.int .i64 0,.slice none 0 0,.slice none 0 0,.slice none 0 0,.int .i64 0,.int .i64 0,.slice none 0 0] 116)) 90 #[.int .i64 0,.int .i64 0])
 rw [World.size_alloc] at HQ
 rw [World.size_alloc,World.size_alloc] at HR
 have HB:=h_ ((((bR w.heap.size w).alloc (nR _) (.cells #[.slice al n alc,.slice ap m.P.length apc,.slice ar m.R.length arc,.slice af m.F.length afc] 36)).alloc (by simp) (.cells #[.slice none 0 0,.slice none 0 0,.slice none 0 0,.slice none 0 0,.map none,.int .i64 0,.slice none 0 0,.slice none 0 0,.slice none 0 0,.int .i64 0,.int .i64 0,.slice none 0 0] 116)).alloc (by simp;omega) (.cells #[.int .i64 0,.int .i64 0] 90))
 obtain ⟨W0,hW0⟩:∃ W0,((w.alloc (.cells #[.slice al n alc,.slice ap m.P.length apc,.slice ar m.R.length arc,.slice af m.F.length afc] 36)).alloc (.cells #[.slice none 0 0,.slice none 0 0,.slice none 0 0,.slice none 0 0,.map none,.int .i64 0,.slice none 0 0,.slice none 0 0,.slice none 0 0,.int .i64 0,.int .i64 0,.slice none 0 0] 116)).alloc (.cells #[.int .i64 0,.int .i64 0] 90)=W0:=⟨_,rfl⟩
 have hs0:W0.heap.size=w.heap.size+3:=by rw [<- hW0];simp
 rw [hW0] at HK HQ HR HB
 have HS:=h_ (ha.mono (u_ HB));have HT:=h_ (ht.mono (u_ HB));have HY:=h_ (hy.mono (u_ HB));have HTb:=h_ (htb.mono (u_ HB))
 clear ha ht hy hf hcap htb hz hL hv hN
 have HNo:=h_ hq
 clear hq
 obtain ⟨y0,y1,y2,y3⟩:=quad (u_ HK)
 go_enter Tryz.func50,Tryz.ntmps50
 go_wp2_with fail
 try rw [hW0]
 refine (u_ HCw W0 (u_ HS) (u_ HT) (u_ HY)).mono ?_
 rintro r W1 ⟨h | h,hb⟩
 . exact absurd (h.1.symm.trans (u_ HNo)) (by decide)
 . obtain ⟨-,b,rfl,hm⟩:=h
   have HM:=h_ hm
   replace HK:=mB HK hb;replace HQ:=mB HQ hb;replace HR:=mB HR hb;replace HB:=mT HB hb;replace HS:=h_ ((u_ HS).mono hb);replace HTb:=h_ ((u_ HTb).mono hb)
   clear hb hW0 y0 y1 y2 y3 HT HY HCw hm
   have HW:=h_ (Blk.new W1 112 #[.slice al n alc,.slice ap m.P.length apc,.slice ar m.R.length arc,.slice af m.F.length afc,.map (some b)])
   have hb:=(bR W1.heap.size W1).alloc (nR _) (.cells #[.slice al n alc,.slice ap m.P.length apc,.slice ar m.R.length arc,.slice af m.F.length afc,.map (some b)] 112)
   replace HK:=mB HK hb;replace HQ:=mB HQ hb;replace HR:=mB HR hb;replace HB:=mT HB hb;replace HS:=h_ ((u_ HS).mono hb);replace HTb:=h_ ((u_ HTb).mono hb);replace HM:=h_ ((u_ HM).mono hb)
   obtain ⟨W2,hW2⟩:∃ W2,W1.alloc (.cells #[.slice al n alc,.slice ap m.P.length apc,.slice ar m.R.length arc,.slice af m.F.length afc,.map (some b)] 112)=W2:=⟨_,rfl⟩
   obtain ⟨X,hX⟩:∃ X,W1.heap.size=X:=⟨_,rfl⟩
   rw [hW2] at HK HW HQ HR HB HS HTb HM
   rw [hX] at HW
   clear hb
   obtain ⟨z0,z1,z2,z3,z4⟩:=five (u_ HW)
   have HC2:=h_ (u_ HCl W2 b (u_ HS) (u_ HTb))
   go_wp2_with fail
   try rw [hX]
   try rw [hW2]
   refine (u_ HC2).mono ?_
   rintro r W3 ⟨a1,a2,a3,c1,c2,c3,rfl,ho,hj,hb⟩
   have HO:=h_ ho;have HJ:=h_ hj
   replace HK:=mB HK hb;replace HQ:=mB HQ hb;replace HR:=mB HR hb;replace HB:=mT HB hb;replace HS:=h_ ((u_ HS).mono hb);replace HTb:=h_ ((u_ HTb).mono hb);replace HM:=h_ ((u_ HM).mono hb);replace HW:=mB HW hb
   clear hb hW2 z0 z1 z2 z3 z4 ho hj HC2 HCl hX
   have HX:=h_ (Blk.new W3 114 #[.int .i64 n,.slice a1 (n*n) c1,.slice a2 (n*n) c2,.slice a3 (n*n) c3,.int .i64 (bt:Int),.int .i64 top])
   have hb:=(bR W3.heap.size W3).alloc (nR _) (.cells #[.int .i64 n,.slice a1 (n*n) c1,.slice a2 (n*n) c2,.slice a3 (n*n) c3,.int .i64 (bt:Int),.int .i64 top] 114)
   replace HK:=mB HK hb;replace HQ:=mB HQ hb;replace HR:=mB HR hb;replace HB:=mT HB hb;replace HS:=h_ ((u_ HS).mono hb);replace HTb:=h_ ((u_ HTb).mono hb);replace HM:=h_ ((u_ HM).mono hb);replace HW:=mB HW hb;replace HO:=h_ ((u_ HO).mono hb);replace HJ:=h_ ((u_ HJ).mono hb)
   obtain ⟨W4,hW4⟩:∃ W4,W3.alloc (.cells #[.int .i64 n,.slice a1 (n*n) c1,.slice a2 (n*n) c2,.slice a3 (n*n) c3,.int .i64 (bt:Int),.int .i64 top] 114)=W4:=⟨_,rfl⟩
   obtain ⟨Y,hY⟩:∃ Y,W3.heap.size=Y:=⟨_,rfl⟩
   rw [hW4] at HK HW HQ HR HB HS HTb HM HO HJ HX
   rw [hY] at HX
   clear hb
   obtain ⟨z0,z1,z2,z3,z4⟩:=five (u_ HW)
   have HC3:=h_ (u_ HCc W4 b (u_ HS) (u_ HM))
   go_wp2_with fail
   try rw [hY]
   try rw [hW4]
   refine (u_ HC3).mono ?_
   rintro r W5 ⟨z,rfl,hz1,hb⟩
   have HZ1:=h_ hz1
   obtain ⟨hzl,hzu⟩:=hz1.bounds
   replace HK:=mB HK hb;replace HQ:=mB HQ hb;replace HR:=mB HR hb;replace HB:=mT HB hb;replace HS:=h_ ((u_ HS).mono hb);replace HTb:=h_ ((u_ HTb).mono hb);replace HM:=h_ ((u_ HM).mono hb);replace HW:=mB HW hb;replace HO:=h_ ((u_ HO).mono hb);replace HJ:=h_ ((u_ HJ).mono hb);replace HX:=mB HX hb
   clear hb hW4 z0 z1 z2 z3 z4 HC3 HCc hY hz1
   by_cases hz0:0<=z
   . have HF:Hid (ChkF m n F 15 (frst m+z)):=h_ (.inl ⟨z,hz0,u_ HZ1,rfl,rfl⟩)
     have HC4:=h_ (u_ HCs W5 z hz0 hzu)
     obtain ⟨y0,y1,y2,y3⟩:=quad (u_ HK)
     go_wp2_with fail
     refine (u_ HC4).mono ?_
     rintro r W6 ⟨rfl,hb⟩
     replace HQ:=mB HQ hb;replace HR:=mB HR hb;replace HB:=mT HB hb
     clear hb y0 y1 y2 y3 HC4
     obtain ⟨⟨p0,p1,p2,p3,p4,p5,p6,p7,p8,p9,p10,p11⟩,⟨e0,e1,e2,e3,e4,e5,e6,e7,e8,e9,e10,e11⟩⟩:=twelve (u_ HQ)
     obtain ⟨⟨r0,r1⟩,⟨f0,f1⟩⟩:=two' (u_ HR)
     have HQ9:=h_ (((((((((((((((u_ HQ).set 0 (.slice none 0 0)).set 1 (.slice none 0 0)).set 2 (.slice none 0 0)).set 3 (.slice none 0 0)).set 4 (.map none)).set 5 (.int .i64 0)).set 6 (.slice none 0 0)).set 7 (.slice none 0 0)).set 8 (.slice none 0 0)).set 9 (.int .i64 0)).set 10 (.int .i64 0)).set 11 (.slice none 0 0)).other (a:=⟨w.heap.size+2,0,none⟩) (.int .i64 (15)) (by show _ ≠ w.heap.size+2;omega)).other (a:=⟨w.heap.size+2,1,none⟩) (.int .i64 (frst m+z)) (by show _ ≠ w.heap.size+2;omega))
     simp only [List.set_cons_zero,List.set_cons_succ] at HQ9
     have HR9:=h_ (((((((((((((((u_ HR).other (a:=⟨w.heap.size+1,0,none⟩) (.slice none 0 0) (by show _ ≠ w.heap.size+1;omega)).other (a:=⟨w.heap.size+1,1,none⟩) (.slice none 0 0) (by show _ ≠ w.heap.size+1;omega)).other (a:=⟨w.heap.size+1,2,none⟩) (.slice none 0 0) (by show _ ≠ w.heap.size+1;omega)).other (a:=⟨w.heap.size+1,3,none⟩) (.slice none 0 0) (by show _ ≠ w.heap.size+1;omega)).other (a:=⟨w.heap.size+1,4,none⟩) (.map none) (by show _ ≠ w.heap.size+1;omega)).other (a:=⟨w.heap.size+1,5,none⟩) (.int .i64 0) (by show _ ≠ w.heap.size+1;omega)).other (a:=⟨w.heap.size+1,6,none⟩) (.slice none 0 0) (by show _ ≠ w.heap.size+1;omega)).other (a:=⟨w.heap.size+1,7,none⟩) (.slice none 0 0) (by show _ ≠ w.heap.size+1;omega)).other (a:=⟨w.heap.size+1,8,none⟩) (.slice none 0 0) (by show _ ≠ w.heap.size+1;omega)).other (a:=⟨w.heap.size+1,9,none⟩) (.int .i64 0) (by show _ ≠ w.heap.size+1;omega)).other (a:=⟨w.heap.size+1,10,none⟩) (.int .i64 0) (by show _ ≠ w.heap.size+1;omega)).other (a:=⟨w.heap.size+1,11,none⟩) (.slice none 0 0) (by show _ ≠ w.heap.size+1;omega)).set 0 (.int .i64 (15))).set 1 (.int .i64 (frst m+z)))
     simp only [List.set_cons_zero,List.set_cons_succ] at HR9
     have HB9:=h_ (((q4r (u_ HB) (show w.heap.size<=w.heap.size+1 by omega) (.slice none 0 0) (.slice none 0 0) (.slice none 0 0) (.slice none 0 0) (.map none) (.int .i64 0) (.slice none 0 0) (.slice none 0 0) (.slice none 0 0) (.int .i64 0) (.int .i64 0) (.slice none 0 0)).setCell (p:=⟨w.heap.size+2,0,none⟩) (by simp) (.int .i64 (15))).setCell (p:=⟨w.heap.size+2,1,none⟩) (by simp) (.int .i64 (frst m+z)))
     go_wp2_with fail
     obtain ⟨k0,k1⟩:=(two' (u_ HR9)).1
     obtain ⟨j0,j1,j2,j3,j4,j5,j6,j7,j8,j9,j10,j11⟩:=(twelve (u_ HQ9)).1
     exact bodyPost_ret (v:=.tuple #[.agg #[.slice none 0 0,.slice none 0 0,.slice none 0 0,.slice none 0 0,.map none,.int .i64 0,.slice none 0 0,.slice none 0 0,.slice none 0 0,.int .i64 0,.int .i64 0,.slice none 0 0],dgV (15) (frst m+z)]) (by simp [results,Tryz.results50,go_sem,k0,k1,j0,j1,j2,j3,j4,j5,j6,j7,j8,j9,j10,j11]) rfl ⟨sf0,_,_,rfl,u_ HF,fun h=>absurd h (by decide),u_ HB9⟩
   . have HZ2:Hid (Fst (fun k=>Rch m k k) m.F.length (-1)):=h_ (by rw [<- show z = -1 by omega];exact u_ HZ1)
     obtain ⟨z0,z1,z2,z3,z4⟩:=five (u_ HW)
     obtain ⟨x0,x1,x2,x3,x4,x5⟩:=(six' (u_ HX)).1
     have HS5:Hid (w.heap.size+3<=W5.heap.size):=h_ (by have:=(u_ HR).lt;omega)
     have HC4:=h_ (u_ HCi W5 b a1 a2 a3 c1 c2 c3 (u_ HS) (u_ HM) (u_ HJ))
     go_wp2_with fail
     refine (u_ HC4).mono ?_
     rintro r W6 ⟨v,f,rfl,hlb,s1,s2,hb⟩
     obtain ⟨a5,c5,e5⟩:=qcm hlb
     rw [e5] at hlb
     subst e5
     have HLb:=h_ hlb;have S1:=h_ s1;have S2:=h_ s2
     replace HK:=mB HK hb;replace HQ:=mB HQ hb;replace HR:=mB HR hb;replace HB:=mT HB hb;replace HS:=h_ ((u_ HS).mono hb);replace HTb:=h_ ((u_ HTb).mono hb);replace HM:=h_ ((u_ HM).mono hb);replace HW:=mB HW hb;replace HO:=h_ ((u_ HO).mono hb);replace HJ:=h_ ((u_ HJ).mono hb);replace HX:=mB HX hb
     clear hb hlb s1 s2 z0 z1 z2 z3 z4 x0 x1 x2 x3 x4 x5 HC4 HCi
     obtain ⟨z0,z1,z2,z3,z4⟩:=five (u_ HW)
     obtain ⟨x0,x1,x2,x3,x4,x5⟩:=(six' (u_ HX)).1
     have HC5:=h_ (u_ HCt W6 b c5 _ f a1 a2 a3 a5 c1 c2 c3 (u_ S1) (u_ HS) (u_ HM) (u_ HO) (u_ HJ) (u_ HLb))
     go_wp2_with fail
     refine (u_ HC5).mono ?_
     rintro r W7 ⟨y,rfl,hy1,hb⟩
     have HY1:Hid (Fst (DownS m n F f) m.F.length y):=h_ (hy1.iff (u_ HDw f (u_ S1)))
     obtain ⟨hyl,hyu⟩:=hy1.bounds
     replace HK:=mB HK hb;replace HQ:=mB HQ hb;replace HR:=mB HR hb;replace HB:=mT HB hb;replace HS:=h_ ((u_ HS).mono hb);replace HTb:=h_ ((u_ HTb).mono hb);replace HM:=h_ ((u_ HM).mono hb);replace HW:=mB HW hb;replace HO:=h_ ((u_ HO).mono hb);replace HJ:=h_ ((u_ HJ).mono hb);replace HX:=mB HX hb;replace HLb:=h_ (qcd (u_ HLb) hb)
     clear hb hy1 z0 z1 z2 z3 z4 x0 x1 x2 x3 x4 x5 HC5 HCt
     by_cases hy0:0<=y
     . have HF:Hid (ChkF m n F 16 (frst m+y)):=h_ (.inr ⟨u_ HZ2,f,y,u_ S1,u_ S2,u_ HY1,.inl ⟨hy0,rfl,rfl⟩⟩)
       have HC6:=h_ (u_ HCs W7 y hy0 hyu)
       obtain ⟨y0,y1,y2,y3⟩:=quad (u_ HK)
       go_wp2_with fail
       refine (u_ HC6).mono ?_
       rintro r W8 ⟨rfl,hb⟩
       replace HQ:=mB HQ hb;replace HR:=mB HR hb;replace HB:=mT HB hb
       clear hb y0 y1 y2 y3 HC6
       obtain ⟨⟨p0,p1,p2,p3,p4,p5,p6,p7,p8,p9,p10,p11⟩,⟨e0,e1,e2,e3,e4,e5,e6,e7,e8,e9,e10,e11⟩⟩:=twelve (u_ HQ)
       obtain ⟨⟨r0,r1⟩,⟨f0,f1⟩⟩:=two' (u_ HR)
       have HQ9:=h_ (((((((((((((((u_ HQ).set 0 (.slice none 0 0)).set 1 (.slice none 0 0)).set 2 (.slice none 0 0)).set 3 (.slice none 0 0)).set 4 (.map none)).set 5 (.int .i64 0)).set 6 (.slice none 0 0)).set 7 (.slice none 0 0)).set 8 (.slice none 0 0)).set 9 (.int .i64 0)).set 10 (.int .i64 0)).set 11 (.slice none 0 0)).other (a:=⟨w.heap.size+2,0,none⟩) (.int .i64 (16)) (by show _ ≠ w.heap.size+2;omega)).other (a:=⟨w.heap.size+2,1,none⟩) (.int .i64 (frst m+y)) (by show _ ≠ w.heap.size+2;omega))
       simp only [List.set_cons_zero,List.set_cons_succ] at HQ9
       have HR9:=h_ (((((((((((((((u_ HR).other (a:=⟨w.heap.size+1,0,none⟩) (.slice none 0 0) (by show _ ≠ w.heap.size+1;omega)).other (a:=⟨w.heap.size+1,1,none⟩) (.slice none 0 0) (by show _ ≠ w.heap.size+1;omega)).other (a:=⟨w.heap.size+1,2,none⟩) (.slice none 0 0) (by show _ ≠ w.heap.size+1;omega)).other (a:=⟨w.heap.size+1,3,none⟩) (.slice none 0 0) (by show _ ≠ w.heap.size+1;omega)).other (a:=⟨w.heap.size+1,4,none⟩) (.map none) (by show _ ≠ w.heap.size+1;omega)).other (a:=⟨w.heap.size+1,5,none⟩) (.int .i64 0) (by show _ ≠ w.heap.size+1;omega)).other (a:=⟨w.heap.size+1,6,none⟩) (.slice none 0 0) (by show _ ≠ w.heap.size+1;omega)).other (a:=⟨w.heap.size+1,7,none⟩) (.slice none 0 0) (by show _ ≠ w.heap.size+1;omega)).other (a:=⟨w.heap.size+1,8,none⟩) (.slice none 0 0) (by show _ ≠ w.heap.size+1;omega)).other (a:=⟨w.heap.size+1,9,none⟩) (.int .i64 0) (by show _ ≠ w.heap.size+1;omega)).other (a:=⟨w.heap.size+1,10,none⟩) (.int .i64 0) (by show _ ≠ w.heap.size+1;omega)).other (a:=⟨w.heap.size+1,11,none⟩) (.slice none 0 0) (by show _ ≠ w.heap.size+1;omega)).set 0 (.int .i64 (16))).set 1 (.int .i64 (frst m+y)))
       simp only [List.set_cons_zero,List.set_cons_succ] at HR9
       have HB9:=h_ (((q4r (u_ HB) (show w.heap.size<=w.heap.size+1 by omega) (.slice none 0 0) (.slice none 0 0) (.slice none 0 0) (.slice none 0 0) (.map none) (.int .i64 0) (.slice none 0 0) (.slice none 0 0) (.slice none 0 0) (.int .i64 0) (.int .i64 0) (.slice none 0 0)).setCell (p:=⟨w.heap.size+2,0,none⟩) (by simp) (.int .i64 (16))).setCell (p:=⟨w.heap.size+2,1,none⟩) (by simp) (.int .i64 (frst m+y)))
       go_wp2_with fail
       obtain ⟨k0,k1⟩:=(two' (u_ HR9)).1
       obtain ⟨j0,j1,j2,j3,j4,j5,j6,j7,j8,j9,j10,j11⟩:=(twelve (u_ HQ9)).1
       exact bodyPost_ret (v:=.tuple #[.agg #[.slice none 0 0,.slice none 0 0,.slice none 0 0,.slice none 0 0,.map none,.int .i64 0,.slice none 0 0,.slice none 0 0,.slice none 0 0,.int .i64 0,.int .i64 0,.slice none 0 0],dgV (16) (frst m+y)]) (by simp [results,Tryz.results50,go_sem,k0,k1,j0,j1,j2,j3,j4,j5,j6,j7,j8,j9,j10,j11]) rfl ⟨sf0,_,_,rfl,u_ HF,fun h=>absurd h (by decide),u_ HB9⟩
     . have HF:Hid (ChkF m n F 0 0):=h_ (.inr ⟨u_ HZ2,f,y,u_ S1,u_ S2,u_ HY1,.inr ⟨by omega,rfl,rfl⟩⟩)
       obtain ⟨z0,z1,z2,z3,z4⟩:=five (u_ HW)
       obtain ⟨x0,x1,x2,x3,x4,x5⟩:=(six' (u_ HX)).1
       have HR1:=h_ ((u_ HR).row_other (g:=w.heap.size+1) (by omega) #[.slice al n alc,.slice ap m.P.length apc,.slice ar m.R.length arc,.slice af m.F.length afc,.map (some b),.int .i64 n,.slice a1 (n*n) c1,.slice a2 (n*n) c2,.slice a3 (n*n) c3,.int .i64 (bt:Int),.int .i64 top,.slice a5 m.F.length c5])
       have HQ9:=h_ (((u_ HQ).row [.slice al n alc,.slice ap m.P.length apc,.slice ar m.R.length arc,.slice af m.F.length afc,.map (some b),.int .i64 n,.slice a1 (n*n) c1,.slice a2 (n*n) c2,.slice a3 (n*n) c3,.int .i64 (bt:Int),.int .i64 top,.slice a5 m.F.length c5]).row_other (g:=w.heap.size+2) (by omega) #[.int .i64 0,.int .i64 0])
       have HR9:=h_ ((u_ HR1).row [.int .i64 0,.int .i64 0])
       have HO9:=h_ ((qjp (lo:=w.heap.size+1) (hi:=w.heap.size+3) (g:=w.heap.size+1) W7 #[.slice al n alc,.slice ap m.P.length apc,.slice ar m.R.length arc,.slice af m.F.length afc,.map (some b),.int .i64 n,.slice a1 (n*n) c1,.slice a2 (n*n) c2,.slice a3 (n*n) c3,.int .i64 (bt:Int),.int .i64 top,.slice a5 m.F.length c5] (by omega) (by omega)).trans (qjp (g:=w.heap.size+2) _ #[.int .i64 0,.int .i64 0] (by omega) (by omega)))
       have HB9:=h_ ((u_ HB).trans ((u_ HO9).below (Nat.le_succ _) (u_ HB).size))
       have HP9:=h_ (⟨qfn (u_ HO9) (u_ HM) (cells2 (u_ HQ) (u_ HR)),qa9 (u_ HO9) (u_ HO) (nobool2 (u_ HQ) (u_ HR) (by simp) (by simp)),qjx (u_ HO9) (u_ HLb) (u_ HS5)⟩:PMap _ b (fNames m)/\Bools _ a1 (n*n) F/\Plc _ a5 (lsL f m.F.length))
       clear HK HB HS HTb HM HO HJ HLb HCs HDw HO9
       go_wp2_with (first | (refine qa0 rfl #[(0,.tmp 54),(1,.tmp 55),(2,.tmp 56)] rfl #[.slice al n alc,.slice ap m.P.length apc,.slice ar m.R.length arc,.slice af m.F.length afc,.map (some b),.int .i64 n,.slice a1 (n*n) c1,.slice a2 (n*n) c2,.slice a3 (n*n) c3,.int .i64 (bt:Int),.int .i64 top,.slice a5 m.F.length c5] (by kernel_rfl) ?_) | (refine wpList_store_row rfl 116 (.tmp 2) (.tmp 57) rfl (w.heap.size+1) #[.slice al n alc,.slice ap m.P.length apc,.slice ar m.R.length arc,.slice af m.F.length afc,.map (some b),.int .i64 n,.slice a1 (n*n) c1,.slice a2 (n*n) c2,.slice a3 (n*n) c3,.int .i64 (bt:Int),.int .i64 top,.slice a5 m.F.length c5] rfl rfl 116 #[.slice none 0 0,.slice none 0 0,.slice none 0 0,.slice none 0 0,.map none,.int .i64 0,.slice none 0 0,.slice none 0 0,.slice none 0 0,.int .i64 0,.int .i64 0,.slice none 0 0] (u_ HQ) (by kernel_rfl) rfl (by simp [Value.oneCell']) ?_) | (refine wpList_store_row rfl 90 (.tmp 3) (.tmp 58) rfl (w.heap.size+2) #[.int .i64 0,.int .i64 0] rfl rfl 90 #[.int .i64 0,.int .i64 0] (u_ HR1) (by kernel_rfl) rfl (by simp [Value.oneCell']) ?_))
       obtain ⟨k0,k1⟩:=(two' (u_ HR9)).1
       obtain ⟨j0,j1,j2,j3,j4,j5,j6,j7,j8,j9,j10,j11⟩:=(twelve (u_ HQ9)).1
       exact bodyPost_ret (v:=.tuple #[.agg #[.slice al n alc,.slice ap m.P.length apc,.slice ar m.R.length arc,.slice af m.F.length afc,.map (some b),.int .i64 n,.slice a1 (n*n) c1,.slice a2 (n*n) c2,.slice a3 (n*n) c3,.int .i64 (bt:Int),.int .i64 top,.slice a5 m.F.length c5],dgV (0) (0)]) (by simp [results,Tryz.results50,go_sem,k0,k1,j0,j1,j2,j3,j4,j5,j6,j7,j8,j9,j10,j11]) rfl ⟨⟨al,n,alc,ap,m.P.length,apc,ar,m.R.length,arc,af,m.F.length,afc,some b,n,a1,n*n,c1,a2,n*n,c2,a3,n*n,c3,bt,top,a5,m.F.length,c5⟩,_,_,rfl,u_ HF,fun _=>⟨f,u_ S1,u_ S2,b,bt,top,a1,a2,a3,c1,c2,c3,a5,c5,rfl,u_ HP9⟩,u_ HB9⟩
end Go.Proofs.YtgkcaeidhkddjaaGreatDoor
