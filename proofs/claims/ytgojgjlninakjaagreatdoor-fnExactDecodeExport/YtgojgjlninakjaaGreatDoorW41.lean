import Derived.Test.YtgojgjlninakjaaGreatDoorW39
set_option maxRecDepth 100000
set_option maxHeartbeats 64000000
namespace Go.Proofs.YtgojgjlninakjaaGreatDoor
open Go Go.RowKit
structure SF where
 l:Option Addr
 nl:Nat
 lc:Nat
 p:Option Addr
 np:Nat
 pc:Nat
 r:Option Addr
 nr:Nat
 rc:Nat
 f:Option Addr
 nf:Nat
 fc:Nat
 mp:Option Nat
 N:Int
 a1:Option Addr
 s1:Nat
 c1:Nat
 a2:Option Addr
 s2:Nat
 c2:Nat
 a3:Option Addr
 s3:Nat
 c3:Nat
 bot:Int
 top:Int
 lb:Option Addr
 n5:Nat
 c5:Nat
def sfV (S:SF):Value:=.agg #[.slice S.l S.nl S.lc,.slice S.p S.np S.pc,.slice S.r S.nr S.rc,.slice S.f S.nf S.fc,.map S.mp,.int .i64 S.N,.slice S.a1 S.s1 S.c1,.slice S.a2 S.s2 S.c2,.slice S.a3 S.s3 S.c3,.int .i64 S.bot,.int .i64 S.top,.slice S.lb S.n5 S.c5]
def sf0:SF:=⟨none,0,0,none,0,0,none,0,0,none,0,0,none,0,none,0,0,none,0,0,none,0,0,0,0,none,0,0⟩
theorem twelve {w:World}{b:Nat}{t:TypeId}{v0 v1 v2 v3 v4 v5 v6 v7 v8 v9 v10 v11:Value}(h:Blk w b t [v0,v1,v2,v3,v4,v5,v6,v7,v8,v9,v10,v11]) :
 (w.cell? ⟨b,0,none⟩=some v0/\w.cell? ⟨b,1,none⟩=some v1/\w.cell? ⟨b,2,none⟩=some v2/\w.cell? ⟨b,3,none⟩=some v3/\w.cell? ⟨b,4,none⟩=some v4/\w.cell? ⟨b,5,none⟩=some v5/\w.cell? ⟨b,6,none⟩=some v6/\w.cell? ⟨b,7,none⟩=some v7/\w.cell? ⟨b,8,none⟩=some v8/\w.cell? ⟨b,9,none⟩=some v9/\w.cell? ⟨b,10,none⟩=some v10/\w.cell? ⟨b,11,none⟩=some v11)/\(w.frozen? ⟨b,0,none⟩=false/\w.frozen? ⟨b,1,none⟩=false/\w.frozen? ⟨b,2,none⟩=false/\w.frozen? ⟨b,3,none⟩=false/\w.frozen? ⟨b,4,none⟩=false/\w.frozen? ⟨b,5,none⟩=false/\w.frozen? ⟨b,6,none⟩=false/\w.frozen? ⟨b,7,none⟩=false/\w.frozen? ⟨b,8,none⟩=false/\w.frozen? ⟨b,9,none⟩=false/\w.frozen? ⟨b,10,none⟩=false/\w.frozen? ⟨b,11,none⟩=false) :=
 ⟨⟨h.cell 0,h.cell 1,h.cell 2,h.cell 3,h.cell 4,h.cell 5,h.cell 6,h.cell 7,h.cell 8,h.cell 9,h.cell 10,h.cell 11⟩,⟨h.free 0,h.free 1,h.free 2,h.free 3,h.free 4,h.free 5,h.free 6,h.free 7,h.free 8,h.free 9,h.free 10,h.free 11⟩⟩
theorem q5c {B:Nat}{w w':World}(h:Below B w w'){R:Nat}(hR:B<=R)(v0 v1 v2 v3 v4 v5 v6 v7 v8 v9 v10 v11:Value):Below B w ((((((((((((w'.setCell ⟨R,0,none⟩ v0).setCell ⟨R,1,none⟩ v1).setCell ⟨R,2,none⟩ v2).setCell ⟨R,3,none⟩ v3).setCell ⟨R,4,none⟩ v4).setCell ⟨R,5,none⟩ v5).setCell ⟨R,6,none⟩ v6).setCell ⟨R,7,none⟩ v7).setCell ⟨R,8,none⟩ v8).setCell ⟨R,9,none⟩ v9).setCell ⟨R,10,none⟩ v10).setCell ⟨R,11,none⟩ v11) :=
 ((((((((((((h.setCell (p:=⟨R,0,none⟩) hR v0).setCell (p:=⟨R,1,none⟩) hR v1).setCell (p:=⟨R,2,none⟩) hR v2).setCell (p:=⟨R,3,none⟩) hR v3).setCell (p:=⟨R,4,none⟩) hR v4).setCell (p:=⟨R,5,none⟩) hR v5).setCell (p:=⟨R,6,none⟩) hR v6).setCell (p:=⟨R,7,none⟩) hR v7).setCell (p:=⟨R,8,none⟩) hR v8).setCell (p:=⟨R,9,none⟩) hR v9).setCell (p:=⟨R,10,none⟩) hR v10).setCell (p:=⟨R,11,none⟩) hR v11)
def SndW (m:Fm)(A:MA)(n:Nat)(F:Nat->Bool)(f:Nat->Nat)(S:SF)(W:World):Prop :=
 ∃b bt top a1 a2 a3 c1 c2 c3 a5 c5,S=⟨A.l,n,A.lc,A.p,m.P.length,A.pc,A.r,m.R.length,A.rc,A.f,m.F.length,A.fc,some b,n,a1,n*n,c1,a2,n*n,c2,a3,n*n,c3,bt,top,a5,m.F.length,c5⟩/\PMap W b (fNames m)/\Bools W a1 (n*n) F/\Plc W a5 (lsL f m.F.length)
theorem SndW.mono {m:Fm}{A:MA}{n:Nat}{F:Nat->Bool}{f:Nat->Nat}{S:SF}{W W':World}(h:SndW m A n F f S W)(hb:Below W.heap.size W W'):SndW m A n F f S W':=by
 obtain⟨b,bt,top,a1,a2,a3,c1,c2,c3,a5,c5,e,h1,h2,h3⟩:=h
 exact⟨b,bt,top,a1,a2,a3,c1,c2,c3,a5,c5,e,h1.mono hb,h2.mono hb,h3.mono hb⟩
theorem qbi {lo hi n:Nat}{F:Nat->Bool}{a:Option Addr}{W W':World}(h:Out lo hi W W')(hB:Bools W a n F)(hn:∀g i b,lo<=g->g<hi->W.cell? ⟨g,i,none⟩≠some (.bool b)):Bools W' a n F:=fun k hk=>by
 obtain⟨b,o,e,hl,hc⟩:=hB k hk
 refine⟨b,o,e,Ys hl h.size,?_⟩
 have hg:¬ (lo<=b/\b<hi):=fun c=>hn b (o+k) _ c.1 c.2 hc
 rw[<- hc]
 simp only[World.cell?,h.block b hl hg]
theorem qhx {lo hi:Nat}{l:List ByteArray}{b:Nat}{W W':World}(h:Out lo hi W W')(hm:PMap W b l)(hn:∀g,lo<=g->g<hi->∃cs t f,W.heap[g]? = some (.cells cs t f)):PMap W' b l:=by
 have hlt:=World.ownsMap.lt hm
 obtain⟨es,clock,h1,F,hs,hD⟩:=hm
 have hg:¬ (lo<=b/\b<hi):=fun c=>by
  obtain⟨cs,t,f,e⟩:=hn b c.1 c.2;rw[e]at h1;cases h1
 exact⟨es,clock,(h.block b hlt hg).trans h1,F,hs,hD⟩
theorem qn4 {lo hi base n c:Nat}{l:List Nat}{a:Option Addr}{W W':World}(h:Out lo hi W W')(ho:W.ownsRow base 3 1 (.slice a n c) n (ui l))(hb:hi<=base):Plc W' a l:=by
 have h9:=h.owns ho (fun q e=>by have:=(ho.lt q e).1;omega)
 obtain⟨a',c',e,-,hp⟩:=q75 h9
 cases e
 exact hp
theorem nobool2 {W:World}{s:Nat}{t t':TypeId}{cs cs':List Value}(h:Blk W (s+1) t cs)(h':Blk W (s+2) t' cs')(k:∀b,Value.bool b ∉ cs)(k':∀b,Value.bool b ∉ cs'):∀g i b,s+1<=g->g<s+3->W.cell? ⟨g,i,none⟩≠some (.bool b):=fun g i b h1 h2 e=>by
 have:g=s+1∨g=s+2:=by omega
 rcases this with rfl | rfl
 . rw[h.cell i]at e
   exact k b (Vy e)
 . rw[h'.cell i]at e
   exact k' b (Vy e)
theorem cells2 {W:World}{s:Nat}{t t':TypeId}{cs cs':List Value}(h:Blk W (s+1) t cs)(h':Blk W (s+2) t' cs'):∀g,s+1<=g->g<s+3->∃cs t f,W.heap[g]? = some (.cells cs t f):=fun g h1 h2=>by
 have:g=s+1∨g=s+2:=by omega
 rcases this with rfl | rfl
 . exact⟨_,_,_,h⟩
 . exact⟨_,_,_,h'⟩
theorem qei (m:Fm)(A:MA)(w:World)(hq:vfB m=false)(hf:FitM m)(hcap:Caps m A)(ha:MSl w m A)(ht:Tabs w)(hy:TyW w)(htb:Tab w) :
 Calls Tryz.prog 48 #[mV m A] w fun r w'=>r=.returned (.tuple #[sfV sf0,dgV 20 0])/\Below w.heap.size w w':=by
 have HCw:=h_ fun W (hs:MSl W m A) (ht:Tabs W) (hy:TyW W)=>q53 m A W hf hcap hs ht hy
 obtain⟨al,alc,ap,apc,ar,arc,af,afc,afa⟩:=A
 unfold mV at HCw⊢
 unfold wV at HCw
 unfold sfV sf0
 dsimp only at HCw⊢
 have HK:=h_ (((Blk.new w 36 (Jb al m alc ap apc ar arc af afc)).alloc (.cells Jc 107)).alloc (.cells Jm 82))
 have HQ:=h_ ((Blk.new (w.alloc (.cells (Jb al m alc ap apc ar arc af afc) 36)) 107 Jc).alloc (.cells Jm 82))
 have HR:=h_ (Blk.new ((w.alloc (.cells (Jb al m alc ap apc ar arc af afc) 36)).alloc (.cells Jc 107)) 82 Jm)
 rw[Yk]at HQ
 rw[Yk,Yk]at HR
 have HB:=h_ ((((bR w.heap.size w).alloc (nR _) (.cells (Jb al m alc ap apc ar arc af afc) 36)).alloc (by simp) (.cells Jc 107)).alloc (by simp;omega) (.cells Jm 82))
 obtain⟨W0,hW0⟩:=Nq (((w.alloc (.cells (Jb al m alc ap apc ar arc af afc) 36)).alloc (.cells Jc 107)).alloc (.cells Jm 82))
 have hs0:W0.heap.size=w.heap.size+3:=by rw[<- hW0];simp
 rw[hW0]at HK HQ HR HB
 have HS:=h_ (ha.mono HB.u);have HT:=h_ (ht.mono HB.u);have HY:=h_ (hy.mono HB.u);have HTb:=h_ (htb.mono HB.u)
 clear ha ht hy hf hcap htb
 have HNo:=h_ hq
 clear hq
 obtain⟨y0,y1,y2,y3⟩:=quad HK.u
 go_enter Tryz.func48,Tryz.ntmps48
 go_wp2_with fail
 try rw[hW0]
 refine(HCw.u W0 HS.u HT.u HY.u).mono ?_
 rintro r W1 ⟨h | h,hb⟩
 . obtain⟨-,rfl⟩:=h
   replace HQ:=mB HQ hb;replace HR:=mB HR hb;replace HB:=mT HB hb;replace hb:=(bR W1.heap.size W1).alloc (nR _) (.cells J0 102);replace HQ:=mB HQ hb;replace HR:=mB HR hb;replace HB:=mT HB hb;clear hb hW0 y0 y1 y2 y3;obtain⟨⟨p0,p1,p2,p3,p4,p5,p6,p7,p8,p9,p10,p11⟩,⟨e0,e1,e2,e3,e4,e5,e6,e7,e8,e9,e10,e11⟩⟩:=twelve HQ.u;obtain⟨⟨r0,r1⟩,⟨f0,f1⟩⟩:=two' HR.u;have HQ9:=h_ ((((((((((((((HQ.u.set 0 J7).set 1 J7).set 2 J7).set 3 J7).set 4 (.map none)).set 5 (J6 0)).set 6 J7).set 7 J7).set 8 J7).set 9 (J6 0)).set 10 (J6 0)).set 11 J7).other (a:=⟨w.heap.size+2,0,none⟩) (J6 (20)) (by show _≠w.heap.size+2;omega)).other (a:=⟨w.heap.size+2,1,none⟩) (J6 (0)) (by show _≠w.heap.size+2;omega));simp only[Yx,Y2]at HQ9;have HR9:=h_ ((((((((((((((HR.u.other (a:=⟨w.heap.size+1,0,none⟩) J7 (by show _≠w.heap.size+1;omega)).other (a:=⟨w.heap.size+1,1,none⟩) J7 (by show _≠w.heap.size+1;omega)).other (a:=⟨w.heap.size+1,2,none⟩) J7 (by show _≠w.heap.size+1;omega)).other (a:=⟨w.heap.size+1,3,none⟩) J7 (by show _≠w.heap.size+1;omega)).other (a:=⟨w.heap.size+1,4,none⟩) (.map none) (by show _≠w.heap.size+1;omega)).other (a:=⟨w.heap.size+1,5,none⟩) (J6 0) (by show _≠w.heap.size+1;omega)).other (a:=⟨w.heap.size+1,6,none⟩) J7 (by show _≠w.heap.size+1;omega)).other (a:=⟨w.heap.size+1,7,none⟩) J7 (by show _≠w.heap.size+1;omega)).other (a:=⟨w.heap.size+1,8,none⟩) J7 (by show _≠w.heap.size+1;omega)).other (a:=⟨w.heap.size+1,9,none⟩) (J6 0) (by show _≠w.heap.size+1;omega)).other (a:=⟨w.heap.size+1,10,none⟩) (J6 0) (by show _≠w.heap.size+1;omega)).other (a:=⟨w.heap.size+1,11,none⟩) J7 (by show _≠w.heap.size+1;omega)).set 0 (J6 (20))).set 1 (J6 (0)));simp only[Yx,Y2]at HR9;have HB9:=h_ (((q5c HB.u (show w.heap.size<=w.heap.size+1 by omega) J7 J7 J7 J7 (.map none) (J6 0) J7 J7 J7 (J6 0) (J6 0) J7).setCell (p:=⟨w.heap.size+2,0,none⟩) (by simp) (J6 (20))).setCell (p:=⟨w.heap.size+2,1,none⟩) (by simp) (J6 (0)));go_wp2_with fail;obtain⟨k0,k1⟩:=(two' HR9.u).1;obtain⟨j0,j1,j2,j3,j4,j5,j6,j7,j8,j9,j10,j11⟩:=(twelve HQ9.u).1;exact bodyPost_ret (v:=.tuple #[.agg Jc,dgV (20) (0)]) (by simp[results,Tryz.results48,go_sem,k0,k1,j0,j1,j2,j3,j4,j5,j6,j7,j8,j9,j10,j11]) rfl ⟨rfl,HB9.u⟩
 . exact absurd (h.1.symm.trans HNo.u) (by decide)
theorem qej (m:Fm)(A:MA)(w:World)(code:Int)(hq:vfB m=true)(hc:1<=code/\code<=4)(hz:ImplZ m.L.length m.P.length (pr1 m) (pr2 m) code)(hf:FitM m)(hcap:Caps m A)(ha:MSl w m A)(ht:Tabs w)(hy:TyW w)(htb:Tab w) :
 Calls Tryz.prog 48 #[mV m A] w fun r w'=>r=.returned (.tuple #[sfV sf0,dgV (10+code) 0])/\Below w.heap.size w w':=by
 have HCw:=h_ fun W (hs:MSl W m A) (ht:Tabs W) (hy:TyW W)=>q53 m A W hf hcap hs ht hy
 have HCl:=h_ fun W b (hs:MSl W m A) (ht:Tab W)=>q1g m A b code W hz hf hs ht
 obtain⟨al,alc,ap,apc,ar,arc,af,afc,afa⟩:=A
 unfold mV at HCw⊢
 unfold wV at HCw HCl
 unfold zeroL at HCl
 unfold sfV sf0
 dsimp only at HCw HCl⊢
 have HK:=h_ (((Blk.new w 36 (Jb al m alc ap apc ar arc af afc)).alloc (.cells Jc 107)).alloc (.cells Jm 82))
 have HQ:=h_ ((Blk.new (w.alloc (.cells (Jb al m alc ap apc ar arc af afc) 36)) 107 Jc).alloc (.cells Jm 82))
 have HR:=h_ (Blk.new ((w.alloc (.cells (Jb al m alc ap apc ar arc af afc) 36)).alloc (.cells Jc 107)) 82 Jm)
 rw[Yk]at HQ
 rw[Yk,Yk]at HR
 have HB:=h_ ((((bR w.heap.size w).alloc (nR _) (.cells (Jb al m alc ap apc ar arc af afc) 36)).alloc (by simp) (.cells Jc 107)).alloc (by simp;omega) (.cells Jm 82))
 obtain⟨W0,hW0⟩:=Nq (((w.alloc (.cells (Jb al m alc ap apc ar arc af afc) 36)).alloc (.cells Jc 107)).alloc (.cells Jm 82))
 have hs0:W0.heap.size=w.heap.size+3:=by rw[<- hW0];simp
 rw[hW0]at HK HQ HR HB
 have HS:=h_ (ha.mono HB.u);have HT:=h_ (ht.mono HB.u);have HY:=h_ (hy.mono HB.u);have HTb:=h_ (htb.mono HB.u)
 clear ha ht hy hf hcap htb hz
 have HNo:=h_ hq
 clear hq
 obtain⟨y0,y1,y2,y3⟩:=quad HK.u
 go_enter Tryz.func48,Tryz.ntmps48
 go_wp2_with fail
 try rw[hW0]
 refine(HCw.u W0 HS.u HT.u HY.u).mono ?_
 rintro r W1 ⟨h | h,hb⟩
 . exact absurd (h.1.symm.trans HNo.u) (by decide)
 . obtain⟨-,b,rfl,-⟩:=h
   replace HQ:=mB HQ hb;replace HR:=mB HR hb;replace HB:=mT HB hb;replace HS:=h_ (HS.u.mono hb);replace HTb:=h_ (HTb.u.mono hb);clear hb hW0 y0 y1 y2 y3 HT HY HCw;have HW:=h_ (Blk.new W1 102 #[.slice al m.L.length alc,.slice ap m.P.length apc,.slice ar m.R.length arc,.slice af m.F.length afc,.map (some b)]);have hb:=(bR W1.heap.size W1).alloc (nR _) (.cells #[.slice al m.L.length alc,.slice ap m.P.length apc,.slice ar m.R.length arc,.slice af m.F.length afc,.map (some b)] 102);replace HQ:=mB HQ hb;replace HR:=mB HR hb;replace HB:=mT HB hb;replace HS:=h_ (HS.u.mono hb);replace HTb:=h_ (HTb.u.mono hb);obtain⟨W2,hW2⟩:=Nq (W1.alloc (.cells #[.slice al m.L.length alc,.slice ap m.P.length apc,.slice ar m.R.length arc,.slice af m.F.length afc,.map (some b)] 102));obtain⟨X,hX⟩:=Nq W1.heap.size;rw[hW2]at HW HQ HR HB HS HTb;rw[hX]at HW;clear hb;obtain⟨z0,z1,z2,z3,z4⟩:=five HW.u;go_wp2_with fail
   try rw[hW2]
   refine(HCl.u W2 b HS.u HTb.u).mono ?_;rintro r W3 ⟨rfl,hb⟩;replace HQ:=mB HQ hb;replace HR:=mB HR hb;replace HB:=mT HB hb;replace hb:=(bR W3.heap.size W3).alloc (nR _) (.cells Jf 105);replace HQ:=mB HQ hb;replace HR:=mB HR hb;replace HB:=mT HB hb;obtain⟨hc1,hc2⟩:=hc;have hc3:(code != 0)=true:=by have:code≠0:=(by omega);simpa using this
   clear hb hW2 z0 z1 z2 z3 z4 hX;obtain⟨⟨p0,p1,p2,p3,p4,p5,p6,p7,p8,p9,p10,p11⟩,⟨e0,e1,e2,e3,e4,e5,e6,e7,e8,e9,e10,e11⟩⟩:=twelve HQ.u;obtain⟨⟨r0,r1⟩,⟨f0,f1⟩⟩:=two' HR.u;have HQ9:=h_ ((((((((((((((HQ.u.set 0 J7).set 1 J7).set 2 J7).set 3 J7).set 4 (.map none)).set 5 (J6 0)).set 6 J7).set 7 J7).set 8 J7).set 9 (J6 0)).set 10 (J6 0)).set 11 J7).other (a:=⟨w.heap.size+2,0,none⟩) (J6 (10+code)) (by show _≠w.heap.size+2;omega)).other (a:=⟨w.heap.size+2,1,none⟩) (J6 (0)) (by show _≠w.heap.size+2;omega));simp only[Yx,Y2]at HQ9;have HR9:=h_ ((((((((((((((HR.u.other (a:=⟨w.heap.size+1,0,none⟩) J7 (by show _≠w.heap.size+1;omega)).other (a:=⟨w.heap.size+1,1,none⟩) J7 (by show _≠w.heap.size+1;omega)).other (a:=⟨w.heap.size+1,2,none⟩) J7 (by show _≠w.heap.size+1;omega)).other (a:=⟨w.heap.size+1,3,none⟩) J7 (by show _≠w.heap.size+1;omega)).other (a:=⟨w.heap.size+1,4,none⟩) (.map none) (by show _≠w.heap.size+1;omega)).other (a:=⟨w.heap.size+1,5,none⟩) (J6 0) (by show _≠w.heap.size+1;omega)).other (a:=⟨w.heap.size+1,6,none⟩) J7 (by show _≠w.heap.size+1;omega)).other (a:=⟨w.heap.size+1,7,none⟩) J7 (by show _≠w.heap.size+1;omega)).other (a:=⟨w.heap.size+1,8,none⟩) J7 (by show _≠w.heap.size+1;omega)).other (a:=⟨w.heap.size+1,9,none⟩) (J6 0) (by show _≠w.heap.size+1;omega)).other (a:=⟨w.heap.size+1,10,none⟩) (J6 0) (by show _≠w.heap.size+1;omega)).other (a:=⟨w.heap.size+1,11,none⟩) J7 (by show _≠w.heap.size+1;omega)).set 0 (J6 (10+code))).set 1 (J6 (0)));simp only[Yx,Y2]at HR9;have HB9:=h_ (((q5c HB.u (show w.heap.size<=w.heap.size+1 by omega) J7 J7 J7 J7 (.map none) (J6 0) J7 J7 J7 (J6 0) (J6 0) J7).setCell (p:=⟨w.heap.size+2,0,none⟩) (by simp) (J6 (10+code))).setCell (p:=⟨w.heap.size+2,1,none⟩) (by simp) (J6 (0)));go_wp2_with fail;obtain⟨k0,k1⟩:=(two' HR9.u).1;obtain⟨j0,j1,j2,j3,j4,j5,j6,j7,j8,j9,j10,j11⟩:=(twelve HQ9.u).1;exact bodyPost_ret (v:=.tuple #[.agg Jc,dgV (10+code) (0)]) (by simp[results,Tryz.results48,go_sem,k0,k1,j0,j1,j2,j3,j4,j5,j6,j7,j8,j9,j10,j11]) rfl ⟨rfl,HB9.u⟩
end Go.Proofs.YtgojgjlninakjaaGreatDoor
