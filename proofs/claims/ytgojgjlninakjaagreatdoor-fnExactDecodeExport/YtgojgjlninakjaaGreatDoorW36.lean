import Derived.Test.YtgojgjlninakjaaGreatDoorW26
import Derived.Test.YtgojgjlninakjaaGreatDoorW34
import Derived.Test.YtgojgjlninakjaaGreatDoorW31
set_option maxRecDepth 100000
set_option maxHeartbeats 64000000
namespace Go.Proofs.YtgojgjlninakjaaGreatDoor
open Go Go.RowKit
theorem qep {w w':World}{G:Nat}{l:List ByteArray}(h:Strs w (some ⟨G,0,none⟩) l)(hk:w'.heap[G]? = w.heap[G]?)(hz:w'.heap.size=w.heap.size):Strs w' (some ⟨G,0,none⟩) l:=fun k hkn=>by
 obtain⟨b,o,e1,h0,h1⟩:=h k hkn
 cases e1
 exact⟨G,0,rfl,by rw[hz];exact h0,(World.cell?_of_block (a:=⟨G,0+k,none⟩) hk).trans h1⟩
theorem qhz {w w':World}{G:Nat}{l:List (Int × Int)}(h:Prs w (some ⟨G,0,none⟩) l)(hk:w'.heap[G]? = w.heap[G]?)(hz:w'.heap.size=w.heap.size):Prs w' (some ⟨G,0,none⟩) l:=fun k hkn=>by
 obtain⟨b,o,e1,h0,h1,h2⟩:=h k hkn
 cases e1
 exact⟨G,0,rfl,by rw[hz];exact h0,(World.cell?_of_block (a:=⟨G,0+k*2,none⟩) hk).trans h1,(World.cell?_of_block (a:=⟨G,0+k*2+1,none⟩) hk).trans h2⟩
theorem qie {w w':World}{G:Nat}{l:List Rl}(h:Rls w (some ⟨G,0,none⟩) l)(hk:w'.heap[G]? = w.heap[G]?)(hz:w'.heap.size=w.heap.size):Rls w' (some ⟨G,0,none⟩) l:=fun k hkn=>by
 obtain⟨b,o,e1,h0,h1,h2⟩:=h k hkn
 cases e1
 exact⟨G,0,rfl,by rw[hz];exact h0,(World.cell?_of_block (a:=⟨G,0+k*2,none⟩) hk).trans h1,(World.cell?_of_block (a:=⟨G,0+k*2+1,none⟩) hk).trans h2⟩
theorem qcq {w w':World}{G N:Nat}{l:List Fl}{AF:Nat->FA}(h:Flds w (some ⟨G,0,none⟩) l AF)(hN:N<=G)(hA:∀k,k<l.length->FarA N (AF k))(hk:∀G,N<=G->w'.heap[G]? = w.heap[G]?)(hz:w'.heap.size=w.heap.size):Flds w' (some ⟨G,0,none⟩) l AF:=fun k hkn=>by
 obtain⟨b,o,e1,⟨h0,h1,h2,h3,h4,h5,h6,h7,h8,h9⟩,hs⟩:=h k hkn
 cases e1
 have hg:=hk G hN
 exact⟨G,0,rfl,⟨by rw[hz];exact h0,(World.cell?_of_block (a:=⟨G,0+k*9,none⟩) hg).trans h1,(World.cell?_of_block (a:=⟨G,0+k*9+1,none⟩) hg).trans h2,(World.cell?_of_block (a:=⟨G,0+k*9+2,none⟩) hg).trans h3,(World.cell?_of_block (a:=⟨G,0+k*9+3,none⟩) hg).trans h4,(World.cell?_of_block (a:=⟨G,0+k*9+4,none⟩) hg).trans h5,(World.cell?_of_block (a:=⟨G,0+k*9+5,none⟩) hg).trans h6,(World.cell?_of_block (a:=⟨G,0+k*9+6,none⟩) hg).trans h7,(World.cell?_of_block (a:=⟨G,0+k*9+7,none⟩) hg).trans h8,(World.cell?_of_block (a:=⟨G,0+k*9+8,none⟩) hg).trans h9⟩,hs.keep (hA k hkn) hk hz⟩
structure Sm (m:Fm):Prop where
 l:m.L.length<=1048576
 p:m.P.length<=1048576
 r:m.R.length<=1048576
 f:m.F.length<=1048576
 s:∀x,x∈m.F->SmF x
def MBk (N:Nat)(w:World)(m:Fm)(A:MA):Prop:=∃g1 g2 g3 g4:Nat,A.l=some ⟨g1,0,none⟩/\A.p=some ⟨g2,0,none⟩/\A.r=some ⟨g3,0,none⟩/\A.f=some ⟨g4,0,none⟩/\(N<=g1/\N<=g2/\N<=g3/\N<=g4)/\(g1<g4/\g2<g4/\g3<g4)/\Bk w g1 9 m.L.length/\Bk w g2 95 (m.P.length*2)/\Bk w g3 85 (m.R.length*2)/\Bk w g4 88 (m.F.length*9)/\∀k (h:k<m.F.length),FBk (g4+1) w m.F[k] (A.fa k)
theorem qez (m:Fm)(A:MA)(w:World)(hn:Sm m)(ha:MSl w m A) :
 Calls Tryz.prog 6 #[mV m A] w fun r w'=>∃A',r=.returned (mV m A')/\MSl w' m A'/\Caps m A'/\MBk w.heap.size w' m A'/\Below w.heap.size w w':=by
 obtain⟨al,alc,ap,apc,ar,arc,af,afc,afa⟩:=A
 have HA:=h_ ha;have HN:=h_ hn
 unfold mV
 dsimp only
 have HK:=h_ (((Blk.new w 27 (Jb al m alc ap apc ar arc af afc)).alloc (.cells Jq 36)).alloc (.cells Jq 36))
 have HR:=h_ ((Blk.new (w.alloc (.cells (Jb al m alc ap apc ar arc af afc) 27)) 36 Jq).alloc (.cells Jq 36))
 have HO:=h_ (Blk.new ((w.alloc (.cells (Jb al m alc ap apc ar arc af afc) 27)).alloc (.cells Jq 36)) 36 Jq)
 have HB:=h_ ((((bR w.heap.size w).alloc (nR _) (.cells (Jb al m alc ap apc ar arc af afc) 27)).alloc (by simp) (.cells Jq 36)).alloc (by simp;omega) (.cells Jq 36))
 simp only[Yk]at HR HO
 obtain⟨V0,hV0⟩:∃V,((w.alloc (.cells (Jb al m alc ap apc ar arc af afc) 27)).alloc (.cells Jq 36)).alloc (.cells Jq 36)=V:=⟨_,rfl⟩
 have HZ:Hi (w.heap.size+3<=V0.heap.size):=h_ (by rw[<- hV0];simp)
 rw[hV0]at HK HR HO HB
 clear ha hn
 obtain⟨x0,x1,x2,x3⟩:=quad HK.u
 go_enter Tryz.func6,Tryz.ntmps6
 go_wp2_with fail
 try rw[hV0]
 clear hV0 x0 x1 x2 x3
 refine(q51 al m.L alc V0 (HA.u.mono HB.u).l HN.u.l).mono ?_
 rintro e w1 ⟨rfl,hP,hbk,hb⟩
 obtain⟨G1,hG1⟩:∃G,V0.heap.size=G:=⟨_,rfl⟩
 have hgG1:w.heap.size+3<=G1:=by have:=HZ.u;omega
 have HK':=mB HK hb;have HR':=mB HR hb;have HO':=mB HO hb;have HB':=mT HB hb
 have HZ':Hi (w.heap.size+3<=w1.heap.size):=h_ (by have:=HZ.u;have:=hb.size;omega)
 rw[hG1]at hP hbk⊢
 have HM0:=h_ hP
 have HF0:=h_ hbk
 clear hP hbk hb hG1 HK HR HO HB HZ
 obtain⟨x0,x1,x2,x3⟩:=quad HK'.u
 obtain⟨o0,o1,o2,o3⟩:=quad HO'.u
 have e3:=HO'.u.free 0
 go_wp2_with fail
 have HK:=h_ (HK'.u.other (.slice (some ⟨G1,0,none⟩) m.L.length m.L.length) (a:=⟨w.heap.size+2,0,none⟩) (by simp));have HR:=h_ (HR'.u.other (.slice (some ⟨G1,0,none⟩) m.L.length m.L.length) (a:=⟨w.heap.size+2,0,none⟩) (by simp));have HO:=h_ (HO'.u.set 0 (.slice (some ⟨G1,0,none⟩) m.L.length m.L.length));have HB:=h_ (HB'.u.setCell (p:=⟨w.heap.size+2,0,none⟩) (show w.heap.size<=w.heap.size+2 by omega) (.slice (some ⟨G1,0,none⟩) m.L.length m.L.length))
 have HZ:Hi (w.heap.size+3<=(w1.setCell ⟨w.heap.size+2,0,none⟩ (.slice (some ⟨G1,0,none⟩) m.L.length m.L.length)).heap.size):=h_ (by simpa using HZ'.u)
 replace HM0:=h_ (qep HM0.u (heap_setCell_other w1 ⟨w.heap.size+2,0,none⟩ G1 (.slice (some ⟨G1,0,none⟩) m.L.length m.L.length) (by simp;omega)) (by simp))
 replace HF0:=h_ (HF0.u.keep (heap_setCell_other w1 ⟨w.heap.size+2,0,none⟩ G1 (.slice (some ⟨G1,0,none⟩) m.L.length m.L.length) (by simp;omega)))
 obtain⟨V1,hV1⟩:∃V,(w1.setCell ⟨w.heap.size+2,0,none⟩ (.slice (some ⟨G1,0,none⟩) m.L.length m.L.length))=V:=⟨_,rfl⟩
 rw[hV1]at HK HR HO HB HZ HM0 HF0
 simp only[Yx]at HO
 try rw[hV1]
 clear hV1 HK' HR' HO' HB' HZ' x0 x1 x2 x3 o0 o1 o2 o3 e3
 refine(qav ap m.P apc V1 (HA.u.mono HB.u).p HN.u.p).mono ?_
 rintro e w2 ⟨rfl,hP,hbk,hb⟩
 obtain⟨G2,hG2⟩:∃G,V1.heap.size=G:=⟨_,rfl⟩
 have hgG2:w.heap.size+3<=G2:=by have:=HZ.u;omega
 have HK':=mB HK hb;have HR':=mB HR hb;have HO':=mB HO hb;have HB':=mT HB hb
 have HZ':Hi (w.heap.size+3<=w2.heap.size):=h_ (by have:=HZ.u;have:=hb.size;omega)
 replace HM0:=h_ (HM0.u.mono hb)
 replace HF0:=h_ (HF0.u.mono hb HF0.u.lt)
 rw[hG2]at hP hbk⊢
 have HM1:=h_ hP
 have HF1:=h_ hbk
 clear hP hbk hb hG2 HK HR HO HB HZ
 obtain⟨x0,x1,x2,x3⟩:=quad HK'.u
 obtain⟨o0,o1,o2,o3⟩:=quad HO'.u
 have e3:=HO'.u.free 1
 go_wp2_with fail
 have HK:=h_ (HK'.u.other (.slice (some ⟨G2,0,none⟩) m.P.length m.P.length) (a:=⟨w.heap.size+2,1,none⟩) (by simp));have HR:=h_ (HR'.u.other (.slice (some ⟨G2,0,none⟩) m.P.length m.P.length) (a:=⟨w.heap.size+2,1,none⟩) (by simp));have HO:=h_ (HO'.u.set 1 (.slice (some ⟨G2,0,none⟩) m.P.length m.P.length));have HB:=h_ (HB'.u.setCell (p:=⟨w.heap.size+2,1,none⟩) (show w.heap.size<=w.heap.size+2 by omega) (.slice (some ⟨G2,0,none⟩) m.P.length m.P.length))
 have HZ:Hi (w.heap.size+3<=(w2.setCell ⟨w.heap.size+2,1,none⟩ (.slice (some ⟨G2,0,none⟩) m.P.length m.P.length)).heap.size):=h_ (by simpa using HZ'.u)
 replace HM0:=h_ (qep HM0.u (heap_setCell_other w2 ⟨w.heap.size+2,1,none⟩ G1 (.slice (some ⟨G2,0,none⟩) m.P.length m.P.length) (by simp;omega)) (by simp))
 replace HF0:=h_ (HF0.u.keep (heap_setCell_other w2 ⟨w.heap.size+2,1,none⟩ G1 (.slice (some ⟨G2,0,none⟩) m.P.length m.P.length) (by simp;omega)))
 replace HM1:=h_ (qhz HM1.u (heap_setCell_other w2 ⟨w.heap.size+2,1,none⟩ G2 (.slice (some ⟨G2,0,none⟩) m.P.length m.P.length) (by simp;omega)) (by simp))
 replace HF1:=h_ (HF1.u.keep (heap_setCell_other w2 ⟨w.heap.size+2,1,none⟩ G2 (.slice (some ⟨G2,0,none⟩) m.P.length m.P.length) (by simp;omega)))
 obtain⟨V2,hV2⟩:∃V,(w2.setCell ⟨w.heap.size+2,1,none⟩ (.slice (some ⟨G2,0,none⟩) m.P.length m.P.length))=V:=⟨_,rfl⟩
 rw[hV2]at HK HR HO HB HZ HM0 HM1 HF0 HF1
 simp only[Yx,Y2]at HO
 try rw[hV2]
 clear hV2 HK' HR' HO' HB' HZ' x0 x1 x2 x3 o0 o1 o2 o3 e3
 refine(qax ar m.R arc V2 (HA.u.mono HB.u).r HN.u.r).mono ?_
 rintro e w3 ⟨rfl,hP,hbk,hb⟩
 obtain⟨G3,hG3⟩:∃G,V2.heap.size=G:=⟨_,rfl⟩
 have hgG3:w.heap.size+3<=G3:=by have:=HZ.u;omega
 have HK':=mB HK hb;have HR':=mB HR hb;have HO':=mB HO hb;have HB':=mT HB hb
 have HZ':Hi (w.heap.size+3<=w3.heap.size):=h_ (by have:=HZ.u;have:=hb.size;omega)
 replace HM0:=h_ (HM0.u.mono hb)
 replace HF0:=h_ (HF0.u.mono hb HF0.u.lt)
 replace HM1:=h_ (HM1.u.mono hb)
 replace HF1:=h_ (HF1.u.mono hb HF1.u.lt)
 rw[hG3]at hP hbk⊢
 have HM2:=h_ hP
 have HF2:=h_ hbk
 clear hP hbk hb hG3 HK HR HO HB HZ
 obtain⟨x0,x1,x2,x3⟩:=quad HK'.u
 obtain⟨o0,o1,o2,o3⟩:=quad HO'.u
 have e3:=HO'.u.free 2
 go_wp2_with fail
 have HK:=h_ (HK'.u.other (.slice (some ⟨G3,0,none⟩) m.R.length m.R.length) (a:=⟨w.heap.size+2,2,none⟩) (by simp));have HR:=h_ (HR'.u.other (.slice (some ⟨G3,0,none⟩) m.R.length m.R.length) (a:=⟨w.heap.size+2,2,none⟩) (by simp));have HO:=h_ (HO'.u.set 2 (.slice (some ⟨G3,0,none⟩) m.R.length m.R.length));have HB:=h_ (HB'.u.setCell (p:=⟨w.heap.size+2,2,none⟩) (show w.heap.size<=w.heap.size+2 by omega) (.slice (some ⟨G3,0,none⟩) m.R.length m.R.length))
 have HZ:Hi (w.heap.size+3<=(w3.setCell ⟨w.heap.size+2,2,none⟩ (.slice (some ⟨G3,0,none⟩) m.R.length m.R.length)).heap.size):=h_ (by simpa using HZ'.u)
 replace HM0:=h_ (qep HM0.u (heap_setCell_other w3 ⟨w.heap.size+2,2,none⟩ G1 (.slice (some ⟨G3,0,none⟩) m.R.length m.R.length) (by simp;omega)) (by simp))
 replace HF0:=h_ (HF0.u.keep (heap_setCell_other w3 ⟨w.heap.size+2,2,none⟩ G1 (.slice (some ⟨G3,0,none⟩) m.R.length m.R.length) (by simp;omega)))
 replace HM1:=h_ (qhz HM1.u (heap_setCell_other w3 ⟨w.heap.size+2,2,none⟩ G2 (.slice (some ⟨G3,0,none⟩) m.R.length m.R.length) (by simp;omega)) (by simp))
 replace HF1:=h_ (HF1.u.keep (heap_setCell_other w3 ⟨w.heap.size+2,2,none⟩ G2 (.slice (some ⟨G3,0,none⟩) m.R.length m.R.length) (by simp;omega)))
 replace HM2:=h_ (qie HM2.u (heap_setCell_other w3 ⟨w.heap.size+2,2,none⟩ G3 (.slice (some ⟨G3,0,none⟩) m.R.length m.R.length) (by simp;omega)) (by simp))
 replace HF2:=h_ (HF2.u.keep (heap_setCell_other w3 ⟨w.heap.size+2,2,none⟩ G3 (.slice (some ⟨G3,0,none⟩) m.R.length m.R.length) (by simp;omega)))
 obtain⟨V3,hV3⟩:∃V,(w3.setCell ⟨w.heap.size+2,2,none⟩ (.slice (some ⟨G3,0,none⟩) m.R.length m.R.length))=V:=⟨_,rfl⟩
 rw[hV3]at HK HR HO HB HZ HM0 HM1 HM2 HF0 HF1 HF2
 simp only[Yx,Y2]at HO
 try rw[hV3]
 clear hV3 HK' HR' HO' HB' HZ' x0 x1 x2 x3 o0 o1 o2 o3 e3
 refine(q7n af m.F afa afc V3 (HA.u.mono HB.u).f HN.u.f HN.u.s).mono ?_
 rintro e w4 ⟨AF,rfl,hP,hcap,hbk,hb⟩
 obtain⟨G4,hG4⟩:∃G,V3.heap.size=G:=⟨_,rfl⟩
 have hgG4:w.heap.size+3<=G4:=by have:=HZ.u;omega
 have hlt1:G1<G4:=by have:=HF0.u.lt;omega
 have hlt2:G2<G4:=by have:=HF1.u.lt;omega
 have hlt3:G3<G4:=by have:=HF2.u.lt;omega
 have HK':=mB HK hb;have HR':=mB HR hb;have HO':=mB HO hb;have HB':=mT HB hb
 have HZ':Hi (w.heap.size+3<=w4.heap.size):=h_ (by have:=HZ.u;have:=hb.size;omega)
 replace HM0:=h_ (HM0.u.mono hb)
 replace HF0:=h_ (HF0.u.mono hb HF0.u.lt)
 replace HM1:=h_ (HM1.u.mono hb)
 replace HF1:=h_ (HF1.u.mono hb HF1.u.lt)
 replace HM2:=h_ (HM2.u.mono hb)
 replace HF2:=h_ (HF2.u.mono hb HF2.u.lt)
 rw[hG4]at hP hbk⊢
 rw[hG4]at hcap
 have HCap:=h_ hcap
 clear hcap
 have HM3:=h_ hP
 have HF3:=h_ hbk
 clear hP hbk hb hG4 HK HR HO HB HZ
 obtain⟨x0,x1,x2,x3⟩:=quad HK'.u
 obtain⟨o0,o1,o2,o3⟩:=quad HO'.u
 have e3:=HO'.u.free 3
 obtain⟨r0,r1,r2,r3⟩:=quad HR'.u
 have s0:=HR'.u.free 0;have s1:=HR'.u.free 1;have s2:=HR'.u.free 2;have s3:=HR'.u.free 3
 have HF:Hi (∀(W:World),(∀G,w.heap.size+3<=G->W.heap[G]? = w4.heap[G]?)->W.heap.size=w4.heap.size->MSl W m ⟨some ⟨G1,0,none⟩,m.L.length,some ⟨G2,0,none⟩,m.P.length,some ⟨G3,0,none⟩,m.R.length,some ⟨G4,0,none⟩,m.F.length,AF⟩):=h_ fun W hW hz=>⟨qep HM0.u (hW _ hgG1) hz,qhz HM1.u (hW _ hgG2) hz,qie HM2.u (hW _ hgG3) hz,qcq (N:=G4) HM3.u (nR _) (fun k hk=>by
  obtain⟨g1,g2,g3,g4,g5,e1,e2,e3,e4,e5,l1,l2,l3,l4,l5⟩:=(HCap.u k hk).2.1;exact⟨g1,g2,g3,g4,g5,e1,e2,e3,e4,e5,by omega,by omega,by omega,by omega,by omega⟩) (fun G hG=>hW G (by omega)) hz⟩
 go_wp2_with fail
 refine bodyPost_ret (v:=.agg #[.slice (some ⟨G1,0,none⟩) m.L.length m.L.length,.slice (some ⟨G2,0,none⟩) m.P.length m.P.length,.slice (some ⟨G3,0,none⟩) m.R.length m.R.length,.slice (some ⟨G4,0,none⟩) m.F.length m.F.length]) (by simp[results,Tryz.results6,go_sem, *]) rfl ⟨⟨some ⟨G1,0,none⟩,m.L.length,some ⟨G2,0,none⟩,m.P.length,some ⟨G3,0,none⟩,m.R.length,some ⟨G4,0,none⟩,m.F.length,AF⟩,rfl,?_,fun k hk=>(HCap.u k hk).1,?_,?_⟩
 . refine HF.u _ (fun G hG=>?_) (by simp)
   repeat rw[heap_setCell_other _ _ _ _ (by simp;omega)]
 . have hk:∀(W:World),(∀G,w.heap.size+3<=G->W.heap[G]? = w4.heap[G]?)->MBk w.heap.size W m ⟨some ⟨G1,0,none⟩,m.L.length,some ⟨G2,0,none⟩,m.P.length,some ⟨G3,0,none⟩,m.R.length,some ⟨G4,0,none⟩,m.F.length,AF⟩:=fun W hW=>⟨G1,G2,G3,G4,rfl,rfl,rfl,rfl,⟨by omega,by omega,by omega,by omega⟩,⟨hlt1,hlt2,hlt3⟩,HF0.u.keep (hW _ hgG1),HF1.u.keep (hW _ hgG2),HF2.u.keep (hW _ hgG3),HF3.u.keep (hW _ hgG4),fun k hk=>(HCap.u k hk).2.2.keep fun G hG _=>hW G (by omega)⟩
   refine hk _ (fun G hG=>?_)
   repeat rw[heap_setCell_other _ _ _ _ (by simp;omega)]
 . repeat refine Below.setCell ?_ (by simp;try omega) _
   exact HB'.u
theorem q8g (m:Fm)(A A2:MA)(w:World)(hf:Sm m)(ha:MSl w m A)(hb:MSl w m A2) :
 Calls Tryz.prog 9 #[mV m A,mV m A2] w fun r w'=>r=.returned (.bool true)/\Below w.heap.size w w':=by
 obtain⟨al,alc,ap,apc,ar,arc,af,afc,afa⟩:=A
 obtain⟨bl,blc,bp,bpc,br,brc,bf,bfc,bfa⟩:=A2
 unfold mV
 dsimp only
 have HK:=h_ ((Blk.new w 36 (Jb al m alc ap apc ar arc af afc)).alloc (.cells (Jb bl m blc bp bpc br brc bf bfc) 36))
 have HK2:=h_ (Blk.new (w.alloc (.cells (Jb al m alc ap apc ar arc af afc) 36)) 36 (Jb bl m blc bp bpc br brc bf bfc))
 rw[Yk]at HK2
 have HB:=h_ (((bR w.heap.size w).alloc (nR _) (.cells (Jb al m alc ap apc ar arc af afc) 36)).alloc (by simp) (.cells (Jb bl m blc bp bpc br brc bf bfc) 36))
 obtain⟨W0,hW0⟩:=Nq ((w.alloc (.cells (Jb al m alc ap apc ar arc af afc) 36)).alloc (.cells (Jb bl m blc bp bpc br brc bf bfc) 36))
 rw[hW0]at HK HK2 HB
 have HS:=h_ (ha.mono HB.u);have HS2:=h_ (hb.mono HB.u);have HF:=h_ hf
 clear ha hf hb
 obtain⟨x0,x1,x2,x3⟩:=quad HK.u
 obtain⟨y0,y1,y2,y3⟩:=quad HK2.u
 go_enter Tryz.func9,Tryz.ntmps9
 go_wp2_with fail
 try rw[hW0]
 refine(q1j al bl m.L alc blc W0 HF.u.l HS.u.l HS2.u.l).mono ?_
 rintro r W1 ⟨rfl,hb⟩
 replace HK:=mB HK hb;replace HK2:=mB HK2 hb;replace HS:=h_ (HS.u.mono hb);replace HS2:=h_ (HS2.u.mono hb);replace HB:=mT HB hb
 clear hW0 hb x0 x1 x2 x3 y0 y1 y2 y3
 obtain⟨x0,x1,x2,x3⟩:=quad HK.u
 obtain⟨y0,y1,y2,y3⟩:=quad HK2.u
 go_wp2_with fail
 refine(q3o ap bp m.P apc bpc W1 HF.u.p HS.u.p HS2.u.p).mono ?_
 rintro r W2 ⟨rfl,hb⟩
 replace HK:=mB HK hb;replace HK2:=mB HK2 hb;replace HS:=h_ (HS.u.mono hb);replace HS2:=h_ (HS2.u.mono hb);replace HB:=mT HB hb
 clear hb x0 x1 x2 x3 y0 y1 y2 y3
 obtain⟨x0,x1,x2,x3⟩:=quad HK.u
 obtain⟨y0,y1,y2,y3⟩:=quad HK2.u
 go_wp2_with fail
 refine(q3p ar br m.R arc brc W2 HF.u.r HS.u.r HS2.u.r).mono ?_
 rintro r W3 ⟨rfl,hb⟩
 replace HK:=mB HK hb;replace HK2:=mB HK2 hb;replace HS:=h_ (HS.u.mono hb);replace HS2:=h_ (HS2.u.mono hb);replace HB:=mT HB hb
 clear hb x0 x1 x2 x3 y0 y1 y2 y3
 obtain⟨x0,x1,x2,x3⟩:=quad HK.u
 obtain⟨y0,y1,y2,y3⟩:=quad HK2.u
 go_wp2_with fail
 refine(q3m af bf m.F afa bfa afc bfc W3 HF.u.f HF.u.s HS.u.f HS2.u.f).mono ?_
 rintro r W4 ⟨rfl,hb⟩
 replace HK:=mB HK hb;replace HK2:=mB HK2 hb;replace HS:=h_ (HS.u.mono hb);replace HS2:=h_ (HS2.u.mono hb);replace HB:=mT HB hb
 clear hb x0 x1 x2 x3 y0 y1 y2 y3
 obtain⟨x0,x1,x2,x3⟩:=quad HK.u
 obtain⟨y0,y1,y2,y3⟩:=quad HK2.u
 go_wp2_with fail
 go_ret
 exact⟨rfl,HB.u⟩
def SC (w:World)(g:Nat)(l:List Fl)(AF:Nat->FA):Prop:=∀j (h:j<l.length),w.cell? ⟨g,j*9+3,none⟩=some (.slice (AF j).b l[j].bys.length (AF j).bc)/\w.cell? ⟨g,j*9+4,none⟩=some (.slice (AF j).i l[j].is.length (AF j).ic)/\w.cell? ⟨g,j*9+5,none⟩=some (.slice (AF j).h l[j].wh.length (AF j).hc)/\w.cell? ⟨g,j*9+6,none⟩=some (.slice (AF j).v l[j].va.length (AF j).vc)/\w.cell? ⟨g,j*9+8,none⟩=some (.slice (AF j).u l[j].mu.length (AF j).uc)
theorem SC.keep {w w':World}{g:Nat}{l:List Fl}{AF:Nat->FA}(h:SC w g l AF)(hk:w'.heap[g]? = w.heap[g]?):SC w' g l AF:=fun j hj=>by
 obtain⟨h3,h4,h5,h6,h8⟩:=h j hj
 exact⟨(World.cell?_of_block (a:=⟨g,j*9+3,none⟩) hk).trans h3,(World.cell?_of_block (a:=⟨g,j*9+4,none⟩) hk).trans h4,(World.cell?_of_block (a:=⟨g,j*9+5,none⟩) hk).trans h5,(World.cell?_of_block (a:=⟨g,j*9+6,none⟩) hk).trans h6,(World.cell?_of_block (a:=⟨g,j*9+8,none⟩) hk).trans h8⟩
theorem SC.set {w:World}{g:Nat}{t:TypeId}{n:Nat}{l:List Fl}{AF:Nat->FA}(h:SC w g l AF)(hb:Bk w g t n){p:Nat}(hp:∀j,p≠j*9+3/\p≠j*9+4/\p≠j*9+5/\p≠j*9+6/\p≠j*9+8)(v:Value):SC (w.setCell ⟨g,p,none⟩ v) g l AF:=fun j hj=>by
 obtain⟨h3,h4,h5,h6,h8⟩:=h j hj
 obtain⟨n3,n4,n5,n6,n8⟩:=hp j
 exact⟨(hb.cell_ne n3 v).trans h3,(hb.cell_ne n4 v).trans h4,(hb.cell_ne n5 v).trans h5,(hb.cell_ne n6 v).trans h6,(hb.cell_ne n8 v).trans h8⟩
structure MkS (g hi:Nat)(l:List Fl)(AF:Nat->FA)(w W:World):Prop where
 m:MkL g hi w W
 s:SC W g l AF
theorem MkS.below {g hi:Nat}{l:List Fl}{AF:Nat->FA}{w W W':World}(h:MkS g hi l AF w W)(hg:g<W.heap.size)(hb:Below W.heap.size W W'):MkS g hi l AF w W':=⟨h.m.trans (MkL.below hb),h.s.keep (hb.block g hg)⟩
theorem MkS.set {g hi:Nat}{l:List Fl}{AF:Nat->FA}{w W:World}{t:TypeId}{n:Nat}(h:MkS g hi l AF w W)(hb:Bk W g t n)(hh:g<hi){p:Nat}(hp:∀j,p≠j*9+3/\p≠j*9+4/\p≠j*9+5/\p≠j*9+6/\p≠j*9+8)(v:Value):MkS g hi l AF w (W.setCell ⟨g,p,none⟩ v):=⟨h.m.trans (MkL.set p v (nR _) hh),h.s.set hb hp v⟩
theorem MkS.mk' {g hi:Nat}{l:List Fl}{AF:Nat->FA}{w W W':World}(h:MkS g hi l AF w W)(hg:g<W.heap.size)(hm:MkL (g+1) hi W W'):MkS g hi l AF w W':=⟨h.m.trans (hm.lower (Vg _)),h.s.keep (hm.out.block g hg (by omega))⟩
theorem q2w (g c k hi B:Nat)(l:List Fl)(AF:Nat->FA)(w0 w:World)(hB:B=30000000)(hn:l.length<=1048576)(hk:k+l.length*B<=4611686018427387904)(hz:w0.heap.size=hi)(hbk:∀g t n,Bk w0 g t n->Bk w g t n)(h4:Bk w0 g 88 (l.length*9))(hc:SC w g l AF)(hf:∀j (h:j<l.length),FBk (g+1) w0 l[j] (AF j))(hs:∀x,x∈l->SmF x) :
 Calls Tryz.prog 35 #[.slice (some ⟨g,0,none⟩) l.length c,J6 k] w fun r w'=>∃k':Nat,r=.returned (J6 k')/\k'<=k+l.length*B/\MkL g hi w w':=by
 have hh:g<hi:=by have:=h4.lt;omega
 have HBq:=h_ hB
 clear hB
 have HBk:=h_ hbk;have H4:=h_ h4;have HC:=h_ hc;have HF:=h_ hf;have HS:=h_ hs
 clear hbk h4 hc hf hs
 go_enter Tryz.func35,Tryz.ntmps35
 go_wp2_with fail
 go_loopw [1,5] (fun q v wr=>∃i q':Nat,i<=l.length/\v=J6 i/\q=J6 (q':Int)/\q'<=k+i*B/\MkS g hi l AF w wr) (fun _ v _=>l.length - (intOf v).toNat)
 case atStart=>exact⟨0,k,nZ _,rfl,rfl,by simp,⟨MkL.refl _ _ _,HC.u⟩⟩
 case round =>
  clear HC;obtain⟨i,q,hil,rfl,rfl,hqk,hm⟩:=hrel;have HM:=h_ hm;clear hm;by_cases hlt:i<l.length
  . have hlt':(i:Int)<l.length:=by omega
    have HQe:Hi (∀q':Nat,q'<=q+30000000->q'<=k+(i+1)*B):=h_ fun q' h=>by have:=HBq.u;rw[Zx];omega
    have hq0:q+30000000<=4611686018427387904:=by
     have:(i+1)*B<=l.length*B:=Vd _ (by omega);rw[Zx]at this;have:=HBq.u;omega
    have hq':(q:Int)+30000000<=4611686018427387904:=(by omega);clear hqk hk;have hsm:=HS.u _ (Ye hlt);have m1:=hsm.b;have m2:=hsm.i;have m3:=hsm.h;have m4:=hsm.v;have m5:=hsm.u;obtain⟨g1,g2,g3,g4,g5,e1,e2,e3,e4,e5,⟨l1,l2,l3,l4,l5⟩,b1,b2,b3,b4,b5⟩:=HF.u i hlt;have hg1:=b1.lt;have hg2:=b2.lt;have hg3:=b3.lt;have hg4:=b4.lt;have hg5:=b5.lt;rw[hz]at hg1 hg2 hg3 hg4 hg5;have HK1:Hi (∀W,MkL g hi w W->Bk W g1 3 l[i].bys.length/\Bk W g2 172 (l[i].is.length*5)/\Bk W g3 172 (l[i].wh.length*5)/\Bk W g4 172 (l[i].va.length*5)/\Bk W g5 172 (l[i].mu.length*5)/\Bk W g 88 (l.length*9)):=h_ fun W h=>⟨h.bk _ _ _ (HBk.u _ _ _ b1),h.bk _ _ _ (HBk.u _ _ _ b2),h.bk _ _ _ (HBk.u _ _ _ b3),h.bk _ _ _ (HBk.u _ _ _ b4),h.bk _ _ _ (HBk.u _ _ _ b5),h.bk _ _ _ (HBk.u _ _ _ H4.u)⟩;have HK2:Hi (∀W,MkS g hi l AF w W->W.cell? ⟨g,i*9+3,none⟩=some (.slice (some ⟨g1,0,none⟩) l[i].bys.length (AF i).bc)/\W.cell? ⟨g,i*9+4,none⟩=some (.slice (some ⟨g2,0,none⟩) l[i].is.length (AF i).ic)/\W.cell? ⟨g,i*9+5,none⟩=some (.slice (some ⟨g3,0,none⟩) l[i].wh.length (AF i).hc)/\W.cell? ⟨g,i*9+6,none⟩=some (.slice (some ⟨g4,0,none⟩) l[i].va.length (AF i).vc)/\W.cell? ⟨g,i*9+8,none⟩=some (.slice (some ⟨g5,0,none⟩) l[i].mu.length (AF i).uc)):=h_ fun W h=>by
     have:=h.s i hlt;rw[e1,e2,e3,e4,e5]at this;exact this
    generalize l[i].bys.length=n1 at *;generalize l[i].is.length=n2 at *;generalize l[i].wh.length=n3 at *;generalize l[i].va.length=n4 at *;generalize l[i].mu.length=n5 at *;generalize (AF i).bc=c1 at *;generalize (AF i).ic=c2 at *;generalize (AF i).hc=c3 at *;generalize (AF i).vc=c4 at *;generalize (AF i).uc=c5 at *;clear e1 e2 e3 e4 e5 b1 b2 b3 b4 b5 hsm;go_wp2_with fail;refine(q4h q wr (by omega)).mono ?_;rintro e W1 ⟨s,rfl,hb1⟩;have HB0:=h_ (HK1.u _ HM.u.m).2.2.2.2.2;have HM1:=h_ (HM.u.below HB0.u.lt hb1);have HB1:=h_ (HB0.u.mono hb1 HB0.u.lt);clear hb1 HM HB0;obtain⟨u0,c0'⟩:=HB1.u.cell (show i*9<l.length*9 by omega);obtain⟨u1,c1'⟩:=HB1.u.cell (show i*9+1<l.length*9 by omega);obtain⟨u2,c2'⟩:=HB1.u.cell (show i*9+2<l.length*9 by omega);have f0:=HB1.u.free (i*9);have f1:=HB1.u.free (i*9+1);have f2:=HB1.u.free (i*9+2);have HM2:=h_ (((HM1.u.set HB1.u hh (p:=i*9) (fun j=>by omega) (.string s)).set (HB1.u.set (i*9) (.string s)) hh (p:=i*9+1) (fun j=>by omega) (J6 ((q:Int)+1))).set ((HB1.u.set (i*9) (.string s)).set (i*9+1) (J6 ((q:Int)+1))) hh (p:=i*9+2) (fun j=>by omega) (J6 ((q:Int)+1+1)));obtain⟨W2,hW2⟩:=Nq (((W1.setCell ⟨g,i*9,none⟩ (.string s)).setCell ⟨g,i*9+1,none⟩ (J6 ((q:Int)+1))).setCell ⟨g,i*9+2,none⟩ (J6 ((q:Int)+1+1)));rw[hW2]at HM2;obtain⟨d3,d4,d5,d6,d8⟩:=HK2.u _ HM2.u;have HT:=h_ (q6r g1 n1 c1 (q+1+1+1) (g+1) hi W2 (by omega) (HK1.u _ HM2.u.m).1 (by omega) (by omega));obtain⟨p1,hp1⟩:=Nq (q+1+1+1+n1);rw[hp1]at HT;simp only[Og,Zq]at HT;clear d4 d5 d6 d8;go_wp2_with fail
    try rw[hW2]
    refine HT.u.mono ?_;rintro e W3 ⟨rfl,hm3⟩;have HM3:=h_ (HM2.u.mk' (HK1.u _ HM2.u.m).2.2.2.2.2.lt hm3);clear hm3 HT hW2 d3 c0' c1' c2' f0 f1 f2 HM2 HM1 HB1;obtain⟨d3,d4,d5,d6,d8⟩:=HK2.u _ HM3.u;have HT:=h_ (q4e g2 n2 c2 p1 (g+1) hi W3 (by omega) (HK1.u _ HM3.u.m).2.1 (by omega) (by omega));obtain⟨p2,hp2⟩:∃p,p1+n2*5=p:=⟨_,rfl⟩;rw[hp2]at HT;go_wp2_with fail;refine HT.u.mono ?_;rintro e W4 ⟨rfl,hm3⟩;have HM4:=h_ (HM3.u.mk' (HK1.u _ HM3.u.m).2.2.2.2.2.lt hm3);clear hm3 HT d3 d4 d5 d6 d8 HM3;obtain⟨d3,d4,d5,d6,d8⟩:=HK2.u _ HM4.u;have HT:=h_ (q4e g3 n3 c3 p2 (g+1) hi W4 (by omega) (HK1.u _ HM4.u.m).2.2.1 (by omega) (by omega));obtain⟨p3,hp3⟩:∃p,p2+n3*5=p:=⟨_,rfl⟩;rw[hp3]at HT;go_wp2_with fail;refine HT.u.mono ?_;rintro e W5 ⟨rfl,hm3⟩;have HM5:=h_ (HM4.u.mk' (HK1.u _ HM4.u.m).2.2.2.2.2.lt hm3);clear hm3 HT d3 d4 d5 d6 d8 HM4;obtain⟨d3,d4,d5,d6,d8⟩:=HK2.u _ HM5.u;have HT:=h_ (q4e g4 n4 c4 p3 (g+1) hi W5 (by omega) (HK1.u _ HM5.u.m).2.2.2.1 (by omega) (by omega));obtain⟨p4,hp4⟩:∃p,p3+n4*5=p:=⟨_,rfl⟩;rw[hp4]at HT;go_wp2_with fail;refine HT.u.mono ?_;rintro e W6 ⟨rfl,hm3⟩;have HM6:=h_ (HM5.u.mk' (HK1.u _ HM5.u.m).2.2.2.2.2.lt hm3);clear hm3 HT d3 d4 d5 d6 d8 HM5;have hp4':(p4:Int)<=4611686018427387904 - 5300000:=(by omega);go_wp2_with fail;refine(q4h p4 W6 (by omega)).mono ?_;rintro e W7 ⟨s2,rfl,hb7⟩;have HB6:=h_ (HK1.u _ HM6.u.m).2.2.2.2.2;have HM7:=h_ (HM6.u.below HB6.u.lt hb7);have HB7:=h_ (HB6.u.mono hb7 HB6.u.lt);clear hb7 HM6 HB6;obtain⟨u7,c7'⟩:=HB7.u.cell (show i*9+7<l.length*9 by omega);have f7:=HB7.u.free (i*9+7);have HM8:=h_ (HM7.u.set HB7.u hh (p:=i*9+7) (fun j=>by omega) (.string s2));obtain⟨W8,hW8⟩:=Nq (W7.setCell ⟨g,i*9+7,none⟩ (.string s2));rw[hW8]at HM8;obtain⟨d3,d4,d5,d6,d8⟩:=HK2.u _ HM8.u;have HT:=h_ (q4e g5 n5 c5 (p4+1) (g+1) hi W8 (by omega) (HK1.u _ HM8.u.m).2.2.2.2.1 (by omega) (by omega));obtain⟨p5,hp5⟩:∃p,p4+1+n5*5=p:=⟨_,rfl⟩;rw[hp5]at HT;simp only[Og,Zq]at HT;clear d3 d4 d5 d6;go_wp2_with fail
    try rw[hW8]
    refine HT.u.mono ?_;rintro e W9 ⟨rfl,hm3⟩;have HM9:=h_ (HM8.u.mk' (HK1.u _ HM8.u.m).2.2.2.2.2.lt hm3);have HQ9:=h_ (HQe.u p5 (by omega));clear hm3 HT hW8 d8 c7' f7 HM8 HM7 HB7;go_wp2_with fail;go_roundw
    case rel=>first | exact⟨i+1,p5,by omega,by go_num,rfl,HQ9.u,HM9.u⟩ | ((repeat apply Exists.intro);exact⟨⟨i+1,p5,by omega,by go_num,rfl,HQ9.u,HM9.u⟩,rfl⟩)
    case measure=>simp[intOf];omega
  . obtain rfl:i=l.length:=by omega
    have hlt':¬ (l.length:Int)<(l.length:Int):=(by omega);go_wp2_with fail;go_ret;exact⟨q,rfl,hqk,HM.u.m⟩
theorem MkL.raise {lo hi hi':Nat}{W W':World}(h:MkL lo hi W W')(hh:hi<=hi'):MkL lo hi' W W':=⟨⟨h.out.os,h.out.tape,h.out.output,h.out.size,fun b hb hn=>h.out.block b hb (fun c=>hn ⟨c.1,by omega⟩)⟩,h.bk⟩
theorem sc_of {w:World}{g:Nat}{l:List Fl}{AF:Nat->FA}(h:Flds w (some ⟨g,0,none⟩) l AF):SC w g l AF:=fun j hj=>by
 obtain⟨b,o,e,⟨-,-,-,-,h3,h4,h5,h6,-,h8⟩,-⟩:=h j hj
 cases e
 simp only[Y7]at h3 h4 h5 h6 h8
 exact⟨h3,h4,h5,h6,h8⟩
theorem q6q (m:Fm)(A:MA)(lo hi:Nat)(w0 w:World)(hn:Sm m)(hz:w0.heap.size=hi)(hM:MBk lo w0 m A)(hbk:∀g t n,Bk w0 g t n->Bk w g t n)(hs:MSl w m A) :
 Calls Tryz.prog 10 #[mV m A,J6 1] w fun r w'=>∃k':Nat,r=.returned (J6 k')/\k'<=1152921504606846976/\MkL lo hi w w':=by
 obtain⟨al,alc,ap,apc,ar,arc,af,afc,afa⟩:=A
 obtain⟨g1,g2,g3,g4,e1,e2,e3,e4,⟨l1,l2,l3,l4⟩,⟨t1,t2,t3⟩,b1,b2,b3,b4,hf⟩:=hM
 dsimp only at e1 e2 e3 e4 hf
 subst e1 e2 e3 e4
 have hSC:=sc_of hs.f
 dsimp only at hSC
 have hg4:g4<hi:=by have:=b4.lt;omega
 have m1:=hn.l;have m2:=hn.p;have m3:=hn.r;have m4:=hn.f
 have HSm:=h_ hn.s;have HSC:=h_ hSC;have HF:=h_ hf
 have HK1:Hi (∀W,(∀g t n,Bk w g t n->Bk W g t n)->Bk W g1 9 m.L.length/\Bk W g2 95 (m.P.length*2)/\Bk W g3 85 (m.R.length*2)):=h_ fun W h=>⟨h _ _ _ (hbk _ _ _ b1),h _ _ _ (hbk _ _ _ b2),h _ _ _ (hbk _ _ _ b3)⟩
 have HBk:Hi (∀W,(∀g t n,Bk w g t n->Bk W g t n)->∀g t n,Bk w0 g t n->Bk W g t n):=h_ fun W h g t n hb=>h _ _ _ (hbk _ _ _ hb)
 have HB4:=h_ b4
 have hgw:g4<w.heap.size:=(hbk _ _ _ b4).lt
 clear hn hs hSC hf hbk b1 b2 b3 b4
 unfold mV
 dsimp only
 have HK:=h_ (Blk.new w 36 (#[.slice (some ⟨g1,0,none⟩) m.L.length alc,.slice (some ⟨g2,0,none⟩) m.P.length apc,.slice (some ⟨g3,0,none⟩) m.R.length arc,.slice (some ⟨g4,0,none⟩) m.F.length afc]))
 have HB:=h_ ((bR w.heap.size w).alloc (nR _) (.cells (#[.slice (some ⟨g1,0,none⟩) m.L.length alc,.slice (some ⟨g2,0,none⟩) m.P.length apc,.slice (some ⟨g3,0,none⟩) m.R.length arc,.slice (some ⟨g4,0,none⟩) m.F.length afc]) 36))
 obtain⟨W0,hW0⟩:=Nq (w.alloc (.cells (#[.slice (some ⟨g1,0,none⟩) m.L.length alc,.slice (some ⟨g2,0,none⟩) m.P.length apc,.slice (some ⟨g3,0,none⟩) m.R.length arc,.slice (some ⟨g4,0,none⟩) m.F.length afc]) 36))
 rw[hW0]at HK HB
 have HM:Hi (MkL lo g4 w W0):=h_ (MkL.below HB.u)
 have hgx:g4<w.heap.size:=hgw
 clear HB
 have HT:=h_ (q22 g1 m.L.length alc 1 lo g4 W0 (by omega) (HK1.u _ HM.u.bk).1 l1 t1)
 obtain⟨y0,y1,y2,y3⟩:=quad HK.u
 obtain⟨p1,hp1⟩:=Nq (1+m.L.length)
 rw[hp1]at HT
 simp only[Zq]at HT
 go_enter Tryz.func10,Tryz.ntmps10
 go_wp2_with fail
 try rw[hW0]
 refine HT.u.mono ?_
 rintro e W1 ⟨rfl,hm1⟩
 replace HK:=h_ (hm1.out.blk HK.u (by omega));replace HM:=h_ (HM.u.trans hm1)
 clear hm1 hW0 y0 y1 y2 y3 HT
 have HT:=h_ (q4f g2 m.P.length apc p1 lo g4 W1 (by omega) (HK1.u _ HM.u.bk).2.1 l2 t2)
 obtain⟨y0,y1,y2,y3⟩:=quad HK.u
 obtain⟨p2,hp2⟩:∃p,p1+m.P.length*2=p:=⟨_,rfl⟩
 rw[hp2]at HT
 go_wp2_with fail
 refine HT.u.mono ?_
 rintro e W2 ⟨rfl,hm1⟩
 replace HK:=h_ (hm1.out.blk HK.u (by omega));replace HM:=h_ (HM.u.trans hm1)
 clear hm1 y0 y1 y2 y3 HT
 have HT:=h_ (q4g g3 m.R.length arc p2 lo g4 W2 (by omega) (HK1.u _ HM.u.bk).2.2 l3 t3)
 obtain⟨y0,y1,y2,y3⟩:=quad HK.u
 obtain⟨p3,hp3⟩:∃p,p2+m.R.length*2=p:=⟨_,rfl⟩
 rw[hp3]at HT
 go_wp2_with fail
 refine HT.u.mono ?_
 rintro e W3 ⟨rfl,hm1⟩
 replace HK:=h_ (hm1.out.blk HK.u (by omega));replace HM:=h_ (HM.u.trans hm1)
 clear hm1 y0 y1 y2 y3 HT
 obtain⟨B,hB⟩:∃B,B=30000000:=⟨_,rfl⟩
 have hm:m.F.length*B<=31457280000000:=by rw[hB];omega
 have HT:=h_ (q2w g4 afc p3 hi B m.F afa w0 W3 hB m4 (by omega) hz (HBk.u _ HM.u.bk) HB4.u (HSC.u.keep (HM.u.out.block g4 hgw (by omega))) HF.u HSm.u)
 obtain⟨y0,y1,y2,y3⟩:=quad HK.u
 have hpq:p3+m.F.length*B<=1152921504606846976:=by omega
 clear hB
 generalize m.F.length*B=z at *
 go_wp2_with fail
 refine HT.u.mono ?_
 rintro e W4 ⟨k',rfl,hk',hm1⟩
 have HMf:Hi (MkL lo hi w W4):=h_ ((HM.u.raise (by omega)).trans (hm1.lower l4))
 clear hm1 y0 y1 y2 y3 HT
 go_wp2_with fail
 go_ret
 exact⟨k',rfl,by omega,HMf.u⟩
theorem qhp {w:World}{base c n i:Nat}{a:Option Addr}{xs:List Value}(h:w.ownsRow base 3 1 (.slice a n c) n xs)(hi:i<n):∃g,a=some ⟨g,0,none⟩/\base<=g/\g<w.heap.size:=by
 rcases h.2 with ⟨h1,h2⟩ | ⟨g,cap,cur,h1,hb,hg,r⟩
 . omega
 . cases h1
   exact⟨g,rfl,hb,(Yr.1 hg).1⟩
end Go.Proofs.YtgojgjlninakjaaGreatDoor
