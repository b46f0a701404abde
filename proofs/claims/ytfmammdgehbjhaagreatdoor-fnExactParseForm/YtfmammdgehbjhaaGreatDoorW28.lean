import Derived.Test.YtfmammdgehbjhaaGreatDoorW27
import Derived.Maps.Views
set_option maxRecDepth 100000
set_option maxHeartbeats 64000000
namespace Go.Proofs.YtfmammdgehbjhaaGreatDoor
open Go Go.RowKit
def MidS (w0:World)(a:Option Addr)(c:Nat)(l:List ByteArray)(w wx:World):Prop:=∃(x:Sx) (j:Nat) (k:Nat) (n:ByteArray) (t:Nat) (vl vr vi vh vv:Value) (sa:ByteArray) (vm:Value) (v:Value) (ns:List Nx),Blk wx (w.heap.size+1) 96 (psA k n t vl vr vi vh vv sa vm).toList/\PsV wx w.heap.size (.agg (psA k n t vl vr vi vh vv sa vm)) x/\Blk wx w.heap.size 96 zero13/\(pk l j=kSemi->PrtS l x)/\(pk l j≠kSemi->∀y,¬ PrtS l y)/\j<=2000000/\Rdr w0 a c l wx j 0 v ns
theorem qa8 (w:World)(base:Nat)(hb:base<=w.heap.size)(k:Nat)(n m:ByteArray)(vl:Value)(hl:OwnS w base vl (lbS ⟨k,n,m,false,0,[],ru0⟩)):PsV w base (.agg (psA (k - 1) (nmS ⟨k,n,m,false,0,[],ru0⟩) 0 vl Yb Yb Yb Yb ⟨#[]⟩ Yb)) ⟨k,n,m,false,0,[],ru0⟩:=
 ⟨vl,_,_,_,_,_,rfl,hl,qde _ _,qdc _ _,qdc _ _,qdc _ _,qdc _ _,⟨base,(fun q h=>by cases h),nR _,base,(fun q h=>by cases h),nR _,base,(fun q h=>by cases h),nR _,base,(fun q h=>by cases h),nR _,hb⟩⟩
theorem Rdr.row {w0:World}{a:Option Addr}{c:Nat}{l:List ByteArray}{W:World}{i d:Nat}{v:Value}{ns:List Nx}(h:Rdr w0 a c l W i d v ns){G:Nat}{cs:List Value}(hG:Blk W G 96 cs)(hg:w0.heap.size<G)(cells:Array Value):Rdr w0 a c l (W.setRow G cells) i d v ns :=
 ⟨h.blk.rowS_other (by omega) _,qi3 h.own hG (by decide) (rw_k W G cells),q8i h.bel (by omega) _⟩
theorem qe6 (w:World)(g:Nat)(cells:Array Value):(w.setRow g cells).heap.size=w.heap.size:=by simp[World.setRow]
theorem qdf (w:World)(x y:ByteArray):OwnS (w.alloc (.cells #[.string x,.string y] 9)) w.heap.size (.slice (some ⟨w.heap.size,0,none⟩) 2 2) [x,y] :=
 ⟨rfl,.inr ⟨w.heap.size,2,#[.string x,.string y],rfl,nR _,heap_alloc_new w (.cells #[.string x,.string y] 9),nR _,by unfold maxLen;omega,rfl,rfl⟩⟩
theorem q2m {w0:World}{a:Option Addr}{c:Nat}{l:List ByteArray}{w:World}{v:Value}{ns:List Nx}(hc:RC w0 a l)(hcl:l.length<=c)(hy:TyT w0)(hsm:Smi l)(h:Rdr w0 a c l w 0 0 v ns) :
 Calls Tryz.prog 59 #[Yd w0.heap.size 0] w (StO w0 w l):=by
 have hl:=hc.len
 have HC:=h_ hc;have HY:=h_ hy;have HSm:=h_ hsm
 have hRw:w0.heap.size<w.heap.size:=h.blk.lt
 have hb0:=((bR w.heap.size w).alloc (nR _) (.cells Jf 96)).alloc (by simp) (.cells Jf 96)
 have hk2:=(Blk.new w 96 Jf).alloc (.cells Jf 96)
 have hk3:=Blk.new (w.alloc (.cells Jf 96)) 96 Jf
 rw[Yy]at hk3
 obtain⟨W0,hW0⟩:=Nq ((w.alloc (.cells Jf 96)).alloc (.cells Jf 96))
 have hz0:w.heap.size+2<=W0.heap.size:=by rw[<- hW0];simp
 rw[hW0]at hb0 hk2 hk3
 have HT:=h_ (qjc (by omega) hc (h.mono hb0))
 have HB2:=h_ hk2;have HB3:=h_ hk3
 clear hc hy hsm h hb0 hk2 hk3
 go_enter Tryz.func59,Tryz.ntmps59
 go_upto_region 2 with fail
 try rw[hW0]
 clear hW0
 go_cut [5] from 4 (fun s wx=>s=.string (pk l 0)/\Rdr w0 a c l wx 1 0 v ns/\Kp w0.heap.size W0 wx)
 case first =>
  as_aux_lemma =>
   go_wp2_with fail;refine HT.u.mono ?_;rintro e W1 ⟨rfl,hr,hk⟩;go_wp2_with fail;go_meet;exact⟨rfl,hr,hk⟩
 obtain⟨rfl,hr,hk⟩:=hcut
 obtain⟨W1,hW1e⟩:∃W1,W1=wc:=⟨_,rfl⟩
 subst hW1e
 have HR:=h_ hr
 replace HB2:=h_ (hk.blk HB2.u (by omega));replace HB3:=h_ (hk.blk HB3.u (by omega))
 have hW1:=Yt hz0 hk.size
 clear hr hk HT
 rename_i hK0
 refine hK0 _ _ ?_
 clear hK0
 go_cut [] from 4 (fun wx=>MidS w0 a c l w wx)
 case first =>
  as_aux_lemma =>
   have q1:=eqT (pk l 0) ⟨#[108,97,98,101,108]⟩;rw[show(⟨#[108,97,98,101,108]⟩:ByteArray).toList=[108,97,98,101,108] by first | rfl | decide | simp]at q1;have q2:=eqT (pk l 0) ⟨#[98,101,108,111,119]⟩;rw[show(⟨#[98,101,108,111,119]⟩:ByteArray).toList=[98,101,108,111,119] by first | rfl | decide | simp]at q2;have q3:=eqT (pk l 0) ⟨#[114,111,108,101]⟩;rw[show(⟨#[114,111,108,101]⟩:ByteArray).toList=[114,111,108,101] by first | rfl | decide | simp]at q3;have q4:=eqT (pk l 0) ⟨#[102,105,101,108,100]⟩;rw[show(⟨#[102,105,101,108,100]⟩:ByteArray).toList=[102,105,101,108,100] by first | rfl | decide | simp]at q4;obtain⟨t,ht⟩:=Nq (pk l 0);rw[ht]at q1 q2 q3 q4⊢;by_cases h1:t=⟨#[108,97,98,101,108]⟩
   . rw[Yh h1]at q1
     have H0:Hi (pk l 0=kLabel):=h_ (ht.trans h1);clear q2 q3 q4 h1 ht
     as_aux_lemma =>
      have HN:=h_ (qcz (by omega) HC.u HR.u);go_wp2_with fail;refine HN.u.mono ?_;rintro e W2 (⟨hg,rfl,hr,hk⟩ | ⟨hg,rfl,hb⟩)
      case inr=>exact⟨rfl,.inr ⟨(fun y hp=>by
       rcases hp.parts with ⟨-,h,-⟩ | ⟨e,-⟩ | ⟨e,-⟩ | ⟨e,-⟩
       . rw[hg]at h;cases h
       all_goals rw[H0.u]at e;exact absurd e (by decide)),rfl,hb⟩⟩
      replace HB2:=h_ (hk.blk HB2.u (by omega));replace HB3:=h_ (hk.blk HB3.u (by omega));have hs2:=Yt hW1 hk.size;have HX:Hi (MidS w0 a c l w (W2.setRow (w.heap.size+1) #[Ya 0,.string (pk l 1),Yb,Yb,Yc,Ya 0,Ya 0,Yb,Yb,Yb,Yb,Yc,Yb])):=h_ ⟨⟨1,pk l 1,⟨#[]⟩,false,0,[],ru0⟩,2,0,pk l 1,0,_,_,_,_,_,_,_,_,_,HB3.u.rowS [Ya 0,.string (pk l 1),Yb,Yb,Yc,Ya 0,Ya 0,Yb,Yb,Yb,Yb,Yc,Yb],qa8 _ _ (by rw[qe6];omega) 1 _ _ _ (qde _ _),HB2.u.rowS_other (by omega) _,(fun h=>qa6 HSm.u H0.u hg h),(fun h y hp=>by
       rcases hp.parts with ⟨-,-,h'⟩ | ⟨e,-⟩ | ⟨e,-⟩ | ⟨e,-⟩
       . exact h h'
       all_goals rw[H0.u]at e;exact absurd e (by decide)),by omega,hr.row HB3.u (by omega) _⟩
      clear hr hk hg HN;go_wp2_with (refine stR HB3.u ?_);go_meet;exact HX.u
   rw[Yg h1]at q1;by_cases h2:t=⟨#[98,101,108,111,119]⟩
   . rw[Yh h2]at q2
     have H0:Hi (pk l 0=kBelow):=h_ (ht.trans h2);clear q3 q4 h1 h2 ht
     as_aux_lemma =>
      have HN:=h_ (qcz (by omega) HC.u HR.u);go_wp2_with fail;refine HN.u.mono ?_;rintro e W2 (⟨hg,rfl,hr,hk⟩ | ⟨hg,rfl,hb⟩)
      case inr=>exact⟨rfl,.inr ⟨(fun y hp=>by
       rcases hp.parts with ⟨e,-⟩ | ⟨-,h,-⟩ | ⟨e,-⟩ | ⟨e,-⟩
       . rw[H0.u]at e;exact absurd e (by decide)
       . rw[hg]at h;cases h
       all_goals rw[H0.u]at e;exact absurd e (by decide)),rfl,hb⟩⟩
      replace HB2:=h_ (hk.blk HB2.u (by omega));replace HB3:=h_ (hk.blk HB3.u (by omega));have hs2:=Yt hW1 hk.size;have HG1:=h_ hg;replace HN:=h_ (qcz (by omega) HC.u hr);clear hr hk hg;go_wp2_with fail;refine HN.u.mono ?_;rintro e W3 (⟨hg,rfl,hr,hk⟩ | ⟨hg,rfl,hb⟩)
      case inr=>exact⟨rfl,.inr ⟨(fun y hp=>by
       rcases hp.parts with ⟨e,-⟩ | ⟨-,-,h,-⟩ | ⟨e,-⟩ | ⟨e,-⟩
       . rw[H0.u]at e;exact absurd e (by decide)
       . rw[hg]at h;cases h
       all_goals rw[H0.u]at e;exact absurd e (by decide)),rfl,hb⟩⟩
      have hs3:=Yt hs2 hk.size;have hba:=(bR W3.heap.size W3).alloc (nR _) (.cells #[.string (pk l 1),.string (pk l 2)] 9);have hOs:=qdf W3 (pk l 1) (pk l 2);have hr4:=hr.mono hba;have hb2:=(hk.blk HB2.u (by omega)).mono hba (hk.blk HB2.u (by omega)).lt;have hb3:=(hk.blk HB3.u (by omega)).mono hba (hk.blk HB3.u (by omega)).lt;have hz4:=hba.size;obtain⟨G,hG⟩:=Nq W3.heap.size;obtain⟨W4,hW4⟩:=Nq (W3.alloc (.cells #[.string (pk l 1),.string (pk l 2)] 9));rw[hW4]at hOs hr4 hb2 hb3 hz4;rw[hG]at hOs hz4 hs3;replace HB3:=h_ hb3;have HX:Hi (MidS w0 a c l w (W4.setRow (w.heap.size+1) #[Ya 1,Yc,.slice (some ⟨G,0,none⟩) 2 2,Yb,Yc,Ya 0,Ya 0,Yb,Yb,Yb,Yb,Yc,Yb])):=h_ ⟨⟨2,pk l 1,pk l 2,false,0,[],ru0⟩,3,1,⟨#[]⟩,0,_,_,_,_,_,_,_,_,_,HB3.u.rowS [Ya 1,Yc,.slice (some ⟨G,0,none⟩) 2 2,Yb,Yc,Ya 0,Ya 0,Yb,Yb,Yb,Yb,Yc,Yb],qa8 _ _ (by rw[qe6];omega) 2 _ _ _ (qi3 (OwnS.low hOs (by omega)) hb3 (by decide) (rw_k _ _ _)),hb2.rowS_other (by omega) _,(fun h=>qa4 HSm.u H0.u HG1.u hg h),(fun h y hp=>by
       rcases hp.parts with ⟨e,-⟩ | ⟨-,-,-,h'⟩ | ⟨e,-⟩ | ⟨e,-⟩
       . rw[H0.u]at e;exact absurd e (by decide)
       . exact h h'
       all_goals rw[H0.u]at e;exact absurd e (by decide)),by omega,hr4.row hb3 (by omega) _⟩
      clear hr hk hg HN hba hOs hr4 hb2 hb3;go_wp2_with ((try rw[hW4]);(try rw[hG]);refine stR HB3.u ?_);go_meet;exact HX.u
   rw[Yg h2]at q2;by_cases h3:t=⟨#[114,111,108,101]⟩
   . rw[Yh h3]at q3
     have H0:Hi (pk l 0=kRole):=h_ (ht.trans h3);clear q4 h1 h2 h3 ht
     as_aux_lemma =>
      have HN:=h_ (qcz (by omega) HC.u HR.u);go_wp2_with fail;refine HN.u.mono ?_;rintro e W2 (⟨hg,rfl,hr,hk⟩ | ⟨hg,rfl,hb⟩)
      case inr=>exact⟨rfl,.inr ⟨(fun y hp=>by
       rcases hp.parts with ⟨e,-⟩ | ⟨e,-⟩ | ⟨-,h,-⟩ | ⟨e,-⟩
       . rw[H0.u]at e;exact absurd e (by decide)
       . rw[H0.u]at e;exact absurd e (by decide)
       . rw[hg]at h;cases h
       . rw[H0.u]at e;exact absurd e (by decide)),rfl,hb⟩⟩
      replace HB2:=h_ (hk.blk HB2.u (by omega));replace HB3:=h_ (hk.blk HB3.u (by omega));have hs2:=Yt hW1 hk.size;have HG1:=h_ hg;have hr3:=hr.row HB3.u (by omega) (Jr (pk l 1));have HB4:Hi (Blk (W2.setRow (w.heap.size+1) (Jr (pk l 1))) (w.heap.size+1) 96 [Ya 2,.string (pk l 1),Yb,Yb,Yc,Ya 0,Ya 0,Yb,Yb,Yb,Yb,Yc,Yb]):=h_ (HB3.u.rowS [Ya 2,.string (pk l 1),Yb,Yb,Yc,Ya 0,Ya 0,Yb,Yb,Yb,Yb,Yc,Yb]);have hz3:=qe6 W2 (w.heap.size+1) (Jr (pk l 1));replace HB2:=h_ (HB2.u.rowS_other (g:=w.heap.size+1) (by omega) (Jr (pk l 1)));obtain⟨X2,hX2⟩:=Nq (W2.setRow (w.heap.size+1) (Jr (pk l 1)));rw[hX2]at hr3 HB4 HB2 hz3;have HA:=h_ (qhw kAt (by omega) HC.u hr3);clear hr hk hg HN hr3;go_wp2_with (refine stR HB3.u ?_)
      try rw[hX2]
      clear hX2 HB3;refine HA.u.mono ?_;rintro e W3 (⟨ha,rfl,hr,hk⟩ | ⟨ha,rfl,hb⟩)
      case inr=>exact⟨rfl,.inr ⟨(fun y hp=>by
       rcases hp.parts with ⟨e,-⟩ | ⟨e,-⟩ | ⟨-,-,h,-⟩ | ⟨e,-⟩
       . rw[H0.u]at e;exact absurd e (by decide)
       . rw[H0.u]at e;exact absurd e (by decide)
       . exact ha h
       . rw[H0.u]at e;exact absurd e (by decide)),rfl,hb⟩⟩
      replace HB2:=h_ (hk.blk HB2.u (by omega));replace HB4:=h_ (hk.blk HB4.u (by omega));have hs3:=hk.size;have HAt:=h_ ha;have HN:=h_ (qcz (by omega) HC.u hr);clear ha hr hk HA;go_wp2_with fail;refine HN.u.mono ?_;rintro e W5 (⟨hg,rfl,hr,hk⟩ | ⟨hg,rfl,hb⟩)
      case inr=>exact⟨rfl,.inr ⟨(fun y hp=>by
       rcases hp.parts with ⟨e,-⟩ | ⟨e,-⟩ | ⟨-,-,-,h,-⟩ | ⟨e,-⟩
       . rw[H0.u]at e;exact absurd e (by decide)
       . rw[H0.u]at e;exact absurd e (by decide)
       . rw[hg]at h;cases h
       . rw[H0.u]at e;exact absurd e (by decide)),rfl,hb⟩⟩
      have hba:=(bR W5.heap.size W5).alloc (nR _) (.cells #[.string (pk l 3)] 9);have hOs:OwnS (W5.alloc (.cells #[.string (pk l 3)] 9)) W5.heap.size (.slice (some ⟨W5.heap.size,0,none⟩) 1 1) [pk l 3]:=qdj W5 9 (.string (pk l 3));have hr4:=hr.mono hba;have hb2:=(hk.blk HB2.u (by omega)).mono hba (hk.blk HB2.u (by omega)).lt;have hb3:=(hk.blk HB4.u (by omega)).mono hba (hk.blk HB4.u (by omega)).lt;have hs5:=hk.size;have hz4:=hba.size;obtain⟨G,hG⟩:=Nq W5.heap.size;obtain⟨W6,hW6⟩:=Nq (W5.alloc (.cells #[.string (pk l 3)] 9));rw[hW6]at hOs hr4 hb2 hb3 hz4;rw[hG]at hOs hz4 hs5;obtain⟨⟨s0,s1,s2,s3,s4,s5,s6⟩,s7,s8,s9,s10,s11,s12⟩:=thirteen hb3;have f2:=hb3.free 2;have HX:Hi (MidS w0 a c l w (W6.setCell ⟨w.heap.size+1,2,none⟩ (.slice (some ⟨G,0,none⟩) 1 1))):=h_ ⟨⟨3,pk l 1,pk l 3,false,0,[],ru0⟩,4,2,pk l 1,0,_,_,_,_,_,_,_,_,_,hb3.set 2 (.slice (some ⟨G,0,none⟩) 1 1),qa8 _ _ (by simp;omega) 3 _ _ _ (qi3 (OwnS.low hOs (by omega)) hb3 (by decide) (cel_k _ _ _ _)),hb2.other (a:=⟨w.heap.size+1,2,none⟩) _ (by show w.heap.size≠w.heap.size+1;omega),(fun h=>qdr HSm.u H0.u HG1.u HAt.u hg h),(fun h y hp=>by
       rcases hp.parts with ⟨e,-⟩ | ⟨e,-⟩ | ⟨-,-,-,-,h'⟩ | ⟨e,-⟩
       . rw[H0.u]at e;exact absurd e (by decide)
       . rw[H0.u]at e;exact absurd e (by decide)
       . exact h h'
       . rw[H0.u]at e;exact absurd e (by decide)),by omega,hr4.oth hb3 (by omega) _ _⟩
      clear hr hk hg HN hba hOs hr4 hb2 hb3;go_wp2_with ((try rw[hW6]);(try rw[hG]);fail)
      try rw[hW6,hG]
      go_meet;exact HX.u
   rw[Yg h3]at q3;by_cases h4:t=⟨#[102,105,101,108,100]⟩
   . rw[Yh h4]at q4
     have H0:Hi (pk l 0=kField):=h_ (ht.trans h4);clear h1 h2 h3 h4 ht
     as_aux_lemma =>
      have HF:=h_ (q04 HC.u hcl HY.u H0.u HR.u);go_wp2_with fail;refine HF.u.mono ?_;rintro e W2 (⟨r,u,i,j,vz,⟨hg1,hty,hat,h4⟩,hgr,hcl2,hclr,hru,hj,rfl,⟨v',ns',hr⟩,hps,hk⟩ | ⟨hno,rfl,hb⟩)
      case inr=>exact⟨rfl,.inr ⟨hno,rfl,hb⟩⟩
      replace HB2:=h_ (hk.blk HB2.u (by omega));replace HB3:=h_ (hk.blk HB3.u (by omega));have hs2:=Yt hW1 hk.size;obtain⟨vl,vr,vi,vh,vv,vm,rfl,o1,o2,o3,o4,o5,o6,o7⟩:=hps;have hkk:=rw_k W2 (w.heap.size+1) (psA 3 (pk l 1) (tyO (pk l 2)) vl vr vi vh vv u.sa vm);have hb3:=HB3.u;obtain⟨al,cl,e1,-,-⟩:=o1.strs;obtain⟨ar,cr,e2,-,-⟩:=o2.strs;obtain⟨ai,ci,e3,-⟩:=o3.nods;obtain⟨ah,ch,e4,-⟩:=o4.nods;obtain⟨av,cv,e5,-⟩:=o5.nods;obtain⟨am,cm,e6,-⟩:=o6.nods;have HX:Hi (MidS w0 a c l w (W2.setRow (w.heap.size+1) (psA 3 (pk l 1) (tyO (pk l 2)) vl vr vi vh vv u.sa vm))):=h_ ⟨⟨4,pk l 1,if pk l 4=kAuto then ⟨#[]⟩ else pk l 4,decide (pk l 4=kAuto),tyO (pk l 2),r,u⟩,j,3,pk l 1,tyO (pk l 2),_,_,_,_,_,_,_,_,_,hb3.rowS _,⟨vl,vr,vi,vh,vv,vm,rfl,qi3 (OwnS.low o1 (by omega)) hb3 (by decide) hkk,qi3 (OwnS.low o2 (by omega)) hb3 (by decide) hkk,qi3 (o3.low (by omega)) hb3 (by decide) hkk,qi3 (o4.low (by omega)) hb3 (by decide) hkk,qi3 (o5.low (by omega)) hb3 (by decide) hkk,qi3 (o6.low (by omega)) hb3 (by decide) hkk,by rw[qe6];exact o7.low (by omega)⟩,HB2.u.rowS_other (by omega) _,(fun h=>qa5 HSm.u H0.u hg1 hty hat h4 hgr hcl2.hd hclr hru h),(fun h y hp=>by
       obtain⟨u',g1,-⟩:=hcl2.of hp;obtain⟨-,e⟩:=hclr.same g1;have hlt:j<l.length:=Yv fun hc=>by rw[Yx (by omega)]at e;cases e
       rw[qia hlt]at e;injection e with e _
       exact h e),by omega,hr.row hb3 (by omega) _⟩
      simp only[psA,e1,e2,e3,e4,e5,e6,nmS,show ¬ (4:Nat)=2 by decide,if_false,Nat.reduceSub]at HX⊢;obtain⟨nl,hnl⟩:∃nl,(lbS ⟨4,pk l 1,if pk l 4=kAuto then ⟨#[]⟩ else pk l 4,decide (pk l 4=kAuto),tyO (pk l 2),r,u⟩).length=nl:=⟨_,rfl⟩;rw[hnl]at HX⊢;clear hnl;clear hr hk hg1 hty hat h4 hgr hcl2 hclr hru HF o1 o2 o3 o4 o5 o6 o7 hkk hb3 e1 e2 e3 e4 e5 e6;go_wp2_with (refine stR HB3.u ?_);go_meet;exact HX.u
   rw[Yg h4]at q4;have HNo:Hi (∀y,¬ PrtS l y):=h_ fun y hp=>by
    rcases hp.parts with ⟨e,-⟩ | ⟨e,-⟩ | ⟨e,-⟩ | ⟨e,-⟩
    . exact h1 (ht.symm.trans e)
    . exact h2 (ht.symm.trans e)
    . exact h3 (ht.symm.trans e)
    . exact h4 (ht.symm.trans e)
   have HBe:=h_ HR.u.bel;clear h1 h2 h3 h4 ht;go_wp2_with fail;exact⟨rfl,.inr ⟨HNo.u,rfl,HBe.u⟩⟩
 case rest =>
  obtain⟨x,j,k,n,ty,vl,vr,vi,vh,vv,sa,vm,v',ns',b3,hps,b2,hy,hn,hj,hr⟩:=hcut;clear HR HB2 HB3;have HNd:=h_ (qhw kSemi hj HC.u hr);obtain⟨ul,ur,ui,uh,uv,um,e0,o1,o2,o3,o4,o5,o6,o7⟩:=hps;obtain⟨al,cl,e1,-,-⟩:=o1.strs;obtain⟨ar,cr,e2,-,-⟩:=o2.strs;obtain⟨ai,ci,e3,-⟩:=o3.nods;obtain⟨ah,ch,e4,-⟩:=o4.nods;obtain⟨av,cv,e5,-⟩:=o5.nods;obtain⟨am,cm,e6,-⟩:=o6.nods;have HO1:=h_ o1;have HO2:=h_ o2;have HO3:=h_ o3;have HO4:=h_ o4;have HO5:=h_ o5;have HO6:=h_ o6;have HO7:=h_ o7;have HB2:=h_ b2;have HB3:=h_ b3;have HYs:=h_ hy;have HNo:=h_ hn;rw[Value.agg.injEq]at e0;rw[e0]at HB3;clear o1 o2 o3 o4 o5 o6 o7 b2 b3 hy hn hr e0;subst e1 e2 e3 e4 e5 e6;go_wp2_with fail;refine HNd.u.mono ?_;rintro e W3 (⟨hs,rfl,hr,hk⟩ | ⟨hs,rfl,hb⟩)
  case inr=>exact⟨rfl,.inr ⟨HNo.u hs,rfl,hb⟩⟩
  have HPr:=h_ (HYs.u hs);replace HB2:=h_ (hk.blk HB2.u (by omega));replace HB3:=h_ (hk.blk HB3.u (by omega));replace HO1:=h_ (hk.ownS HO1.u hRw);replace HO2:=h_ (hk.ownS HO2.u hRw);replace HO3:=h_ (hk.ownN HO3.u hRw);replace HO4:=h_ (hk.ownN HO4.u hRw);replace HO5:=h_ (hk.ownN HO5.u hRw);replace HO6:=h_ (hk.ownN HO6.u hRw);replace HO7:=h_ (HO7.u.up hk.size);have HBl:=h_ hr.bel;clear hs hr hk HNd HYs HNo;unfold zero13 at HB2;unfold psA at HB3;obtain⟨nm,hnm⟩:=Nq (nmS x);obtain⟨kd,hkd⟩:=Nq (x.kind - 1);rw[hnm,hkd]at HB3;obtain⟨⟨s0,s1,s2,s3,s4,s5,s6⟩,s7,s8,s9,s10,s11,s12⟩:=thirteen HB3.u;go_upto_region 15 with fail
  go_wp2_with (refine stR HB2.u ?_);have hB5:=HB2.u.rowS (Jn (kd:Nat) nm al (lbS x).length cl ar x.bys.length cr (x.typ:Nat) ai x.u.is.length ci ah x.u.wh.length ch av x.u.va.length cv x.u.sa am x.u.mu.length cm);obtain⟨⟨p0,p1,p2,p3,p4,p5,p6⟩,p7,p8,p9,p10,p11,p12⟩:=thirteen hB5;have hk2:=rw_k W3 w.heap.size (Js (kd:Nat) nm al (lbS x).length cl ar x.bys.length cr (x.typ:Nat) ai x.u.is.length ci ah x.u.wh.length ch av x.u.va.length cv x.u.sa am x.u.mu.length cm);have hbl:=HB2.u;have HPs:Hi (PsV (W3.setRow w.heap.size (Js (kd:Nat) nm al (lbS x).length cl ar x.bys.length cr (x.typ:Nat) ai x.u.is.length ci ah x.u.wh.length ch av x.u.va.length cv x.u.sa am x.u.mu.length cm)) w.heap.size (.agg (Js (kd:Nat) nm al (lbS x).length cl ar x.bys.length cr (x.typ:Nat) ai x.u.is.length ci ah x.u.wh.length ch av x.u.va.length cv x.u.sa am x.u.mu.length cm)) x):=h_ ⟨_,_,_,_,_,_,by rw[hnm,hkd];rfl,qi3 HO1.u hbl (by decide) hk2,qi3 HO2.u hbl (by decide) hk2,qi3 HO3.u hbl (by decide) hk2,qi3 HO4.u hbl (by decide) hk2,qi3 HO5.u hbl (by decide) hk2,qi3 HO6.u hbl (by decide) hk2,by rw[qe6];exact HO7.u⟩;have HBf:=h_ (q8i HBl.u (g:=w.heap.size) (by omega) (Js (kd:Nat) nm al (lbS x).length cl ar x.bys.length cr (x.typ:Nat) ai x.u.is.length ci ah x.u.wh.length ch av x.u.va.length cv x.u.sa am x.u.mu.length cm));clear hB5 hk2 hbl;exact bodyPost_ret (v:=.agg (Js (kd:Nat) nm al (lbS x).length cl ar x.bys.length cr (x.typ:Nat) ai x.u.is.length ci ah x.u.wh.length ch av x.u.va.length cv x.u.sa am x.u.mu.length cm)) (by simp[results,Tryz.results59,go_sem,p0,p1,p2,p3,p4,p5,p6,p7,p8,p9,p10,p11,p12]) rfl (.inl ⟨x,_,HPr.u,rfl,HPs.u,HBf.u⟩)
end Go.Proofs.YtfmammdgehbjhaaGreatDoor
namespace Go.Proofs.YtfmammdgehbjhaaGreatDoor
open Go
theorem at_mpR (r:List ByteArray)(hn:r.Nodup)(z:DataW Unit):∀k (hk:k<r.length),(mpR r).atKey (kl r[k]) z=.lit (.int .i64 ((r.length - 1 - k:Nat):Int)):=by
 induction r with
 | nil=>intro k hk;cases hk
 | cons x r ih =>
  intro k hk;rw[List.nodup_cons]at hn;rw[show mpR (x :: r)=(mpR r).put (kl x) (.lit (.int .i64 (r.length:Int))) from rfl];cases k with
  | zero =>
   rw[Vd,Maps.atKey_put_same (qeo r).isMap (show WideAt.IsKeyLit (kl x) from trivial)];simp
  | succ k =>
   have hk':k<r.length:=by simpa using hk
   rw[List.getElem_cons_succ,Maps.atKey_put_other (fun e=>hn.1 (by rw[<- kl_inj e];exact Ys hk')),ih hn.2 k hk'];simp only[Yl]
   congr 3
   omega
theorem at_mp (l:List ByteArray)(hn:l.Nodup)(z:DataW Unit)(k:Nat)(hk:k<l.length):(mp l).atKey (kl l[k]) z=.lit (.int .i64 (k:Int)):=by
 unfold mp
 have hr:l.reverse.Nodup:=(List.Perm.nodup_iff (List.reverse_perm l)).2 hn
 have h:=at_mpR l.reverse hr z (l.length - 1 - k) (by rw[Zm];omega)
 have e:l.reverse[l.length - 1 - k]'(by rw[Zm];omega)=l[k]:=by
  rw[List.getElem_reverse]
  congr 1
  omega
 rw[e,Zm]at h
 rw[h]
 congr 3
 omega
end Go.Proofs.YtfmammdgehbjhaaGreatDoor
namespace Go.Proofs.YtfmammdgehbjhaaGreatDoor
open Go Go.RowKit
def MpS (w:World)(v:Value)(l:List ByteArray):Prop:=(v=.map none/\l=[])∨∃b,v=.map (some b)/\PMap w b l
theorem MpS.mono {w w':World}{v:Value}{l:List ByteArray}(h:MpS w v l)(hb:Below w.heap.size w w'):MpS w' v l:=by
 rcases h with h | ⟨b,h1,h2⟩
 . exact .inl h
 . exact .inr ⟨b,h1,h2.mono hb⟩
theorem PMap.same {w w':World}{b:Nat}{l:List ByteArray}(h:PMap w b l)(hb:w'.heap[b]? = w.heap[b]?):PMap w' b l:=by
 obtain⟨es,clock,h1,F,hs,hD⟩:=h
 exact⟨es,clock,hb.trans h1,F,hs,hD⟩
theorem PMap.blk {w:World}{b:Nat}{l:List ByteArray}(h:PMap w b l):∃es clock,w.heap[b]? = some (.map es clock):=by
 obtain⟨es,clock,h1,-⟩:=h
 exact⟨es,clock,h1⟩
theorem PMap.ne {w:World}{b:Nat}{l:List ByteArray}(h:PMap w b l){g:Nat}{t:TypeId}{cs:List Value}(hb:Blk w g t cs):b≠g:=fun e=>by
 obtain⟨es,clock,h1⟩:=h.blk
 subst e
 rw[show w.heap[b]? = _ from hb]at h1
 cases h1
theorem q5g {w:World}{base e size n:Nat}{v:Value}{xs:List Value}(h:w.ownsRow base e size v n xs){b:Nat}{l:List ByteArray}(hm:PMap w b l):v.ownBlock≠some b:=fun hc=>by
 obtain⟨es,clock,h1⟩:=hm.blk
 rcases h.2 with ⟨h2,-⟩ | ⟨g,cap,cur,h2,-,hg,-⟩
 . rw[h2]at hc;cases hc
 . rw[h2]at hc
   injection hc with hc
   subst hc;rw[h1]at hg;cases hg
theorem ix_at {l:List ByteArray}(hn:l.Nodup){x:ByteArray}(hx:memB x l=true)(z:DataW Unit):(mp l).atKey (kl x) z=.lit (.int .i64 ((ixN l x:Nat):Int)):=by
 have hm:=(qct _ _).1 hx
 have h:=at_mp l hn z (ixN l x) (ixN_lt hm)
 rw[qgv hm]at h
 exact h
theorem q16 (w:World){ops:Array Oper}{rest:List Oper}{o:Oper}{a:Act}{Q:Exit->Act->World->Prop}(hg:o.guard=none)(m x:Operand)(hop:o.op=Op.lookup 57 m x true)(v:Value)(l:List ByteArray)(hm:a.eval m=v)(hl:MpS w v l)(hn:l.Nodup)(key:ByteArray)(hx:a.eval x=.string key)(hk:key.size<=9223372036854775807)
 (hK:∀c:Int,(memB key l=true->c=((ixN l key:Nat):Int))->wpList Tryz.prog ops Q rest (a.put o.dst (.tuple #[Ya c,.bool (memB key l)])) w) :
 wpList Tryz.prog ops Q (o :: rest) a w:=by
 have hkey:keyOf Tryz.prog 9 (.string key)=some (kl key):=WideMaps.keyOf_string_mk Tryz.underlying9 hk
 rcases hl with ⟨rfl,rfl⟩ | ⟨b,rfl,hp⟩
 . refine wpList_plain hg fun K' hK'=>?_
   have hrun:=Maps.look_nil (w:=w) true (Maps.string_keyed Tryz.underlying9) Tryz.underlying57 (Tryz.zeroValue3 _) hkey;unfold Oper.wp;simp[execOp,hop,hm,hx,hrun,Result.andThen];exact hK' _ _ (hK 0 fun h=>by cases h)
 . refine wpList_lookup_own_ok_int w hg m x 57 hop 9 3 .i64 (Maps.string_keyed Tryz.underlying9) Tryz.underlying57 Tryz.underlying3 (Tryz.zeroValue3 _) b l.length (mp l) hm hp _ _ hx hkey ?_
   intro c hc _;rw[has_mp];refine hK c fun h=>?_;rw[ix_at hn h]at hc;injection hc with hc
   injection hc with _ hc
   exact hc.symm
theorem q17 (w:World){ops:Array Oper}{rest:List Oper}{o:Oper}{a:Act}{Q:Exit->Act->World->Prop}(hg:o.guard=none)(m x:Operand)(hop:o.op=Op.lookup 57 m x true)(v:Value)(l:List ByteArray)(hm:a.eval m=v)(hl:MpS w v l)(hn:l.Nodup)(key:ByteArray)(hx:a.eval x=.string key)(hk:key.size<=9223372036854775807)(hy:memB key l=true)(q:Int)(hq:((ixN l key:Nat):Int)=q)
 (hK:wpList Tryz.prog ops Q rest (a.put o.dst (.tuple #[Ya q,.bool true])) w) :
 wpList Tryz.prog ops Q (o :: rest) a w :=
 q16 w hg m x hop v l hm hl hn key hx hk fun c hc=>by
  rw[hc hy,hq,hy];exact hK
def ixL (lst names:List ByteArray):List Int:=names.map fun x=>((ixN lst x:Nat):Int)
theorem qcn (lst:List ByteArray){names:List ByteArray}{k:Nat}(h:k<names.length):ixL lst (names.take (k+1))=ixL lst (names.take k)++[((ixN lst names[k]:Nat):Int)]:=by
 unfold ixL
 rw[Yq h,Zt]
 rfl
theorem all_at {lst names:List ByteArray}(h:∀j (hj:j<names.length),memB names[j] lst=true):(names.all fun x=>memB x lst)=true:=Zh.2 fun x hx=>by
 obtain⟨j,hj,rfl⟩:=Zo.1 hx
 exact h j hj
theorem all_no {lst names:List ByteArray}{k:Nat}(hk:k<names.length)(h:memB names[k] lst=false):(names.all fun x=>memB x lst)=false:=by
 rw[List.all_eq_false]
 exact⟨names[k],Ys hk,by rw[h];decide⟩
def FndO (w:World)(lst names:List ByteArray)(e:Ending)(w':World):Prop:=((names.all fun x=>memB x lst)=true/\∃v,e=.returned v/\OwI w' w.heap.size v (ixL lst names)/\Below w.heap.size w w')∨((names.all fun x=>memB x lst)=false/\e=flt 7/\Below w.heap.size w w')
theorem qc9 (R:Nat)(mv:Value)(lst:List ByteArray)(a:Option Addr)(c:Nat)(names:List ByteArray)(w:World)(hR:R<w.heap.size)(hc:w.cell? ⟨R,9,none⟩=some mv)(hm:MpS w mv lst)(hn:lst.Nodup)(hl:names.length<=1048576)(hz:∀x,x∈names->x.size<=1048576)(ha:Strs w a names) :
 Calls Tryz.prog 62 #[Yd R 0,Ya 0,.slice a names.length c] w (FndO w lst names):=by
 have HC:=h_ hc;have HM:=h_ hm;have HN:=h_ hn;have HZ:=h_ hz;have HA:=h_ ha
 clear hc hm hn hz ha
 obtain⟨n,hnn⟩:=Nq names.length
 have HNn:=h_ hnn
 rw[hnn]at hl⊢
 clear hnn
 go_enter Tryz.func62,Tryz.ntmps62
 go_wp2_with fail
 go_loopw [7,14] (fun v7 v14 wr=>∃k:Nat,k<=n/\v14=Ya k/\(∀j (hj:j<names.length),j<k->memB names[j] lst=true)/\OwI wr w.heap.size v7 (ixL lst (names.take k))/\Below w.heap.size w wr) (fun _ v14 _=>n - (intOf v14).toNat)
 case atStart=>exact⟨0,nZ _,rfl,fun j _ h=>absurd h (nL _),⟨rfl,.inl ⟨rfl,rfl⟩⟩,bR _ _⟩
 case round =>
  obtain⟨k,hk,rfl,hall,how,hb⟩:=hrel;have HL:=h_ hall;have HO:=h_ how;have HB:=h_ hb;have HAr:=h_ (HA.u.mono hb);have HMr:=h_ (HM.u.mono hb);have c0:=(hb.cell (p:=⟨R,9,none⟩) hR).trans HC.u;clear hall how hb;by_cases hlt:k<n
  . have hlt':(k:Int)<n:=by omega
    have hkl:k<names.length:=(by have:=HNn.u;omega);obtain⟨b,o,rfl,-,z0⟩:=HAr.u k hkl;have hzk:=HZ.u _ (Ys hkl);have HNo:Hi (memB names[k] lst=false->(names.all fun x=>memB x lst)=false):=h_ (all_no hkl);have HYe:Hi (memB names[k] lst=true->∀j (hj:j<names.length),j<k+1->memB names[j] lst=true):=h_ fun h j hj hjk=>by
     by_cases e:j=k
     . subst e;exact h
     . exact HL.u j hj (by omega)
    have HSn:Hi (ixL lst (names.take (k+1))=ixL lst (names.take k)++[((ixN lst names[k]:Nat):Int)]):=h_ (qcn lst hkl);have hxl:(ixL lst (names.take k)).length=k:=(by unfold ixL;rw[Zf,Yu];omega);generalize names[k]=x at *;generalize ixL lst (names.take k)=zl at *;cases hmx:memB x lst
    . have HAl:=h_ (HNo.u hmx)
      go_wp2_with (at_lookup;refine q16 _ rfl _ _ rfl mv lst rfl HMr.u HN.u x rfl (by omega) ?_;intro pc hpc;rw[hmx]);refine(ask_no _ _).mono ?_;rintro e w9 ⟨rfl,hw9⟩;subst hw9;exact⟨rfl,.inr ⟨HAl.u,rfl,HB.u⟩⟩
    . have HY2:=h_ (HYe.u hmx)
      obtain⟨pc,hq⟩:=Nq (((ixN lst x:Nat):Int));rw[hq]at HSn;go_wp2_with (at_lookup;refine q17 _ rfl _ _ rfl mv lst rfl HMr.u HN.u x rfl (by omega) hmx pc hq ?_);refine(qfe _ _).mono ?_;rintro e w9 ⟨rfl,hw9⟩;subst hw9;have HNs:Hi (Blk _ _ 3 [Ya pc]):=h_ (Blk.new w9 3 #[Ya pc]);have hba:=(bR w9.heap.size w9).alloc (nR _) (.cells #[Ya pc] 3);have HOa:=h_ (q9x HO.u hba);have HBa:=mT HB hba;clear hba;go_wp2_with (at_builtin;refine qb5 (n:=pc) rfl _ _ rfl rfl HOa.u rfl HNs.u (by omega) HBa.u.size ?_);intro v9 W9 ho9 _ hb9;have HO9:Hi (OwI W9 w.heap.size v9 (ixL lst (names.take (k+1)))):=h_ (by rw[HSn.u];unfold OwI;rw[Yf,hxl];exact ho9);have HB9:=h_ (HBa.u.trans hb9);clear ho9 hb9;go_wp2_with fail;go_roundw
      case rel=>first | exact⟨k+1,by omega,by go_num,HY2.u,HO9.u,HB9.u⟩ | ((repeat apply Exists.intro);exact⟨⟨k+1,by omega,by go_num,HY2.u,HO9.u,HB9.u⟩,rfl⟩)
      case measure=>simp[intOf];omega
  . obtain rfl:k=n:=by omega
    have hlt':¬ (k:Int)<(k:Int):=(by omega);have HAl:Hi ((names.all fun x=>memB x lst)=true):=h_ (all_at fun j hj=>HL.u j hj (by have:=HNn.u;omega));have HOf:Hi (OwI wr w.heap.size _ (ixL lst names)):=h_ (by
     have h:=HO.u;rw[Za (by have:=HNn.u;omega)]at h;exact h)
    obtain⟨af,cf,hvf,-⟩:=q7o HOf.u;subst hvf;go_wp2_with fail;go_ret;exact .inl ⟨HAl.u,_,rfl,HOf.u,HB.u⟩
theorem qca (R:Nat)(mv:Value)(lst:List ByteArray)(a:Option Addr)(c:Nat)(names:List ByteArray)(w:World)(hR:R<w.heap.size)(hc:w.cell? ⟨R,11,none⟩=some mv)(hm:MpS w mv lst)(hn:lst.Nodup)(hl:names.length<=1048576)(hz:∀x,x∈names->x.size<=1048576)(ha:Strs w a names) :
 Calls Tryz.prog 62 #[Yd R 0,Ya 2,.slice a names.length c] w (FndO w lst names):=by
 have HC:=h_ hc;have HM:=h_ hm;have HN:=h_ hn;have HZ:=h_ hz;have HA:=h_ ha
 clear hc hm hn hz ha
 obtain⟨n,hnn⟩:=Nq names.length
 have HNn:=h_ hnn
 rw[hnn]at hl⊢
 clear hnn
 go_enter Tryz.func62,Tryz.ntmps62
 go_wp2_with fail
 go_loopw [7,14] (fun v7 v14 wr=>∃k:Nat,k<=n/\v14=Ya k/\(∀j (hj:j<names.length),j<k->memB names[j] lst=true)/\OwI wr w.heap.size v7 (ixL lst (names.take k))/\Below w.heap.size w wr) (fun _ v14 _=>n - (intOf v14).toNat)
 case atStart=>exact⟨0,nZ _,rfl,fun j _ h=>absurd h (nL _),⟨rfl,.inl ⟨rfl,rfl⟩⟩,bR _ _⟩
 case round =>
  obtain⟨k,hk,rfl,hall,how,hb⟩:=hrel;have HL:=h_ hall;have HO:=h_ how;have HB:=h_ hb;have HAr:=h_ (HA.u.mono hb);have HMr:=h_ (HM.u.mono hb);have c0:=(hb.cell (p:=⟨R,11,none⟩) hR).trans HC.u;clear hall how hb;by_cases hlt:k<n
  . have hlt':(k:Int)<n:=by omega
    have hkl:k<names.length:=(by have:=HNn.u;omega);obtain⟨b,o,rfl,-,z0⟩:=HAr.u k hkl;have hzk:=HZ.u _ (Ys hkl);have HNo:Hi (memB names[k] lst=false->(names.all fun x=>memB x lst)=false):=h_ (all_no hkl);have HYe:Hi (memB names[k] lst=true->∀j (hj:j<names.length),j<k+1->memB names[j] lst=true):=h_ fun h j hj hjk=>by
     by_cases e:j=k
     . subst e;exact h
     . exact HL.u j hj (by omega)
    have HSn:Hi (ixL lst (names.take (k+1))=ixL lst (names.take k)++[((ixN lst names[k]:Nat):Int)]):=h_ (qcn lst hkl);have hxl:(ixL lst (names.take k)).length=k:=(by unfold ixL;rw[Zf,Yu];omega);generalize names[k]=x at *;generalize ixL lst (names.take k)=zl at *;cases hmx:memB x lst
    . have HAl:=h_ (HNo.u hmx)
      go_wp2_with (at_lookup;refine q16 _ rfl _ _ rfl mv lst rfl HMr.u HN.u x rfl (by omega) ?_;intro pc hpc;rw[hmx]);refine(ask_no _ _).mono ?_;rintro e w9 ⟨rfl,hw9⟩;subst hw9;exact⟨rfl,.inr ⟨HAl.u,rfl,HB.u⟩⟩
    . have HY2:=h_ (HYe.u hmx)
      obtain⟨pc,hq⟩:=Nq (((ixN lst x:Nat):Int));rw[hq]at HSn;go_wp2_with (at_lookup;refine q17 _ rfl _ _ rfl mv lst rfl HMr.u HN.u x rfl (by omega) hmx pc hq ?_);refine(qfe _ _).mono ?_;rintro e w9 ⟨rfl,hw9⟩;subst hw9;have HNs:Hi (Blk _ _ 3 [Ya pc]):=h_ (Blk.new w9 3 #[Ya pc]);have hba:=(bR w9.heap.size w9).alloc (nR _) (.cells #[Ya pc] 3);have HOa:=h_ (q9x HO.u hba);have HBa:=mT HB hba;clear hba;go_wp2_with (at_builtin;refine qb5 (n:=pc) rfl _ _ rfl rfl HOa.u rfl HNs.u (by omega) HBa.u.size ?_);intro v9 W9 ho9 _ hb9;have HO9:Hi (OwI W9 w.heap.size v9 (ixL lst (names.take (k+1)))):=h_ (by rw[HSn.u];unfold OwI;rw[Yf,hxl];exact ho9);have HB9:=h_ (HBa.u.trans hb9);clear ho9 hb9;go_wp2_with fail;go_roundw
      case rel=>first | exact⟨k+1,by omega,by go_num,HY2.u,HO9.u,HB9.u⟩ | ((repeat apply Exists.intro);exact⟨⟨k+1,by omega,by go_num,HY2.u,HO9.u,HB9.u⟩,rfl⟩)
      case measure=>simp[intOf];omega
  . obtain rfl:k=n:=by omega
    have hlt':¬ (k:Int)<(k:Int):=(by omega);have HAl:Hi ((names.all fun x=>memB x lst)=true):=h_ (all_at fun j hj=>HL.u j hj (by have:=HNn.u;omega));have HOf:Hi (OwI wr w.heap.size _ (ixL lst names)):=h_ (by
     have h:=HO.u;rw[Za (by have:=HNn.u;omega)]at h;exact h)
    obtain⟨af,cf,hvf,-⟩:=q7o HOf.u;subst hvf;go_wp2_with fail;go_ret;exact .inl ⟨HAl.u,_,rfl,HOf.u,HB.u⟩
end Go.Proofs.YtfmammdgehbjhaaGreatDoor
