import Derived.Test.YtfmammdgehbjhaaGreatDoorW32
set_option maxRecDepth 100000
set_option maxHeartbeats 64000000
namespace Go.Proofs.YtfmammdgehbjhaaGreatDoor
open Go Go.RowKit
theorem StG.by2 {T:List ByteArray}{x:Sx}(h:StG T x):2*x.bys.length<=T.length:=by
 cases h with
 | label=>simp
 | below=>simp
 | role=>simp
 | auto=>simp only[Yl,Yf,qfm];omega
 | field=>simp only[Yl,Yf,qfm];omega
theorem StG.good {T:List ByteArray}{x:Sx}(h:StG T x):(∀b,b∈x.bys->b.size<=16)/\(∀b,b∈lbS x->b.size<=16)/\(nmS x).size<=16:=by
 cases h with
 | label h1=>exact⟨fun b hb=>(by cases hb),fun b hb=>(by cases hb),q6n h1⟩
 | below h1 h2=>exact⟨fun b hb=>(by cases hb),fun b hb=>(by
  rcases Y9.1 hb with rfl | hb
  . exact q6n h1
  . rw[Y7.1 hb];exact q6n h2),by show(⟨#[]⟩:ByteArray).size<=16;decide⟩
 | role h1 h2=>exact⟨fun b hb=>(by cases hb),fun b hb=>(by rw[Y7.1 hb];exact q6n h2),q6n h1⟩
 | auto h1 h2 h3 h4 h5 h6=>exact⟨fun b hb=>q6n (h4 b hb),fun b hb=>(by simp[lbS]at hb),q6n h1⟩
 | field h1 h2 h3 h0 h4 h5 h6=>exact⟨fun b hb=>q6n (h4 b hb),fun b hb=>(by simp[lbS]at hb;rw[hb];exact q6n h0),q6n h1⟩
def mqS (k:Nat)(m0 m1 m2 m3:Value):Value:=if k=1 then m0 else if k=2 then m1 else if k=3 then m2 else m3
theorem qdv (R base:Nat)(m:Fm)(P:List (Fl × FA))(last:Nat)(v1 v2 v3 v4 m0 m1 m2 m3:Value)(a:Option Addr)(c:Nat)(l:List ByteArray)(x:Sx)(w:World)(hF:FRd w R base m P last v1 v2 v3 v4 m0 m1 m2 m3)(hv:VfB m)(hc:RC w a l)(hcl:l.length<=c)(hy:TyT w)(hkl:KdL w)(hsm:Smi l)(hla:last<=4)(hx:PrtS l x) :
 Calls Tryz.prog 21 #[Yd R 0,.slice a l.length c] w (RfO w R base m last l):=by
 obtain⟨TT,hTl,hTs⟩:=id hx
 have hlen:=hc.len
 have hTlen:TT.length<=1048576:=by have:=congrArg List.length hTl;rw[Yf]at this;omega
 have hTz:∀t,t∈TT->t.size<=1048576:=fun t ht=>hc.tz t (by rw[hTl];simp[ht])
 have HFt:=h_ (hTs.fit hTlen hTz)
 obtain⟨gd1,gd2,gd3⟩:=hTs.good
 have HGd1:=h_ gd1;have HGd2:=h_ gd2
 have hbl:=hTs.by2
 have hll:(lbS x).length<=2:=by unfold lbS;(repeat' split) <;> simp
 have HX:=h_ hx;have HTs:=h_ hTs
 have nl:=hv.nl;have np:=hv.np;have nr:=hv.nr;have nf:=hv.nf
 have hnL:m.L.Nodup:=(Ze ((Yo _ _ ▸ (show(m.L.all goodN&&decide m.L.Nodup)=true from hv.l)).2))
 have hnR:(rNames m).Nodup:=(Ze ((Yo _ _ ▸ (show((rNames m).all goodN&&decide (rNames m).Nodup)=true from hv.r)).2))
 have HF:=h_ hF;have HC:=h_ hc;have HKl:=h_ hkl;have HNL:=h_ hnL;have HNR:=h_ hnR
 have hRl:=hF.blk.lt
 have hb0:=(bR w.heap.size w).alloc (nR _) (.cells #[Yb,Ya 0,Ya 0,Yb] 94)
 have hK0:=Blk.new w 94 #[Yb,Ya 0,Ya 0,Yb]
 have HKw:=h_ hK0
 obtain⟨W0,hW0⟩:=Nq (w.alloc (.cells #[Yb,Ya 0,Ya 0,Yb] 94))
 rw[hW0]at hb0 hK0
 have hb1:=q8i hb0 (g:=w.heap.size) (nR _) #[.slice a l.length c,Ya 0,Ya 0,Yb]
 have hK1:=hK0.rowS [.slice a l.length c,Ya 0,Ya 0,Yb]
 obtain⟨X0,hX0⟩:=Nq (W0.setRow w.heap.size #[.slice a l.length c,Ya 0,Ya 0,Yb])
 rw[hX0]at hb1
 replace hK1:Blk X0 w.heap.size 94 [.slice a l.length c,Ya 0,Ya 0,Yb]:=by rw[<- hX0];exact hK1
 have hRd:Rdr w a c l X0 0 0 Yb []:=⟨hK1,⟨rfl,.inl ⟨rfl,rfl⟩⟩,hb1⟩
 have hz0:w.heap.size<X0.heap.size:=hK1.lt
 have HSt:=h_ (q2m hc hcl hy hsm hRd)
 have HW0e:=h_ hW0;have HX0e:=h_ hX0
 clear hb0 hK0 hb1 hK1 hRd hW0 hX0 hc hy hkl hsm hF hnL hnR hx hTs hTz gd1 gd2 hTl
 go_enter Tryz.func21,Tryz.ntmps21
 go_upto_region 1 with (refine stR HKw.u ?_)
 rw[HW0e.u,HX0e.u]
 go_wp2_with fail
 refine HSt.u.mono ?_
 rintro e W1 (⟨x',v,hp',rfl,hps,hbw1⟩ | ⟨hno,-⟩)
 case inr=>exact absurd HX.u (hno x)
 obtain rfl:=hp'.uniq HX.u
 clear hp' HSt
 obtain⟨vl,vr,vi,vh,vv,vm,rfl,o1,o2,o3,o4,o5,o6,o7⟩:=hps
 obtain⟨al,cl,e1,-,-⟩:=o1.strs
 obtain⟨ar,cr,e2,-,-⟩:=o2.strs
 obtain⟨ai,ci,e3,-⟩:=o3.nods
 obtain⟨ah,ch,e4,-⟩:=o4.nods
 obtain⟨av,cv,e5,-⟩:=o5.nods
 obtain⟨am,cm,e6,-⟩:=o6.nods
 subst e1 e2 e3 e4 e5 e6
 obtain⟨kd,hkd⟩:=Nq (x'.kind - 1)
 have hk14:x'.kind=1∨x'.kind=2∨x'.kind=3∨x'.kind=4:=HTs.u.kinds
 have hkd4:kd<4:=by omega
 have hkd4':(kd:Int)<4:=by omega
 have hk1:1<=x'.kind:=by omega
 unfold psA
 rw[hkd]
 generalize x'=x at *
 obtain⟨C,hC⟩:=Nq (cntS m x.kind)
 obtain⟨Li,hLi⟩:=Nq (limS x.kind)
 obtain⟨ls,hls⟩:=Nq (lstS m x.kind)
 obtain⟨mq,hmq⟩:=Nq (mqS x.kind m0 m1 m2 m3)
 have HCe:=h_ hC;have HLe:=h_ hLi;have HLst:=h_ hls;have HMe:=h_ hmq;have HKd:=h_ hkd;have HK14:=h_ hk14
 have HCn:Hi (∀W r4,Blk W R 60 [v1,v2,v3,v4,r4,Ya (m.L.length:Nat),Ya (m.P.length:Nat),Ya (m.R.length:Nat),Ya (m.F.length:Nat),m0,m1,m2,m3]->W.cell? ⟨R,5+kd,none⟩=some (Ya (C:Nat))):=h_ fun W r4 h=>by
  rw[<- hC,<- hkd];rcases hk14 with e | e | e | e
  all_goals (rw[e];exact h.cell _)
 have HMq:Hi (∀W r4,Blk W R 60 [v1,v2,v3,v4,r4,Ya (m.L.length:Nat),Ya (m.P.length:Nat),Ya (m.R.length:Nat),Ya (m.F.length:Nat),m0,m1,m2,m3]->W.cell? ⟨R,9+kd,none⟩=some mq):=h_ fun W r4 h=>by
  rw[<- hmq,<- hkd];rcases hk14 with e | e | e | e
  all_goals (rw[e];exact h.cell _)
 have HMp:Hi (∀W,Below w.heap.size w W->MpS W mq ls):=h_ fun W hb=>by
  have hF:=HF.u.mono hb;rw[<- hmq,<- hls];rcases hk14 with e | e | e | e
  . rw[e];exact hF.a0
  . rw[e];exact hF.a1
  . rw[e];exact hF.a2
  . rw[e];exact hF.a3
 have HKn:Hi (∀W,Below w.heap.size w W->W.cell? ⟨0,kd,none⟩=some (Ya (Li:Nat))):=h_ fun W hb=>by
  have hK:=HKl.u.mono hb;rw[<- hLi,<- hkd];rcases hk14 with e | e | e | e
  . rw[e];exact hK.2.1
  . rw[e];exact hK.2.2.1
  . rw[e];exact hK.2.2.2.1
  . rw[e];exact hK.2.2.2.2
 clear hC hLi hls hmq hk14
 have hba:=(bR W1.heap.size W1).alloc (nR _) (.cells Jf 96)
 have hSn:=Blk.new W1 96 Jf
 have HSw:=h_ hSn
 obtain⟨Sb,hSb⟩:=Nq W1.heap.size
 obtain⟨Y1,hY1⟩:=Nq (W1.alloc (.cells Jf 96))
 rw[hY1]at hba hSn
 rw[hSb]at hSn hba
 have hbb:=q8i hba (g:=Sb) (nR _) (Js (kd:Nat) (nmS x) al (lbS x).length cl ar x.bys.length cr (x.typ:Nat) ai x.u.is.length ci ah x.u.wh.length ch av x.u.va.length cv x.u.sa am x.u.mu.length cm)
 have hS2:=hSn.rowS (Jn (kd:Nat) (nmS x) al (lbS x).length cl ar x.bys.length cr (x.typ:Nat) ai x.u.is.length ci ah x.u.wh.length ch av x.u.va.length cv x.u.sa am x.u.mu.length cm)
 obtain⟨W2,hW2⟩:=Nq (Y1.setRow Sb (Js (kd:Nat) (nmS x) al (lbS x).length cl ar x.bys.length cr (x.typ:Nat) ai x.u.is.length ci ah x.u.wh.length ch av x.u.va.length cv x.u.sa am x.u.mu.length cm))
 rw[hW2]at hbb
 replace hS2:Blk W2 Sb 96 (Jn (kd:Nat) (nmS x) al (lbS x).length cl ar x.bys.length cr (x.typ:Nat) ai x.u.is.length ci ah x.u.wh.length ch av x.u.va.length cv x.u.sa am x.u.mu.length cm):=by rw[<- hW2];exact hS2
 have hbc:Below W1.heap.size W1 W2:=by rw[hSb];exact hbb
 have hB2:Below w.heap.size w W2:=hbw1.trans (hbc.mono hbw1.size)
 have hwS:w.heap.size<=Sb:=by rw[<- hSb];exact hbw1.size
 have HO1:=h_ (o1.keep hbc);have HO2:=h_ (o2.keep hbc);have HO3:=h_ (o3.keep hbc);have HO4:=h_ (o4.keep hbc);have HO5:=h_ (o5.keep hbc);have HO6:=h_ (o6.keep hbc);have HO7:=h_ (o7.up hbc.size)
 have HB2:=h_ hB2;have HS2:=h_ hS2
 have HSbe:=h_ hSb;have HY1e:=h_ hY1;have HW2e:=h_ hW2
 clear o1 o2 o3 o4 o5 o6 o7 hba hSn hbb hS2 hbc hB2 hSb hY1 hW2 hbw1
 go_upto_region 2 with (refine stR HSw.u ?_)
 rw[HY1e.u,HSbe.u,HW2e.u]
 try dsimp only[Act.put]
 obtain⟨lt,hlt⟩:=Nq (last - 1)
 have hR0:=HF.u.blk
 rw[hlt]at hR0
 have HRb:=h_ (hR0.mono HB2.u hR0.lt)
 clear hR0
 obtain⟨X3,hX3⟩:=Nq W2.drew
 have hS3:Blk X3 R 60 (J2 v1 v2 v3 v4 (lt:Nat) (m.L.length:Nat) (m.P.length:Nat) (m.R.length:Nat) (m.F.length:Nat) m0 m1 m2 m3)/\Blk X3 Sb 96 (Jn (kd:Nat) (nmS x) al (lbS x).length cl ar x.bys.length cr (x.typ:Nat) ai x.u.is.length ci ah x.u.wh.length ch av x.u.va.length cv x.u.sa am x.u.mu.length cm):=by rw[<- hX3];exact⟨HRb.u.mono (bR _ _).drew HRb.u.lt,HS2.u.mono (bR _ _).drew HS2.u.lt⟩
 have HB3:Hi (Below w.heap.size w X3):=h_ (by rw[<- hX3];exact HB2.u.drew)
 have HB23:Hi (Below W2.heap.size W2 X3):=h_ (by rw[<- hX3];exact(bR _ _).drew)
 refine wp_region_held_drew (S:=fun w'=>Blk w' R 60 (J2 v1 v2 v3 v4 (lt:Nat) (m.L.length:Nat) (m.P.length:Nat) (m.R.length:Nat) (m.F.length:Nat) m0 m1 m2 m3)/\Blk w' Sb 96 (Jn (kd:Nat) (nmS x) al (lbS x).length cl ar x.bys.length cr (x.typ:Nat) ai x.u.is.length ci ah x.u.wh.length ch av x.u.va.length cv x.u.sa am x.u.mu.length cm)) (by kernel_rfl) (by rw[hX3];exact hS3) (fun zz=>?_)
 rw[hX3]at zz⊢
 refine tj 0 13 (Yd Sb 0) zz ?_
 refine tj 1 14 (Ya (kd:Nat)) zz ?_ (hy:=fun w hS=>by obtain⟨⟨q0,-⟩,-⟩:=thirteen hS.2;simp[execOp,go_sem,q0])
 refine tj 2 15 (Yd R 0) zz ?_
 refine tj 3 16 (Yd R 0) zz ?_
 simp only[sX,sY,sZ]
 refine tj 4 17 (Yd R 4) zz ?_
 refine tj 5 18 (Ya (lt:Nat)) zz ?_ (hy:=fun w hS=>by obtain⟨⟨-,-,-,-,q4,-⟩,-⟩:=thirteen hS.1;simp[execOp,go_sem,q4])
 simp only[sX,sY,sZ]
 by_cases hk4:x.kind<last
 case pos =>
  as_aux_lemma =>
   refine tj 6 19 (.bool false) zz ?_ (hy:=fun w hS=>by simp[execOp,go_sem];omega);simp only[sX,sY,sZ];refine panY (i:=7) (f:=60) (args:=#[.bool false,Ya 4]) (R:=fun ch wz=>.panicked ch=flt 4/\wz=X3) rfl (by rfl) (by kernel_rfl) (by simp[execOp,go_sem]) ((ask_no 4 X3).mono fun e w6 ⟨he,hb⟩=>⟨_,he,rfl,hb⟩) ?_;rintro ch W9 ⟨hch,hw9⟩;subst hw9;refine⟨rfl,?_⟩;rw[hch];exact .inl ⟨4,rfl,HB3.u,.inr ⟨x,4,HX.u,addS_4 hk4,by decide,rfl⟩⟩
 refine tj 6 19 (.bool true) zz ?_ (hy:=fun w hS=>by simp[execOp,go_sem];omega)
 simp only[sX,sY,sZ]
 refine callY (i:=7) (f:=60) (args:=#[.bool true,Ya 4]) (R:=fun v wz=>v=.tuple #[]/\wz=X3) 20 rfl rfl (by rfl) (by kernel_rfl) (by simp[execOp,go_sem]) ((qfe 4 X3).mono fun e w6 ⟨he,hb⟩=>⟨_,he,rfl,hb⟩) ?_
 rintro v W9 ⟨rfl,hw9⟩
 rw[hw9]
 refine⟨zz,?_⟩
 try simp only[sX,sY,sZ]
 refine wpAnyH_done (by kernel_rfl) ?_ _
 clear zz
 have HK4:=h_ hk4
 clear hk4
 obtain⟨X4,hX4⟩:=Nq X3.drew
 have hS4:Blk X4 R 60 (J2 v1 v2 v3 v4 (lt:Nat) (m.L.length:Nat) (m.P.length:Nat) (m.R.length:Nat) (m.F.length:Nat) m0 m1 m2 m3)/\Blk X4 Sb 96 (Jn (kd:Nat) (nmS x) al (lbS x).length cl ar x.bys.length cr (x.typ:Nat) ai x.u.is.length ci ah x.u.wh.length ch av x.u.va.length cv x.u.sa am x.u.mu.length cm)/\X4.cell? ⟨0,kd,none⟩=some (Ya (Li:Nat)):=by rw[<- hX4];exact⟨hS3.1.mono (bR _ _).drew hS3.1.lt,hS3.2.mono (bR _ _).drew hS3.2.lt,HKn.u _ HB3.u.drew⟩
 have HB4:Hi (Below w.heap.size w X4):=h_ (by rw[<- hX4];exact HB3.u.drew)
 have HB24:Hi (Below W2.heap.size W2 X4):=h_ (by rw[<- hX4];exact HB23.u.drew)
 clear hS3 hX3
 go_upto_region 3 with fail
 refine wp_region_held_drew (S:=fun w'=>Blk w' R 60 (J2 v1 v2 v3 v4 (lt:Nat) (m.L.length:Nat) (m.P.length:Nat) (m.R.length:Nat) (m.F.length:Nat) m0 m1 m2 m3)/\Blk w' Sb 96 (Jn (kd:Nat) (nmS x) al (lbS x).length cl ar x.bys.length cr (x.typ:Nat) ai x.u.is.length ci ah x.u.wh.length ch av x.u.va.length cv x.u.sa am x.u.mu.length cm)/\w'.cell? ⟨0,kd,none⟩=some (Ya (Li:Nat))) (by kernel_rfl) (by rw[hX4];exact hS4) (fun zz=>?_)
 rw[hX4]at zz⊢
 refine tj 0 21 (Yd R 0) zz ?_
 refine tj 1 22 (Yd Sb 0) zz ?_
 refine tj 2 23 (Ya (kd:Nat)) zz ?_ (hy:=fun w hS=>by obtain⟨⟨q0,-⟩,-⟩:=thirteen hS.2.1;simp[execOp,go_sem,q0])
 refine tj 3 24 (Yd R 0) zz ?_
 simp only[sX,sY,sZ]
 refine tj 4 25 (Yd R 5) zz ?_
 refine tj 5 26 (Yd R (5+kd)) zz ?_
 refine tj 6 27 (Ya (C:Nat)) zz ?_ (hy:=fun w hS=>by have q:=HCn.u _ _ hS.1;simp[execOp,go_sem,q])
 refine tj 7 28 (Yd Sb 0) zz ?_
 simp only[sX,sY,sZ]
 refine tj 8 29 (Ya (kd:Nat)) zz ?_ (hy:=fun w hS=>by obtain⟨⟨q0,-⟩,-⟩:=thirteen hS.2.1;simp[execOp,go_sem,q0])
 refine tj 9 30 (Yd 0 kd) zz ?_
 refine tj 10 31 (Ya (Li:Nat)) zz ?_ (hy:=fun w hS=>by simp[execOp,go_sem,hS.2.2])
 simp only[sX,sY,sZ]
 have hcs:=HCe.u
 have hls:=HLe.u
 by_cases hk5:limS x.kind<=cntS m x.kind
 case pos =>
  as_aux_lemma =>
   refine tj 11 32 (.bool false) zz ?_ (hy:=fun w hS=>by simp[execOp,go_sem];omega);simp only[sX,sY,sZ];refine panY (i:=12) (f:=60) (args:=#[.bool false,Ya 5]) (R:=fun ch wz=>.panicked ch=flt 5/\wz=X4) rfl (by rfl) (by kernel_rfl) (by simp[execOp,go_sem]) ((ask_no 5 X4).mono fun e w6 ⟨he,hb⟩=>⟨_,he,rfl,hb⟩) ?_;rintro ch W9 ⟨hch,hw9⟩;subst hw9;refine⟨rfl,?_⟩;rw[hch];exact .inl ⟨5,rfl,HB4.u,.inr ⟨x,5,HX.u,addS_5 HTs.u HK4.u hk5,by decide,rfl⟩⟩
 refine tj 11 32 (.bool true) zz ?_ (hy:=fun w hS=>by simp[execOp,go_sem];omega)
 simp only[sX,sY,sZ]
 refine callY (i:=12) (f:=60) (args:=#[.bool true,Ya 5]) (R:=fun v wz=>v=.tuple #[]/\wz=X4) 33 rfl rfl (by rfl) (by kernel_rfl) (by simp[execOp,go_sem]) ((qfe 5 X4).mono fun e w6 ⟨he,hb⟩=>⟨_,he,rfl,hb⟩) ?_
 rintro v W9 ⟨rfl,hw9⟩
 rw[hw9]
 refine⟨zz,?_⟩
 try simp only[sX,sY,sZ]
 refine wpAnyH_done (by kernel_rfl) ?_ _
 clear zz
 have HK5:=h_ hk5
 clear hk5 hcs hls
 obtain⟨lc,hlook⟩:=qcx mq ls (nmS x) (by omega)
 obtain⟨X5,hX5⟩:=Nq X4.drew
 have HB5:Hi (Below w.heap.size w X5):=h_ (by rw[<- hX5];exact HB4.u.drew)
 have HB25:Hi (Below W2.heap.size W2 X5):=h_ (by rw[<- hX5];exact HB24.u.drew)
 have hS5:Blk X5 R 60 (J2 v1 v2 v3 v4 (lt:Nat) (m.L.length:Nat) (m.P.length:Nat) (m.R.length:Nat) (m.F.length:Nat) m0 m1 m2 m3)/\Blk X5 Sb 96 (Jn (kd:Nat) (nmS x) al (lbS x).length cl ar x.bys.length cr (x.typ:Nat) ai x.u.is.length ci ah x.u.wh.length ch av x.u.va.length cv x.u.sa am x.u.mu.length cm)/\MpS X5 mq ls:=⟨by rw[<- hX5];exact hS4.1.mono (bR _ _).drew hS4.1.lt,by rw[<- hX5];exact hS4.2.1.mono (bR _ _).drew hS4.2.1.lt,HMp.u _ HB5.u⟩
 clear hS4 hX4
 go_upto_region 4 with fail
 refine wp_region_held_drew (S:=fun w'=>Blk w' R 60 (J2 v1 v2 v3 v4 (lt:Nat) (m.L.length:Nat) (m.P.length:Nat) (m.R.length:Nat) (m.F.length:Nat) m0 m1 m2 m3)/\Blk w' Sb 96 (Jn (kd:Nat) (nmS x) al (lbS x).length cl ar x.bys.length cr (x.typ:Nat) ai x.u.is.length ci ah x.u.wh.length ch av x.u.va.length cv x.u.sa am x.u.mu.length cm)/\MpS w' mq ls) (by kernel_rfl) (by rw[hX5];exact hS5) (fun zz=>?_)
 rw[hX5]at zz⊢
 refine tj 0 35 (Yd R 0) zz ?_
 refine tj 1 36 (Yd Sb 0) zz ?_
 refine tj 2 37 (Ya (kd:Nat)) zz ?_ (hy:=fun w hS=>by obtain⟨⟨q0,-⟩,-⟩:=thirteen hS.2.1;simp[execOp,go_sem,q0])
 refine tj 3 38 (Yd R 0) zz ?_
 simp only[sX,sY,sZ]
 refine tj 4 39 (Yd R 9) zz ?_
 refine tj 5 40 (Yd R (9+kd)) zz ?_
 refine tj 6 41 mq zz ?_ (hy:=fun w hS=>by have q:=HMq.u _ _ hS.1;simp[execOp,go_sem,q])
 refine tj 7 42 (Yd Sb 1) zz ?_
 simp only[sX,sY,sZ]
 refine tj 8 43 (.string (nmS x)) zz ?_ (hy:=fun w hS=>by obtain⟨⟨-,q1,-⟩,-⟩:=thirteen hS.2.1;simp[execOp,go_sem,q1])
 refine tj 9 44 (.tuple #[Ya lc,.bool (memB (nmS x) ls)]) zz ?_ (hy:=fun w hS=>by simp[execOp,go_sem,hlook _ hS.2.2])
 refine tj 10 34 (.tuple #[Ya lc,.bool (memB (nmS x) ls)]) zz ?_
 refine tj 11 45 (Ya lc) zz ?_
 simp only[sX,sY,sZ]
 refine tj 12 46 (.bool (memB (nmS x) ls)) zz ?_
 refine tj 13 6 (Ya lc) zz ?_
 refine tj 14 7 (.bool (memB (nmS x) ls)) zz ?_
 simp only[sX,sY,sZ]
 refine wpAnyH_done (by kernel_rfl) ?_ _
 clear zz hlook hX5
 have hlst:=HLst.u
 obtain⟨⟨s0,s1,s2,s3,s4,s5,s6⟩,s7,s8,s9,s10,s11,s12⟩:=thirteen hS5.2.1
 have HS5:=h_ hS5
 clear hS5
 have HAd:=h_ (q00 ar cr x.bys X5 (by omega) (fun y hy=>by have:=HGd1.u y hy;omega) (by
  obtain⟨a',c',e',-,hst⟩:=(HO2.u.keep HB25.u).strs;cases e';exact hst))
 cases hm6:memB (nmS x) ls
 case true =>
  as_aux_lemma =>
   have h6:memB (nmS x) (lstS m x.kind)=true∨¬ x.bys.Nodup:=.inl (by rw[hlst];exact hm6);have HA6:=h_ (addS_6 HTs.u HK4.u HK5.u h6);go_wp2_with fail;refine(ask_no _ _).mono ?_;rintro e w9 ⟨rfl,hw9⟩;subst hw9;exact⟨rfl,.inl ⟨6,rfl,HB5.u,.inr ⟨x,6,HX.u,HA6.u,by decide,rfl⟩⟩⟩
 by_cases hnd:x.bys.Nodup
 case neg =>
  as_aux_lemma =>
   have HA6:=h_ (addS_6 HTs.u HK4.u HK5.u (.inr hnd));rw[Yg hnd]at HAd;go_wp2_with fail;refine HAd.u.mono ?_;rintro e W6 ⟨rfl,hb6⟩;have HB6:=mT HB5 hb6;clear hb6;go_wp2_with fail;refine(ask_no _ _).mono ?_;rintro e w9 ⟨rfl,hw9⟩;subst hw9;exact⟨rfl,.inl ⟨6,rfl,HB6.u,.inr ⟨x,6,HX.u,HA6.u,by decide,rfl⟩⟩⟩
 rw[Yh hnd]at HAd
 have HK6:Hi (¬ (memB (nmS x) (lstS m x.kind)=true∨¬ x.bys.Nodup)):=h_ (by
  rintro (h | h)
  . rw[hlst,hm6]at h;cases h
  . exact h hnd)
 clear hm6 hnd hlst
 go_wp2_with fail
 refine HAd.u.mono ?_
 rintro e W6 ⟨rfl,hb6⟩
 have HB6:=mT HB5 hb6;have HB26:=mT HB25 hb6
 have HS6:=h_ (HS5.u.2.1.mono hb6 HS5.u.2.1.lt)
 clear hb6 HAd HS5 s0 s1 s2 s3 s4 s5 s6 s7 s8 s9 s10 s11 s12
 go_wp2_with fail
 refine(qfe _ _).mono ?_
 rintro e w9 ⟨rfl,hw9⟩
 subst hw9
 obtain⟨W6,hW6⟩:∃W6,W6=w9:=⟨_,rfl⟩
 subst hW6
 have hsz6:=HB6.u.size
 have hF6:=HF.u.mono HB6.u
 have HFl:=h_ (qc9 R m0 m.L al cl (lbS x) W6 hF6.blk.lt (hF6.blk.cell 9) hF6.a0 HNL.u (by omega) (fun y hy=>by have:=HGd2.u y hy;omega) (by
  obtain⟨a',c',e',-,hst⟩:=(HO1.u.keep HB26.u).strs;cases e';exact hst))
 obtain⟨⟨s0,s1,s2,s3,s4,s5,s6⟩,s7,s8,s9,s10,s11,s12⟩:=thirteen HS6.u
 clear hF6
 go_wp2_with fail
 refine HFl.u.mono ?_
 rintro e W7 (⟨hal,vL,rfl,hoL,hb7⟩ | ⟨hal,rfl,hb7⟩)
 case inr=>exact⟨rfl,.inl ⟨7,rfl,HB6.u.trans (hb7.mono HB6.u.size),.inr ⟨x,7,HX.u,addS_7 HTs.u HK4.u HK5.u HK6.u (by rw[hal];rfl),by decide,rfl⟩⟩⟩
 have HAl:=h_ hal;have HoL:=h_ hoL
 have HB7:=mT HB6 hb7;have HB27:=mT HB26 hb7
 have HS7:=mB HS6 hb7
 clear hal hoL hb7 HFl s0 s1 s2 s3 s4 s5 s6 s7 s8 s9 s10 s11 s12
 have hF7:=HF.u.mono HB7.u
 have HFr:=h_ (qca R m2 (rNames m) ar cr x.bys W7 hF7.blk.lt (hF7.blk.cell 11) hF7.a2 HNR.u (by omega) (fun y hy=>by have:=HGd1.u y hy;omega) (by
  obtain⟨a',c',e',-,hst⟩:=(HO2.u.keep HB27.u).strs;cases e';exact hst))
 obtain⟨⟨s0,s1,s2,s3,s4,s5,s6⟩,s7,s8,s9,s10,s11,s12⟩:=thirteen HS7.u
 obtain⟨aL,cL,heL,-,hcL⟩:=q7o HoL.u
 subst heL
 clear hF7
 go_wp2_with fail
 refine HFr.u.mono ?_
 rintro e W8 (⟨har,vB,rfl,hoB,hb8⟩ | ⟨har,rfl,hb8⟩)
 case inr=>exact⟨rfl,.inl ⟨7,rfl,HB7.u.trans (hb8.mono HB7.u.size),.inr ⟨x,7,HX.u,addS_7 HTs.u HK4.u HK5.u HK6.u (by rw[har,Bool.and_false]),by decide,rfl⟩⟩⟩
 have HK7:Hi ((((lbS x).all fun y=>memB y m.L)&&x.bys.all fun y=>memB y (rNames m))=true):=h_ (by rw[har,HAl.u];rfl)
 have HoB:=h_ hoB
 have h78:=hb8.size
 have HoL8:=h_ (q9x HoL.u hb8)
 have HB8:=mT HB7 hb8;have HB28:=mT HB27 hb8
 have HS8:=mB HS7 hb8
 clear har hoB hb8 HFr s0 s1 s2 s3 s4 s5 s6 s7 s8 s9 s10 s11 s12
 have hft:=HFt.u
 have hsa:=HTs.u.sas
 have HO3n:=h_ (HO3.u.keep HB28.u);have HO4n:=h_ (HO4.u.keep HB28.u);have HO5n:=h_ (HO5.u.keep HB28.u);have HO6n:=h_ (HO6.u.keep HB28.u)
 have HVr:=h_ (q0a (Fl.mk ⟨#[]⟩ ((x.typ:Nat):Int) 0 [] x.u.is x.u.wh x.u.va x.u.sa x.u.mu) (FA.mk none 0 ai ci ah ch av cv am cm) W8 ⟨by show(0:Nat)<=_;omega,by show x.u.sa.size<=_;omega,by show(0:Nat)<=_;omega,by have:=hft.2.1.1;show x.u.is.length<=_;omega,by have:=hft.2.2.1.1;show x.u.wh.length<=_;omega,by have:=hft.2.2.2.1.1;show x.u.va.length<=_;omega,by have:=hft.2.2.2.2.1;show x.u.mu.length<=_;omega,hft.2.1.2,hft.2.2.1.2,hft.2.2.2.1.2,hft.2.2.2.2.2⟩ ⟨(fun k hk=>absurd hk (nL _)),qhx HO3n.u,qhx HO4n.u,qhx HO5n.u,qhx HO6n.u⟩ ⟨HC.u.wr.mono HB8.u,HC.u.pw.mono HB8.u⟩)
 unfold fV at HVr
 dsimp only at HVr
 obtain⟨⟨s0,s1,s2,s3,s4,s5,s6⟩,s7,s8,s9,s10,s11,s12⟩:=thirteen HS8.u
 obtain⟨aB,cB,heB,-,-⟩:=q7o HoB.u
 subst heB
 have hrs:(ruleOk x.u.is&&ruleOk x.u.wh&&ruleOk x.u.va&&ruleOk x.u.mu)=rulS x:=rfl
 rw[hrs]at HVr
 rw[show([]:List Int).length=0 from rfl]at HVr
 clear hft hrs
 go_wp2_with fail
 refine HVr.u.mono ?_
 rintro e W9 ⟨rfl,hb9⟩
 have HB9:=mT HB8 hb9;have HB29:=mT HB28 hb9
 have HS9:=mB HS8 hb9
 have HoL9:=h_ (q9x HoL8.u hb9);have HoB9:=h_ (q9x HoB.u hb9)
 have h89:=hb9.size
 clear hb9 HVr s0 s1 s2 s3 s4 s5 s6 s7 s8 s9 s10 s11 s12
 cases hrl:rulS x
 case false =>
  as_aux_lemma =>
   have HA8:=h_ (addS_8 HTs.u HK4.u HK5.u HK6.u HK7.u hrl);go_wp2_with fail;refine(ask_no _ _).mono ?_;rintro e w9 ⟨rfl,hw9⟩;subst hw9;exact⟨rfl,.inl ⟨8,rfl,HB9.u,.inr ⟨x,8,HX.u,HA8.u,by decide,rfl⟩⟩⟩
 have HA0:=h_ (addS_0 HTs.u HK4.u HK5.u HK6.u HK7.u hrl)
 clear hrl
 go_wp2_with fail
 refine(qfe _ _).mono ?_
 rintro e w9 ⟨rfl,hw9⟩
 rw[hw9]
 clear hw9
 rcases HK14.u with hxk | hxk | hxk | hxk
 case inl =>
  as_aux_lemma =>
   have hkq:kd=0:=HKd.u.symm.trans (by rw[hxk]);clear hkd4 hkd4';subst hkq;rw[show((0:Nat):Int)=0 from rfl]at HS9
   try rw[show((0:Nat):Int)=0 from rfl]
   have hF9:=HF.u.mono HB9.u;have hR9:=hF9.blk;rw[hlt]at hR9;obtain⟨⟨s0,s1,s2,s3,s4,s5,s6⟩,s7,s8,s9,s10,s11,s12⟩:=thirteen HS9.u;have HDc:=h_ (q8q R v1 v2 v3 v4 m0 m1 m2 m3 (lt:Nat) m.L.length m.P.length m.R.length m.F.length (nmS x) x.typ (.slice al (lbS x).length cl) (.slice ar x.bys.length cr) (.slice ai x.u.is.length ci) (.slice ah x.u.wh.length ch) (.slice av x.u.va.length cv) (.slice am x.u.mu.length cm) x.u.sa m.L W9 hR9 hF9.a0 rfl (by omega) (by omega) (HTs.u.nm (by omega)).1 (fun b e=>by have:=hF9.mb b (.inl e);have:=hF9.lo;omega));have HF9:=h_ hF9;have HR9:=h_ hR9;clear hF9 hR9;go_wp2_with fail;refine HDc.u.mono ?_;rintro e Wa ⟨rfl,mv,hRa,hma,hda,hba,hva⟩;have hsa9:=hba.size;have hRS:Sb≠R:=by have:=hRl;omega
   have hSa:=(hda Sb HS9.u.lt hRS (fun e=>HF9.u.a0.ne HS9.u e)).trans HS9.u;replace hSa:Blk Wa Sb 96 [Ya 0,.string (nmS x),.slice al (lbS x).length cl,.slice ar x.bys.length cr,Yc,Ya (x.typ:Nat),Ya 0,Yb,.slice ai x.u.is.length ci,.slice ah x.u.wh.length ch,.slice av x.u.va.length cv,.string x.u.sa,.slice am x.u.mu.length cm]:=hSa;have hMa:=OwM.dsm hda HF9.u.a0 HR9.u HF9.u.own;have hLa:=qdh hda HF9.u.a0 HR9.u HoL9.u (by decide);have hBa:=qdh hda HF9.u.a0 HR9.u HoB9.u (by decide);have o3a:=qdh hda HF9.u.a0 HR9.u (HO3.u.keep HB29.u) (by decide);have o4a:=qdh hda HF9.u.a0 HR9.u (HO4.u.keep HB29.u) (by decide);have o5a:=qdh hda HF9.u.a0 HR9.u (HO5.u.keep HB29.u) (by decide);have o6a:=qdh hda HF9.u.a0 HR9.u (HO6.u.keep HB29.u) (by decide);have hP4:=HF9.u.mp4.put0 HF.u.lo HF9.u.hi hda hma hva;have HBa:=h_ ((HB9.u.mono (V8 hRl)).trans hba);have HSa1:Hi (∀g t cs,Blk w g t cs->t≠60->Blk Wa g t cs/\g≠R):=h_ fun g t cs h hF=>have h9:=h.mono HB9.u h.lt;have hgR:g≠R:=fun e=>hF (Blk.ty (e ▸ h) HF.u.blk);⟨(hda g h9.lt hgR (fun e=>HF9.u.a0.ne h9 e)).trans h9,hgR⟩;have hbs:=HF.u.hi;have hsWa:=HBa.u.size;have hRb:=HF.u.lo;obtain⟨s0',sX,sY⟩:True/\True/\True:=⟨trivial,trivial,trivial⟩;clear s0 s1 s2 s3 s4 s5 s6 s7 s8 s9 s10 s11 s12 s0' sX sY;obtain⟨⟨s0,s1,s2,s3,s4,s5,s6⟩,s7,s8,s9,s10,s11,s12⟩:=thirteen hSa;have HAd2:=h_ (add_0 R base v1 v2 v3 v4 _ _ _ _ _ _ _ _ _ m P (nmS x) x.typ (.slice al (lbS x).length cl) (.slice ar x.bys.length cr) (.slice ai x.u.is.length ci) (.slice ah x.u.wh.length ch) (.slice av x.u.va.length cv) (.slice am x.u.mu.length cm) (.slice aB (ixL (rNames m) x.bys).length cB) x.u.sa (.slice aL (ixL m.L (lbS x)).length cL) Wa hRa hMa (by omega) hRb (by omega));have HP4:=h_ hP4;have HMa:=h_ hMa;have HAs:Hi (Asc base (P.flatMap fvs) w.heap.size):=h_ HF.u.asc;clear HDc hda hma hva hba hSa hMa hLa hBa o3a o4a o5a o6a hP4 hRa;go_wp2_with fail;refine HAd2.u.mono ?_;rintro e Wb ⟨rfl,v',hRb',hMb,hab,hbb⟩;have e0:mkS m x = { m with L:=m.L++[x.name] }:=by unfold mkS;rw[hxk];rfl
   have hnx:=(HTs.u.nm (by omega)).2;rw[hnx]at hMb;have hP5:=HP4.u.adm hRb hab HMa.u.l;rw[hnx]at hP5;have hszb:=hbb.size;have HFin:Hi (FRd Wb R base (mkS m x) P x.kind v' v2 v3 v4 mv m1 m2 m3):=h_ (by
    rw[e0,hxk];refine FRd.of ?_ hMb hP5 (HAs.u.up (by have:=HBa.u.size;omega)) hRb (by omega);show Blk Wb R _ _;rw[Yf];exact hRb')
   have HBf:=h_ (HBa.u.trans hbb);have HSm:Hi (∀g t cs,Blk w g t cs->t≠60->t≠9->t≠84->t≠86->t≠52->Blk Wb g t cs):=h_ fun g t cs h h1 h2 h3 h4 h5=>have ha:=HSa1.u g t cs h h1;(hab g ha.1.lt ha.2 (fun e=>qdg HMa.u.l ha.1 (fun e'=>h2 e'.symm) e)).trans ha.1;clear hRb' hMb hab hbb hP5 e0;go_wp2_with fail
   go_end0
   exact .inr ⟨x,P,_,_,_,_,_,_,_,_,HX.u,HA0.u,rfl,HFin.u,HBf.u,HSm.u⟩
 case inr.inl =>
  as_aux_lemma =>
   have hkq:kd=1:=HKd.u.symm.trans (by rw[hxk]);clear hkd4 hkd4';subst hkq;rw[show((1:Nat):Int)=1 from rfl]at HS9
   try rw[show((1:Nat):Int)=1 from rfl]
   have hnm1:nmS x=⟨#[]⟩:=by unfold nmS;rw[hxk];rfl
   rw[hnm1]at HS9
   try rw[hnm1]
   have HNm1:=h_ hnm1;clear hnm1;have hF9:=HF.u.mono HB9.u;have hR9:=hF9.blk;rw[hlt]at hR9;obtain⟨⟨s0,s1,s2,s3,s4,s5,s6⟩,s7,s8,s9,s10,s11,s12⟩:=thirteen HS9.u;have HDc:=h_ (q8r R v1 v2 v3 v4 m0 m1 m2 m3 (lt:Nat) m.L.length m.P.length m.R.length m.F.length x.typ (.slice al (lbS x).length cl) (.slice ar x.bys.length cr) (.slice ai x.u.is.length ci) (.slice ah x.u.wh.length ch) (.slice av x.u.va.length cv) (.slice am x.u.mu.length cm) x.u.sa W9 hR9 hF9.a1 (by omega) (fun b e=>by have:=hF9.mb b (.inr (.inl e));have:=hF9.lo;omega));have HF9:=h_ hF9;have HR9:=h_ hR9;clear hF9 hR9;go_wp2_with fail;refine HDc.u.mono ?_;rintro e Wa ⟨rfl,mv,hRa,hma,hda,hba,hva⟩;have hsa9:=hba.size;have hRS:Sb≠R:=by have:=hRl;omega
   have hSa:=(hda Sb HS9.u.lt hRS (fun e=>HF9.u.a1.ne HS9.u e)).trans HS9.u;replace hSa:Blk Wa Sb 96 [Ya 1,Yc,.slice al (lbS x).length cl,.slice ar x.bys.length cr,Yc,Ya (x.typ:Nat),Ya 0,Yb,.slice ai x.u.is.length ci,.slice ah x.u.wh.length ch,.slice av x.u.va.length cv,.string x.u.sa,.slice am x.u.mu.length cm]:=hSa;have hMa:=OwM.dsm hda HF9.u.a1 HR9.u HF9.u.own;have hLa:=qdh hda HF9.u.a1 HR9.u HoL9.u (by decide);have hBa:=qdh hda HF9.u.a1 HR9.u HoB9.u (by decide);have o3a:=qdh hda HF9.u.a1 HR9.u (HO3.u.keep HB29.u) (by decide);have o4a:=qdh hda HF9.u.a1 HR9.u (HO4.u.keep HB29.u) (by decide);have o5a:=qdh hda HF9.u.a1 HR9.u (HO5.u.keep HB29.u) (by decide);have o6a:=qdh hda HF9.u.a1 HR9.u (HO6.u.keep HB29.u) (by decide);have hP4:=HF9.u.mp4.put1 HF.u.lo HF9.u.hi hda hma hva;have HBa:=h_ ((HB9.u.mono (V8 hRl)).trans hba);have HSa1:Hi (∀g t cs,Blk w g t cs->t≠60->Blk Wa g t cs/\g≠R):=h_ fun g t cs h hF=>have h9:=h.mono HB9.u h.lt;have hgR:g≠R:=fun e=>hF (Blk.ty (e ▸ h) HF.u.blk);⟨(hda g h9.lt hgR (fun e=>HF9.u.a1.ne h9 e)).trans h9,hgR⟩;have hbs:=HF.u.hi;have hsWa:=HBa.u.size;have hRb:=HF.u.lo;obtain⟨s0',sX,sY⟩:True/\True/\True:=⟨trivial,trivial,trivial⟩;clear s0 s1 s2 s3 s4 s5 s6 s7 s8 s9 s10 s11 s12 s0' sX sY;obtain⟨⟨s0,s1,s2,s3,s4,s5,s6⟩,s7,s8,s9,s10,s11,s12⟩:=thirteen hSa;have hlb:lbS x=[x.name,x.other]:=by unfold lbS;rw[hxk];rfl
   obtain⟨aL',cL',eL',-,hqL⟩:=q7o hLa;cases eL';have hlen2:(ixL m.L (lbS x)).length=2:=by rw[hlb];rfl
   obtain⟨gL,hgA,hgl,hgb,hcs⟩:=hqL (by omega);subst hgA;have c0:Wa.cell? ⟨gL,0,none⟩=some (Ya ((ixN m.L x.name:Nat):Int)):=(hcs 0 (by omega)).trans (by rw[hlb];rfl);have c1:Wa.cell? ⟨gL,1,none⟩=some (Ya ((ixN m.L x.other:Nat):Int)):=(hcs 1 (by omega)).trans (by rw[hlb];rfl);have HAd2:=h_ (add_1 R base v1 v2 v3 v4 _ _ _ _ _ _ _ _ _ m P x.typ (.slice al (lbS x).length cl) (.slice ar x.bys.length cr) (.slice ai x.u.is.length ci) (.slice ah x.u.wh.length ch) (.slice av x.u.va.length cv) (.slice am x.u.mu.length cm) (.slice aB (ixL (rNames m) x.bys).length cB) x.u.sa gL cL ((ixN m.L x.name:Nat):Int) ((ixN m.L x.other:Nat):Int) Wa hRa hMa (by omega) hRb (by omega) hgl (by omega) (fun e=>by have:=q9z hMa.p hLa (by decide);rcases this with h | h;rw[h]at e;cases e;exact h (by rw[e];rfl)) c0 c1);rw[hlen2];clear hlb hqL hcs c0 c1;have HP4:=h_ hP4;have HMa:=h_ hMa;have HAs:Hi (Asc base (P.flatMap fvs) w.heap.size):=h_ HF.u.asc;clear HDc hda hma hva hba hSa hMa hLa hBa o3a o4a o5a o6a hP4 hRa;go_wp2_with fail;refine HAd2.u.mono ?_;rintro e Wb ⟨rfl,v',hRb',hMb,hab,hbb⟩;have e0:mkS m x = { m with P:=m.P++[(((ixN m.L x.name:Nat):Int),((ixN m.L x.other:Nat):Int))] }:=by unfold mkS;rw[hxk];rfl
   have hP5:=HP4.u.adm hRb hab HMa.u.p;have hszb:=hbb.size;have HFin:Hi (FRd Wb R base (mkS m x) P x.kind v1 v' v3 v4 m0 mv m2 m3):=h_ (by
    rw[e0,hxk];refine FRd.of ?_ hMb hP5 (HAs.u.up (by have:=HBa.u.size;omega)) hRb (by omega);show Blk Wb R _ _;rw[Yf];exact hRb')
   have HBf:=h_ (HBa.u.trans hbb);have HSm:Hi (∀g t cs,Blk w g t cs->t≠60->t≠9->t≠84->t≠86->t≠52->Blk Wb g t cs):=h_ fun g t cs h h1 h2 h3 h4 h5=>have ha:=HSa1.u g t cs h h1;(hab g ha.1.lt ha.2 (fun e=>qdg HMa.u.p ha.1 (fun e'=>h3 e'.symm) e)).trans ha.1;clear hRb' hMb hab hbb hP5 e0;go_wp2_with fail
   go_end0
   exact .inr ⟨x,P,_,_,_,_,_,_,_,_,HX.u,HA0.u,rfl,HFin.u,HBf.u,HSm.u⟩
 case inr.inr.inl =>
  as_aux_lemma =>
   have hkq:kd=2:=HKd.u.symm.trans (by rw[hxk]);clear hkd4 hkd4';subst hkq;rw[show((2:Nat):Int)=2 from rfl]at HS9
   try rw[show((2:Nat):Int)=2 from rfl]
   have hF9:=HF.u.mono HB9.u;have hR9:=hF9.blk;rw[hlt]at hR9;obtain⟨⟨s0,s1,s2,s3,s4,s5,s6⟩,s7,s8,s9,s10,s11,s12⟩:=thirteen HS9.u;have HDc:=h_ (q8s R v1 v2 v3 v4 m0 m1 m2 m3 (lt:Nat) m.L.length m.P.length m.R.length m.F.length (nmS x) x.typ (.slice al (lbS x).length cl) (.slice ar x.bys.length cr) (.slice ai x.u.is.length ci) (.slice ah x.u.wh.length ch) (.slice av x.u.va.length cv) (.slice am x.u.mu.length cm) x.u.sa (rNames m) W9 hR9 hF9.a2 (by simp[rNames]) (by omega) (by omega) (HTs.u.nm (by omega)).1 (fun b e=>by have:=hF9.mb b (.inr (.inr (.inl e)));have:=hF9.lo;omega));have HF9:=h_ hF9;have HR9:=h_ hR9;clear hF9 hR9;go_wp2_with fail;refine HDc.u.mono ?_;rintro e Wa ⟨rfl,mv,hRa,hma,hda,hba,hva⟩;have hsa9:=hba.size;have hRS:Sb≠R:=by have:=hRl;omega
   have hSa:=(hda Sb HS9.u.lt hRS (fun e=>HF9.u.a2.ne HS9.u e)).trans HS9.u;replace hSa:Blk Wa Sb 96 [Ya 2,.string (nmS x),.slice al (lbS x).length cl,.slice ar x.bys.length cr,Yc,Ya (x.typ:Nat),Ya 0,Yb,.slice ai x.u.is.length ci,.slice ah x.u.wh.length ch,.slice av x.u.va.length cv,.string x.u.sa,.slice am x.u.mu.length cm]:=hSa;have hMa:=OwM.dsm hda HF9.u.a2 HR9.u HF9.u.own;have hLa:=qdh hda HF9.u.a2 HR9.u HoL9.u (by decide);have hBa:=qdh hda HF9.u.a2 HR9.u HoB9.u (by decide);have o3a:=qdh hda HF9.u.a2 HR9.u (HO3.u.keep HB29.u) (by decide);have o4a:=qdh hda HF9.u.a2 HR9.u (HO4.u.keep HB29.u) (by decide);have o5a:=qdh hda HF9.u.a2 HR9.u (HO5.u.keep HB29.u) (by decide);have o6a:=qdh hda HF9.u.a2 HR9.u (HO6.u.keep HB29.u) (by decide);have hP4:=HF9.u.mp4.put2 HF.u.lo HF9.u.hi hda hma hva;have HBa:=h_ ((HB9.u.mono (V8 hRl)).trans hba);have HSa1:Hi (∀g t cs,Blk w g t cs->t≠60->Blk Wa g t cs/\g≠R):=h_ fun g t cs h hF=>have h9:=h.mono HB9.u h.lt;have hgR:g≠R:=fun e=>hF (Blk.ty (e ▸ h) HF.u.blk);⟨(hda g h9.lt hgR (fun e=>HF9.u.a2.ne h9 e)).trans h9,hgR⟩;have hbs:=HF.u.hi;have hsWa:=HBa.u.size;have hRb:=HF.u.lo;obtain⟨s0',sX,sY⟩:True/\True/\True:=⟨trivial,trivial,trivial⟩;clear s0 s1 s2 s3 s4 s5 s6 s7 s8 s9 s10 s11 s12 s0' sX sY;obtain⟨⟨s0,s1,s2,s3,s4,s5,s6⟩,s7,s8,s9,s10,s11,s12⟩:=thirteen hSa;have hlb:lbS x=[x.other]:=by unfold lbS;rw[hxk];rfl
   obtain⟨aL',cL',eL',-,hqL⟩:=q7o hLa;cases eL';have hlen2:(ixL m.L (lbS x)).length=1:=by rw[hlb];rfl
   obtain⟨gL,hgA,hgl,hgb,hcs⟩:=hqL (by omega);subst hgA;have c0:Wa.cell? ⟨gL,0,none⟩=some (Ya ((ixN m.L x.other:Nat):Int)):=(hcs 0 (by omega)).trans (by rw[hlb];rfl);have HAd2:=h_ (add_2 R base v1 v2 v3 v4 _ _ _ _ _ _ _ _ _ m P (nmS x) x.typ (.slice al (lbS x).length cl) (.slice ar x.bys.length cr) (.slice ai x.u.is.length ci) (.slice ah x.u.wh.length ch) (.slice av x.u.va.length cv) (.slice am x.u.mu.length cm) (.slice aB (ixL (rNames m) x.bys).length cB) x.u.sa gL cL ((ixN m.L x.other:Nat):Int) Wa hRa hMa (by omega) hRb (by omega) hgl (by omega) (fun e=>by have:=q9z hMa.r hLa (by decide);rcases this with h | h;rw[h]at e;cases e;exact h (by rw[e];rfl)) c0);rw[hlen2];clear hlb hqL hcs c0;have HP4:=h_ hP4;have HMa:=h_ hMa;have HAs:Hi (Asc base (P.flatMap fvs) w.heap.size):=h_ HF.u.asc;clear HDc hda hma hva hba hSa hMa hLa hBa o3a o4a o5a o6a hP4 hRa;go_wp2_with fail;refine HAd2.u.mono ?_;rintro e Wb ⟨rfl,v',hRb',hMb,hab,hbb⟩;have e0:mkS m x = { m with R:=m.R++[⟨x.name,((ixN m.L x.other:Nat):Int)⟩] }:=by unfold mkS;rw[hxk];rfl
   have hnx:=(HTs.u.nm (by omega)).2;rw[hnx]at hMb;have hP5:=HP4.u.adm hRb hab HMa.u.r;rw[hnx]at hP5;have hszb:=hbb.size;have HFin:Hi (FRd Wb R base (mkS m x) P x.kind v1 v2 v' v4 m0 m1 mv m3):=h_ (by
    rw[e0,hxk];refine FRd.of ?_ hMb (by rw[q5j];exact hP5) (HAs.u.up (by have:=HBa.u.size;omega)) hRb (by omega);show Blk Wb R _ _;rw[Yf];exact hRb')
   have HBf:=h_ (HBa.u.trans hbb);have HSm:Hi (∀g t cs,Blk w g t cs->t≠60->t≠9->t≠84->t≠86->t≠52->Blk Wb g t cs):=h_ fun g t cs h h1 h2 h3 h4 h5=>have ha:=HSa1.u g t cs h h1;(hab g ha.1.lt ha.2 (fun e=>qdg HMa.u.r ha.1 (fun e'=>h4 e'.symm) e)).trans ha.1;clear hRb' hMb hab hbb hP5 e0;go_wp2_with fail
   go_end0
   exact .inr ⟨x,P,_,_,_,_,_,_,_,_,HX.u,HA0.u,rfl,HFin.u,HBf.u,HSm.u⟩
 case inr.inr.inr =>
  as_aux_lemma =>
   have hkq:kd=3:=HKd.u.symm.trans (by rw[hxk]);clear hkd4 hkd4';subst hkq;rw[show((3:Nat):Int)=3 from rfl]at HS9
   try rw[show((3:Nat):Int)=3 from rfl]
   have hF9:=HF.u.mono HB9.u;have hR9:=hF9.blk;rw[hlt]at hR9;obtain⟨⟨s0,s1,s2,s3,s4,s5,s6⟩,s7,s8,s9,s10,s11,s12⟩:=thirteen HS9.u;have HDc:=h_ (q8t R v1 v2 v3 v4 m0 m1 m2 m3 (lt:Nat) m.L.length m.P.length m.R.length m.F.length (nmS x) x.typ (.slice al (lbS x).length cl) (.slice ar x.bys.length cr) (.slice ai x.u.is.length ci) (.slice ah x.u.wh.length ch) (.slice av x.u.va.length cv) (.slice am x.u.mu.length cm) x.u.sa (fNames m) W9 hR9 hF9.a3 (by simp[fNames]) (by omega) (by omega) (HTs.u.nm (by omega)).1 (fun b e=>by have:=hF9.mb b (.inr (.inr (.inr e)));have:=hF9.lo;omega));have HF9:=h_ hF9;have HR9:=h_ hR9;clear hF9 hR9;go_wp2_with fail;refine HDc.u.mono ?_;rintro e Wa ⟨rfl,mv,hRa,hma,hda,hba,hva⟩;have hsa9:=hba.size;have hRS:Sb≠R:=by have:=hRl;omega
   have hSa:=(hda Sb HS9.u.lt hRS (fun e=>HF9.u.a3.ne HS9.u e)).trans HS9.u;replace hSa:Blk Wa Sb 96 [Ya 3,.string (nmS x),.slice al (lbS x).length cl,.slice ar x.bys.length cr,Yc,Ya (x.typ:Nat),Ya 0,Yb,.slice ai x.u.is.length ci,.slice ah x.u.wh.length ch,.slice av x.u.va.length cv,.string x.u.sa,.slice am x.u.mu.length cm]:=hSa;have hMa:=OwM.dsm hda HF9.u.a3 HR9.u HF9.u.own;have hLa:=qdh hda HF9.u.a3 HR9.u HoL9.u (by decide);have hBa:=qdh hda HF9.u.a3 HR9.u HoB9.u (by decide);have o3a:=qdh hda HF9.u.a3 HR9.u (HO3.u.keep HB29.u) (by decide);have o4a:=qdh hda HF9.u.a3 HR9.u (HO4.u.keep HB29.u) (by decide);have o5a:=qdh hda HF9.u.a3 HR9.u (HO5.u.keep HB29.u) (by decide);have o6a:=qdh hda HF9.u.a3 HR9.u (HO6.u.keep HB29.u) (by decide);have hP4:=HF9.u.mp4.put3 HF.u.lo HF9.u.hi hda hma hva;have HBa:=h_ ((HB9.u.mono (V8 hRl)).trans hba);have HSa1:Hi (∀g t cs,Blk w g t cs->t≠60->Blk Wa g t cs/\g≠R):=h_ fun g t cs h hF=>have h9:=h.mono HB9.u h.lt;have hgR:g≠R:=fun e=>hF (Blk.ty (e ▸ h) HF.u.blk);⟨(hda g h9.lt hgR (fun e=>HF9.u.a3.ne h9 e)).trans h9,hgR⟩;have hbs:=HF.u.hi;have hsWa:=HBa.u.size;have hRb:=HF.u.lo;obtain⟨s0',sX,sY⟩:True/\True/\True:=⟨trivial,trivial,trivial⟩;clear s0 s1 s2 s3 s4 s5 s6 s7 s8 s9 s10 s11 s12 s0' sX sY;obtain⟨⟨s0,s1,s2,s3,s4,s5,s6⟩,s7,s8,s9,s10,s11,s12⟩:=thirteen hSa;obtain⟨aL',cL',eL',-,hqL⟩:=q7o hLa;cases eL';obtain⟨lab,hlab⟩:∃lab:Int,(if x.auto=true then -1 else ((ixN m.L x.other:Nat):Int))=lab:=⟨_,rfl⟩;have hlL:((ixL m.L (lbS x)).length=0/\lab = -1)∨((ixL m.L (lbS x)).length=1/\∃g,aL=some ⟨g,0,none⟩/\g<Wa.heap.size/\Wa.cell? ⟨g,0,none⟩=some (Ya lab)):=by
    cases hau:x.auto
    . have hlb:lbS x=[x.other]:=by unfold lbS;rw[hxk,hau];rfl
      have hl1:(ixL m.L (lbS x)).length=1:=(by rw[hlb];rfl);obtain⟨g,h1,h2,-,h3⟩:=hqL (by omega);refine .inr ⟨hl1,g,h1,h2,(h3 0 (by omega)).trans ?_⟩;rw[hlb,<- hlab,hau];rfl
    . have hlb:lbS x=[]:=by unfold lbS;rw[hxk,hau];rfl
      refine .inl ⟨by rw[hlb];rfl,?_⟩;rw[<- hlab,hau];rfl
   have hX0w:=HO7.u.le;have hw7:=HB7.u.size;have HAd2:=h_ (add_3 R base v1 v2 v3 v4 _ _ _ _ _ _ _ _ _ m P (nmS x) x.typ (.slice al (lbS x).length cl) (.slice ar x.bys.length cr) (ixL (rNames m) x.bys) x.u.is x.u.wh x.u.va x.u.mu aB ai ah av am cB ci ch cv cm x.u.sa aL (ixL m.L (lbS x)).length cL lab Wa hRa hMa (by omega) hRb (by omega) (FOw.mk (qdi hBa (by omega)) (qdi o3a (by omega)) (qdi o4a (by omega)) (qdi o5a (by omega)) (qdi o6a (by omega))) hlL);have HAsn:Hi (Asc base ((P++[((Fl.mk (nmS x) ((x.typ:Nat):Int) lab (ixL (rNames m) x.bys) x.u.is x.u.wh x.u.va x.u.sa x.u.mu),(FA.mk aB cB ai ci ah ch av cv am cm))]).flatMap fvs) W8.heap.size):=h_ (by
    rw[Vg];have h1:=(HF.u.asc.app (HO7.u.low (by omega))).app ((Asc.one HoB.u h78).low HB27.u.size);rw[Z8]at h1;exact h1)
   have HLab:=h_ hlab;clear hqL hlL hlab;have HP4:=h_ hP4;have HMa:=h_ hMa;have HAs:Hi (Asc base (P.flatMap fvs) w.heap.size):=h_ HF.u.asc;clear HDc hda hma hva hba hSa hMa hLa hBa o3a o4a o5a o6a hP4 hRa;go_wp2_with fail;refine HAd2.u.mono ?_;rintro e Wb ⟨rfl,v',hRb',hMb,hab,hbb⟩;have hnx:=(HTs.u.nm (by omega)).2;have e0:mkS m x = { m with F:=m.F++[Fl.mk (nmS x) ((x.typ:Nat):Int) lab (ixL (rNames m) x.bys) x.u.is x.u.wh x.u.va x.u.sa x.u.mu] }:=by unfold mkS;rw[hxk,<- HLab.u,hnx];rfl
   have hP5:=HP4.u.adm hRb hab HMa.u.f.row;have hszb:=hbb.size;have HFin:Hi (FRd Wb R base (mkS m x) (P++[((Fl.mk (nmS x) ((x.typ:Nat):Int) lab (ixL (rNames m) x.bys) x.u.is x.u.wh x.u.va x.u.sa x.u.mu),(FA.mk aB cB ai ci ah ch av cv am cm))]) x.kind v1 v2 v3 v' m0 m1 m2 mv):=h_ (by
    rw[e0,hxk];refine FRd.of ?_ hMb (by rw[q4l];exact hP5) (HAsn.u.up (by omega)) hRb (by omega);show Blk Wb R _ _;rw[Yf];exact hRb')
   have HBf:=h_ (HBa.u.trans hbb);have HSm:Hi (∀g t cs,Blk w g t cs->t≠60->t≠9->t≠84->t≠86->t≠52->Blk Wb g t cs):=h_ fun g t cs h h1 h2 h3 h4 h5=>have ha:=HSa1.u g t cs h h1;(hab g ha.1.lt ha.2 (fun e=>qdg HMa.u.f.row ha.1 (fun e'=>h5 e'.symm) e)).trans ha.1;clear hRb' hMb hab hbb hP5 e0;go_wp2_with fail
   go_end0
   exact .inr ⟨x,_,_,_,_,_,_,_,_,_,HX.u,HA0.u,rfl,HFin.u,HBf.u,HSm.u⟩
end Go.Proofs.YtfmammdgehbjhaaGreatDoor
