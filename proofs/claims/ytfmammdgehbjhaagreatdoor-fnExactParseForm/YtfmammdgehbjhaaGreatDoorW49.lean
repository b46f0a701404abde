import Derived.Test.YtfmammdgehbjhaaGreatDoorW48
set_option maxRecDepth 100000
set_option maxHeartbeats 64000000
namespace Go.Proofs.YtfmammdgehbjhaaGreatDoor
open Go Go.RowKit
structure Hnd (X:MX)(i q n1 n2 n3 n4 n5 c1 c2 c3 c4 c5:Nat)(a1 a2 a3 a4 a5:Option Addr):Prop where
 e:kNo X.K X.l (i+1)=q+3+n1*1+n2*5+n3*5+n4*5+1+n5*5
 m:n1<=1048576/\n2<=1048576/\n3<=1048576/\n4<=1048576/\n5<=1048576
 cl:∀W,MI X X.l.length 0 W->W.cell? ⟨X.g,i*9,none⟩=some (.string (mkT q))/\W.cell? ⟨X.g,i*9+1,none⟩=some (Ya ((q:Int)+1))/\W.cell? ⟨X.g,i*9+2,none⟩=some (Ya ((q:Int)+1+1))/\W.cell? ⟨X.g,i*9+7,none⟩=some (.string (mkT (q+3+n1*1+n2*5+n3*5+n4*5)))
 sc:∀W,MI X X.l.length 0 W->W.cell? ⟨X.g,i*9+3,none⟩=some (.slice a1 n1 c1)/\W.cell? ⟨X.g,i*9+4,none⟩=some (.slice a2 n2 c2)/\W.cell? ⟨X.g,i*9+5,none⟩=some (.slice a3 n3 c3)/\W.cell? ⟨X.g,i*9+6,none⟩=some (.slice a4 n4 c4)/\W.cell? ⟨X.g,i*9+8,none⟩=some (.slice a5 n5 c5)
 l1:∀W,MI X X.l.length 0 W->0<n1->a1=some ⟨bq a1,0,none⟩/\bq a1<W.heap.size/\Pre W (bq a1) (miL (q+3) n1)
 l2:∀W,MI X X.l.length 0 W->0<n2->a2=some ⟨bq a2,0,none⟩/\bq a2<W.heap.size/\Pre W (bq a2) (mnL (q+3+n1*1) n2)
 l3:∀W,MI X X.l.length 0 W->0<n3->a3=some ⟨bq a3,0,none⟩/\bq a3<W.heap.size/\Pre W (bq a3) (mnL (q+3+n1*1+n2*5) n3)
 l4:∀W,MI X X.l.length 0 W->0<n4->a4=some ⟨bq a4,0,none⟩/\bq a4<W.heap.size/\Pre W (bq a4) (mnL (q+3+n1*1+n2*5+n3*5) n4)
 l5:∀W,MI X X.l.length 0 W->0<n5->a5=some ⟨bq a5,0,none⟩/\bq a5<W.heap.size/\Pre W (bq a5) (mnL (q+3+n1*1+n2*5+n3*5+n4*5+1) n5)
theorem LL.ad {w:World}{t:TypeId}{s n lo hi:Nat}{a:Option Addr}(h:LL w t s n lo hi a)(h0:0<n):a=some ⟨bq a,0,none⟩/\bq a<w.heap.size:=by
 obtain⟨N,-,h2⟩:=h
 exact⟨(h2 h0).1,(h2 h0).2.2.2.lt⟩
theorem MC.hnd {X:MX}(hc:MC X){i:Nat}(hl:i<X.l.length)(hsm:SmF X.l[i]):∃q n1 n2 n3 n4 n5 c1 c2 c3 c4 c5 a1 a2 a3 a4 a5,kNo X.K X.l i=q/\Hnd X i q n1 n2 n3 n4 n5 c1 c2 c3 c4 c5 a1 a2 a3 a4 a5 :=
 ⟨kNo X.K X.l i,X.l[i].bys.length,X.l[i].is.length,X.l[i].wh.length,X.l[i].va.length,X.l[i].mu.length,(X.AF i).bc,(X.AF i).ic,(X.AF i).hc,(X.AF i).vc,(X.AF i).uc,(X.AF i).b,(X.AF i).i,(X.AF i).h,(X.AF i).v,(X.AF i).u,rfl,{
  e:=(by rw[qcp hl];unfold kF;omega)
  m:=⟨hsm.b,hsm.i,hsm.h,hsm.v,hsm.u⟩
  cl:=fun W h=>have F:=h.old i hl hl;⟨(F.c (by omega)).1,(F.c (by omega)).2.1,(F.c (by omega)).2.2,F.t (by omega)⟩
  sc:=fun W h=>h.sc i hl
  l1:=fun W h h0=>⟨((h.fl hc hl).b.ad h0).1,((h.fl hc hl).b.ad h0).2,(h.old i hl hl).b (by omega) h0⟩
  l2:=fun W h h0=>⟨((h.fl hc hl).i.ad h0).1,((h.fl hc hl).i.ad h0).2,(h.old i hl hl).i (by omega) h0⟩
  l3:=fun W h h0=>⟨((h.fl hc hl).h.ad h0).1,((h.fl hc hl).h.ad h0).2,(h.old i hl hl).h (by omega) h0⟩
  l4:=fun W h h0=>⟨((h.fl hc hl).v.ad h0).1,((h.fl hc hl).v.ad h0).2,(h.old i hl hl).v (by omega) h0⟩
  l5:=fun W h h0=>⟨((h.fl hc hl).u.ad h0).1,((h.fl hc hl).u.ad h0).2,(h.old i hl hl).u (by omega) h0⟩ }⟩
theorem q28 (X:MX)(a:Option Addr)(c:Nat)(w:World)(hK:0<X.K)(hK2:X.K<=1000000000)(hn:X.l.length<=1048576)(hs:∀x,x∈X.l->SmF x)(ho:0<X.l.length->a=some ⟨X.g,0,none⟩/\MC X/\MI X X.l.length 0 w) :
 Calls Tryz.prog 36 (J7 a X.l.length c (X.K:Nat)) w fun r w'=>r=.returned (Ya ((kNo X.K X.l X.l.length:Nat):Int))/\Below w.heap.size w w':=by
 have HO:=h_ ho;have HS:=h_ hs
 obtain⟨n,hnl⟩:=Nq X.l.length
 have HKb:Hi (∀i,i<=n->X.K<=kNo X.K X.l i/\kNo X.K X.l i<=X.K+i*30000000):=h_ fun i hi=>kNo_le hs (by omega)
 have HNL:=h_ hnl
 have H0:Hi (kNo X.K X.l 0=X.K):=h_ rfl
 rw[hnl]at hn
 rw[hnl]
 clear ho hs hnl
 go_enter Tryz.func36,Tryz.ntmps36
 go_wp2_with fail
 go_loopw [1,5] (fun q v wr=>∃i:Nat,i<=n/\v=Ya i/\q=Ya ((kNo X.K X.l i:Nat):Int)/\Below w.heap.size w wr) (fun _ v _=>n - (intOf v).toNat)
 case atStart=>exact⟨0,nZ _,rfl,by rw[H0.u],bR _ _⟩
 case round =>
  obtain⟨i,hil,rfl,rfl,hb⟩:=hrel;have HB0:=h_ hb;clear hb;by_cases hlt:i<n
  . have hlt':(i:Int)<n:=by omega
    obtain⟨rfl,hc,hmi⟩:=HO.u (by rw[HNL.u];omega);have hl:i<X.l.length:=(by rw[HNL.u];exact hlt);have HI:Hi (∀W,Below w.heap.size w W->MI X X.l.length 0 W):=h_ fun W hb=>hmi.below hc (nR _) hb;obtain⟨hk1,hk2⟩:=HKb.u i (by omega);obtain⟨q,n1,n2,n3,n4,n5,c1,c2,c3,c4,c5,a1,a2,a3,a4,a5,hq,R⟩:=hc.hnd hl (HS.u _ (Ys hl));rw[hq]at hk1 hk2;rw[hq];obtain⟨m1,m2,m3,m4,m5⟩:=R.m;have HE:=h_ R.e;have HCL:=h_ R.cl;have HSC:=h_ R.sc;have HL1:=h_ R.l1;have HL2:=h_ R.l2;have HL3:=h_ R.l3;have HL4:=h_ R.l4;have HL5:=h_ R.l5;clear hq hc R hmi;have hq0:0<q:=(by omega);have hq1:q+30000000<=1152921504606846976:=(by omega);have hq':(q:Int)+30000000<=1152921504606846976:=(by omega);clear hk1 hk2;obtain⟨p1,hp1⟩:∃p,q+3+n1*1=p:=⟨_,rfl⟩;rw[hp1]at HE HCL HL2 HL3 HL4 HL5;obtain⟨p2,hp2⟩:∃p,p1+n2*5=p:=⟨_,rfl⟩;rw[hp2]at HE HCL HL3 HL4 HL5;obtain⟨p3,hp3⟩:∃p,p2+n3*5=p:=⟨_,rfl⟩;rw[hp3]at HE HCL HL4 HL5;obtain⟨p4,hp4⟩:∃p,p3+n4*5=p:=⟨_,rfl⟩;rw[hp4]at HE HCL HL5;obtain⟨p5,hp5⟩:∃p,p4+1+n5*5=p:=⟨_,rfl⟩;rw[hp5]at HE;have b1:0<p1/\p1<=1152921504606846976:=(by omega);have b2:0<p2/\p2<=1152921504606846976:=(by omega);have b3:0<p3/\p3<=1152921504606846976:=(by omega);have b4:0<p4/\p4+1<=1152921504606846976:=(by omega);have hp4':(p4:Int)+1<=1152921504606846976:=(by omega);have z1:¬ ((p1:Int)<0):=(by omega);have z2:¬ ((p2:Int)<0):=(by omega);have z3:¬ ((p3:Int)<0):=(by omega);have z4:¬ ((p4:Int)<0):=(by omega);have z5:¬ ((p5:Int)<0):=(by omega);have HP5:=h_ hp5;have HC1:Hi (∀W,MI X X.l.length 0 W->Calls Tryz.prog 81 (J7 a1 n1 c1 ((q:Int)+1+1+1)) W fun r w'=>r=.returned (Ya ((p1:Nat):Int))/\Below W.heap.size W w'):=h_ fun W h=>by
     have hh:=q4p a1 (q+3) (bq a1) n1 c1 W (by omega) (by omega) (by omega) (HL1.u W h);rw[hp1]at hh;rw[show((q+3:Nat):Int)=(q:Int)+1+1+1 by omega]at hh;exact hh
    have HC2:Hi (∀W,MI X X.l.length 0 W->Calls Tryz.prog 82 (J7 a2 n2 c2 ((p1:Nat))) W fun r w'=>r=.returned (Ya ((p2:Nat):Int))/\Below W.heap.size W w'):=h_ fun W h=>by
     have hh:=q2w a2 (p1) (bq a2) n2 c2 W (by omega) (by omega) (by omega) (HL2.u W h);rw[hp2]at hh;exact hh
    have HC3:Hi (∀W,MI X X.l.length 0 W->Calls Tryz.prog 82 (J7 a3 n3 c3 ((p2:Nat))) W fun r w'=>r=.returned (Ya ((p3:Nat):Int))/\Below W.heap.size W w'):=h_ fun W h=>by
     have hh:=q2w a3 (p2) (bq a3) n3 c3 W (by omega) (by omega) (by omega) (HL3.u W h);rw[hp3]at hh;exact hh
    have HC4:Hi (∀W,MI X X.l.length 0 W->Calls Tryz.prog 82 (J7 a4 n4 c4 ((p3:Nat))) W fun r w'=>r=.returned (Ya ((p4:Nat):Int))/\Below W.heap.size W w'):=h_ fun W h=>by
     have hh:=q2w a4 (p3) (bq a4) n4 c4 W (by omega) (by omega) (by omega) (HL4.u W h);rw[hp4]at hh;exact hh
    have HC5:Hi (∀W,MI X X.l.length 0 W->Calls Tryz.prog 82 (J7 a5 n5 c5 ((p4:Int)+1)) W fun r w'=>r=.returned (Ya ((p5:Nat):Int))/\Below W.heap.size W w'):=h_ fun W h=>by
     have hh:=q2w a5 (p4+1) (bq a5) n5 c5 W (by omega) (by omega) (by omega) (HL5.u W h);rw[hp5]at hh;rw[show((p4+1:Nat):Int)=(p4:Int)+1 by omega]at hh;exact hh
    have HX1:Hi (∀W,Calls Tryz.prog 78 #[Ya (q:Nat)] W fun r w'=>r=.returned (.string (mkT q))/\Below W.heap.size W w'):=h_ fun W=>q5c q W (by omega) (by omega);have HX2:Hi (∀W,Calls Tryz.prog 78 #[Ya (p4:Nat)] W fun r w'=>r=.returned (.string (mkT p4))/\Below W.heap.size W w'):=h_ fun W=>q5c p4 W (by omega) (by omega);have w1:(q:Int)+1<=9223372036854775807:=(by omega);have w2:(q:Int)+1+1<=9223372036854775807:=(by omega);have w3:(q:Int)+1+1+1<=9223372036854775807:=(by omega);have w4:(p4:Int)+1<=9223372036854775807:=(by omega);have HW4:Hi (∀_:Nat,(p4:Int)+1<=9223372036854775807):=h_ fun _=>w4;have HEi:Hi (i+1<=n):=h_ (by omega);have HN1:Hi (∀_:Nat,n<=1048576):=h_ fun _=>hn;clear hq0 hq1 hq' b1 b2 b3 b4 hp4' m1 m2 m3 m4 m5 hK hK2 hn hp1 hp2 hp3 hp4 hp5 HL1 HL2 HL3 HL4 HL5 w4 hil;have cs:wr.drew.cell? ⟨X.g,i*9,none⟩=some (.string (mkT q)):=(HCL.u _ (HI.u _ HB0.u)).1;have HT1:=h_ (HX1.u wr.drew);obtain⟨st,hst⟩:=Nq (mkT q);rw[hst]at HT1 cs;go_wp2_with fail;refine wp_region_held_drew (S:=fun w'=>w'.cell? ⟨X.g,i*9,none⟩=some (Value.string st)) (by kernel_rfl) cs (fun zz=>?_);refine tj 0 12 (.slice (some ⟨X.g,0,none⟩) n c) zz ?_;refine tj 1 13 (Ya i) zz ?_;refine tj 2 14 (.pointer (some ⟨X.g,i*9,none⟩)) zz ?_;refine tj 3 15 (.pointer (some ⟨X.g,i*9,none⟩)) zz ?_;simp only[sX,sY,sZ];refine tj 4 16 (.string st) zz ?_ (hy:=fun w hS=>by simp[execOp,go_sem,hS]);refine tj 5 17 (Ya ((q:Int))) zz ?_;simp only[sX,sY,sZ];refine callY (i:=6) (f:=78) (args:=#[Ya ((q:Int))]) (R:=fun v wz=>v=.string st/\Below wr.heap.size wr wz) 18 rfl rfl (by rfl) (by kernel_rfl) (by simp[execOp,go_sem]) (HT1.u.mono fun e w6 ⟨he,hb⟩=>⟨_,he,rfl,q23 hb⟩) ?_;rintro v V1 ⟨rfl,hb2⟩;have HB1:=mT HB0 hb2;clear hb2 cs HT1;have cs:V1.cell? ⟨X.g,i*9,none⟩=some (.string st):=(by rw[<- hst];exact(HCL.u _ (HI.u _ HB1.u)).1);refine⟨cs,?_⟩;replace zz:=cs;simp only[sX,sY,sZ];refine tj 7 19 (.bool false) zz ?_ (hy:=fun w hS=>by simp[execOp,go_sem]);simp only[sX,sY,sZ];refine wpAnyH_done (by kernel_rfl) ?_ _;clear zz cs hst;have k1:=(HCL.u _ (HI.u _ HB1.u)).2.1;have k2:=(HCL.u _ (HI.u _ HB1.u)).2.2.1;have d3:=(HSC.u _ (HI.u _ HB1.u)).1;go_wp2_with fail;refine(HC1.u _ (HI.u _ HB1.u)).mono ?_;rintro e V2 ⟨rfl,hb2⟩;have HB2:=mT HB1 hb2;clear hb2 d3 k1 k2 w1 w2 w3;have d4:=(HSC.u _ (HI.u _ HB2.u)).2.1;go_wp2_with fail;refine(HC2.u _ (HI.u _ HB2.u)).mono ?_;rintro e V3 ⟨rfl,hb2⟩;have HB3:=mT HB2 hb2;clear hb2 d4;have d5:=(HSC.u _ (HI.u _ HB3.u)).2.2.1;go_wp2_with fail;refine(HC3.u _ (HI.u _ HB3.u)).mono ?_;rintro e V4 ⟨rfl,hb2⟩;have HB4:=mT HB3 hb2;clear hb2 d5;have d6:=(HSC.u _ (HI.u _ HB4.u)).2.2.2.1;go_wp2_with fail;refine(HC4.u _ (HI.u _ HB4.u)).mono ?_;rintro e V5 ⟨rfl,hb2⟩;have HB5:=mT HB4 hb2;clear hb2 d6;have cs:V5.drew.cell? ⟨X.g,i*9+7,none⟩=some (.string (mkT p4)):=(HCL.u _ (HI.u _ HB5.u)).2.2.2;have HT1:=h_ (HX2.u V5.drew);obtain⟨st,hst⟩:=Nq (mkT p4);rw[hst]at HT1 cs;go_wp2_with fail;refine wp_region_held_drew (S:=fun w'=>w'.cell? ⟨X.g,i*9+7,none⟩=some (Value.string st)) (by kernel_rfl) cs (fun zz=>?_);refine tj 0 76 (.slice (some ⟨X.g,0,none⟩) n c) zz ?_;refine tj 1 77 (Ya i) zz ?_;refine tj 2 78 (.pointer (some ⟨X.g,i*9,none⟩)) zz ?_;refine tj 3 79 (.pointer (some ⟨X.g,i*9+7,none⟩)) zz ?_;simp only[sX,sY,sZ];refine tj 4 80 (.string st) zz ?_ (hy:=fun w hS=>by simp[execOp,go_sem,hS]);refine tj 5 81 (Ya ((p4:Int))) zz ?_;simp only[sX,sY,sZ];refine callY (i:=6) (f:=78) (args:=#[Ya ((p4:Int))]) (R:=fun v wz=>v=.string st/\Below V5.heap.size V5 wz) 82 rfl rfl (by rfl) (by kernel_rfl) (by simp[execOp,go_sem]) (HT1.u.mono fun e w6 ⟨he,hb⟩=>⟨_,he,rfl,q23 hb⟩) ?_;rintro v V6 ⟨rfl,hb2⟩;have HB6:=mT HB5 hb2;clear hb2 cs HT1;have cs:V6.cell? ⟨X.g,i*9+7,none⟩=some (.string st):=(by rw[<- hst];exact(HCL.u _ (HI.u _ HB6.u)).2.2.2);refine⟨cs,?_⟩;replace zz:=cs;simp only[sX,sY,sZ];refine tj 7 83 (.bool false) zz ?_ (hy:=fun w hS=>by simp[execOp,go_sem]);simp only[sX,sY,sZ];refine wpAnyH_done (by kernel_rfl) ?_ _;clear zz cs hst;have d8:=(HSC.u _ (HI.u _ HB6.u)).2.2.2.2;have w4:=HW4.u 0;go_wp2_with fail;refine(HC5.u _ (HI.u _ HB6.u)).mono ?_;rintro e V7 ⟨rfl,hb2⟩;have HB7:=mT HB6 hb2;clear hb2 d8 w4;have hn:=HN1.u 0;go_wp2_with fail;go_roundw
    case rel=>first | exact⟨i+1,HEi.u,by go_num,by rw[HE.u],HB7.u⟩ | ((repeat apply Exists.intro);exact⟨⟨i+1,HEi.u,by go_num,by rw[HE.u],HB7.u⟩,rfl⟩)
    case measure=>simp[intOf];omega
  . obtain rfl:i=n:=by omega
    have hlt':¬ (i:Int)<(i:Int):=(by omega);obtain⟨q,hq⟩:=Nq (kNo X.K X.l i);rw[hq];go_wp2_with fail;go_ret;exact⟨rfl,HB0.u⟩
theorem Asc.cut {P:List (Fl × FA)}{lo hi:Nat}(h:Asc lo (P.flatMap fvs) hi):∃E M1 M2 M3 M4:Nat->Nat,E 0=lo/\E P.length<=hi/\∀j (hj:j<P.length),(E j<=M1 j/\M1 j<=M2 j/\M2 j<=M3 j/\M3 j<=M4 j/\M4 j<=E (j+1))/\(∀q,(Value.slice P[j].2.i P[j].1.is.length P[j].2.ic).ownBlock=some q->E j<=q/\q<M1 j)/\(∀q,(Value.slice P[j].2.h P[j].1.wh.length P[j].2.hc).ownBlock=some q->M1 j<=q/\q<M2 j)/\(∀q,(Value.slice P[j].2.v P[j].1.va.length P[j].2.vc).ownBlock=some q->M2 j<=q/\q<M3 j)/\(∀q,(Value.slice P[j].2.u P[j].1.mu.length P[j].2.uc).ownBlock=some q->M3 j<=q/\q<M4 j)/\(∀q,(Value.slice P[j].2.b P[j].1.bys.length P[j].2.bc).ownBlock=some q->M4 j<=q/\q<E (j+1)):=by
 induction P generalizing lo with
 | nil=>exact⟨fun _=>lo,fun _=>0,fun _=>0,fun _=>0,fun _=>0,rfl,h,fun j hj=>absurd hj (nL _)⟩
 | cons x P ih =>
  rw[Vn]at h;obtain⟨m1,a1,b1,h⟩:=h;obtain⟨m2,a2,b2,h⟩:=h;obtain⟨m3,a3,b3,h⟩:=h;obtain⟨m4,a4,b4,h⟩:=h;obtain⟨m5,a5,b5,h⟩:=h;obtain⟨E,M1,M2,M3,M4,e0,e1,hj⟩:=ih h;refine⟨fun j=>Nat.casesOn j lo E,fun j=>Nat.casesOn j m1 M1,fun j=>Nat.casesOn j m2 M2,fun j=>Nat.casesOn j m3 M3,fun j=>Nat.casesOn j m4 M4,rfl,e1,fun j hj'=>?_⟩;cases j with
  | zero=>exact⟨⟨b1,b2,b3,b4,by show m4<=E 0;rw[e0];exact b5⟩,a1,a2,a3,a4,by show ∀q,_->m4<=q/\q<E 0;rw[e0];exact a5⟩
  | succ j=>exact hj j (by simpa using hj')
theorem mx_of {w:World}{base:Nat}(K:Nat){v1 v2 v3:Value}{m:Fm}{A:MA}{P:List (Fl × FA)}(h:OwM w base v1 v2 v3 (.slice A.f m.F.length A.fc) m P)(hf:Flds w A.f m.F A.fa)(hfa:A.fa=faOf P)(ha:Asc base (P.flatMap fvs) w.heap.size):∃X:MX,X.w=w/\X.l=m.F/\X.K=K/\X.lo=base/\X.hi=w.heap.size/\(0<m.F.length->A.f=some ⟨X.g,0,none⟩/\MC X):=by
 obtain⟨E,M1,M2,M3,M4,e0,e1,hj⟩:=ha.cut
 have hlen:m.F.length=P.length:=by rw[h.e,Zf]
 have hrow:=h.f.row
 rw[<- hlen]at hrow
 obtain⟨N,hN,hLL⟩:=LL.of hrow (lo:=base) (hi:=w.heap.size) (fun q hq=>qi2 hrow hq)
 refine⟨⟨base,w.heap.size,bq A.f,N,K,m.F,A.fa,E,M1,M2,M3,M4,w⟩,rfl,rfl,rfl,rfl,rfl,fun h0=>?_⟩
 obtain⟨ea,hlo,hhi,hbk⟩:=hLL h0
 refine⟨ea,hlo,hhi,hbk,hN,?_,fun j hj'=>?_,?_,?_⟩
 . exact sc_of (by rw[<- ea];exact hf)
 . have hjm:j<m.F.length:=hj'
   have hjP:j<P.length:=by omega
   have e1:m.F[j]=P[j].1:=by
    have:=List.getElem_of_eq h.e hjm;rw[this,List.getElem_map]
   have e2:A.fa j=P[j].2:=by rw[hfa,qc6 hjP]
   show FL w (E j) (E (j+1)) (M1 j) (M2 j) (M3 j) (M4 j) m.F[j] (A.fa j);rw[e1,e2];have hs:=h.f.sub P[j] (Ys hjP);obtain⟨o,q1,q2,q3,q4,q5⟩:=hj j hjP;exact⟨LL.of hs.i q1,LL.of hs.h q2,LL.of hs.v q3,LL.of hs.u q4,LL.of hs.b q5,o⟩
 . show base<=E 0
   rw[e0];exact nR _
 . show E m.F.length<=_
   rw[hlen];exact e1
theorem MC.tc {X:MX}(h:MC X){B:Nat->Prop}{W':World}(k:Tc B X.w W')(ng:¬ B X.g):MC { X with w:=W' }:=⟨h.g1,h.g2,k.bk _ _ _ h.bk,h.n,h.sc.keep (k.block _ h.bk.lt ng),fun j hj=>FL.tc (h.fl j hj) k,h.e0,h.e1⟩
theorem Blk.tc {B:Nat->Prop}{W W':World}{g:Nat}{t:TypeId}{cs:List Value}(h:Blk W g t cs)(k:Tc B W W')(ng:¬ B g):Blk W' g t cs:=(k.block g h.lt ng).trans h
theorem LL.ne {w:World}{t t':TypeId}{s s' n n' lo lo' hi hi':Nat}{a a':Option Addr}(h:LL w t s n lo hi a)(h':LL w t' s' n' lo' hi' a')(ht:t≠t')(h0:0<n)(h1:0<n'):bq a≠bq a':=fun e=>by
 obtain⟨N,-,h2⟩:=h
 obtain⟨N',-,h3⟩:=h'
 have:=(h3 h1).2.2.2
 rw[<- e]at this
 exact ht ((h2 h0).2.2.2.ty this)
theorem LL.bk {w:World}{t:TypeId}{s n lo hi:Nat}{a:Option Addr}(h:LL w t s n lo hi a)(h0:0<n):∃N,Bk w (bq a) t N:=by
 obtain⟨N,-,h2⟩:=h
 exact⟨N,(h2 h0).2.2.2⟩
theorem LL.pre {B:Nat->Prop}{w w':World}{t:TypeId}{s n lo hi:Nat}{a:Option Addr}{xs:List Value}(h:LL w t s n lo hi a)(h0:0<n)(hp:Pre w (bq a) xs)(k:Tc B w w')(nb:¬ B (bq a)):Pre w' (bq a) xs:=hp.keep (k.block _ (h.lt h0).2.2 nb)
theorem q9q (a:Option Addr)(K n c lo hi:Nat)(w:World)(hK:0<K)(hK2:K<=1152921504606846976)(hn:n<=2000000)(h:LL w 9 1 n lo hi a) :
 Calls Tryz.prog 29 (J7 a n c (K:Nat)) w fun r w'=>r=.returned (Ya ((K+n*1:Nat):Int))/\(0<n->Pre w' (bq a) (msL K n))/\Tc (fun b=>0<n/\b=bq a) w w':=by
 obtain⟨N,hN,ho⟩:=h
 by_cases h0:0<n
 . obtain⟨e,-,-,hb⟩:=ho h0
   refine(q1z a K (bq a) n N c (bq a) (bq a+1) w hK hK2 hn hN (nR _) (Yr _) (fun _=>⟨e,hb⟩)).mono ?_;rintro r w' ⟨hr,hp,hm⟩;exact⟨hr,hp,(Tc.one hm).mono fun b hb=>⟨h0,hb⟩⟩
 . refine(q1z a K w.heap.size n N c w.heap.size (w.heap.size+1) w hK hK2 hn hN (nR _) (Yr _) (fun h=>absurd h h0)).mono ?_
   rintro r w' ⟨hr,-,hm⟩;exact⟨hr,fun h=>absurd h h0,⟨hm.out.os,hm.out.tape,hm.out.output,hm.out.size,fun b hb _=>hm.out.block b hb (by omega),hm.bk⟩⟩
theorem q7c (a:Option Addr)(K n c lo hi:Nat)(w:World)(hK:0<K)(hK2:K<=1152921504606846976)(hn:n<=2000000)(h:LL w 84 2 n lo hi a) :
 Calls Tryz.prog 30 (J7 a n c (K:Nat)) w fun r w'=>r=.returned (Ya ((K+n*2:Nat):Int))/\(0<n->Pre w' (bq a) (mpL K n))/\Tc (fun b=>0<n/\b=bq a) w w':=by
 obtain⟨N,hN,ho⟩:=h
 by_cases h0:0<n
 . obtain⟨e,-,-,hb⟩:=ho h0
   refine(q3g a K (bq a) n N c (bq a) (bq a+1) w hK hK2 hn hN (nR _) (Yr _) (fun _=>⟨e,hb⟩)).mono ?_;rintro r w' ⟨hr,hp,hm⟩;exact⟨hr,hp,(Tc.one hm).mono fun b hb=>⟨h0,hb⟩⟩
 . refine(q3g a K w.heap.size n N c w.heap.size (w.heap.size+1) w hK hK2 hn hN (nR _) (Yr _) (fun h=>absurd h h0)).mono ?_
   rintro r w' ⟨hr,-,hm⟩;exact⟨hr,fun h=>absurd h h0,⟨hm.out.os,hm.out.tape,hm.out.output,hm.out.size,fun b hb _=>hm.out.block b hb (by omega),hm.bk⟩⟩
theorem q7d (a:Option Addr)(K n c lo hi:Nat)(w:World)(hK:0<K)(hK2:K<=1152921504606846976)(hn:n<=2000000)(h:LL w 86 2 n lo hi a) :
 Calls Tryz.prog 31 (J7 a n c (K:Nat)) w fun r w'=>r=.returned (Ya ((K+n*2:Nat):Int))/\(0<n->Pre w' (bq a) (mrL K n))/\Tc (fun b=>0<n/\b=bq a) w w':=by
 obtain⟨N,hN,ho⟩:=h
 by_cases h0:0<n
 . obtain⟨e,-,-,hb⟩:=ho h0
   refine(q3h a K (bq a) n N c (bq a) (bq a+1) w hK hK2 hn hN (nR _) (Yr _) (fun _=>⟨e,hb⟩)).mono ?_;rintro r w' ⟨hr,hp,hm⟩;exact⟨hr,hp,(Tc.one hm).mono fun b hb=>⟨h0,hb⟩⟩
 . refine(q3h a K w.heap.size n N c w.heap.size (w.heap.size+1) w hK hK2 hn hN (nR _) (Yr _) (fun h=>absurd h h0)).mono ?_
   rintro r w' ⟨hr,-,hm⟩;exact⟨hr,fun h=>absurd h h0,⟨hm.out.os,hm.out.tape,hm.out.output,hm.out.size,fun b hb _=>hm.out.block b hb (by omega),hm.bk⟩⟩
def kA (m:Fm):Nat:=1+m.L.length*1+m.P.length*2+m.R.length*2
structure HF (m:Fm)(A:MA)(X:MX)(W:World):Prop where
 l:0<m.L.length->A.l=some ⟨bq A.l,0,none⟩/\bq A.l<W.heap.size/\Pre W (bq A.l) (msL 1 m.L.length)
 p:0<m.P.length->A.p=some ⟨bq A.p,0,none⟩/\bq A.p<W.heap.size/\Pre W (bq A.p) (mpL (1+m.L.length*1) m.P.length)
 r:0<m.R.length->A.r=some ⟨bq A.r,0,none⟩/\bq A.r<W.heap.size/\Pre W (bq A.r) (mrL (1+m.L.length*1+m.P.length*2) m.R.length)
 f:0<m.F.length->A.f=some ⟨X.g,0,none⟩/\MC X/\MI X m.F.length 0 W
theorem HF.mono {m:Fm}{A:MA}{X:MX}{W W':World}(h:HF m A X W)(hl:X.l=m.F)(hb:Below W.heap.size W W'):HF m A X W' :=
 ⟨fun h0=>⟨(h.l h0).1,Y3 (h.l h0).2.1 hb.size,(h.l h0).2.2.keep (hb.block _ (h.l h0).2.1)⟩,fun h0=>⟨(h.p h0).1,Y3 (h.p h0).2.1 hb.size,(h.p h0).2.2.keep (hb.block _ (h.p h0).2.1)⟩,
  fun h0=>⟨(h.r h0).1,Y3 (h.r h0).2.1 hb.size,(h.r h0).2.2.keep (hb.block _ (h.r h0).2.1)⟩,fun h0=>⟨(h.f h0).1,(h.f h0).2.1,(h.f h0).2.2.below (h.f h0).2.1 (by rw[hl];exact nR _) hb⟩⟩
theorem MX.nB {X:MX}{W:World}{t:TypeId}{s n lo hi:Nat}{a:Option Addr}(e:X.w=W)(h:LL W t s n lo hi a)(h0:0<n)(h1:t≠52)(h2:t≠3)(h3:t≠133):¬ X.B (bq a):=by
 rintro⟨-,-,t',n',ht,hb⟩
 rw[e]at hb
 obtain⟨N,hN⟩:=h.bk h0
 have:=hN.ty hb
 rcases ht with rfl | rfl | rfl
 . exact h1 this
 . exact h2 this
 . exact h3 this
theorem q5a (m:Fm)(A:MA)(P:List (Fl × FA))(base:Nat)(w0 w:World)(hn:Sm m)(hm:OwM w0 base (.slice A.l m.L.length A.lc) (.slice A.p m.P.length A.pc) (.slice A.r m.R.length A.rc) (.slice A.f m.F.length A.fc) m P)(hs:MSl w0 m A)(hfa:A.fa=faOf P)(ha:Asc base (P.flatMap fvs) w0.heap.size)(hk:Below w0.heap.size w0 w) :
 Calls Tryz.prog 8 #[mV m A,Ya 1] w fun r w'=>∃X:MX,X.l=m.F/\X.K=kA m/\r=.returned (Ya ((kNo (kA m) m.F m.F.length:Nat):Int))/\HF m A X w'/\Tc (fun b=>base<=b/\b<w0.heap.size) w w':=by
 obtain⟨X0,x1,x2,x3,x4,x5,hX⟩:=mx_of (kA m) hm hs.f hfa ha
 have q1:LL w0 9 1 m.L.length base w0.heap.size A.l:=LL.of hm.l fun q hq=>qi2 hm.l hq
 have q2:LL w0 84 2 m.P.length base w0.heap.size A.p:=LL.of hm.p fun q hq=>qi2 hm.p hq
 have q3:LL w0 86 2 m.R.length base w0.heap.size A.r:=LL.of hm.r fun q hq=>qi2 hm.r hq
 have hkb:=kNo_le (K:=kA m) hn.s (nR _)
 have HKe:Hi (kA m=1+m.L.length*1+m.P.length*2+m.R.length*2):=h_ rfl
 obtain⟨al,alc,ap,apc,ar,arc,af,afc,afa⟩:=A
 dsimp only at q1 q2 q3 hX
 have m1:=hn.l;have m2:=hn.p;have m3:=hn.r;have m4:=hn.f
 have HSm:=h_ hn.s;have HX:=h_ hX;have X1:=h_ x1;have X2:=h_ x2;have X3:=h_ x3;have X4:=h_ x4;have X5:=h_ x5
 have Q1:=h_ q1;have Q2:=h_ q2;have Q3:=h_ q3;have HKw:=h_ hk
 have HQ:Hi (∀(B:Nat->Prop) W,Tc B w0 W->LL W 9 1 m.L.length base w0.heap.size al/\LL W 84 2 m.P.length base w0.heap.size ap/\LL W 86 2 m.R.length base w0.heap.size ar):=h_ fun B W k=>⟨q1.tc k,q2.tc k,q3.tc k⟩
 obtain⟨BB,i1,i2,i3,iB,iG⟩:∃BB:Nat->Prop,(∀b,0<m.L.length/\b=bq al->BB b)/\(∀b,0<m.P.length/\b=bq ap->BB b)/\(∀b,0<m.R.length/\b=bq ar->BB b)/\(∀b,BB b->base<=b/\b<w0.heap.size)/\(0<m.F.length->¬ BB X0.g):=by
  refine⟨fun b=>(0<m.L.length/\b=bq al)∨(0<m.P.length/\b=bq ap)∨(0<m.R.length/\b=bq ar),fun b h=>.inl h,fun b h=>.inr (.inl h),fun b h=>.inr (.inr h),?_,?_⟩
  . rintro b (h | h | h)
    . have:=q1.lt h.1;omega
    . have:=q2.lt h.1;omega
    . have:=q3.lt h.1;omega
  . intro h0 hB
    have hk:=(hX h0).2.bk;rw[x1]at hk;rcases hB with h | h | h
    . obtain⟨N,hN⟩:=q1.bk h.1
      rw[<- h.2]at hN;exact absurd (hk.ty hN) (by decide)
    . obtain⟨N,hN⟩:=q2.bk h.1
      rw[<- h.2]at hN;exact absurd (hk.ty hN) (by decide)
    . obtain⟨N,hN⟩:=q3.bk h.1
      rw[<- h.2]at hN;exact absurd (hk.ty hN) (by decide)
 have I1:=h_ i1;have I2:=h_ i2;have I3:=h_ i3;have IB:=h_ iB;have IG:=h_ iG
 obtain⟨KA,hKA⟩:=Nq (kA m)
 rw[hKA]at hkb HKe X3
 rw[hKA]
 have HKb:=h_ hkb
 clear hm hs hfa ha hn hX x1 x2 x3 x4 x5 q1 q2 q3 hk hKA hkb i1 i2 i3 iB iG
 unfold mV
 dsimp only
 have HK:=h_ (Blk.new w 27 #[.slice al m.L.length alc,.slice ap m.P.length apc,.slice ar m.R.length arc,.slice af m.F.length afc])
 have HB:=h_ ((bR w.heap.size w).alloc (nR _) (.cells #[.slice al m.L.length alc,.slice ap m.P.length apc,.slice ar m.R.length arc,.slice af m.F.length afc] 27))
 obtain⟨W0,hW0⟩:=Nq (w.alloc (.cells #[.slice al m.L.length alc,.slice ap m.P.length apc,.slice ar m.R.length arc,.slice af m.F.length afc] 27))
 rw[hW0]at HK HB
 have HM:Hi (Tc BB w W0):=h_ (Tc.below HB.u)
 clear HB
 have HT:=h_ (q9q al 1 m.L.length alc base w0.heap.size W0 (by omega) (by omega) (by omega) (HQ.u _ _ ((Tc.below HKw.u).trans HM.u)).1)
 obtain⟨y0,y1,y2,y3⟩:=quad HK.u
 obtain⟨p1,hp1⟩:∃p,1+m.L.length*1=p:=⟨_,rfl⟩
 rw[hp1]at HT HKe
 have HE1:=h_ hp1
 simp only[Vh]at HT
 go_enter Tryz.func8,Tryz.ntmps8
 go_wp2_with fail
 try rw[hW0]
 refine HT.u.mono ?_
 rintro e W1 ⟨rfl,hpr,hm1⟩
 have hm1':=hm1.mono I1.u
 have HP1:Hi (0<m.L.length->Pre W1 (bq al) (msL 1 m.L.length)):=h_ hpr
 replace HK:=h_ (HK.u.tc hm1' (fun h=>by have:=IB.u _ h;have:=HKw.u.size;omega));replace HM:=h_ (HM.u.trans hm1')
 clear hm1 hm1' hW0 y0 y1 y2 y3 HT hpr
 have HT:=h_ (q7c ap p1 m.P.length apc base w0.heap.size W1 (by omega) (by omega) (by omega) (HQ.u _ _ ((Tc.below HKw.u).trans HM.u)).2.1)
 obtain⟨y0,y1,y2,y3⟩:=quad HK.u
 obtain⟨p2,hp2⟩:∃p,p1+m.P.length*2=p:=⟨_,rfl⟩
 rw[hp2]at HT HKe
 have HE2:=h_ hp2
 go_wp2_with fail
 refine HT.u.mono ?_
 rintro e W2 ⟨rfl,hpr,hm1⟩
 have l1:=HQ.u _ _ ((Tc.below HKw.u).trans HM.u)
 have hm1':=hm1.mono I2.u
 have HP2:Hi (0<m.P.length->Pre W2 (bq ap) (mpL p1 m.P.length)):=h_ hpr
 replace HP1:Hi (0<m.L.length->Pre W2 (bq al) (msL 1 m.L.length)):=h_ fun h0=>l1.1.pre h0 (HP1.u h0) hm1 fun hb=>l1.1.ne l1.2.1 (by decide) h0 hb.1 hb.2
 replace HK:=h_ (HK.u.tc hm1' (fun h=>by have:=IB.u _ h;have:=HKw.u.size;omega));replace HM:=h_ (HM.u.trans hm1')
 clear hm1 hm1' y0 y1 y2 y3 HT hpr l1
 have HT:=h_ (q7d ar p2 m.R.length arc base w0.heap.size W2 (by omega) (by omega) (by omega) (HQ.u _ _ ((Tc.below HKw.u).trans HM.u)).2.2)
 obtain⟨y0,y1,y2,y3⟩:=quad HK.u
 obtain⟨p3,hp3⟩:∃p,p2+m.R.length*2=p:=⟨_,rfl⟩
 rw[hp3]at HT HKe
 have HE3:=h_ hp3
 go_wp2_with fail
 refine HT.u.mono ?_
 rintro e W3 ⟨rfl,hpr,hm1⟩
 have l1:=HQ.u _ _ ((Tc.below HKw.u).trans HM.u)
 have hm1':=hm1.mono I3.u
 have HP3:Hi (0<m.R.length->Pre W3 (bq ar) (mrL p2 m.R.length)):=h_ hpr
 replace HP1:Hi (0<m.L.length->Pre W3 (bq al) (msL 1 m.L.length)):=h_ fun h0=>l1.1.pre h0 (HP1.u h0) hm1 fun hb=>l1.1.ne l1.2.2 (by decide) h0 hb.1 hb.2
 replace HP2:Hi (0<m.P.length->Pre W3 (bq ap) (mpL p1 m.P.length)):=h_ fun h0=>l1.2.1.pre h0 (HP2.u h0) hm1 fun hb=>l1.2.1.ne l1.2.2 (by decide) h0 hb.1 hb.2
 replace HK:=h_ (HK.u.tc hm1' (fun h=>by have:=IB.u _ h;have:=HKw.u.size;omega));replace HM:=h_ (HM.u.trans hm1')
 clear hm1 hm1' y0 y1 y2 y3 HT hpr l1
 obtain⟨X,e1,e2,e3,e4,e5,hX⟩:∃X:MX,X.w=W3/\X.l=m.F/\X.K=p3/\X.lo=base/\X.hi=w0.heap.size/\(0<m.F.length->af=some ⟨X.g,0,none⟩/\MC X):=by
  refine⟨{ X0 with w:=W3 },rfl,X2.u,X3.u.trans HKe.u,X4.u,X5.u,fun h0=>⟨(HX.u h0).1,(HX.u h0).2.tc ?_ (IG.u h0)⟩⟩;rw[X1.u];exact(Tc.below HKw.u).trans HM.u
 have hKp:KA=p3:=HKe.u
 subst hKp
 have HT:=h_ (q2h X af afc (by omega) (by omega) (by rw[e2];exact m4) (by rw[e2];exact HSm.u) (by rw[e2];exact hX))
 rw[e1,e2,e3]at HT
 have E1:=h_ e1;have E2:=h_ e2;have E3:=h_ e3;have E4:=h_ e4;have E5:=h_ e5;have HX2:=h_ hX
 obtain⟨q,hq⟩:=Nq (kNo KA m.F m.F.length)
 rw[hq]at HT HKb
 have HQe:=h_ hq
 have hqb:=HKb.u.2
 obtain⟨y0,y1,y2,y3⟩:=quad HK.u
 clear e1 e2 e3 e4 e5 hX hq hp1 hp2 hp3
 go_wp2_with fail
 refine HT.u.mono ?_
 rintro e W4 ⟨rfl,hmi,htc⟩
 have HMi:=h_ hmi;have HTc:=h_ htc
 clear hmi htc HT y0 y1 y2 y3
 go_wp2_with fail
 go_ret
 have tA:Tc (fun b=>base<=b/\b<w0.heap.size) w W4:=(HM.u.mono IB.u).trans (HTc.u.mono fun b hb=>⟨by have:=hb.1;have:=E4.u;omega,by have:=hb.2.1;have:=E5.u;omega⟩)
 have l2:=HQ.u _ _ ((Tc.below HKw.u).trans HM.u)
 have l3:=HQ.u _ _ ((Tc.below HKw.u).trans tA)
 refine⟨X,E2.u,E3.u,by rw[HQe.u];rfl,⟨fun h0=>⟨(l3.1.ad h0).1,(l3.1.ad h0).2,?_⟩,fun h0=>⟨(l3.2.1.ad h0).1,(l3.2.1.ad h0).2,?_⟩,fun h0=>⟨(l3.2.2.ad h0).1,(l3.2.2.ad h0).2,?_⟩,fun h0=>⟨(HX2.u h0).1,(HX2.u h0).2,HMi.u h0⟩⟩,tA⟩
 . exact l2.1.pre h0 (HP1.u h0) HTc.u (MX.nB E1.u l2.1 h0 (by decide) (by decide) (by decide))
 . show Pre W4 (bq ap) (mpL (1+m.L.length*1) m.P.length)
   rw[HE1.u];exact l2.2.1.pre h0 (HP2.u h0) HTc.u (MX.nB E1.u l2.2.1 h0 (by decide) (by decide) (by decide))
 . show Pre W4 (bq ar) (mrL (1+m.L.length*1+m.P.length*2) m.R.length)
   rw[HE1.u,HE2.u];exact l2.2.2.pre h0 (HP3.u h0) HTc.u (MX.nB E1.u l2.2.2 h0 (by decide) (by decide) (by decide))
theorem q4o (m:Fm)(A:MA)(X:MX)(w:World)(hn:Sm m)(hl:X.l=m.F)(hk:X.K=kA m)(h:HF m A X w) :
 Calls Tryz.prog 9 #[mV m A,Ya 1] w fun r w'=>r=.returned (Ya ((kNo (kA m) m.F m.F.length:Nat):Int))/\Below w.heap.size w w':=by
 have HH:Hi (∀W,Below w.heap.size w W->HF m A X W):=h_ fun W hb=>h.mono hl hb
 have hkb:=kNo_le (K:=kA m) hn.s (nR _)
 have HKe:Hi (kA m=1+m.L.length*1+m.P.length*2+m.R.length*2):=h_ rfl
 have m1:=hn.l;have m2:=hn.p;have m3:=hn.r;have m4:=hn.f
 have HSm:=h_ hn.s;have HL:=h_ hl;have HKk:=h_ hk
 obtain⟨KA,hKA⟩:=Nq (kA m)
 rw[hKA]at hkb HKe HKk
 rw[hKA]
 have HKb:=h_ hkb
 clear hn hl hk h hKA hkb
 obtain⟨al,alc,ap,apc,ar,arc,af,afc,afa⟩:=A
 unfold mV
 dsimp only
 have HK:=h_ (Blk.new w 27 #[.slice al m.L.length alc,.slice ap m.P.length apc,.slice ar m.R.length arc,.slice af m.F.length afc])
 have HB:=h_ ((bR w.heap.size w).alloc (nR _) (.cells #[.slice al m.L.length alc,.slice ap m.P.length apc,.slice ar m.R.length arc,.slice af m.F.length afc] 27))
 obtain⟨W0,hW0⟩:=Nq (w.alloc (.cells #[.slice al m.L.length alc,.slice ap m.P.length apc,.slice ar m.R.length arc,.slice af m.F.length afc] 27))
 rw[hW0]at HK HB
 have HT:=h_ (q1f al 1 (bq al) m.L.length alc W0 (by omega) (by omega) (by omega) (HH.u _ HB.u).l)
 obtain⟨y0,y1,y2,y3⟩:=quad HK.u
 obtain⟨p1,hp1⟩:∃p,1+m.L.length*1=p:=⟨_,rfl⟩
 rw[hp1]at HT HKe
 have HE1:=h_ hp1
 have z1:¬ ((p1:Int)<0):=by omega
 have c1:0<p1/\p1<=3000000:=by omega
 simp only[Vh]at HT
 clear hp1
 go_enter Tryz.func9,Tryz.ntmps9
 go_wp2_with fail
 try rw[hW0]
 refine HT.u.mono ?_
 rintro e W1 ⟨rfl,hb⟩
 replace HK:=mB HK hb;replace HB:=mT HB hb
 clear hb hW0 y0 y1 y2 y3 HT
 have HT:=h_ (q2x ap p1 (bq ap) m.P.length apc W1 (by omega) (by omega) (by omega) (by rw[<- HE1.u];exact(HH.u _ HB.u).p))
 obtain⟨y0,y1,y2,y3⟩:=quad HK.u
 obtain⟨p2,hp2⟩:∃p,p1+m.P.length*2=p:=⟨_,rfl⟩
 rw[hp2]at HT HKe
 have HE2:=h_ hp2
 have z2:¬ ((p2:Int)<0):=by omega
 have c2:0<p2/\p2<=6000000:=by omega
 clear hp2
 go_wp2_with fail
 refine HT.u.mono ?_
 rintro e W2 ⟨rfl,hb⟩
 replace HK:=mB HK hb;replace HB:=mT HB hb
 clear hb y0 y1 y2 y3 HT
 have HT:=h_ (q2y ar p2 (bq ar) m.R.length arc W2 (by omega) (by omega) (by omega) (by rw[<- HE2.u,<- HE1.u];exact(HH.u _ HB.u).r))
 obtain⟨y0,y1,y2,y3⟩:=quad HK.u
 obtain⟨p3,hp3⟩:∃p,p2+m.R.length*2=p:=⟨_,rfl⟩
 rw[hp3]at HT HKe
 have z3:¬ ((p3:Int)<0):=by omega
 have c3:0<p3/\p3<=9000000:=by omega
 clear hp3
 go_wp2_with fail
 refine HT.u.mono ?_
 rintro e W3 ⟨rfl,hb⟩
 replace HK:=mB HK hb;replace HB:=mT HB hb
 clear hb y0 y1 y2 y3 HT
 have hKp:KA=p3:=HKe.u
 subst hKp
 have e2:=HL.u;have e3:=HKk.u
 have HT:=h_ (q28 X af afc W3 (by omega) (by omega) (by rw[e2];exact m4) (by rw[e2];exact HSm.u) (by rw[e2];exact(HH.u _ HB.u).f))
 rw[e2,e3]at HT
 obtain⟨q,hq⟩:=Nq (kNo KA m.F m.F.length)
 rw[hq]at HT HKb
 have HQe:=h_ hq
 have hqb:=HKb.u.2
 have z4:¬ ((q:Int)<0):=by omega
 obtain⟨y0,y1,y2,y3⟩:=quad HK.u
 clear e2 e3 hq
 go_wp2_with fail
 refine HT.u.mono ?_
 rintro e W4 ⟨rfl,hb⟩
 replace HB:=mT HB hb
 clear hb y0 y1 y2 y3 HT
 go_wp2_with fail
 go_ret
 exact⟨by rw[HQe.u];rfl,HB.u⟩
theorem q4e (c a:Int)(w:World) :
 Calls Tryz.prog 7 #[.agg (Jw c a),.agg (Jw c a)] w fun r w'=>r=.returned (.bool true)/\Below w.heap.size w w':=by
 have HK:=h_ ((Blk.new w 29 (Jw c a)).alloc (.cells (Jw c a) 29))
 have HR:=h_ (Blk.new (w.alloc (.cells (Jw c a) 29)) 29 (Jw c a))
 rw[Yy]at HR
 have HB:=h_ (((bR w.heap.size w).alloc (nR _) (.cells (Jw c a) 29)).alloc (by simp) (.cells (Jw c a) 29))
 obtain⟨W0,hW0⟩:=Nq ((w.alloc (.cells (Jw c a) 29)).alloc (.cells (Jw c a) 29))
 rw[hW0]at HK HR HB
 have k0:=HK.u.cell 0;have k1:=HK.u.cell 1;have r0:=HR.u.cell 0;have r1:=HR.u.cell 1
 simp only[Yp,Zb]at k0 k1 r0 r1
 go_enter Tryz.func7,Tryz.ntmps7
 go_wp2_with fail
 try rw[hW0]
 go_ret
 exact⟨rfl,HB.u⟩
end Go.Proofs.YtfmammdgehbjhaaGreatDoor
