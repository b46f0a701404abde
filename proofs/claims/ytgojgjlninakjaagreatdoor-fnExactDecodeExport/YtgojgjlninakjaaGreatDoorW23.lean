import Derived.Test.YtgojgjlninakjaaGreatDoorW06
import Derived.Test.YtgojgjlninakjaaGreatDoorW20
import Derived.Deep.AppendLies
set_option maxRecDepth 100000
set_option maxHeartbeats 64000000
namespace Go.Proofs.YtgojgjlninakjaaGreatDoor
open Go Go.RowKit
theorem q2i (v u:Value)(x y:Int)(w:World)(hv:BigV w v x)(hu:BigV w u y)(bx:(digs x.natAbs).length<=500)(by':(digs y.natAbs).length<=500) :
 Calls Tryz.prog 140 #[v,u] w fun e w'=>e=.returned (.bool (decide (x<y)))/\Below w.heap.size w w':=by
 have HV:=h_ hv;have HU:=h_ hu
 obtain⟨v1,rfl,hv1⟩:=hv
 obtain⟨u1,rfl,hu1⟩:=hu
 obtain⟨a,ca,rfl,-⟩:=hv1
 obtain⟨b,cb,rfl,-⟩:=hu1
 obtain⟨sx,hsx⟩:=Nq (decide (x<0))
 obtain⟨sy,hsy⟩:=Nq (decide (y<0))
 rw[hsx]at HV⊢;rw[hsy]at HU⊢
 clear hsx hsy
 obtain⟨lx,hlx⟩:=Nq ((digs x.natAbs).length)
 obtain⟨ly,hly⟩:=Nq ((digs y.natAbs).length)
 rw[hlx]at HV bx⊢;rw[hly]at HU by'⊢
 have HLX:=h_ (And.intro hlx hly);clear hlx hly
 have hw:Below w.heap.size w ((w.alloc (.cells #[.bool sx,.slice a lx ca] 135)).alloc (.cells #[.bool sy,.slice b ly cb] 135)):=((bR _ w).alloc (nR _) _).alloc (by simp) _
 have bA:Blk ((w.alloc (.cells #[.bool sx,.slice a lx ca] 135)).alloc (.cells #[.bool sy,.slice b ly cb] 135)) w.heap.size 135 [.bool sx,.slice a lx ca]:=(Blk.new w 135 #[.bool sx,.slice a lx ca]).alloc _
 have bB:Blk ((w.alloc (.cells #[.bool sx,.slice a lx ca] 135)).alloc (.cells #[.bool sy,.slice b ly cb] 135)) (w.heap.size+1) 135 [.bool sy,.slice b ly cb]:=by simpa using Blk.new (w.alloc (.cells #[.bool sx,.slice a lx ca] 135)) 135 #[.bool sy,.slice b ly cb]
 obtain⟨W,hW⟩:=Nq (((w.alloc (.cells #[.bool sx,.slice a lx ca] 135)).alloc (.cells #[.bool sy,.slice b ly cb] 135)))
 rw[hW]at hw bA bB
 have S0:=h_ (four bA bB)
 replace HV:=h_ (HV.u.mono hw);replace HU:=h_ (HU.u.mono hw)
 have HA:=h_ bA;have HB:=h_ bB;have HW:=h_ hw
 clear bA bB hw
 have HQ:Hi (decide (x + -y<0)=decide (x<y)):=by rw[Hi,decide_eq_decide];omega
 go_enter Tryz.func140,Tryz.ntmps140
 go_wp2_with fail
 try rw[hW]
 clear hW
 refine wp_region_held_drew (S:=fun w'=>Four w' w.heap.size (w.heap.size+1) (.bool sx) (.slice a lx ca) (.bool sy) (.slice b ly cb)) (by kernel_rfl) S0.u (fun zz=>?_)
 refine tj 0 6 (.agg #[.bool sx,.slice a lx ca]) zz ?_ (hy:=fun w hS=>by obtain⟨q0,q1,q2,q3⟩:=hS;simp[execOp,go_sem, *])
 refine tj 1 7 (.agg #[.bool sy,.slice b ly cb]) zz ?_ (hy:=fun w hS=>by obtain⟨q0,q1,q2,q3⟩:=hS;simp[execOp,go_sem, *])
 simp only[sX,sY,sZ]
 refine wpAnyH_ready (rs:=[2,4]) (by kernel_rfl) (by simp) (consCall (f:=173) (args:=#[.agg #[.bool sy,.slice b ly cb]]) (R:=fun r wz=>BigV wz r (-y)/\Below W.heap.size W wz) 8 rfl rfl (by rfl) ?hrun1 ((q45 _ y _ (HU.u.mono (q3d _ 1))).mono fun e w6 ⟨r,he,hr,hb⟩=>⟨r,he,hr,q29 hb⟩) ?pB (consRun (v:=J9 W.drew.heap.size 0) (w':=W.drew.alloc (.cells Jl 135)) 5 rfl rfl (by rfl) ?hrun3 (four ((show Blk W.drew _ _ _ from HA.u).alloc _) ((show Blk W.drew _ _ _ from HB.u).alloc _)) ?pA AllReadyH.nil))
 case hrun1=>simp[execOp,go_sem]
 case hrun3=>simp[execOp,go_sem]
 case pB =>
  rintro v w6 ⟨hr,hb6⟩;have A6:=HA.u.mono hb6 HA.u.lt;have B6:=HB.u.mono hb6 HB.u.lt;have hW6:=HW.u.trans (hb6.mono HW.u.size);have hV6:=HV.u.mono hb6;refine⟨four A6 B6,?_⟩;simp only[sX,sY,sZ];refine wpAnyH_ready (rs:=[3,4]) (by kernel_rfl) (by simp) (consCall (f:=172) (args:=#[.agg #[.bool sx,.slice a lx ca],v]) (R:=fun r wz=>BigV wz r (x + -y)/\Below w6.heap.size w6 wz) 9 rfl rfl (by rfl) ?hrun2 ((q44 _ _ x (-y) _ hV6 hr (by have:=HLX.u;omega) (by rw[Int.natAbs_neg];have:=HLX.u;omega)).mono fun e w7 ⟨r,he,hr,hb⟩=>⟨r,he,hr,hb⟩) ?pB1 (consRun (v:=J9 w6.heap.size 0) (w':=w6.alloc (.cells Jl 135)) 5 rfl rfl (by rfl) ?hrun3 (four (A6.alloc _) (B6.alloc _)) ?pB2 AllReadyH.nil))
  case hrun2=>simp[execOp,go_sem]
  case hrun3=>simp[execOp,go_sem]
  case pB1 =>
   rintro q w7 ⟨hq,hb7⟩;have A7:=A6.mono hb7 A6.lt;have B7:=B6.mono hb7 B6.lt;have hW7:=hW6.trans (hb7.mono hW6.size);obtain⟨p,rfl,hp⟩:=hq;obtain⟨pg,pc,rfl,-⟩:=hp;rw[HQ.u];obtain⟨dl,hdl⟩:=Nq ((digs (x + -y).natAbs).length);rw[hdl];clear hdl;refine⟨four A7 B7,?_⟩;simp only[sX,sY,sZ];refine wpAnyH_ready (rs:=[4]) (by kernel_rfl) (by simp) (consRun (v:=J9 w7.heap.size 0) (w':=w7.alloc (.cells Jl 135)) 5 rfl rfl (by rfl) ?hrun3 (four (A7.alloc _) (B7.alloc _)) ?pB1 AllReadyH.nil)
   case hrun3=>simp[execOp,go_sem]
   simp only[sX,sY,sZ];have DD:=Blk.new w7 135 Jl;have hWZ:=hW7.alloc hW7.size (.cells Jl 135);have AZ:=A7.alloc (.cells Jl 135);have BZ:=B7.alloc (.cells Jl 135);have sA:=A7.lt;have sB:=B7.lt;clear A6 B6 A7 B7 hV6 hW6 hW7 hb6 hb7 hr zz;generalize w7.heap.size=D at *;generalize w7.alloc (.cells Jl 135)=w8 at *;have hsD:=DD.lt;obtain⟨⟨r0,r1⟩,⟨f0,f1⟩⟩:=two DD;refine storeY (i:=5) (w':=(w8.setCell ⟨D,0,none⟩ (.bool (decide (x<y)))).setCell ⟨D,1,none⟩ (.slice pg dl pc)) rfl (by rfl) (by kernel_rfl) rfl ?hrunS rfl (four ((AZ.other _ (by simp;omega)).other _ (by simp;omega)) ((BZ.other _ (by simp;omega)).other _ (by simp;omega))) ?_
   case hrunS=>simp[execOp,go_sem,r0,r1,f0,f1]
   refine wpAnyH_done (by kernel_rfl) ?_ _;obtain⟨⟨y0,y1⟩,-⟩:=two ((DD.set 0 (.bool (decide (x<y)))).set 1 (.slice pg dl pc));have HZ:=h_ ((hWZ.setCell (p:=⟨D,0,none⟩) (by simp;omega) (.bool (decide (x<y)))).setCell (p:=⟨D,1,none⟩) (by simp;omega) (.slice pg dl pc));clear DD AZ BZ hWZ r0 r1 f0 f1;generalize (w8.setCell ⟨D,0,none⟩ (.bool (decide (x<y)))).setCell ⟨D,1,none⟩ (.slice pg dl pc)=W9 at *;go_wp2;go_ret;exact⟨rfl,HZ.u⟩
  case pB2 =>
   simp only[sX,sY,sZ];have hb7:Below w6.heap.size w6 (w6.alloc (.cells Jl 135)):=(bR _ _).alloc (nR _) _;have DD0:=Blk.new w6 135 Jl;have A7:=A6.alloc (.cells Jl 135);have B7:=B6.alloc (.cells Jl 135);have hW7:=hW6.alloc hW6.size (.cells Jl 135);have hV7:=hV6.mono hb7;have hr7:=hr.mono hb7;have sA:=A6.lt;have sB:=B6.lt;clear A6 B6 hV6 hW6 hb6 hb7 hr zz;generalize w6.heap.size=D at *;generalize w6.alloc (.cells Jl 135)=w7 at *;refine wpAnyH_ready (rs:=[3]) (by kernel_rfl) (by simp) (consCall (f:=172) (args:=#[.agg #[.bool sx,.slice a lx ca],v]) (R:=fun r wz=>BigV wz r (x + -y)/\Below w7.heap.size w7 wz) 9 rfl rfl (by rfl) ?hrun2 ((q44 _ _ x (-y) _ hV7 hr7 (by have:=HLX.u;omega) (by rw[Int.natAbs_neg];have:=HLX.u;omega)).mono fun e w7 ⟨r,he,hr,hb⟩=>⟨r,he,hr,hb⟩) ?pC AllReadyH.nil)
   case hrun2=>simp[execOp,go_sem]
   rintro q w8 ⟨hq,hb8⟩;have AZ:=A7.mono hb8 A7.lt;have BZ:=B7.mono hb8 B7.lt;have DD:=DD0.mono hb8 DD0.lt;have hWZ:=hW7.trans (hb8.mono hW7.size);obtain⟨p,rfl,hp⟩:=hq;obtain⟨pg,pc,rfl,-⟩:=hp;rw[HQ.u];obtain⟨dl,hdl⟩:=Nq ((digs (x + -y).natAbs).length);rw[hdl];clear hdl;refine⟨four AZ BZ,?_⟩;simp only[sX,sY,sZ];clear A7 B7 hW7 hb8 hV7 hr7 DD0;have hsD:=DD.lt;obtain⟨⟨r0,r1⟩,⟨f0,f1⟩⟩:=two DD;refine storeY (i:=5) (w':=(w8.setCell ⟨D,0,none⟩ (.bool (decide (x<y)))).setCell ⟨D,1,none⟩ (.slice pg dl pc)) rfl (by rfl) (by kernel_rfl) rfl ?hrunS rfl (four ((AZ.other _ (by simp;omega)).other _ (by simp;omega)) ((BZ.other _ (by simp;omega)).other _ (by simp;omega))) ?_
   case hrunS=>simp[execOp,go_sem,r0,r1,f0,f1]
   refine wpAnyH_done (by kernel_rfl) ?_ _;obtain⟨⟨y0,y1⟩,-⟩:=two ((DD.set 0 (.bool (decide (x<y)))).set 1 (.slice pg dl pc));have HZ:=h_ ((hWZ.setCell (p:=⟨D,0,none⟩) (by simp;omega) (.bool (decide (x<y)))).setCell (p:=⟨D,1,none⟩) (by simp;omega) (.slice pg dl pc));clear DD AZ BZ hWZ r0 r1 f0 f1;generalize (w8.setCell ⟨D,0,none⟩ (.bool (decide (x<y)))).setCell ⟨D,1,none⟩ (.slice pg dl pc)=W9 at *;go_wp2;go_ret;exact⟨rfl,HZ.u⟩
 case pA =>
  simp only[sX,sY,sZ];have hbA:Below W.heap.size W (W.drew.alloc (.cells Jl 135)):=q29 ((bR W.heap.size W.drew).alloc (nR _) _);have DD0:Blk (W.drew.alloc (.cells Jl 135)) W.heap.size 135 [.bool false,J7]:=Blk.new W.drew 135 Jl;have A6:=HA.u.mono hbA HA.u.lt;have B6:=HB.u.mono hbA HB.u.lt;have hW6:=HW.u.trans (hbA.mono HW.u.size);have hV6:=HV.u.mono hbA;have hU6:=HU.u.mono hbA;have sA:=HA.u.lt;have sB:=HB.u.lt;have hD0:W.drew.heap.size=W.heap.size:=rfl;rw[hD0];clear hbA zz hD0;generalize W.heap.size=D at *;generalize W.drew.alloc (.cells Jl 135)=w6 at *;refine wpAnyH_ready (rs:=[2]) (by kernel_rfl) (by simp) (consCall (f:=173) (args:=#[.agg #[.bool sy,.slice b ly cb]]) (R:=fun r wz=>BigV wz r (-y)/\Below w6.heap.size w6 wz) 8 rfl rfl (by rfl) ?hrun1 ((q45 _ y _ hU6).mono fun e w6 ⟨r,he,hr,hb⟩=>⟨r,he,hr,hb⟩) ?pA1 AllReadyH.nil)
  case hrun1=>simp[execOp,go_sem]
  rintro v w7 ⟨hr,hb7⟩;have A7:=A6.mono hb7 A6.lt;have B7:=B6.mono hb7 B6.lt;have DD1:=DD0.mono hb7 DD0.lt;have hW7:=hW6.trans (hb7.mono hW6.size);have hV7:=hV6.mono hb7;refine⟨four A7 B7,?_⟩;simp only[sX,sY,sZ];refine wpAnyH_ready (rs:=[3]) (by kernel_rfl) (by simp) (consCall (f:=172) (args:=#[.agg #[.bool sx,.slice a lx ca],v]) (R:=fun r wz=>BigV wz r (x + -y)/\Below w7.heap.size w7 wz) 9 rfl rfl (by rfl) ?hrun2 ((q44 _ _ x (-y) _ hV7 hr (by have:=HLX.u;omega) (by rw[Int.natAbs_neg];have:=HLX.u;omega)).mono fun e w7 ⟨r,he,hr,hb⟩=>⟨r,he,hr,hb⟩) ?pA2 AllReadyH.nil)
  case hrun2=>simp[execOp,go_sem]
  rintro q w8 ⟨hq,hb8⟩;have AZ:=A7.mono hb8 A7.lt;have BZ:=B7.mono hb8 B7.lt;have DD:=DD1.mono hb8 DD1.lt;have hWZ:=hW7.trans (hb8.mono hW7.size);obtain⟨p,rfl,hp⟩:=hq;obtain⟨pg,pc,rfl,-⟩:=hp;rw[HQ.u];obtain⟨dl,hdl⟩:=Nq ((digs (x + -y).natAbs).length);rw[hdl];clear hdl;refine⟨four AZ BZ,?_⟩;simp only[sX,sY,sZ];clear A6 B6 A7 B7 hW6 hW7 hb7 hb8 hV6 hU6 hV7 hr DD0 DD1;have hsD:=DD.lt;obtain⟨⟨r0,r1⟩,⟨f0,f1⟩⟩:=two DD;refine storeY (i:=5) (w':=(w8.setCell ⟨D,0,none⟩ (.bool (decide (x<y)))).setCell ⟨D,1,none⟩ (.slice pg dl pc)) rfl (by rfl) (by kernel_rfl) rfl ?hrunS rfl (four ((AZ.other _ (by simp;omega)).other _ (by simp;omega)) ((BZ.other _ (by simp;omega)).other _ (by simp;omega))) ?_
  case hrunS=>simp[execOp,go_sem,r0,r1,f0,f1]
  refine wpAnyH_done (by kernel_rfl) ?_ _;obtain⟨⟨y0,y1⟩,-⟩:=two ((DD.set 0 (.bool (decide (x<y)))).set 1 (.slice pg dl pc));have HZ:=h_ ((hWZ.setCell (p:=⟨D,0,none⟩) (by simp;omega) (.bool (decide (x<y)))).setCell (p:=⟨D,1,none⟩) (by simp;omega) (.slice pg dl pc));clear DD AZ BZ hWZ r0 r1 f0 f1;generalize (w8.setCell ⟨D,0,none⟩ (.bool (decide (x<y)))).setCell ⟨D,1,none⟩ (.slice pg dl pc)=W9 at *;go_wp2;go_ret;exact⟨rfl,HZ.u⟩
theorem qfv {z:Int}(h0:-9223372036854775808<=z)(h1:z<=9223372036854775807):(digs z.natAbs).length<=19:=q1i (by omega)
def fitsB (z:Int):Bool:=decide (-9223372036854775808<=z/\z<=9223372036854775807)
theorem q98 (v:Value)(z:Int)(w:World)(hv:BigV w v z)(bz:(digs z.natAbs).length<=500) :
 Calls Tryz.prog 110 #[v] w fun e w'=>e=.returned (.bool (fitsB z))/\Below w.heap.size w w':=by
 have HV:=h_ hv
 obtain⟨v1,rfl,hv1⟩:=hv
 obtain⟨a,ca,rfl,-⟩:=hv1
 obtain⟨sz,hsz⟩:=Nq (decide (z<0))
 obtain⟨lz,hlz⟩:=Nq ((digs z.natAbs).length)
 rw[hsz,hlz]at HV⊢
 have BZ:=h_ bz
 clear hsz hlz bz
 have H0:=h_ (Blk.new w 135 #[.bool sz,.slice a lz ca])
 have HW:Hi (Below w.heap.size w (w.alloc (.cells #[.bool sz,.slice a lz ca] 135))):=(bR _ _).alloc (nR _) _
 go_enter Tryz.func110,Tryz.ntmps110
 go_wp2_with fail
 refine(q2k 9223372036854775807 _ (by omega) (by omega)).mono ?_
 rintro e w1 ⟨t1,rfl,ht1,hb1⟩
 replace H0:=mB H0 hb1;replace HW:=mT HW hb1;clear hb1
 rw[show decide ((9223372036854775807:Int)<0)=false from rfl]
 have hT:BigV w1 (.agg #[.bool false,t1]) 9223372036854775807:=⟨t1,rfl,ht1⟩
 obtain⟨ta,tc,rfl,-⟩:=ht1
 obtain⟨lt,hlt⟩:=Nq ((digs (Int.natAbs 9223372036854775807)).length)
 rw[hlt]at hT⊢
 clear hlt
 have B1:=Blk.new w1 135 #[.bool false,.slice ta lt tc]
 have hbA:Below w1.heap.size w1 (w1.alloc (.cells #[.bool false,.slice ta lt tc] 135)):=(bR _ _).alloc (nR _) _
 have HT:=h_ (hT.mono hbA)
 replace H0:=mB H0 hbA;replace HW:=mT HW hbA
 have H1:=h_ B1
 clear hT B1 hbA
 go_wp2_with fail
 refine(q2k (-9223372036854775808) _ (by omega) (by omega)).mono ?_
 rintro e w2 ⟨t2,rfl,ht2,hb2⟩
 replace H0:=mB H0 hb2;replace H1:=mB H1 hb2;replace HW:=mT HW hb2;replace HT:=h_ (HT.u.mono hb2);clear hb2
 rw[show decide ((-9223372036854775808:Int)<0)=true from rfl]
 have hU:BigV w2 (.agg #[.bool true,t2]) (-9223372036854775808):=⟨t2,rfl,ht2⟩
 obtain⟨ua,uc,rfl,-⟩:=ht2
 obtain⟨lu,hlu⟩:=Nq ((digs (Int.natAbs (-9223372036854775808))).length)
 rw[hlu]at hU⊢
 clear hlu
 have B2:=Blk.new w2 135 #[.bool true,.slice ua lu uc]
 have hbA:Below w2.heap.size w2 (w2.alloc (.cells #[.bool true,.slice ua lu uc] 135)):=(bR _ _).alloc (nR _) _
 have HU:=h_ (hU.mono hbA)
 replace HT:=h_ (HT.u.mono hbA)
 replace H0:=mB H0 hbA;replace H1:=mB H1 hbA;replace HW:=mT HW hbA
 have H2:=h_ B2
 replace HV:=h_ (HV.u.mono HW.u)
 clear hU B2 hbA
 obtain⟨⟨z0,z1⟩,-⟩:=two H0.u
 obtain⟨⟨z2,z3⟩,-⟩:=two H1.u
 obtain⟨⟨z4,z5⟩,-⟩:=two H2.u
 have LT:=h_ (qfv (z:=9223372036854775807) (by omega) (by omega));have LU:=h_ (qfv (z:=-9223372036854775808) (by omega) (by omega))
 go_wp2_with fail
 refine(q2i _ _ 9223372036854775807 z _ HT.u HV.u (by have:=LT.u;omega) BZ.u).mono ?_
 rintro e w3 ⟨rfl,hb3⟩
 replace H0:=mB H0 hb3;replace H2:=mB H2 hb3;replace HW:=mT HW hb3;replace HU:=h_ (HU.u.mono hb3);replace HV:=h_ (HV.u.mono hb3)
 clear hb3 z0 z1 z2 z3 z4 z5 H1 HT
 obtain⟨⟨z0,z1⟩,-⟩:=two H0.u
 obtain⟨⟨z4,z5⟩,-⟩:=two H2.u
 by_cases g1:9223372036854775807<z
 . have HF:Hi (fitsB z=false):=by rw[Hi,fitsB,Zs];omega
   rw[Yj g1];clear g1;go_wp2;go_ret;exact⟨qia HF.u.symm,HW.u⟩
 . have G1:=h_ g1
   rw[Yb g1];clear g1;go_wp2_with fail;refine(q2i _ _ z (-9223372036854775808) _ HV.u HU.u BZ.u (by have:=LU.u;omega)).mono ?_;rintro e w4 ⟨rfl,hb4⟩;replace HW:=mT HW hb4;clear hb4;have HF:Hi ((!decide (z < -9223372036854775808))=fitsB z):=by
    rw[Hi,fitsB,<- decide_not,decide_eq_decide];have:=G1.u;omega
   obtain⟨c,hc⟩:=Nq (decide (z < -9223372036854775808));rw[hc]at HF⊢;clear hc;go_wp2;go_ret;exact⟨qia HF.u,HW.u⟩
theorem qj8 (neg:Bool)(n L ca:Nat)(a:Option Addr)(w:World)(hL:L=(digs n).length)(bL:L<=500)(hn:n<=9223372036854775808)(hp:neg=false->n<=9223372036854775807)(hI:Ints w a L (fun k=>(((digs n).getD k 0:Nat):Int)))(z:Int)(hz:z=if neg then -(n:Int) else n) :
 Calls Tryz.prog 111 #[.agg #[.bool neg,.slice a L ca]] w fun e w'=>e=.returned (J6 z)/\Below w.heap.size w w':=by
 have H0:=Blk.new w 135 #[.bool neg,.slice a L ca]
 have HW:Hi (Below w.heap.size w (w.alloc (.cells #[.bool neg,.slice a L ca] 135))):=(bR _ _).alloc (nR _) _
 have hI2:=hI.mono HW.u
 obtain⟨⟨z0,z1⟩,-⟩:=two H0
 have HZ:=h_ hz;have HN:=h_ (And.intro hL (And.intro hn hp));clear H0 hI hL hn hp hz
 go_enter Tryz.func111,Tryz.ntmps111
 go_wp2
 generalize w.alloc (.cells #[.bool neg,.slice a L ca] 135)=W at *
 go_loopw [3,4] (fun x i wr=>∃(k:Nat) (X:Int),k<=L/\i=J6 ((k:Int) - 1)/\x=J6 X/\X=(if neg then -((n / 10 ^ k:Nat):Int) else ((n / 10 ^ k:Nat):Int))/\wr=W) (fun _ i _=>(intOf i+1).toNat)
 case atStart =>
  refine⟨L,0,nR _,rfl,rfl,?_,rfl⟩;rw[HN.u.1,Z3 (qm9 n)];cases neg <;> rfl
 case round =>
  obtain⟨k,X,hk,rfl,rfl,hX,rfl⟩:=hrel;cases k with
  | zero =>
   have HX:=h_ hX;clear hX;go_wp2;go_ret;exact⟨qng (by have:=HX.u;rw[HZ.u,this];simp),HW.u⟩
  | succ k =>
   rw[show((k+1:Nat):Int) - 1=(k:Int) by omega];obtain⟨b1,o1,rfl,-,c1⟩:=hI2 k (by omega);dsimp only at c1;rw[qkm]at c1;have s1:=qfy n k;have hle:n / 10 ^ k<=n:=Nat.div_le_self _ _;obtain⟨d,hd⟩:=Nq (n / 10 ^ k % 10);have hd10:d<10:=by rw[<- hd];exact Nat.mod_lt _ (by decide)
   rw[hd]at c1 s1;obtain⟨dI,hdI⟩:=Nq ((d:Int));rw[hdI]at c1;have hnn:=HN.u.2;have b0:0<=dI:=by omega
   have b9:dI<=9:=by omega
   have HH:=h_ (And.intro s1 hdI);cases neg with
   | true =>
    simp only[if_true]at hX;have x0:X*10<=0:=(by omega);have x1:-9223372036854775808<=X*10:=(by omega);have x2:-9223372036854775808<=X*10 - dI:=(by omega);have HX:=h_ hX;clear hX s1 hle hd hd10 hdI hnn;go_wp2;go_roundw
    case rel=>exact⟨k,X*10 - dI,by omega,rfl,rfl,by have:=HX.u;have:=HH.u;(try simp only[if_true]);omega,trivial⟩
    case measure=>simp[intOf]
   | false =>
    simp only[Bool.false_eq_true,if_false]at hX;have x0:0<=X*10:=(by omega);have x1:X*10<=9223372036854775807:=(by have:=hnn.2 rfl;omega);have x2:X*10+dI<=9223372036854775807:=(by have:=hnn.2 rfl;omega);have HX:=h_ hX;clear hX s1 hle hd hd10 hdI hnn;go_wp2;go_roundw
    case rel=>exact⟨k,X*10+dI,by omega,rfl,rfl,by have:=HX.u;have:=HH.u;(try simp only[Bool.false_eq_true,if_false]);omega,trivial⟩
    case measure=>simp[intOf]
theorem q67 (v:Value)(z:Int)(w:World)(hv:BigV w v z)(h0:-9223372036854775808<=z)(h1:z<=9223372036854775807) :
 Calls Tryz.prog 111 #[v] w fun e w'=>e=.returned (J6 z)/\Below w.heap.size w w':=by
 obtain⟨u,rfl,a,ca,rfl,-,-,hI⟩:=hv
 refine qj8 _ z.natAbs _ ca a w rfl (by have:=qfv h0 h1;omega) (by omega) (fun h=>?_) hI z ?_
 . have:¬ z<0:=by simpa using h
   omega
 . by_cases h:z<0
   . simp[h];omega
   . simp[h];omega
end Go.Proofs.YtgojgjlninakjaaGreatDoor
namespace Go.Proofs.YtgojgjlninakjaaGreatDoor
open Go.Lib
def dgt (c:UInt8):Nat:=c.toNat - 48
def Digits (l:List UInt8):Prop:=∀c,c∈l->48<=c.toNat/\c.toNat<=57
def low (l:List UInt8):List Nat:=l.reverse.map dgt
theorem qm5 {l:List UInt8}(h:Digits l):Dig (low l):=fun d hd=>by
 obtain⟨c,hc,rfl⟩:=List.mem_map.1 hd
 have:=h c (List.mem_reverse.1 hc)
 unfold dgt;omega
theorem qct (l:List Nat):∀acc,hval acc l=acc*10 ^ l.length+dval l.reverse:=by
 induction l with
 | nil=>intro acc;simp[hval,dval]
 | cons d r ih =>
  intro acc;rw[hval,ih,List.reverse_cons,qc8,List.length_reverse,List.length_cons,Nat.pow_succ,Nat.add_mul,Nat.mul_assoc,Nat.mul_comm 10,Nat.mul_comm d];omega
theorem qm4 (n:Nat):Digits (decDigits n)/\dval (low (decDigits n))=n/\decDigits n≠[]:=by
 obtain⟨a,b,c,d⟩:=qlb n
 have hb:∀x,x∈hiDigs n->(UInt8.ofNat (48+x)).toNat=48+x:=fun x hx=>by
  have:=b x hx;rw[UInt8.toNat_ofNat'];omega
 refine⟨fun x hx=>?_,?_,dec_ne n⟩
 . rw[c]at hx
   obtain⟨y,hy,rfl⟩:=List.mem_map.1 hx;have:=b y hy;rw[hb y hy];omega
 . have e:low (decDigits n)=(hiDigs n).reverse:=by
    rw[c,low,hdig,<- List.map_reverse,List.map_map]
    conv=>rhs;rw[<- List.map_id (hiDigs n).reverse]
    refine List.map_congr_left fun x hx=>?_;have:=hb x (List.mem_reverse.1 hx);simp only[Function.comp,dgt,this,id];omega
   have:=qct (hiDigs n) 0;rw[a]at this;rw[e];omega
theorem q94 (n:Int):(n<0->∃t,itoa n=45 :: t/\t=decDigits n.natAbs)/\(¬ n<0->itoa n=decDigits n.natAbs/\∃c r,itoa n=c :: r/\c.toNat≠45):=by
 refine⟨fun h=>⟨_,by rw[itoa,if_pos h],rfl⟩,fun h=>?_⟩
 have e:itoa n=decDigits n.natAbs:=by rw[itoa,if_neg h,show n.toNat=n.natAbs by omega]
 obtain⟨c,r,e2,h1,h2⟩:=qft n.natAbs
 exact⟨e,c,r,by rw[e,e2],by omega⟩
theorem qgs (n:Int)(h:I64 n):1<=(itoa n).length/\(itoa n).length<=20:=by
 have hd:∀m:Nat,m<=9223372036854775808->1<=(decDigits m).length/\(decDigits m).length<=19:=fun m hm=>by
  by_cases h0:m=0
  . subst h0;rw[decDigits_one (by omega)];simp
  . rw[q1h h0]
    have h1:=q1i (n:=m) (k:=19) (by omega);have h2:(digs m).length≠0:=fun e=>h0 (qfw.1 (List.length_eq_zero_iff.1 e));simp;omega
 have:=hd n.natAbs (by unfold I64 at h;omega)
 by_cases hn:n<0
 . obtain⟨t,e,rfl⟩:=(q94 n).1 hn
   rw[e,List.length_cons];omega
 . rw[((q94 n).2 hn).1];omega
def couldBe (neg:Bool)(l:List UInt8):Int:=if neg then -(dval (low l):Int) else dval (low l)
theorem qc2 {t:List UInt8}{n:Int}(h:itoa n=45 :: t):Digits t/\couldBe true t=n:=by
 by_cases hn:n<0
 . obtain⟨t',e,rfl⟩:=(q94 n).1 hn
   rw[h]at e;have:t=decDigits n.natAbs:=by simpa using e
   subst this;obtain⟨a,b,-⟩:=qm4 n.natAbs;exact⟨a,by simp only[couldBe,b,if_true];omega⟩
 . obtain⟨-,c,r,e,hc⟩:=(q94 n).2 hn
   rw[h]at e;simp only[List.cons.injEq]at e;rw[<- e.1]at hc;exact absurd rfl hc
theorem qc3 {c:UInt8}{t:List UInt8}{n:Int}(hc:c.toNat≠45)(h:itoa n=c :: t):Digits (c :: t)/\couldBe false (c :: t)=n:=by
 by_cases hn:n<0
 . obtain⟨t',e,-⟩:=(q94 n).1 hn
   rw[h]at e;simp only[List.cons.injEq]at e;rw[e.1]at hc;exact absurd rfl hc
 . obtain⟨e,-⟩:=(q94 n).2 hn
   rw[<- h,e];obtain⟨a,b,-⟩:=qm4 n.natAbs;refine⟨a,?_⟩;simp only[couldBe,b,Bool.false_eq_true,if_false];omega
end Go.Proofs.YtgojgjlninakjaaGreatDoor
namespace Go.Proofs.YtgojgjlninakjaaGreatDoor
open Go Go.RowKit
def rd (l:List UInt8):Int × Bool:=match readDec l with
 | some n=>(n,true)
 | none=>(0,false)
theorem q4r (s:ByteArray)(w:World)(h1:0<s.size)(h20:s.size<=20)(hc:s[0].toNat=45)(x:Int)(ok:Bool)(hr:rd s.data.toList=(x,ok))
 (KL:∀n,I64 n->Lib.itoa n=s.data.toList->Digits (s.data.toList.drop 1)/\couldBe true (s.data.toList.drop 1)=n) :
 Calls Tryz.prog 72 #[.string s] w fun e w'=>e=.returned (.tuple #[J6 x,.bool ok])/\Below w.heap.size w w':=by
 have HKL:=h_ KL;have HR:=h_ hr;clear KL hr
 have HB0:Hi (Below w.heap.size w (w.alloc (.cells #[] 3))):=(bR _ _).alloc (nR _) _
 have hNo:(∀n,I64 n->Lib.itoa n≠s.data.toList)->x=0/\ok=false:=fun h=>by
  have h2:=HR.u;rw[rd,q4p h]at h2;simp only[Y4]at h2;exact⟨h2.1.symm,h2.2.symm⟩
 have HNO:=h_ hNo;clear hNo
 have hl:s.data.toList.length=s.size:=by rw[V8];rfl
 have HL:=h_ hl;clear hl
 have e0:((s.size:Int)==0)=false:=by rw[size0];simp only[Zs];omega
 have e1:decide ((20:Int)<s.size)=false:=by simp only[Zs];omega
 have e2:((s[0].toNat:Int)==45)=true:=by simp;omega
 clear hc
 obtain⟨F,hF⟩:∃F,F=1:=⟨_,rfl⟩
 have HF:=h_ hF;clear hF
 go_enter Tryz.func72,Tryz.ntmps72
 go_wp2_with fail
 go_loopw [6,7] (fun v i wr=>∃(k:Nat) (o:List Nat),F<=k/\k<=s.size/\i=J6 ((k:Int) - 1)/\o=low (s.data.toList.drop k)/\Digits (s.data.toList.drop k)/\wr.ownsRow w.heap.size 3 1 v o.length (ui o)/\Below w.heap.size w wr) (fun _ i _=>(intOf i+1).toNat)
 case atStart =>
  have hdrop:s.data.toList.drop s.size=[]:=by rw[<- HL.u];simp
  exact⟨s.size,[],by have:=HF.u;omega,nR _,rfl,by rw[hdrop];rfl,(by rw[hdrop];intro c hc;cases hc),qdx w 3,HB0.u⟩
 case round =>
  clear HB0;obtain⟨k,o,hFk,hk,rfl,ho,hdg,hown,hb⟩:=hrel;have HO:=h_ hown;have HB:=h_ hb;have HOO:=h_ ho;have HDG:=h_ hdg;clear hown hb hdg;have hol:o.length<=20:=by rw[ho];simp[low];omega
  clear ho;have hF:=HF.u;replace hFk:1<=k:=by omega
  clear hF;by_cases hend:k=1
  . subst hend
    have hdig:=HDG.u;have hoo:=HOO.u;have HOd:DigS wr u6 o:=q3j HO.u;have hod:Dig o:=(by rw[hoo];exact qm5 hdig);clear HO HOO HDG hdig;go_wp2_with fail;refine(q9a u6 o wr HOd hod (by omega)).mono ?_;rintro e w' ⟨r,rfl,hr,rfl⟩;have hz:couldBe true (s.data.toList.drop 1) = -(dval o:Int):=(by rw[couldBe,hoo];rfl);have HZ:=h_ hz;clear hz hoo HOd;obtain⟨z,hzz⟩:∃z:Int,z = -(dval o:Int):=⟨_,rfl⟩;have hab:z.natAbs=dval o:=(by omega);rw[<- hab]at hr;have hlz:(digs z.natAbs).length<=500:=(by rw[hab];exact Zf (q1i (qkp hod)) (by omega));have hres:(∀n,I64 n->Lib.itoa n=s.data.toList->n=z):=fun n hn e=>by
     have h2:=(HKL.u n hn e).2;rw[HZ.u]at h2;omega
    have HRES:=h_ hres;clear hres;have hsgn:decide (0<(digs z.natAbs).length)=decide (z<0):=by
     rw[decide_eq_decide];have h0:(digs z.natAbs).length=0 ↔ z.natAbs=0:=(by rw[Zt,qfw]);omega
    obtain⟨g,cg,rfl,-⟩:=id hr;have hBV:BigV w' (.agg #[.bool (decide (z<0)),.slice g (digs z.natAbs).length cg]) z:=⟨_,rfl,hr⟩;obtain⟨lz,hlzz⟩:=Nq ((digs z.natAbs).length);rw[hlzz]at hBV hsgn⊢;have HLZ:=h_ (And.intro hlz hlzz);clear hlz hlzz hr hab hzz HZ hod;obtain⟨sz,hsz⟩:=Nq (decide (z<0));rw[hsz]at hBV;have HS:=h_ hsz;have hb9:Below w'.heap.size w' (w'.alloc (.cells #[.bool sz,.slice g lz cg] 135)):=(bR _ _).alloc (nR _) _;have H9:=h_ (Blk.new w' 135 #[.bool sz,.slice g lz cg]);have HBV:=h_ (hBV.mono hb9);have HW:=mT HB hb9;clear hBV hb9;have HWW:Hi True:=trivial;have e3:decide (0<lz)=sz:=hsgn.trans hsz;clear hsgn hsz;go_wp2_with fail;refine(q98 _ z _ HBV.u HLZ.u.1).mono ?_;rintro e w3 ⟨rfl,hb3⟩;replace H9:=mB H9 hb3;replace HBV:=h_ (HBV.u.mono hb3);replace HW:=mT HW hb3;clear hb3;by_cases hf:-9223372036854775808<=z/\z<=9223372036854775807
    . have HFI:=h_ hf
      rw[show fitsB z=true from Yj hf];clear hf;obtain⟨⟨z0,z1⟩,-⟩:=two H9.u;go_wp2_with fail;refine(q67 _ z _ HBV.u HFI.u.1 HFI.u.2).mono ?_;rintro e w4 ⟨rfl,hb4⟩;replace HW:=mT HW hb4;clear hb4 z0 z1 H9 HBV;go_wp2_with fail;refine(q2j z _ HFI.u.1 HFI.u.2).mono ?_;rintro e w5 ⟨rfl,hb5⟩;replace HW:=mT HW hb5;clear hb5;by_cases heq:Lib.itoa z=s.data.toList
      . have hx:x=z/\ok=true:=by
         have h2:=HR.u;rw[<- heq,rd,q4o HFI.u]at h2;simp only[Y4]at h2;exact⟨h2.1.symm,h2.2.symm⟩
        obtain⟨rfl,rfl⟩:=hx;have e5:((⟨(Lib.itoa x).toArray⟩:ByteArray).toList==s.toList)=true:=(by rw[Yp,Yp,<- heq];simp);obtain⟨T,hT⟩:∃T:ByteArray,T=⟨(Lib.itoa x).toArray⟩:=⟨_,rfl⟩;rw[<- hT]at e5⊢;clear hT heq;go_wp2;exact bodyPost_ret (v:=.tuple #[J6 x,.bool true]) (by simp[results,Tryz.results72,go_sem]) rfl ⟨rfl,HW.u⟩
      . obtain⟨rfl,rfl⟩:=HNO.u fun n hn e=>heq (by rw[<- HRES.u n hn e];exact e)
        have e5:((⟨(Lib.itoa z).toArray⟩:ByteArray).toList==s.toList)=false:=(by rw[Yp,Yp,Ya];simpa using heq);obtain⟨T,hT⟩:∃T:ByteArray,T=⟨(Lib.itoa z).toArray⟩:=⟨_,rfl⟩;rw[<- hT]at e5⊢;clear hT heq;go_wp2;exact bodyPost_ret (v:=.tuple #[J6 0,.bool false]) (by simp[results,Tryz.results72,go_sem]) rfl ⟨rfl,HW.u⟩
    . rw[show fitsB z=false from Yb hf]
      obtain⟨rfl,rfl⟩:=HNO.u fun n hn e=>hf (by rw[<- HRES.u n hn e];exact hn);clear hf;go_wp2;exact bodyPost_ret (v:=.tuple #[J6 0,.bool false]) (by simp[results,Tryz.results72,go_sem]) rfl ⟨rfl,HW.u⟩
  . obtain⟨k,rfl⟩:∃k',k=k'+1:=⟨k - 1,by omega⟩
    rw[show((k+1:Nat):Int) - 1=(k:Int) by omega];have hks:k<s.size:=(by omega);have hFk':1<=k:=(by omega);have hcell:s.data.toList.drop k=s[k] :: s.data.toList.drop (k+1):=by
     rw[Zw (by have:=HL.u;omega)];rfl
    have HC:=h_ hcell;clear hcell;have bad:¬ (48<=s[k].toNat/\s[k].toNat<=57)->x=0/\ok=false:=fun hbad=>HNO.u fun n hn e=>hbad (by
     refine(HKL.u n hn e).1 s[k] ?_;have e3:s.data.toList.drop k=(s.data.toList.drop 1).drop (k - 1):=(by rw[Oz];congr 1;omega);have:s[k]∈s.data.toList.drop k:=(by rw[HC.u];exact Yq ..);rw[e3]at this;exact List.mem_of_mem_drop this)
    have HBAD:=h_ bad;clear bad;by_cases g1:s[k].toNat<48
    . obtain⟨rfl,rfl⟩:=HBAD.u (by omega)
      go_wp2;exact bodyPost_ret (v:=.tuple #[J6 0,.bool false]) (by simp[results,Tryz.results72,go_sem]) rfl ⟨rfl,HB.u⟩
    by_cases g2:57<s[k].toNat
    . obtain⟨rfl,rfl⟩:=HBAD.u (by omega)
      go_wp2;exact bodyPost_ret (v:=.tuple #[J6 0,.bool false]) (by simp[results,Tryz.results72,go_sem]) rfl ⟨rfl,HB.u⟩
    obtain⟨i0,hi,hz0,hz1,hz2⟩:=info_parts infoI;go_wp2_with (at_builtin;refine wpList_append_own _ rfl _ _ 77 rfl w.heap.size 3 i0 _ 1 8 Tryz.underlying77 hi hz0 hz1 hz2 rfl (by omega) u6 _ _ rfl (HO.u.alloc _) ⟨wr.heap.size,0,none⟩ 1 1 [J6 ((s[k].toNat:Int) - 48)] rfl rfl (qfl wr 3 _) (by simp[Value.oneCell']) (by unfold maxLen;omega) (by omega) (by have:=HB.u.size;simp;omega) ?_);intro v' w' hown' hgrow' _;have hB':=(HB.u.alloc (by have:=HB.u.size;omega) (.cells #[J6 ((s[k].toNat:Int) - 48)] 3)).grown hgrow' (by have:=HB.u.size;simp;omega) (fun q' e=>qa0 HO.u e);have HO3:Hi (w'.ownsRow w.heap.size 3 1 v' (o.length+1) (ui (o++[dgt s[k]]))):=by
     rw[Hi];rw[show(s[k].toNat:Int) - 48=((dgt s[k]:Nat):Int) by unfold dgt;omega]at hown';simpa [ui] using hown'
    have HB3:=h_ hB';clear hown' hgrow' hB' hi hz0 hz1 hz2;go_wp2_with fail;go_roundw
    case rel =>
     refine⟨k,o++[dgt s[k]],by have:=HF.u;omega,by omega,rfl,?_,?_,?_,HB3.u⟩
     . rw[HC.u,low,Ow,Zc,HOO.u];rfl
     . rw[HC.u];intro c hc
       rcases Zp.1 hc with rfl | hc
       . omega
       . exact HDG.u c hc
     . have:=HO3.u;simpa using this
    case measure=>simp[intOf]
theorem q30 (s:ByteArray)(w:World)(h1:0<s.size)(h20:s.size<=20)(hc:s[0].toNat≠45)(x:Int)(ok:Bool)(hr:rd s.data.toList=(x,ok))
 (KL:∀n,I64 n->Lib.itoa n=s.data.toList->Digits (s.data.toList.drop 0)/\couldBe false (s.data.toList.drop 0)=n) :
 Calls Tryz.prog 72 #[.string s] w fun e w'=>e=.returned (.tuple #[J6 x,.bool ok])/\Below w.heap.size w w':=by
 have HKL:=h_ KL;have HR:=h_ hr;clear KL hr
 have HB0:Hi (Below w.heap.size w (w.alloc (.cells #[] 3))):=(bR _ _).alloc (nR _) _
 have hNo:(∀n,I64 n->Lib.itoa n≠s.data.toList)->x=0/\ok=false:=fun h=>by
  have h2:=HR.u;rw[rd,q4p h]at h2;simp only[Y4]at h2;exact⟨h2.1.symm,h2.2.symm⟩
 have HNO:=h_ hNo;clear hNo
 have hl:s.data.toList.length=s.size:=by rw[V8];rfl
 have HL:=h_ hl;clear hl
 have e0:((s.size:Int)==0)=false:=by rw[size0];simp only[Zs];omega
 have e1:decide ((20:Int)<s.size)=false:=by simp only[Zs];omega
 have e2:((s[0].toNat:Int)==45)=false:=by rw[Ya];omega
 clear hc
 obtain⟨F,hF⟩:∃F,F=0:=⟨_,rfl⟩
 have HF:=h_ hF;clear hF
 go_enter Tryz.func72,Tryz.ntmps72
 go_wp2_with fail
 go_loopw [6,7] (fun v i wr=>∃(k:Nat) (o:List Nat),F<=k/\k<=s.size/\i=J6 ((k:Int) - 1)/\o=low (s.data.toList.drop k)/\Digits (s.data.toList.drop k)/\wr.ownsRow w.heap.size 3 1 v o.length (ui o)/\Below w.heap.size w wr) (fun _ i _=>(intOf i+1).toNat)
 case atStart =>
  have hdrop:s.data.toList.drop s.size=[]:=by rw[<- HL.u];simp
  exact⟨s.size,[],by have:=HF.u;omega,nR _,rfl,by rw[hdrop];rfl,(by rw[hdrop];intro c hc;cases hc),qdx w 3,HB0.u⟩
 case round =>
  clear HB0;obtain⟨k,o,hFk,hk,rfl,ho,hdg,hown,hb⟩:=hrel;have HO:=h_ hown;have HB:=h_ hb;have HOO:=h_ ho;have HDG:=h_ hdg;clear hown hb hdg;have hol:o.length<=20:=by rw[ho];simp[low];omega
  clear ho;have hF:=HF.u;replace hFk:0<=k:=by omega
  clear hF;by_cases hend:k=0
  . subst hend
    have hdig:=HDG.u;have hoo:=HOO.u;have HOd:DigS wr u6 o:=q3j HO.u;have hod:Dig o:=(by rw[hoo];exact qm5 hdig);clear HO HOO HDG hdig;go_wp2_with fail;refine(q9a u6 o wr HOd hod (by omega)).mono ?_;rintro e w' ⟨r,rfl,hr,rfl⟩;have hz:couldBe false (s.data.toList.drop 0)=(dval o:Int):=(by rw[couldBe,hoo];rfl);have HZ:=h_ hz;clear hz hoo HOd;obtain⟨z,hzz⟩:∃z:Int,z=(dval o:Int):=⟨_,rfl⟩;have hab:z.natAbs=dval o:=(by omega);rw[<- hab]at hr;have hlz:(digs z.natAbs).length<=500:=(by rw[hab];exact Zf (q1i (qkp hod)) (by omega));have hres:(∀n,I64 n->Lib.itoa n=s.data.toList->n=z):=fun n hn e=>by
     have h2:=(HKL.u n hn e).2;rw[HZ.u]at h2;omega
    have HRES:=h_ hres;clear hres;have hsgn:decide (z<0)=false:=(by rw[Zs];omega);obtain⟨g,cg,rfl,-⟩:=id hr;have hBV:BigV w' (.agg #[.bool (decide (z<0)),.slice g (digs z.natAbs).length cg]) z:=⟨_,rfl,hr⟩;obtain⟨lz,hlzz⟩:=Nq ((digs z.natAbs).length);rw[hlzz]at hBV⊢;have HLZ:=h_ (And.intro hlz hlzz);clear hlz hlzz hr hab hzz HZ hod;obtain⟨sz,hsz⟩:=Nq (decide (z<0));rw[hsz]at hBV;have HS:=h_ hsz;have hb9:Below w'.heap.size w' (w'.alloc (.cells #[.bool sz,.slice g lz cg] 135)):=(bR _ _).alloc (nR _) _;have H9:=h_ (Blk.new w' 135 #[.bool sz,.slice g lz cg]);have HBV:=h_ (hBV.mono hb9);have HW:=mT HB hb9;clear hBV hb9;have HWW:Hi True:=trivial;obtain rfl:sz=false:=hsz.symm.trans hsgn;clear hsgn hsz;go_wp2_with fail;refine(q98 _ z _ HBV.u HLZ.u.1).mono ?_;rintro e w3 ⟨rfl,hb3⟩;replace H9:=mB H9 hb3;replace HBV:=h_ (HBV.u.mono hb3);replace HW:=mT HW hb3;clear hb3;by_cases hf:-9223372036854775808<=z/\z<=9223372036854775807
    . have HFI:=h_ hf
      rw[show fitsB z=true from Yj hf];clear hf;obtain⟨⟨z0,z1⟩,-⟩:=two H9.u;go_wp2_with fail;refine(q67 _ z _ HBV.u HFI.u.1 HFI.u.2).mono ?_;rintro e w4 ⟨rfl,hb4⟩;replace HW:=mT HW hb4;clear hb4 z0 z1 H9 HBV;go_wp2_with fail;refine(q2j z _ HFI.u.1 HFI.u.2).mono ?_;rintro e w5 ⟨rfl,hb5⟩;replace HW:=mT HW hb5;clear hb5;by_cases heq:Lib.itoa z=s.data.toList
      . have hx:x=z/\ok=true:=by
         have h2:=HR.u;rw[<- heq,rd,q4o HFI.u]at h2;simp only[Y4]at h2;exact⟨h2.1.symm,h2.2.symm⟩
        obtain⟨rfl,rfl⟩:=hx;have e5:((⟨(Lib.itoa x).toArray⟩:ByteArray).toList==s.toList)=true:=(by rw[Yp,Yp,<- heq];simp);obtain⟨T,hT⟩:∃T:ByteArray,T=⟨(Lib.itoa x).toArray⟩:=⟨_,rfl⟩;rw[<- hT]at e5⊢;clear hT heq;go_wp2;exact bodyPost_ret (v:=.tuple #[J6 x,.bool true]) (by simp[results,Tryz.results72,go_sem]) rfl ⟨rfl,HW.u⟩
      . obtain⟨rfl,rfl⟩:=HNO.u fun n hn e=>heq (by rw[<- HRES.u n hn e];exact e)
        have e5:((⟨(Lib.itoa z).toArray⟩:ByteArray).toList==s.toList)=false:=(by rw[Yp,Yp,Ya];simpa using heq);obtain⟨T,hT⟩:∃T:ByteArray,T=⟨(Lib.itoa z).toArray⟩:=⟨_,rfl⟩;rw[<- hT]at e5⊢;clear hT heq;go_wp2;exact bodyPost_ret (v:=.tuple #[J6 0,.bool false]) (by simp[results,Tryz.results72,go_sem]) rfl ⟨rfl,HW.u⟩
    . rw[show fitsB z=false from Yb hf]
      obtain⟨rfl,rfl⟩:=HNO.u fun n hn e=>hf (by rw[<- HRES.u n hn e];exact hn);clear hf;go_wp2;exact bodyPost_ret (v:=.tuple #[J6 0,.bool false]) (by simp[results,Tryz.results72,go_sem]) rfl ⟨rfl,HW.u⟩
  . obtain⟨k,rfl⟩:∃k',k=k'+1:=⟨k - 1,by omega⟩
    rw[show((k+1:Nat):Int) - 1=(k:Int) by omega];have hks:k<s.size:=(by omega);have hFk':0<=k:=(by omega);have hcell:s.data.toList.drop k=s[k] :: s.data.toList.drop (k+1):=by
     rw[Zw (by have:=HL.u;omega)];rfl
    have HC:=h_ hcell;clear hcell;have bad:¬ (48<=s[k].toNat/\s[k].toNat<=57)->x=0/\ok=false:=fun hbad=>HNO.u fun n hn e=>hbad (by
     refine(HKL.u n hn e).1 s[k] ?_;have e3:s.data.toList.drop k=(s.data.toList.drop 0).drop (k - 0):=(by rw[Oz];congr 1;omega);have:s[k]∈s.data.toList.drop k:=(by rw[HC.u];exact Yq ..);rw[e3]at this;exact List.mem_of_mem_drop this)
    have HBAD:=h_ bad;clear bad;by_cases g1:s[k].toNat<48
    . obtain⟨rfl,rfl⟩:=HBAD.u (by omega)
      go_wp2;exact bodyPost_ret (v:=.tuple #[J6 0,.bool false]) (by simp[results,Tryz.results72,go_sem]) rfl ⟨rfl,HB.u⟩
    by_cases g2:57<s[k].toNat
    . obtain⟨rfl,rfl⟩:=HBAD.u (by omega)
      go_wp2;exact bodyPost_ret (v:=.tuple #[J6 0,.bool false]) (by simp[results,Tryz.results72,go_sem]) rfl ⟨rfl,HB.u⟩
    obtain⟨i0,hi,hz0,hz1,hz2⟩:=info_parts infoI;go_wp2_with (at_builtin;refine wpList_append_own _ rfl _ _ 77 rfl w.heap.size 3 i0 _ 1 8 Tryz.underlying77 hi hz0 hz1 hz2 rfl (by omega) u6 _ _ rfl (HO.u.alloc _) ⟨wr.heap.size,0,none⟩ 1 1 [J6 ((s[k].toNat:Int) - 48)] rfl rfl (qfl wr 3 _) (by simp[Value.oneCell']) (by unfold maxLen;omega) (by omega) (by have:=HB.u.size;simp;omega) ?_);intro v' w' hown' hgrow' _;have hB':=(HB.u.alloc (by have:=HB.u.size;omega) (.cells #[J6 ((s[k].toNat:Int) - 48)] 3)).grown hgrow' (by have:=HB.u.size;simp;omega) (fun q' e=>qa0 HO.u e);have HO3:Hi (w'.ownsRow w.heap.size 3 1 v' (o.length+1) (ui (o++[dgt s[k]]))):=by
     rw[Hi];rw[show(s[k].toNat:Int) - 48=((dgt s[k]:Nat):Int) by unfold dgt;omega]at hown';simpa [ui] using hown'
    have HB3:=h_ hB';clear hown' hgrow' hB' hi hz0 hz1 hz2;go_wp2_with fail;go_roundw
    case rel =>
     refine⟨k,o++[dgt s[k]],by have:=HF.u;omega,by omega,rfl,?_,?_,?_,HB3.u⟩
     . rw[HC.u,low,Ow,Zc,HOO.u];rfl
     . rw[HC.u];intro c hc
       rcases Zp.1 hc with rfl | hc
       . omega
       . exact HDG.u c hc
     . have:=HO3.u;simpa using this
    case measure=>simp[intOf]
theorem qi7 {s:ByteArray}(h:s.size=0∨20<s.size):rd s.data.toList=(0,false):=by
 rw[rd,q4p fun n hn e=>?_]
 have:=qgs n hn
 rw[e,V8]at this
 have e2:s.data.size=s.size:=rfl
 omega
theorem q2m (s:ByteArray)(w:World)(hs:s.size<=9223372036854775807)(x:Int)(ok:Bool)(hr:rd s.data.toList=(x,ok)) :
 Calls Tryz.prog 72 #[.string s] w fun e w'=>e=.returned (.tuple #[J6 x,.bool ok])/\Below w.heap.size w w':=by
 by_cases h0:s.size=0
 . rw[qi7 (.inl h0)]at hr
   simp only[Y4]at hr;obtain⟨rfl,rfl⟩:=hr;have e0:((s.size:Int)==0)=true:=by rw[size0];simpa using h0
   clear h0;go_enter Tryz.func72,Tryz.ntmps72;go_wp2;exact bodyPost_ret (v:=.tuple #[J6 0,.bool false]) (by simp[results,Tryz.results72,go_sem]) rfl ⟨rfl,bR _ _⟩
 by_cases h20:20<s.size
 . rw[qi7 (.inr h20)]at hr
   simp only[Y4]at hr;obtain⟨rfl,rfl⟩:=hr;have e0:((s.size:Int)==0)=false:=by rw[size0];simpa using h0
   have e1:decide ((20:Int)<s.size)=true:=by simp only[Yh];omega
   clear h0;go_enter Tryz.func72,Tryz.ntmps72;go_wp2;exact bodyPost_ret (v:=.tuple #[J6 0,.bool false]) (by simp[results,Tryz.results72,go_sem]) rfl ⟨rfl,bR _ _⟩
 . have h1:0<s.size:=by omega
   have hcons:∃r,s.data.toList=s[0] :: r:=⟨s.data.toList.drop 1,Zw (l:=s.data.toList) (i:=0) (by rw[V8];exact h1)⟩;obtain⟨r,hcons⟩:=hcons;by_cases hc:s[0].toNat=45
   . refine q4r s w h1 (by omega) hc x ok hr fun n hn e=>?_
     rw[hcons]at e⊢;have hc':s[0]=45:=UInt8.toNat_inj.1 hc;rw[hc']at e;exact qc2 e
   . refine q30 s w h1 (by omega) hc x ok hr fun n hn e=>?_
     rw[hcons]at e⊢;exact qc3 hc e
def ErrV (name:String)(w:World):Prop:=∃tp p,w.var? Tryz.prog name=some #[.iface tp p]
theorem qjh {w w':World}{P:Program}{name:String}{cs:Array Value}(h:w.var? P name=some cs)(hb:Below w.heap.size w w'):w'.var? P name=some cs:=by
 unfold World.var? at h⊢
 cases hg:P.globalNamed name with
 | none=>rw[hg]at h;cases h
 | some g =>
  rw[hg]at h;simp only[Option.bind_some]at h⊢;have hlt:g<w.heap.size:=by
   apply V9;intro h0;rw[Ob h0]at h;cases h
  rw[hb.block g hlt];exact h
theorem ErrV.mono {name:String}{w w':World}(h:ErrV name w)(hb:Below w.heap.size w w'):ErrV name w':=by
 obtain⟨tp,p,h⟩:=h
 exact⟨tp,p,qjh h hb⟩
theorem q1b (s:ByteArray)(w:World)(hs:s.size<=1048576)(hp:Pow w)(h1:ErrV "strconv.ErrSyntax" w) (h2:ErrV "strconv.ErrRange" w) (x:Int) (ok:Bool) (hr:rd s.data.toList=(x,ok)) :
 Calls Tryz.prog 161 #[.string s] w fun e w'=>e=.returned (.tuple #[J6 x,.bool ok])/\Below w.heap.size w w':=by
 have HP:=h_ hp;have HR:=h_ hr;clear hp hr
 cases hq:Lib.parseIntB 64 s.data.toList with
 | ok n =>
  have hb:=Lib.parseIntB_bounds hq;have hn:I64 n:=by have:(2:Nat) ^ (64 - 1)=9223372036854775808:=rfl;unfold I64;omega
  have HN:=h_ hn;clear hb hn;go_enter Tryz.func161,Tryz.ntmps161;go_wp2_with fail;refine(Tryz.strconv_ParseInt_10_at64_ok s (by omega) n hq w).mono ?_;rintro e w1 ⟨rfl,hw1⟩;have hb1:Below w.heap.size w w1:=by
   rcases hw1 with rfl | ⟨t,rfl⟩
   . exact bR _ _
   . exact Lib.bytesWorld_below _ _ _
  clear hw1;have HW:=h_ hb1;clear hb1;go_wp2_with fail;refine(q5i n _ HN.u.1 HN.u.2 (HP.u.mono HW.u)).mono ?_;rintro e w2 ⟨rfl,hb2⟩;replace HW:=mT HW hb2;clear hb2;by_cases heq:Lib.itoa n=s.data.toList
  . have hx:x=n/\ok=true:=by
     have h3:=HR.u;rw[rd,readDec,hq]at h3;simp only[Yv heq,Y4]at h3;exact⟨h3.1.symm,h3.2.symm⟩
    obtain⟨rfl,rfl⟩:=hx;have e5:((⟨(Lib.itoa x).toArray⟩:ByteArray).toList==s.toList)=true:=(by rw[Yp,Yp,<- heq];simp);obtain⟨T,hT⟩:∃T:ByteArray,T=⟨(Lib.itoa x).toArray⟩:=⟨_,rfl⟩;rw[<- hT]at e5⊢;clear hT heq hq;go_wp2;exact bodyPost_ret (v:=.tuple #[J6 x,.bool true]) (by simp[results,Tryz.results161,go_sem]) rfl ⟨rfl,HW.u⟩
  . have hx:x=0/\ok=false:=by
     have h3:=HR.u;rw[rd,readDec,hq]at h3;simp only[Yn heq,Y4]at h3;exact⟨h3.1.symm,h3.2.symm⟩
    obtain⟨rfl,rfl⟩:=hx;have e5:((⟨(Lib.itoa n).toArray⟩:ByteArray).toList==s.toList)=false:=(by rw[Yp,Yp,Ya];simpa using heq);obtain⟨T,hT⟩:∃T:ByteArray,T=⟨(Lib.itoa n).toArray⟩:=⟨_,rfl⟩;rw[<- hT]at e5⊢;clear hT heq hq;go_wp2;exact bodyPost_ret (v:=.tuple #[J6 0,.bool false]) (by simp[results,Tryz.results161,go_sem]) rfl ⟨rfl,HW.u⟩
 | «syntax» =>
  obtain⟨tp,p,hv⟩:=h1;have hx:x=0/\ok=false:=by
   have h3:=HR.u;rw[rd,readDec,hq]at h3;simp only[Y4]at h3;exact⟨h3.1.symm,h3.2.symm⟩
  obtain⟨rfl,rfl⟩:=hx;go_enter Tryz.func161,Tryz.ntmps161;go_wp2_with fail;refine(Tryz.strconv_ParseInt_10_at64_syntax_var s (by omega) hq tp p w hv).mono ?_;rintro e w1 ⟨N,rfl,-,-,hb1⟩;have HW:=h_ hb1;clear hb1 hq;go_wp2;exact bodyPost_ret (v:=.tuple #[J6 0,.bool false]) (by simp[results,Tryz.results161,go_sem]) rfl ⟨rfl,HW.u⟩
 | range =>
  obtain⟨tp,p,hv⟩:=h2;have hx:x=0/\ok=false:=by
   have h3:=HR.u;rw[rd,readDec,hq]at h3;simp only[Y4]at h3;exact⟨h3.1.symm,h3.2.symm⟩
  obtain⟨rfl,rfl⟩:=hx;go_enter Tryz.func161,Tryz.ntmps161;go_wp2_with fail;refine(Tryz.strconv_ParseInt_10_at64_range_var s (by omega) hq tp p w hv).mono ?_;rintro e w1 ⟨N,rfl,-,-,hb1⟩;have HW:=h_ hb1;clear hb1 hq;go_wp2;exact bodyPost_ret (v:=.tuple #[J6 0,.bool false]) (by simp[results,Tryz.results161,go_sem]) rfl ⟨rfl,HW.u⟩
end Go.Proofs.YtgojgjlninakjaaGreatDoor
namespace Go.Proofs.YtgojgjlninakjaaGreatDoor
open Go
def mid (s:ByteArray):ByteArray:=s.extract 1 (s.size - 1)
theorem qh9 (s:ByteArray):(mid s).size=s.size - 1 - 1:=by simp[mid]
def rv (s:ByteArray):Int × Int × ByteArray × Bool :=
 if s=⟨#[98,108,97,110,107]⟩ then (0,0,⟨#[]⟩,true)
 else if s=⟨#[116,114,117,101]⟩ then (2,1,⟨#[]⟩,true)
 else if s=⟨#[102,97,108,115,101]⟩ then (2,0,⟨#[]⟩,true)
 else match readDec s.data.toList with
  | some n=>(1,n,⟨#[]⟩,true)
  | none=>if 2<=s.size/\okText (mid s)=true/\⟨#[34]⟩++mid s++⟨#[34]⟩=s then (3,0,mid s,true) else (0,0,⟨#[]⟩,false)
theorem q4q {l:List UInt8}{n:Int}(h:readDec l=some n):Lib.itoa n=l:=by
 unfold readDec at h
 split at h
 . rename_i m _
   split at h
   . rename_i e
     simp only[Z9]at h;rw[<- h];exact e
   . cases h
 . cases h
end Go.Proofs.YtgojgjlninakjaaGreatDoor
namespace Go.Proofs.YtgojgjlninakjaaGreatDoor
open Go Go.RowKit
section
variable {md:Region.Mode} {ops:Array Oper} {Q:Exit->Act->World->Prop} {S:World->Prop} {o:Oper} {a:Act}
theorem appY {i:Nat}{fuel:Nat}{listed:Array Bool}{w:World}(d:Tmp)(hi:ops[i]? = some o)(hd:o.dst=some d)(hgd:o.guard=none)(hr:Region.ready md ops listed=[i])(s x:Operand)(t:TypeId)
 (ho:o.op=.call { callee:=.builtin .append,args:=#[s,x],argTypes:=#[t,t] })
 (base:Nat) (e:TypeId) (i0:TypeInfo) (z:Value) (size bytes:Nat) (ht:Tryz.prog.underlying t=some (.slice e)) (hi0:Tryz.prog.info? e=some i0) (hz:i0.zero=some z)
 (hsize:i0.size=size) (hby:i0.bytes=bytes) (hzs:z.cells.size=size) (hsz:0<size)
 (v:Value) (n:Nat) (xs:List Value) (hs:a.eval s=v) (hown:w.ownsRow base e size v n xs)
 (ad:Addr) (m c:Nat) (news:List Value) (hx:a.eval x=.slice (some ad) m c) (hl:news.length=m*size) (hnews:∀j u,news[j]? = some u->w.cell? (ad.add j)=some u) (h1:∀u∈news,u.oneCell'=true)
 (hm:0<m) (h63:n+m<=maxLen) (hbytes:(n+m)*bytes<=140737488355328) (hbase:base<=w.heap.size) (H:Nat) (hH:w.heap.size=H)
 (h:∀g cap w',w'.ownsRow base e size (.slice (some ⟨g,0,none⟩) (n+m) cap) (n+m) (xs++news)->w.grownBy w' v.ownBlock->(v.ownBlock=some g∨g=H)->g<w'.heap.size->S w'/\wpAnyH Tryz.prog md ops Q S fuel (listed.setIfInBounds i true) { tmps:=a.tmps.setIfInBounds d (.slice (some ⟨g,0,none⟩) (n+m) cap),defers:=a.defers } w'):wpAnyH Tryz.prog md ops Q S (fuel+1) listed a w :=
 wpAnyH_ready hr (by simp) (AllReadyH.cons hi (fun K hK=>step_append_lies w hgd s x t ho base e i0 z size bytes ht hi0 hz hsize hby hzs hsz v n xs hs hown ad m c news hx hl hnews h1 hm h63 hbytes hbase H hH (fun g cap w' a1 a2 a3 a4=>by
  rw[qnc hd];obtain⟨k1,k2⟩:=h g cap w' a1 a2 a3 a4;exact hK.out _ _ k1 (fun _=>k2))) AllReadyH.nil)
end
theorem qaf:showB 0 0 ⟨#[]⟩=⟨#[98,108,97,110,107]⟩:=by simp[showB,okVal,ByteArray.size]
theorem qee:showB 2 1 ⟨#[]⟩=⟨#[116,114,117,101]⟩:=by simp[showB,okVal,ByteArray.size]
theorem qag:showB 2 0 ⟨#[]⟩=⟨#[102,97,108,115,101]⟩:=by simp[showB,okVal,ByteArray.size]
theorem three' {w:World}{b:Nat}{t:TypeId}{v0 v1 v2:Value}(h:Blk w b t [v0,v1,v2]) :
 (w.cell? ⟨b,0,none⟩=some v0/\w.cell? ⟨b,1,none⟩=some v1/\w.cell? ⟨b,2,none⟩=some v2)/\(w.frozen? ⟨b,0,none⟩=false/\w.frozen? ⟨b,1,none⟩=false/\w.frozen? ⟨b,2,none⟩=false):=⟨⟨h.cell 0,h.cell 1,h.cell 2⟩,⟨h.free 0,h.free 1,h.free 2⟩⟩
theorem qnn (s:ByteArray)(h2:2<=s.size)(w:World):(Instr.slice 9 (.string s) (some (J6 1)) (some (J6 ((s.size:Int) - 1))) none).run Tryz.prog w=.ok (.string (mid s)) w:=by
 rw[run_slice_string w 9 s .i64 .i64 _ _ Tryz.underlying9 (by omega) (by omega) (by omega),show((1:Int)).toNat=1 from rfl,show((s.size:Int) - 1).toNat=s.size - 1 by omega]
 rfl
theorem q4v (s:ByteArray)(w:World)(hs:s.size<=9223372036854775807)(kind num:Int)(t:ByteArray)(ok:Bool)(hr:rv s=(kind,num,t,ok)) :
 Calls Tryz.prog 42 #[.string s] w fun e w'=>e=.returned (.tuple #[.agg (Jk kind num t),.bool ok])/\Below w.heap.size w w':=by
 have HR:=h_ (Blk.new w 50 Ju)
 have HW:Hi (Below w.heap.size w (w.alloc (.cells Ju 50))):=(bR _ _).alloc (nR _) _
 go_enter Tryz.func42,Tryz.ntmps42
 go_wp2_with fail
 refine(q65 _).mono ?_
 rintro e w1 ⟨rfl,hb⟩
 replace HR:=mB HR hb;replace HW:=mT HW hb;clear hb
 go_wp2_with fail
 refine(q4w 0 0 ⟨#[]⟩ _ (by decide) (by omega) (by omega)).mono ?_
 rintro e w1 ⟨rfl,hb⟩
 replace HR:=mB HR hb;replace HW:=mT HW hb;clear hb
 rw[qaf]
 obtain⟨B,hB⟩:∃B:ByteArray,B=⟨#[98,108,97,110,107]⟩:=⟨_,rfl⟩
 rw[<- hB]
 have hl:B.size<=1100:=by rw[hB];decide
 by_cases h:s=B
 . have e0:(s.toList==B.toList)=true:=by rw[h];simp
   have h':s=⟨#[98,108,97,110,107]⟩:=h.trans hB;clear hB;rw[rv,Yv h']at hr;simp only[Y4]at hr;obtain⟨rfl,rfl,rfl,rfl⟩:=hr;clear h h';go_wp2_with fail;refine(q65 _).mono ?_;rintro e w1 ⟨rfl,hb⟩;replace HR:=mB HR hb;replace HW:=mT HW hb;clear hb;obtain⟨⟨r0,r1,r2⟩,⟨f0,f1,f2⟩⟩:=three' HR.u;have HZ:=h_ (((HW.u.setCell (p:=⟨w.heap.size,0,none⟩) (nR _) (J6 0)).setCell (p:=⟨w.heap.size,1,none⟩) (nR _) (J6 0)).setCell (p:=⟨w.heap.size,2,none⟩) (nR _) J8);go_wp2;exact bodyPost_ret (v:=.tuple #[.agg Ju,.bool true]) (by simp[results,Tryz.results42,go_sem, *]) rfl ⟨rfl,HZ.u⟩
 have e0:(s.toList==B.toList)=false:=by rw[Yp,Yp,Ya];exact fun e=>h (qao e)
 have n1:¬ s=⟨#[98,108,97,110,107]⟩:=fun e=>h (e.trans hB.symm)
 clear hB h
 go_wp2_with fail
 refine(q97 true _).mono ?_
 rintro e w1 ⟨rfl,hb⟩
 replace HR:=mB HR hb;replace HW:=mT HW hb;clear hb
 rw[Yv rfl]
 go_wp2_with fail
 refine(q4w 2 1 ⟨#[]⟩ _ (by decide) (by omega) (by omega)).mono ?_
 rintro e w1 ⟨rfl,hb⟩
 replace HR:=mB HR hb;replace HW:=mT HW hb;clear hb
 rw[qee]
 obtain⟨B,hB⟩:∃B:ByteArray,B=⟨#[116,114,117,101]⟩:=⟨_,rfl⟩
 rw[<- hB]
 have hl:B.size<=1100:=by rw[hB];decide
 by_cases h:s=B
 . have e0:(s.toList==B.toList)=true:=by rw[h];simp
   have h':s=⟨#[116,114,117,101]⟩:=h.trans hB;clear hB;rw[rv,Yn n1,Yv h']at hr;simp only[Y4]at hr;obtain⟨rfl,rfl,rfl,rfl⟩:=hr;clear h h';go_wp2_with fail;refine(q97 true _).mono ?_;rintro e w1 ⟨rfl,hb⟩;replace HR:=mB HR hb;replace HW:=mT HW hb;clear hb;rw[Yv rfl];obtain⟨⟨r0,r1,r2⟩,⟨f0,f1,f2⟩⟩:=three' HR.u;have HZ:=h_ (((HW.u.setCell (p:=⟨w.heap.size,0,none⟩) (nR _) (J6 2)).setCell (p:=⟨w.heap.size,1,none⟩) (nR _) (J6 1)).setCell (p:=⟨w.heap.size,2,none⟩) (nR _) J8);go_wp2;exact bodyPost_ret (v:=.tuple #[.agg #[J6 2,J6 1,J8],.bool true]) (by simp[results,Tryz.results42,go_sem, *]) rfl ⟨rfl,HZ.u⟩
 have e0:(s.toList==B.toList)=false:=by rw[Yp,Yp,Ya];exact fun e=>h (qao e)
 have n2:¬ s=⟨#[116,114,117,101]⟩:=fun e=>h (e.trans hB.symm)
 clear hB h
 go_wp2_with fail
 refine(q97 false _).mono ?_
 rintro e w1 ⟨rfl,hb⟩
 replace HR:=mB HR hb;replace HW:=mT HW hb;clear hb
 rw[Yn (by decide)]
 go_wp2_with fail
 refine(q4w 2 0 ⟨#[]⟩ _ (by decide) (by omega) (by omega)).mono ?_
 rintro e w1 ⟨rfl,hb⟩
 replace HR:=mB HR hb;replace HW:=mT HW hb;clear hb
 rw[qag]
 obtain⟨B,hB⟩:∃B:ByteArray,B=⟨#[102,97,108,115,101]⟩:=⟨_,rfl⟩
 rw[<- hB]
 have hl:B.size<=1100:=by rw[hB];decide
 by_cases h:s=B
 . have e0:(s.toList==B.toList)=true:=by rw[h];simp
   have h':s=⟨#[102,97,108,115,101]⟩:=h.trans hB;clear hB;rw[rv,Yn n1,Yn n2,Yv h']at hr;simp only[Y4]at hr;obtain⟨rfl,rfl,rfl,rfl⟩:=hr;clear h h';go_wp2_with fail;refine(q97 false _).mono ?_;rintro e w1 ⟨rfl,hb⟩;replace HR:=mB HR hb;replace HW:=mT HW hb;clear hb;rw[Yn (by decide)];obtain⟨⟨r0,r1,r2⟩,⟨f0,f1,f2⟩⟩:=three' HR.u;have HZ:=h_ (((HW.u.setCell (p:=⟨w.heap.size,0,none⟩) (nR _) (J6 2)).setCell (p:=⟨w.heap.size,1,none⟩) (nR _) (J6 0)).setCell (p:=⟨w.heap.size,2,none⟩) (nR _) J8);go_wp2;exact bodyPost_ret (v:=.tuple #[.agg #[J6 2,J6 0,J8],.bool true]) (by simp[results,Tryz.results42,go_sem, *]) rfl ⟨rfl,HZ.u⟩
 have e0:(s.toList==B.toList)=false:=by rw[Yp,Yp,Ya];exact fun e=>h (qao e)
 have n3:¬ s=⟨#[102,97,108,115,101]⟩:=fun e=>h (e.trans hB.symm)
 clear hB h
 cases hrd:readDec s.data.toList with
 | some n =>
  rw[rv,Yn n1,Yn n2,Yn n3,hrd]at hr;simp only[Y4]at hr;obtain⟨rfl,rfl,rfl,rfl⟩:=hr;go_wp2_with fail;refine(q2m s _ hs n true (by rw[rd,hrd])).mono ?_;rintro e w1 ⟨rfl,hb⟩;replace HR:=mB HR hb;replace HW:=mT HW hb;clear hb;go_wp2_with fail;refine(qd6 n _).mono ?_;rintro e w1 ⟨rfl,hb⟩;replace HR:=mB HR hb;replace HW:=mT HW hb;clear hb;obtain⟨⟨r0,r1,r2⟩,⟨f0,f1,f2⟩⟩:=three' HR.u;have HZ:=h_ (((HW.u.setCell (p:=⟨w.heap.size,0,none⟩) (nR _) (J6 1)).setCell (p:=⟨w.heap.size,1,none⟩) (nR _) (J6 n)).setCell (p:=⟨w.heap.size,2,none⟩) (nR _) J8);go_wp2;exact bodyPost_ret (v:=.tuple #[.agg #[J6 1,J6 n,J8],.bool true]) (by simp[results,Tryz.results42,go_sem, *]) rfl ⟨rfl,HZ.u⟩
 | none =>
  rw[rv,Yn n1,Yn n2,Yn n3,hrd]at hr;simp only at hr;go_wp2_with fail;refine(q2m s _ hs 0 false (by rw[rd,hrd])).mono ?_;rintro e w1 ⟨rfl,hb⟩;replace HR:=mB HR hb;replace HW:=mT HW hb;clear hb;by_cases h2:2<=s.size
  . have hsl:=qnn s h2
    obtain⟨M,hM⟩:∃M,M=mid s:=⟨_,rfl⟩;rw[<- hM]at hsl hr;have hMs:M.size<=9223372036854775807:=(by rw[hM,qh9];omega);clear hM;go_wp2_with fail;refine(q99 M _).mono ?_;rintro e w1 ⟨rfl,hb⟩;replace HR:=mB HR hb;replace HW:=mT HW hb;clear hb;have hb:Below w1.heap.size w1 (w1.alloc (.cells #[J6 3,J6 0,.string M] 50)):=(bR _ _).alloc (nR _) _;have HM:=h_ (Blk.new w1 50 #[J6 3,J6 0,.string M]);replace HR:=mB HR hb;replace HW:=mT HW hb;clear hb;have hok:okVal 3 0 M=okText M:=(by simp[okVal]);obtain⟨q0,q1,q2⟩:=three HM.u;go_wp2_with fail;refine(q25 3 0 M _ hMs).mono ?_;rintro e w2 ⟨rfl,hb⟩;replace HM:=mB HM hb;replace HR:=mB HR hb;replace HW:=mT HW hb;clear hb;rw[hok];clear q0 q1 q2;obtain⟨q0,q1,q2⟩:=three HM.u;cases ht:okText M
    . rw[Yn (by rw[ht];simp)]at hr
      simp only[Y4]at hr;obtain⟨rfl,rfl,rfl,rfl⟩:=hr;go_wp2_with fail;refine(q65 _).mono ?_;rintro e w1 ⟨rfl,hb⟩;replace HR:=mB HR hb;replace HW:=mT HW hb;clear hb;obtain⟨⟨r0,r1,r2⟩,⟨f0,f1,f2⟩⟩:=three' HR.u;have HZ:=h_ (((HW.u.setCell (p:=⟨w.heap.size,0,none⟩) (nR _) (J6 0)).setCell (p:=⟨w.heap.size,1,none⟩) (nR _) (J6 0)).setCell (p:=⟨w.heap.size,2,none⟩) (nR _) J8);go_wp2;exact bodyPost_ret (v:=.tuple #[.agg Ju,.bool false]) (by simp[results,Tryz.results42,go_sem, *]) rfl ⟨rfl,HZ.u⟩
    . go_wp2_with fail
      refine(q4w 3 0 M _ hMs (by omega) (by omega)).mono ?_;rintro e w3 ⟨rfl,hb⟩;replace HM:=mB HM hb;replace HR:=mB HR hb;replace HW:=mT HW hb;clear hb;clear q0 q1 q2;obtain⟨q0,q1,q2⟩:=three HM.u;have hsh:showB 3 0 M=⟨#[34]⟩++M++⟨#[34]⟩:=(by simp[showB,hok,ht]);rw[hsh];obtain⟨B,hB⟩:∃B:ByteArray,B=⟨#[34]⟩++M++⟨#[34]⟩:=⟨_,rfl⟩;rw[<- hB]at hr⊢;clear hsh hB;by_cases h:B=s
      . rw[Yv ⟨h2,ht,h⟩]at hr
        simp only[Y4]at hr;obtain⟨rfl,rfl,rfl,rfl⟩:=hr;have e0:(B.toList==s.toList)=true:=(by rw[h];simp);clear h;obtain⟨⟨r0,r1,r2⟩,⟨f0,f1,f2⟩⟩:=three' HR.u;have HZ:=h_ (((HW.u.setCell (p:=⟨w.heap.size,0,none⟩) (nR _) (J6 3)).setCell (p:=⟨w.heap.size,1,none⟩) (nR _) (J6 0)).setCell (p:=⟨w.heap.size,2,none⟩) (nR _) (.string M));go_wp2;exact bodyPost_ret (v:=.tuple #[.agg #[J6 3,J6 0,.string M],.bool true]) (by simp[results,Tryz.results42,go_sem, *]) rfl ⟨rfl,HZ.u⟩
      . rw[Yn (fun hh=>h hh.2.2)]at hr
        simp only[Y4]at hr;obtain⟨rfl,rfl,rfl,rfl⟩:=hr;have e0:(B.toList==s.toList)=false:=(by rw[Yp,Yp,Ya];exact fun e=>h (qao e));clear h;go_wp2_with fail;refine(q65 _).mono ?_;rintro e w1 ⟨rfl,hb⟩;replace HR:=mB HR hb;replace HW:=mT HW hb;clear hb;obtain⟨⟨r0,r1,r2⟩,⟨f0,f1,f2⟩⟩:=three' HR.u;have HZ:=h_ (((HW.u.setCell (p:=⟨w.heap.size,0,none⟩) (nR _) (J6 0)).setCell (p:=⟨w.heap.size,1,none⟩) (nR _) (J6 0)).setCell (p:=⟨w.heap.size,2,none⟩) (nR _) J8);go_wp2;exact bodyPost_ret (v:=.tuple #[.agg Ju,.bool false]) (by simp[results,Tryz.results42,go_sem, *]) rfl ⟨rfl,HZ.u⟩
  . rw[Yn (fun hh=>h2 hh.1)]at hr
    simp only[Y4]at hr;obtain⟨rfl,rfl,rfl,rfl⟩:=hr;go_wp2_with fail;refine(q65 _).mono ?_;rintro e w1 ⟨rfl,hb⟩;replace HR:=mB HR hb;replace HW:=mT HW hb;clear hb;obtain⟨⟨r0,r1,r2⟩,⟨f0,f1,f2⟩⟩:=three' HR.u;have HZ:=h_ (((HW.u.setCell (p:=⟨w.heap.size,0,none⟩) (nR _) (J6 0)).setCell (p:=⟨w.heap.size,1,none⟩) (nR _) (J6 0)).setCell (p:=⟨w.heap.size,2,none⟩) (nR _) J8);go_wp2;exact bodyPost_ret (v:=.tuple #[.agg Ju,.bool false]) (by simp[results,Tryz.results42,go_sem, *]) rfl ⟨rfl,HZ.u⟩
def lv (s:ByteArray):Int × Int × ByteArray :=
 if s=⟨#[98,108,97,110,107]⟩ then (0,0,⟨#[]⟩)
 else if s=⟨#[116,114,117,101]⟩ then (2,1,⟨#[]⟩)
 else if s=⟨#[102,97,108,115,101]⟩ then (2,0,⟨#[]⟩)
 else if 2<=s.size/\s.data.toList.head? = some 34 then (3,0,mid s)
 else (1,(rd s.data.toList).1,⟨#[]⟩)
theorem qlc {s:ByteArray}(h:0<s.size):s.data.toList.head? = some s[0]:=by
 have e:s.data.toList=s[0] :: s.data.toList.drop 1:=Zw (l:=s.data.toList) (i:=0) (by rw[V8];exact h)
 rw[e];rfl
theorem qcz (n:Int):(Lib.itoa n).head?≠some 34:=by
 by_cases hn:n<0
 . obtain⟨t,e,-⟩:=(q94 n).1 hn
   rw[e];simp
 . obtain⟨e,-⟩:=(q94 n).2 hn
   obtain⟨c,r,e2,h1,h2⟩:=qft n.natAbs;rw[e,e2];intro h;simp only[List.head?_cons,Z9]at h;rw[h]at h1;exact absurd h1 (by decide)
theorem q77 (t:ByteArray):((⟨#[34]⟩:ByteArray)++t++⟨#[34]⟩).data.toList.head? = some 34:=by simp[ByteArray.data_append]
theorem rv_lv (s:ByteArray):rv s=if showB (lv s).1 (lv s).2.1 (lv s).2.2=s then ((lv s).1,(lv s).2.1,(lv s).2.2,true) else (0,0,⟨#[]⟩,false):=by
 unfold rv lv
 by_cases n1:s=⟨#[98,108,97,110,107]⟩
 . simp only[Yv n1]
   rw[Yv (by rw[qaf,n1])]
 by_cases n2:s=⟨#[116,114,117,101]⟩
 . simp only[Yn n1,Yv n2]
   rw[Yv (by rw[qee,n2])]
 by_cases n3:s=⟨#[102,97,108,115,101]⟩
 . simp only[Yn n1,Yn n2,Yv n3]
   rw[Yv (by rw[qag,n3])]
 simp only[Yn n1,Yn n2,Yn n3]
 by_cases h:2<=s.size/\s.data.toList.head? = some 34
 . simp only[Yv h]
   rw[q4p fun n _ e=>qcz n (by rw[e];exact h.2)];simp only;cases ht:okText (mid s)
   . rw[Yn (by simp),Yn]
     intro e;have:showB 3 0 (mid s)=⟨#[63]⟩:=(by simp[showB,okVal,ht]);rw[this]at e;rw[<- e]at h;exact absurd h.1 (by decide)
   . have:showB 3 0 (mid s)=⟨#[34]⟩++mid s++⟨#[34]⟩:=by simp[showB,okVal,ht]
     rw[this];by_cases hq:(⟨#[34]⟩:ByteArray)++mid s++⟨#[34]⟩=s
     . rw[Yv ⟨h.1,rfl,hq⟩,Yv hq]
     . rw[Yn (fun hh=>hq hh.2.2),Yn hq]
 . simp only[Yn h]
   have hsh:∀n,showB 1 n ⟨#[]⟩=⟨(Lib.itoa n).toArray⟩:=fun n=>by simp[showB,okVal,ByteArray.size]
   rw[hsh];cases hq:readDec s.data.toList with
   | some n =>
    have e:=q4q hq;simp only[rd,hq];rw[Yv];exact qao (by simpa using e)
   | none =>
    simp only[rd,hq];rw[Yn (fun hh=>h ⟨hh.1,by rw[<- hh.2.2];exact q77 _⟩),Yn];intro e;rw[<- e]at hq;have:=q4o (n:=0) ⟨by omega,by omega⟩;rw[this]at hq;cases hq
theorem q9n (s:ByteArray)(w:World)(hs:s.size<=1048576)(hp:Pow w)(q1:ErrV "strconv.ErrSyntax" w) (q2:ErrV "strconv.ErrRange" w) (kind num:Int) (t:ByteArray) (hr:lv s=(kind,num,t)) :
 Calls Tryz.prog 124 #[.string s] w fun e w'=>e=.returned (.agg (Jk kind num t))/\Below w.heap.size w w':=by
 have HR:=h_ (Blk.new w 50 Ju)
 have HW:Hi (Below w.heap.size w (w.alloc (.cells Ju 50))):=(bR _ _).alloc (nR _) _
 go_enter Tryz.func124,Tryz.ntmps124
 by_cases n1:s=⟨#[98,108,97,110,107]⟩
 . have e1:(s.toList==[98,108,97,110,107])=true:=by rw[n1];decide +kernel
   rw[lv,Yv n1]at hr;simp only[Y4]at hr;obtain⟨rfl,rfl,rfl⟩:=hr;clear n1;go_wp2_with fail;refine(q1e _).mono ?_;rintro e w1 ⟨rfl,hb⟩;replace HR:=mB HR hb;replace HW:=mT HW hb;clear hb;obtain⟨⟨r0,r1,r2⟩,⟨f0,f1,f2⟩⟩:=three' HR.u;have HZ:=h_ (((HW.u.setCell (p:=⟨w.heap.size,0,none⟩) (nR _) (J6 0)).setCell (p:=⟨w.heap.size,1,none⟩) (nR _) (J6 0)).setCell (p:=⟨w.heap.size,2,none⟩) (nR _) J8);go_wp2;exact bodyPost_ret (v:=.agg Ju) (by simp[results,Tryz.results124,go_sem, *]) rfl ⟨rfl,HZ.u⟩
 have e1:(s.toList==[98,108,97,110,107])=false:=by rw[Yp,Ya];exact fun e=>n1 (qao e)
 by_cases n2:s=⟨#[116,114,117,101]⟩
 . have e2:(s.toList==[116,114,117,101])=true:=by rw[n2];decide +kernel
   rw[lv,Yn n1,Yv n2]at hr;simp only[Y4]at hr;obtain⟨rfl,rfl,rfl⟩:=hr;clear n1 n2;go_wp2_with fail;refine(q2a true _).mono ?_;rintro e w1 ⟨rfl,hb⟩;replace HR:=mB HR hb;replace HW:=mT HW hb;clear hb;rw[Yv rfl];obtain⟨⟨r0,r1,r2⟩,⟨f0,f1,f2⟩⟩:=three' HR.u;have HZ:=h_ (((HW.u.setCell (p:=⟨w.heap.size,0,none⟩) (nR _) (J6 2)).setCell (p:=⟨w.heap.size,1,none⟩) (nR _) (J6 1)).setCell (p:=⟨w.heap.size,2,none⟩) (nR _) J8);go_wp2;exact bodyPost_ret (v:=.agg #[J6 2,J6 1,J8]) (by simp[results,Tryz.results124,go_sem, *]) rfl ⟨rfl,HZ.u⟩
 have e2:(s.toList==[116,114,117,101])=false:=by rw[Yp,Ya];exact fun e=>n2 (qao e)
 by_cases n3:s=⟨#[102,97,108,115,101]⟩
 . have e3:(s.toList==[102,97,108,115,101])=true:=by rw[n3];decide +kernel
   rw[lv,Yn n1,Yn n2,Yv n3]at hr;simp only[Y4]at hr;obtain⟨rfl,rfl,rfl⟩:=hr;clear n1 n2 n3;go_wp2_with fail;refine(q2a false _).mono ?_;rintro e w1 ⟨rfl,hb⟩;replace HR:=mB HR hb;replace HW:=mT HW hb;clear hb;rw[Yn (by decide)];obtain⟨⟨r0,r1,r2⟩,⟨f0,f1,f2⟩⟩:=three' HR.u;have HZ:=h_ (((HW.u.setCell (p:=⟨w.heap.size,0,none⟩) (nR _) (J6 2)).setCell (p:=⟨w.heap.size,1,none⟩) (nR _) (J6 0)).setCell (p:=⟨w.heap.size,2,none⟩) (nR _) J8);go_wp2;exact bodyPost_ret (v:=.agg #[J6 2,J6 0,J8]) (by simp[results,Tryz.results124,go_sem, *]) rfl ⟨rfl,HZ.u⟩
 have e3:(s.toList==[102,97,108,115,101])=false:=by rw[Yp,Ya];exact fun e=>n3 (qao e)
 by_cases h2:2<=s.size
 . have hh:=qlc (s:=s) (by omega)
   have h0:0<s.size:=by omega
   by_cases h34:s[0].toNat=34
   . have e4:((s[0].toNat:Int)==34)=true:=by simp;omega
     have hsl:=qnn s h2;rw[lv,Yn n1,Yn n2,Yn n3,Yv ⟨h2,by rw[hh,UInt8.toNat_inj.1 (show s[0].toNat=(34:UInt8).toNat from h34)]⟩]at hr;simp only[Y4]at hr;obtain⟨rfl,rfl,rfl⟩:=hr;obtain⟨M,hM⟩:∃M,M=mid s:=⟨_,rfl⟩;rw[<- hM]at hsl⊢;clear hM h34 n1 n2 n3 hh;go_wp2_with fail;refine(q37 M _).mono ?_;rintro e w1 ⟨rfl,hb⟩;replace HR:=mB HR hb;replace HW:=mT HW hb;clear hb;obtain⟨⟨r0,r1,r2⟩,⟨f0,f1,f2⟩⟩:=three' HR.u;have HZ:=h_ (((HW.u.setCell (p:=⟨w.heap.size,0,none⟩) (nR _) (J6 3)).setCell (p:=⟨w.heap.size,1,none⟩) (nR _) (J6 0)).setCell (p:=⟨w.heap.size,2,none⟩) (nR _) (.string M));go_wp2;exact bodyPost_ret (v:=.agg #[J6 3,J6 0,.string M]) (by simp[results,Tryz.results124,go_sem, *]) rfl ⟨rfl,HZ.u⟩
   . have e4:((s[0].toNat:Int)==34)=false:=by rw[Ya];omega
     rw[lv,Yn n1,Yn n2,Yn n3,Yn (fun h=>h34 (by have:=h.2;rw[hh]at this;simp only[Z9]at this;rw[this];rfl))]at hr;simp only[Y4]at hr;obtain⟨rfl,rfl,rfl⟩:=hr;clear h34 n1 n2 n3 hh;obtain⟨x,ok,hx⟩:∃x ok,rd s.data.toList=(x,ok):=⟨_,_,rfl⟩;rw[hx];go_wp2_with fail;refine(q1b s _ hs (hp.mono HW.u) (q1.mono HW.u) (q2.mono HW.u) x ok hx).mono ?_;rintro e w1 ⟨rfl,hb⟩;replace HR:=mB HR hb;replace HW:=mT HW hb;clear hb;clear hx;go_wp2_with fail;refine(q3w x _).mono ?_;rintro e w1 ⟨rfl,hb⟩;replace HR:=mB HR hb;replace HW:=mT HW hb;clear hb;obtain⟨⟨r0,r1,r2⟩,⟨f0,f1,f2⟩⟩:=three' HR.u;have HZ:=h_ (((HW.u.setCell (p:=⟨w.heap.size,0,none⟩) (nR _) (J6 1)).setCell (p:=⟨w.heap.size,1,none⟩) (nR _) (J6 x)).setCell (p:=⟨w.heap.size,2,none⟩) (nR _) J8);go_wp2;exact bodyPost_ret (v:=.agg #[J6 1,J6 x,J8]) (by simp[results,Tryz.results124,go_sem, *]) rfl ⟨rfl,HZ.u⟩
 . have h2':¬ (2:Int)<=s.size:=by omega
   rw[lv,Yn n1,Yn n2,Yn n3,Yn (fun h=>h2 h.1)]at hr;simp only[Y4]at hr;obtain⟨rfl,rfl,rfl⟩:=hr;clear n1 n2 n3;obtain⟨x,ok,hx⟩:∃x ok,rd s.data.toList=(x,ok):=⟨_,_,rfl⟩;rw[hx];go_wp2_with fail;refine(q1b s _ hs (hp.mono HW.u) (q1.mono HW.u) (q2.mono HW.u) x ok hx).mono ?_;rintro e w1 ⟨rfl,hb⟩;replace HR:=mB HR hb;replace HW:=mT HW hb;clear hb;clear hx;go_wp2_with fail;refine(q3w x _).mono ?_;rintro e w1 ⟨rfl,hb⟩;replace HR:=mB HR hb;replace HW:=mT HW hb;clear hb;obtain⟨⟨r0,r1,r2⟩,⟨f0,f1,f2⟩⟩:=three' HR.u;have HZ:=h_ (((HW.u.setCell (p:=⟨w.heap.size,0,none⟩) (nR _) (J6 1)).setCell (p:=⟨w.heap.size,1,none⟩) (nR _) (J6 x)).setCell (p:=⟨w.heap.size,2,none⟩) (nR _) J8);go_wp2;exact bodyPost_ret (v:=.agg #[J6 1,J6 x,J8]) (by simp[results,Tryz.results124,go_sem, *]) rfl ⟨rfl,HZ.u⟩
theorem qe4 (l:List UInt8):-9223372036854775808<=(rd l).1/\(rd l).1<=9223372036854775807:=by
 unfold rd
 cases h:readDec l with
 | none=>simp
 | some n =>
  unfold readDec at h;split at h
  . rename_i m hm
    split at h
    . simp only[Z9]at h
      subst h;have hb:=Lib.parseIntB_bounds hm;have:(2:Nat) ^ (64 - 1)=9223372036854775808:=rfl;simp only;omega
    . cases h
  . cases h
theorem qdf (s:ByteArray):(-9223372036854775808<=(lv s).2.1/\(lv s).2.1<=9223372036854775807)/\(lv s).2.2.size<=s.size:=by
 unfold lv
 split
 . exact⟨by simp,nZ _⟩
 . split
   . exact⟨by simp,nZ _⟩
   . split
     . exact⟨by simp,nZ _⟩
     . split
       . refine⟨by simp,?_⟩
         show(mid s).size<=s.size;rw[qh9];omega
       . exact⟨qe4 _,nZ _⟩
theorem q3u (s:ByteArray)(w:World)(hs:s.size<=1048576)(hp:Pow w)(q1:ErrV "strconv.ErrSyntax" w) (q2:ErrV "strconv.ErrRange" w) (kind num:Int) (tx:ByteArray) (ok:Bool) (hr:rv s=(kind,num,tx,ok)) :
 Calls Tryz.prog 90 #[.string s] w fun e w'=>e=.returned (.tuple #[.agg (Jk kind num tx),.bool ok])/\Below w.heap.size w w':=by
 obtain⟨k,n,t,hl⟩:∃k n t,lv s=(k,n,t):=⟨_,_,_,rfl⟩
 have hbd:=qdf s
 rw[rv_lv]at hr
 rw[hl]at hr hbd
 dsimp only at hr hbd
 have HN:=h_ hbd.1
 have ht:=hbd.2
 clear hbd
 have HR:=h_ (Blk.new w 50 Ju)
 have HW:Hi (Below w.heap.size w (w.alloc (.cells Ju 50))):=(bR _ _).alloc (nR _) _
 go_enter Tryz.func90,Tryz.ntmps90
 go_wp2_with fail
 refine(q9n s _ hs (hp.mono HW.u) (q1.mono HW.u) (q2.mono HW.u) k n t hl).mono ?_
 rintro e w1 ⟨rfl,hb⟩
 replace HR:=mB HR hb;replace HW:=mT HW hb;clear hb
 have hb:Below w1.heap.size w1 (w1.alloc (.cells (Jk k n t) 50)):=(bR _ _).alloc (nR _) _
 have HM:=h_ (Blk.new w1 50 (Jk k n t))
 replace HR:=mB HR hb;replace HW:=mT HW hb;clear hb
 obtain⟨m0,m1,m2⟩:=three HM.u
 go_wp2_with fail
 refine(q3v k n t _ (by omega) HN.u.1 HN.u.2 (hp.mono HW.u)).mono ?_
 rintro e w2 ⟨rfl,hb⟩
 replace HM:=mB HM hb;replace HR:=mB HR hb;replace HW:=mT HW hb;clear hb
 clear m0 m1 m2
 obtain⟨m0,m1,m2⟩:=three HM.u
 obtain⟨B,hB⟩:∃B,B=showB k n t:=⟨_,rfl⟩
 rw[<- hB]at hr⊢
 clear hB
 by_cases h:B=s
 . rw[Yv h]at hr
   simp only[Y4]at hr;obtain⟨rfl,rfl,rfl,rfl⟩:=hr;have e0:(B.toList==s.toList)=true:=by rw[h];simp
   clear h;obtain⟨⟨r0,r1,r2⟩,⟨f0,f1,f2⟩⟩:=three' HR.u;have HZ:=h_ (((HW.u.setCell (p:=⟨w.heap.size,0,none⟩) (nR _) (J6 k)).setCell (p:=⟨w.heap.size,1,none⟩) (nR _) (J6 n)).setCell (p:=⟨w.heap.size,2,none⟩) (nR _) (.string t));go_wp2;exact bodyPost_ret (v:=.tuple #[.agg (Jk k n t),.bool true]) (by simp[results,Tryz.results90,go_sem, *]) rfl ⟨rfl,HZ.u⟩
 . rw[Yn h]at hr
   simp only[Y4]at hr;obtain⟨rfl,rfl,rfl,rfl⟩:=hr;have e0:(B.toList==s.toList)=false:=by rw[Yp,Yp,Ya];exact fun e=>h (qao e)
   clear h;go_wp2_with fail;refine(q1e _).mono ?_;rintro e w1 ⟨rfl,hb⟩;replace HR:=mB HR hb;replace HW:=mT HW hb;clear hb;obtain⟨⟨r0,r1,r2⟩,⟨f0,f1,f2⟩⟩:=three' HR.u;have HZ:=h_ (((HW.u.setCell (p:=⟨w.heap.size,0,none⟩) (nR _) (J6 0)).setCell (p:=⟨w.heap.size,1,none⟩) (nR _) (J6 0)).setCell (p:=⟨w.heap.size,2,none⟩) (nR _) J8);go_wp2;exact bodyPost_ret (v:=.tuple #[.agg Ju,.bool false]) (by simp[results,Tryz.results90,go_sem, *]) rfl ⟨rfl,HZ.u⟩
end Go.Proofs.YtgojgjlninakjaaGreatDoor
namespace Go.Proofs.YtgojgjlninakjaaGreatDoor
theorem i_one {k e:Nat}(h:k+1=e):(k:Int)+1=(e:Int):=by omega
theorem i_lt {k e:Nat}(h:k<e):(k:Int)<(e:Int):=by omega
theorem i_nlt {k e:Nat}(h:¬ k<e):¬ (k:Int)<(e:Int):=by omega
end Go.Proofs.YtgojgjlninakjaaGreatDoor
