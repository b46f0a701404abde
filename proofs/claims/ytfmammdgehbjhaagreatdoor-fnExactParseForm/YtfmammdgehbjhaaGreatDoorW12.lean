import Derived.Test.YtfmammdgehbjhaaGreatDoorW11
set_option maxRecDepth 100000
set_option maxHeartbeats 64000000
namespace Go.Proofs.YtfmammdgehbjhaaGreatDoor
open Go Go.RowKit
theorem q41 (v1 u1:Value)(x y:Int)(w:World)(hv1:DigS w v1 (digs x.natAbs))(hu1:DigS w u1 (digs y.natAbs))(hx:x<0)(hy:0<=y)(bx:(digs x.natAbs).length<=500)(by':(digs y.natAbs).length<=500) :
 Calls Tryz.prog 148 #[.agg #[.bool true,v1],.agg #[.bool false,u1]] w fun e w'=>∃r,e=.returned r/\BigV w' r (x+y)/\Below w.heap.size w w':=by
 have hB:∀o1 o2 o3,Below w.heap.size w (((w.alloc o1).alloc o2).alloc o3):=fun o1 o2 o3=>(((bR _ w).alloc (nR _) o1).alloc (by simp) o2).alloc (by simp;omega) o3
 obtain⟨W,hW⟩:=Nq (((w.alloc (.cells #[.bool true,v1] 124)).alloc (.cells #[.bool false,u1] 124)).alloc (.cells Jo 124))
 have bA:Blk W w.heap.size 124 [.bool true,v1]:=by rw[<- hW];exact((Blk.new w 124 #[.bool true,v1]).alloc _).alloc _
 have bB:Blk W (w.heap.size+1) 124 [.bool false,u1]:=by rw[<- hW];simpa using (Blk.new (w.alloc (.cells #[.bool true,v1] 124)) 124 #[.bool false,u1]).alloc (.cells Jo 124)
 have bR:Blk W (w.heap.size+1+1) 124 [.bool false,Yb]:=by rw[<- hW];simpa using Blk.new ((w.alloc (.cells #[.bool true,v1] 124)).alloc (.cells #[.bool false,u1] 124)) 124 Jo
 have hw:Below w.heap.size w W:=by rw[<- hW];exact hB _ _ _
 have HA:=h_ bA;have HBb:=h_ bB;have HR:=h_ bR;have HW:=h_ hw;have HV:=h_ (hv1.mono hw);have HU:=h_ (hu1.mono hw)
 obtain⟨a,ca,rfl,-,-,-⟩:=id hv1
 obtain⟨b,cb,rfl,-,-,-⟩:=id hu1
 have HDX:=h_ (And.intro (qbu x.natAbs) (q8z x.natAbs));have HDY:=h_ (And.intro (qbu y.natAbs) (q8z y.natAbs))
 have HXY:=h_ (And.intro hx hy)
 have S0:=h_ (four bA bB)
 obtain⟨z0,z1,z2,z3⟩:=S0.u
 clear bA bB bR hw hv1 hu1 hB hx hy
 go_enter Tryz.func148,Tryz.ntmps148
 go_wp2_with fail
 try rw[hW]
 clear hW
 refine(q2d _ _ _ _ _ HV.u HU.u HDX.u.1 HDY.u.1 (by omega) (by omega) (decide (x.natAbs<y.natAbs)) (by rw[Yj,HDX.u.2,HDY.u.2])).mono ?_
 rintro e W1 ⟨rfl,n1,hn1⟩
 have hb1:Below W.heap.size W W1:=by rw[hn1];exact q2o _ _
 replace HA:=mB HA hb1;replace HBb:=h_ (HBb.u.mono hb1 HBb.u.lt);replace HR:=mB HR hb1
 replace HW:=mT HW hb1;replace HV:=h_ (HV.u.mono hb1);replace HU:=h_ (HU.u.mono hb1)
 clear hb1 hn1 S0 z0 z1 z2 z3
 have S0:=h_ (four HA.u HBb.u)
 obtain⟨z0,z1,z2,z3⟩:=S0.u
 by_cases hlt:x.natAbs<y.natAbs
 . have HRES:Hi (decide (x+y<0)=false/\(x+y).natAbs=y.natAbs - x.natAbs):=by
    have:=HXY.u;exact⟨by simp;omega,by omega⟩
   rw[Yh hlt];go_wp2_with fail;refine wp_region_held_drew (S:=(fun w'=>Four w' w.heap.size (w.heap.size+1) (.bool true) (.slice a (digs x.natAbs).length ca) (.bool false) (.slice b (digs y.natAbs).length cb))) (by kernel_rfl) S0.u (fun zz=>?_);refine tj 0 30 (Yd (w.heap.size+1) 0) zz ?_ (hy:=fun w hS=>by obtain⟨q0,q1,q2,q3⟩:=hS;simp[execOp,go_sem, *]);refine tj 1 31 (.bool false) zz ?_ (hy:=fun w hS=>by obtain⟨q0,q1,q2,q3⟩:=hS;simp[execOp,go_sem, *]);refine tj 2 32 (Yd (w.heap.size+1) 1) zz ?_ (hy:=fun w hS=>by obtain⟨q0,q1,q2,q3⟩:=hS;simp[execOp,go_sem, *]);refine tj 3 33 (.slice b (digs y.natAbs).length cb) zz ?_ (hy:=fun w hS=>by obtain⟨q0,q1,q2,q3⟩:=hS;simp[execOp,go_sem, *]);simp only[sX,sY,sZ];refine tj 4 34 (Yd w.heap.size 1) zz ?_ (hy:=fun w hS=>by obtain⟨q0,q1,q2,q3⟩:=hS;simp[execOp,go_sem, *]);refine tj 5 35 (.slice a (digs x.natAbs).length ca) zz ?_ (hy:=fun w hS=>by obtain⟨q0,q1,q2,q3⟩:=hS;simp[execOp,go_sem, *]);simp only[sX,sY,sZ];refine callY (i:=6) (f:=179) (args:=#[.slice b (digs y.natAbs).length cb,.slice a (digs x.natAbs).length ca]) (R:=fun r w6=>DigS w6 r (digs (dval (digs y.natAbs) - dval (digs x.natAbs)))/\Below W1.heap.size W1 w6) 36 rfl rfl (by rfl) (by kernel_rfl) ?hrun1 ((q38 _ _ _ _ _ (HU.u.mono (q2o _ 1)) (HV.u.mono (q2o _ 1)) HDY.u.1 HDX.u.1 by' (by rw[HDX.u.2,HDY.u.2];omega)).mono fun e w6 ⟨r,he,hr,hb⟩=>⟨r,he,hr,q23 hb⟩) ?_
   case hrun1=>simp[execOp,go_sem]
   rintro v w6 ⟨hr,hb6⟩;have A6:=HA.u.mono hb6 HA.u.lt;have B6:=HBb.u.mono hb6 HBb.u.lt;have R6:=HR.u.mono hb6 HR.u.lt;have hW6:=HW.u.trans (hb6.mono HW.u.size);have hs6:=A6.lt;refine⟨four A6 B6,?_⟩;simp only[sX,sY,sZ];replace zz:=four A6 B6;obtain⟨g,cg,rfl,-⟩:=id hr;have HRR:=h_ hr;clear hr;refine tj 7 37 (.agg #[.bool false,.slice g (digs (dval (digs y.natAbs) - dval (digs x.natAbs))).length cg]) zz ?_ (hy:=fun w hS=>by obtain⟨q0,q1,q2,q3⟩:=hS;simp[execOp,go_sem, *]);simp only[sX,sY,sZ];obtain⟨⟨r0,r1⟩,⟨f0,f1⟩⟩:=two R6;refine storeY (i:=8) (w':=(w6.setCell ⟨w.heap.size+1+1,0,none⟩ (.bool false)).setCell ⟨w.heap.size+1+1,1,none⟩ (.slice g (digs (dval (digs y.natAbs) - dval (digs x.natAbs))).length cg)) rfl (by rfl) (by kernel_rfl) rfl ?hrun2 rfl ?hS2 ?_
   case hrun2=>simp[execOp,go_sem,r0,r1,f0,f1]
   case hS2=>exact four ((A6.other _ (by simp;omega)).other _ (by simp;omega)) ((B6.other _ (by simp)).other _ (by simp))
   refine wpAnyH_done (by kernel_rfl) ?_ _;have X0:=((R6.set 0 (.bool false)).set 1 (.slice g (digs (dval (digs y.natAbs) - dval (digs x.natAbs))).length cg));obtain⟨⟨y0,y1⟩,-⟩:=two X0;have HWX:=h_ ((hW6.setCell (p:=⟨w.heap.size+1+1,0,none⟩) (by simp;omega) (.bool false)).setCell (p:=⟨w.heap.size+1+1,1,none⟩) (by simp;omega) (.slice g (digs (dval (digs y.natAbs) - dval (digs x.natAbs))).length cg));have hD:DigS ((w6.setCell ⟨w.heap.size+1+1,0,none⟩ (.bool false)).setCell ⟨w.heap.size+1+1,1,none⟩ (.slice g (digs (dval (digs y.natAbs) - dval (digs x.natAbs))).length cg)) (.slice g (digs (dval (digs y.natAbs) - dval (digs x.natAbs))).length cg) (digs (x+y).natAbs):=by
    have h1:=HRR.u;rw[HDX.u.2,HDY.u.2,<- HRES.u.2]at h1⊢;exact(h1.set R6 (fun z h=>by cases h) 0 (.bool false)).set (R6.set 0 (.bool false)) (fun z h=>by cases h) 1 _
   have HDD:=h_ hD;clear hD HRR A6 B6 R6 hW6 X0 zz hb6;generalize (w6.setCell ⟨w.heap.size+1+1,0,none⟩ (.bool false)).setCell ⟨w.heap.size+1+1,1,none⟩ (.slice g (digs (dval (digs y.natAbs) - dval (digs x.natAbs))).length cg)=W9 at *;go_wp2;refine bodyPost_ret (v:=.agg #[.bool false,.slice g (digs (dval (digs y.natAbs) - dval (digs x.natAbs))).length cg]) (by simp[results,Tryz.results148,go_sem, *]) rfl ⟨_,rfl,⟨_,by rw[HRES.u.1],HDD.u⟩,HWX.u⟩
 . rw[Yg hlt]
   go_wp2_with fail;refine(q38 _ _ _ _ _ HV.u HU.u HDX.u.1 HDY.u.1 bx (by rw[HDX.u.2,HDY.u.2];omega)).mono ?_;rintro e w6 ⟨r,rfl,hr,hb6⟩;have A6:=HA.u.mono hb6 HA.u.lt;have R6:=HR.u.mono hb6 HR.u.lt;have hW6:=HW.u.trans (hb6.mono HW.u.size);have hs6:=A6.lt;rw[HDX.u.2,HDY.u.2]at hr;have hab:(x+y).natAbs=x.natAbs - y.natAbs:=by have:=HXY.u;omega
   rw[<- hab]at hr;obtain⟨g,cg,rfl,-⟩:=id hr;have HRR:=h_ hr;clear hr hb6 hab;clear z0 z1 z2 z3;obtain⟨⟨z0,z1⟩,-⟩:=two A6;obtain⟨⟨r0,r1⟩,⟨f0,f1⟩⟩:=two R6;by_cases hz:x+y=0
   . have hl0:(digs (x+y).natAbs).length=0:=by rw[hz];simp[q8u]
     have hs:decide (x+y<0)=false:=(by have:=HXY.u;simp;omega);have HS:=h_ hs;clear hs;have HWX:=h_ ((hW6.setCell (p:=⟨w.heap.size+1+1,0,none⟩) (by simp;omega) (.bool false)).setCell (p:=⟨w.heap.size+1+1,1,none⟩) (by simp;omega) (.slice g (digs (x+y).natAbs).length cg));have HD:=h_ ((HRR.u.set R6 (fun z h=>by cases h) 0 (.bool false)).set (R6.set 0 (.bool false)) (fun z h=>by cases h) 1 (.slice g (digs (x+y).natAbs).length cg));clear A6 R6 hW6 HRR HA HBb HR HV HU S0;rw[hl0]at HD HWX⊢;go_wp2;refine bodyPost_ret (v:=.agg #[.bool false,.slice g 0 cg]) (by simp[results,Tryz.results148,go_sem, *]) rfl ⟨_,rfl,⟨_,by rw[HS.u],HD.u⟩,HWX.u⟩
   . have hl0:0<(digs (x+y).natAbs).length:=by have:=qg5 hz;omega
     have hs:decide (x+y<0)=true:=(by have:=HXY.u;simp;omega);have HS:=h_ hs;clear hs;have HWX:=h_ ((hW6.setCell (p:=⟨w.heap.size+1+1,0,none⟩) (by simp;omega) (.bool true)).setCell (p:=⟨w.heap.size+1+1,1,none⟩) (by simp;omega) (.slice g (digs (x+y).natAbs).length cg));have HD:=h_ ((HRR.u.set R6 (fun z h=>by cases h) 0 (.bool true)).set (R6.set 0 (.bool true)) (fun z h=>by cases h) 1 (.slice g (digs (x+y).natAbs).length cg));clear A6 R6 hW6 HRR HA HBb HR HV HU S0;go_wp2;refine bodyPost_ret (v:=.agg #[.bool true,.slice g (digs (x+y).natAbs).length cg]) (by simp[results,Tryz.results148,go_sem, *]) rfl ⟨_,rfl,⟨_,by rw[HS.u],HD.u⟩,HWX.u⟩
theorem q42 (v1 u1:Value)(x y:Int)(w:World)(hv1:DigS w v1 (digs x.natAbs))(hu1:DigS w u1 (digs y.natAbs))(hx:0<=x)(hy:y<0)(bx:(digs x.natAbs).length<=500)(by':(digs y.natAbs).length<=500) :
 Calls Tryz.prog 148 #[.agg #[.bool false,v1],.agg #[.bool true,u1]] w fun e w'=>∃r,e=.returned r/\BigV w' r (x+y)/\Below w.heap.size w w':=by
 have hB:∀o1 o2 o3,Below w.heap.size w (((w.alloc o1).alloc o2).alloc o3):=fun o1 o2 o3=>(((bR _ w).alloc (nR _) o1).alloc (by simp) o2).alloc (by simp;omega) o3
 obtain⟨W,hW⟩:=Nq (((w.alloc (.cells #[.bool false,v1] 124)).alloc (.cells #[.bool true,u1] 124)).alloc (.cells Jo 124))
 have bA:Blk W w.heap.size 124 [.bool false,v1]:=by rw[<- hW];exact((Blk.new w 124 #[.bool false,v1]).alloc _).alloc _
 have bB:Blk W (w.heap.size+1) 124 [.bool true,u1]:=by rw[<- hW];simpa using (Blk.new (w.alloc (.cells #[.bool false,v1] 124)) 124 #[.bool true,u1]).alloc (.cells Jo 124)
 have bR:Blk W (w.heap.size+1+1) 124 [.bool false,Yb]:=by rw[<- hW];simpa using Blk.new ((w.alloc (.cells #[.bool false,v1] 124)).alloc (.cells #[.bool true,u1] 124)) 124 Jo
 have hw:Below w.heap.size w W:=by rw[<- hW];exact hB _ _ _
 have HA:=h_ bA;have HBb:=h_ bB;have HR:=h_ bR;have HW:=h_ hw;have HV:=h_ (hv1.mono hw);have HU:=h_ (hu1.mono hw)
 obtain⟨a,ca,rfl,-,-,-⟩:=id hv1
 obtain⟨b,cb,rfl,-,-,-⟩:=id hu1
 have HDX:=h_ (And.intro (qbu x.natAbs) (q8z x.natAbs));have HDY:=h_ (And.intro (qbu y.natAbs) (q8z y.natAbs))
 have HXY:=h_ (And.intro hx hy)
 have S0:=h_ (four bA bB)
 obtain⟨z0,z1,z2,z3⟩:=S0.u
 clear bA bB bR hw hv1 hu1 hB hx hy
 go_enter Tryz.func148,Tryz.ntmps148
 go_wp2_with fail
 try rw[hW]
 clear hW
 refine(q2d _ _ _ _ _ HV.u HU.u HDX.u.1 HDY.u.1 (by omega) (by omega) (decide (x.natAbs<y.natAbs)) (by rw[Yj,HDX.u.2,HDY.u.2])).mono ?_
 rintro e W1 ⟨rfl,n1,hn1⟩
 have hb1:Below W.heap.size W W1:=by rw[hn1];exact q2o _ _
 replace HA:=mB HA hb1;replace HBb:=h_ (HBb.u.mono hb1 HBb.u.lt);replace HR:=mB HR hb1
 replace HW:=mT HW hb1;replace HV:=h_ (HV.u.mono hb1);replace HU:=h_ (HU.u.mono hb1)
 clear hb1 hn1 S0 z0 z1 z2 z3
 have S0:=h_ (four HA.u HBb.u)
 obtain⟨z0,z1,z2,z3⟩:=S0.u
 by_cases hlt:x.natAbs<y.natAbs
 . have HRES:Hi (decide (x+y<0)=true/\(x+y).natAbs=y.natAbs - x.natAbs):=by
    have:=HXY.u;exact⟨by simp;omega,by omega⟩
   rw[Yh hlt];go_wp2_with fail;refine wp_region_held_drew (S:=(fun w'=>Four w' w.heap.size (w.heap.size+1) (.bool false) (.slice a (digs x.natAbs).length ca) (.bool true) (.slice b (digs y.natAbs).length cb))) (by kernel_rfl) S0.u (fun zz=>?_);refine tj 0 30 (Yd (w.heap.size+1) 0) zz ?_ (hy:=fun w hS=>by obtain⟨q0,q1,q2,q3⟩:=hS;simp[execOp,go_sem, *]);refine tj 1 31 (.bool true) zz ?_ (hy:=fun w hS=>by obtain⟨q0,q1,q2,q3⟩:=hS;simp[execOp,go_sem, *]);refine tj 2 32 (Yd (w.heap.size+1) 1) zz ?_ (hy:=fun w hS=>by obtain⟨q0,q1,q2,q3⟩:=hS;simp[execOp,go_sem, *]);refine tj 3 33 (.slice b (digs y.natAbs).length cb) zz ?_ (hy:=fun w hS=>by obtain⟨q0,q1,q2,q3⟩:=hS;simp[execOp,go_sem, *]);simp only[sX,sY,sZ];refine tj 4 34 (Yd w.heap.size 1) zz ?_ (hy:=fun w hS=>by obtain⟨q0,q1,q2,q3⟩:=hS;simp[execOp,go_sem, *]);refine tj 5 35 (.slice a (digs x.natAbs).length ca) zz ?_ (hy:=fun w hS=>by obtain⟨q0,q1,q2,q3⟩:=hS;simp[execOp,go_sem, *]);simp only[sX,sY,sZ];refine callY (i:=6) (f:=179) (args:=#[.slice b (digs y.natAbs).length cb,.slice a (digs x.natAbs).length ca]) (R:=fun r w6=>DigS w6 r (digs (dval (digs y.natAbs) - dval (digs x.natAbs)))/\Below W1.heap.size W1 w6) 36 rfl rfl (by rfl) (by kernel_rfl) ?hrun1 ((q38 _ _ _ _ _ (HU.u.mono (q2o _ 1)) (HV.u.mono (q2o _ 1)) HDY.u.1 HDX.u.1 by' (by rw[HDX.u.2,HDY.u.2];omega)).mono fun e w6 ⟨r,he,hr,hb⟩=>⟨r,he,hr,q23 hb⟩) ?_
   case hrun1=>simp[execOp,go_sem]
   rintro v w6 ⟨hr,hb6⟩;have A6:=HA.u.mono hb6 HA.u.lt;have B6:=HBb.u.mono hb6 HBb.u.lt;have R6:=HR.u.mono hb6 HR.u.lt;have hW6:=HW.u.trans (hb6.mono HW.u.size);have hs6:=A6.lt;refine⟨four A6 B6,?_⟩;simp only[sX,sY,sZ];replace zz:=four A6 B6;obtain⟨g,cg,rfl,-⟩:=id hr;have HRR:=h_ hr;clear hr;refine tj 7 37 (.agg #[.bool true,.slice g (digs (dval (digs y.natAbs) - dval (digs x.natAbs))).length cg]) zz ?_ (hy:=fun w hS=>by obtain⟨q0,q1,q2,q3⟩:=hS;simp[execOp,go_sem, *]);simp only[sX,sY,sZ];obtain⟨⟨r0,r1⟩,⟨f0,f1⟩⟩:=two R6;refine storeY (i:=8) (w':=(w6.setCell ⟨w.heap.size+1+1,0,none⟩ (.bool true)).setCell ⟨w.heap.size+1+1,1,none⟩ (.slice g (digs (dval (digs y.natAbs) - dval (digs x.natAbs))).length cg)) rfl (by rfl) (by kernel_rfl) rfl ?hrun2 rfl ?hS2 ?_
   case hrun2=>simp[execOp,go_sem,r0,r1,f0,f1]
   case hS2=>exact four ((A6.other _ (by simp;omega)).other _ (by simp;omega)) ((B6.other _ (by simp)).other _ (by simp))
   refine wpAnyH_done (by kernel_rfl) ?_ _;have X0:=((R6.set 0 (.bool true)).set 1 (.slice g (digs (dval (digs y.natAbs) - dval (digs x.natAbs))).length cg));obtain⟨⟨y0,y1⟩,-⟩:=two X0;have HWX:=h_ ((hW6.setCell (p:=⟨w.heap.size+1+1,0,none⟩) (by simp;omega) (.bool true)).setCell (p:=⟨w.heap.size+1+1,1,none⟩) (by simp;omega) (.slice g (digs (dval (digs y.natAbs) - dval (digs x.natAbs))).length cg));have hD:DigS ((w6.setCell ⟨w.heap.size+1+1,0,none⟩ (.bool true)).setCell ⟨w.heap.size+1+1,1,none⟩ (.slice g (digs (dval (digs y.natAbs) - dval (digs x.natAbs))).length cg)) (.slice g (digs (dval (digs y.natAbs) - dval (digs x.natAbs))).length cg) (digs (x+y).natAbs):=by
    have h1:=HRR.u;rw[HDX.u.2,HDY.u.2,<- HRES.u.2]at h1⊢;exact(h1.set R6 (fun z h=>by cases h) 0 (.bool true)).set (R6.set 0 (.bool true)) (fun z h=>by cases h) 1 _
   have HDD:=h_ hD;clear hD HRR A6 B6 R6 hW6 X0 zz hb6;generalize (w6.setCell ⟨w.heap.size+1+1,0,none⟩ (.bool true)).setCell ⟨w.heap.size+1+1,1,none⟩ (.slice g (digs (dval (digs y.natAbs) - dval (digs x.natAbs))).length cg)=W9 at *;go_wp2;refine bodyPost_ret (v:=.agg #[.bool true,.slice g (digs (dval (digs y.natAbs) - dval (digs x.natAbs))).length cg]) (by simp[results,Tryz.results148,go_sem, *]) rfl ⟨_,rfl,⟨_,by rw[HRES.u.1],HDD.u⟩,HWX.u⟩
 . rw[Yg hlt]
   go_wp2_with fail;refine(q38 _ _ _ _ _ HV.u HU.u HDX.u.1 HDY.u.1 bx (by rw[HDX.u.2,HDY.u.2];omega)).mono ?_;rintro e w6 ⟨r,rfl,hr,hb6⟩;have A6:=HA.u.mono hb6 HA.u.lt;have R6:=HR.u.mono hb6 HR.u.lt;have hW6:=HW.u.trans (hb6.mono HW.u.size);have hs6:=A6.lt;rw[HDX.u.2,HDY.u.2]at hr;have hab:(x+y).natAbs=x.natAbs - y.natAbs:=by have:=HXY.u;omega
   rw[<- hab]at hr;obtain⟨g,cg,rfl,-⟩:=id hr;have HRR:=h_ hr;clear hr hb6 hab;clear z0 z1 z2 z3;obtain⟨⟨z0,z1⟩,-⟩:=two A6;obtain⟨⟨r0,r1⟩,⟨f0,f1⟩⟩:=two R6;have hs:decide (x+y<0)=false:=by have:=HXY.u;simp;omega
   have HS:=h_ hs;clear hs;have HWX:=h_ ((hW6.setCell (p:=⟨w.heap.size+1+1,0,none⟩) (by simp;omega) (.bool false)).setCell (p:=⟨w.heap.size+1+1,1,none⟩) (by simp;omega) (.slice g (digs (x+y).natAbs).length cg));have HD:=h_ ((HRR.u.set R6 (fun z h=>by cases h) 0 (.bool false)).set (R6.set 0 (.bool false)) (fun z h=>by cases h) 1 (.slice g (digs (x+y).natAbs).length cg));clear A6 R6 hW6 HRR HA HBb HR HV HU S0;go_wp2;refine bodyPost_ret (v:=.agg #[.bool false,.slice g (digs (x+y).natAbs).length cg]) (by simp[results,Tryz.results148,go_sem, *]) rfl ⟨_,rfl,⟨_,by rw[HS.u],HD.u⟩,HWX.u⟩
theorem q35 (v u:Value)(x y:Int)(w:World)(hv:BigV w v x)(hu:BigV w u y)(bx:(digs x.natAbs).length<=500)(by':(digs y.natAbs).length<=500) :
 Calls Tryz.prog 148 #[v,u] w fun e w'=>∃r,e=.returned r/\BigV w' r (x+y)/\Below w.heap.size w w':=by
 obtain⟨v1,rfl,hv1⟩:=hv
 obtain⟨u1,rfl,hu1⟩:=hu
 by_cases hx:x<0 <;> by_cases hy:y<0
 . rw[Yh hx,Yh hy];exact q43 v1 u1 x y w hv1 hu1 hx hy bx by'
 . rw[Yh hx,Yg hy];exact q41 v1 u1 x y w hv1 hu1 hx (by omega) bx by'
 . rw[Yg hx,Yh hy];exact q42 v1 u1 x y w hv1 hu1 (by omega) hy bx by'
 . rw[Yg hx,Yg hy];exact q44 v1 u1 x y w hv1 hu1 (by omega) (by omega) bx by'
theorem q2a (v u:Value)(x y:Int)(w:World)(hv:BigV w v x)(hu:BigV w u y)(bx:(digs x.natAbs).length<=500)(by':(digs y.natAbs).length<=500) :
 Calls Tryz.prog 114 #[v,u] w fun e w'=>e=.returned (.bool (decide (x<y)))/\Below w.heap.size w w':=by
 have HV:=h_ hv;have HU:=h_ hu
 obtain⟨v1,rfl,hv1⟩:=hv
 obtain⟨u1,rfl,hu1⟩:=hu
 obtain⟨a,ca,rfl,-⟩:=hv1
 obtain⟨b,cb,rfl,-⟩:=hu1
 obtain⟨sx,hsx⟩:=Nq (decide (x<0))
 obtain⟨sy,hsy⟩:=Nq (decide (y<0))
 rw[hsx]at HV⊢;rw[hsy]at HU⊢
 clear hsx hsy
 obtain⟨lx,hlx⟩:=Nq ((digs x.natAbs).length)
 obtain⟨ly,hly⟩:=Nq ((digs y.natAbs).length)
 rw[hlx]at HV bx⊢;rw[hly]at HU by'⊢
 have HLX:=h_ (And.intro hlx hly);clear hlx hly
 have hw:Below w.heap.size w ((w.alloc (.cells #[.bool sx,.slice a lx ca] 124)).alloc (.cells #[.bool sy,.slice b ly cb] 124)):=((bR _ w).alloc (nR _) _).alloc (by simp) _
 have bA:Blk ((w.alloc (.cells #[.bool sx,.slice a lx ca] 124)).alloc (.cells #[.bool sy,.slice b ly cb] 124)) w.heap.size 124 [.bool sx,.slice a lx ca]:=(Blk.new w 124 #[.bool sx,.slice a lx ca]).alloc _
 have bB:Blk ((w.alloc (.cells #[.bool sx,.slice a lx ca] 124)).alloc (.cells #[.bool sy,.slice b ly cb] 124)) (w.heap.size+1) 124 [.bool sy,.slice b ly cb]:=by simpa using Blk.new (w.alloc (.cells #[.bool sx,.slice a lx ca] 124)) 124 #[.bool sy,.slice b ly cb]
 obtain⟨W,hW⟩:=Nq (((w.alloc (.cells #[.bool sx,.slice a lx ca] 124)).alloc (.cells #[.bool sy,.slice b ly cb] 124)))
 rw[hW]at hw bA bB
 have S0:=h_ (four bA bB)
 replace HV:=h_ (HV.u.mono hw);replace HU:=h_ (HU.u.mono hw)
 have HA:=h_ bA;have HB:=h_ bB;have HW:=h_ hw
 clear bA bB hw
 have HQ:Hi (decide (x + -y<0)=decide (x<y)):=by rw[Hi,decide_eq_decide];omega
 go_enter Tryz.func114,Tryz.ntmps114
 go_wp2_with fail
 try rw[hW]
 clear hW
 refine wp_region_held_drew (S:=fun w'=>Four w' w.heap.size (w.heap.size+1) (.bool sx) (.slice a lx ca) (.bool sy) (.slice b ly cb)) (by kernel_rfl) S0.u (fun zz=>?_)
 refine tj 0 6 (.agg #[.bool sx,.slice a lx ca]) zz ?_ (hy:=fun w hS=>by obtain⟨q0,q1,q2,q3⟩:=hS;simp[execOp,go_sem, *])
 refine tj 1 7 (.agg #[.bool sy,.slice b ly cb]) zz ?_ (hy:=fun w hS=>by obtain⟨q0,q1,q2,q3⟩:=hS;simp[execOp,go_sem, *])
 simp only[sX,sY,sZ]
 refine wpAnyH_ready (rs:=[2,4]) (by kernel_rfl) (by simp) (consCall (f:=149) (args:=#[.agg #[.bool sy,.slice b ly cb]]) (R:=fun r wz=>BigV wz r (-y)/\Below W.heap.size W wz) 8 rfl rfl (by rfl) ?hrun1 ((q36 _ y _ (HU.u.mono (q2o _ 1))).mono fun e w6 ⟨r,he,hr,hb⟩=>⟨r,he,hr,q23 hb⟩) ?pB (consRun (v:=Yd W.drew.heap.size 0) (w':=W.drew.alloc (.cells Jo 124)) 5 rfl rfl (by rfl) ?hrun3 (four ((show Blk W.drew _ _ _ from HA.u).alloc _) ((show Blk W.drew _ _ _ from HB.u).alloc _)) ?pA AllReadyH.nil))
 case hrun1=>simp[execOp,go_sem]
 case hrun3=>simp[execOp,go_sem]
 case pB =>
  rintro v w6 ⟨hr,hb6⟩;have A6:=HA.u.mono hb6 HA.u.lt;have B6:=HB.u.mono hb6 HB.u.lt;have hW6:=HW.u.trans (hb6.mono HW.u.size);have hV6:=HV.u.mono hb6;refine⟨four A6 B6,?_⟩;simp only[sX,sY,sZ];refine wpAnyH_ready (rs:=[3,4]) (by kernel_rfl) (by simp) (consCall (f:=148) (args:=#[.agg #[.bool sx,.slice a lx ca],v]) (R:=fun r wz=>BigV wz r (x + -y)/\Below w6.heap.size w6 wz) 9 rfl rfl (by rfl) ?hrun2 ((q35 _ _ x (-y) _ hV6 hr (by have:=HLX.u;omega) (by rw[Int.natAbs_neg];have:=HLX.u;omega)).mono fun e w7 ⟨r,he,hr,hb⟩=>⟨r,he,hr,hb⟩) ?pB1 (consRun (v:=Yd w6.heap.size 0) (w':=w6.alloc (.cells Jo 124)) 5 rfl rfl (by rfl) ?hrun3 (four (A6.alloc _) (B6.alloc _)) ?pB2 AllReadyH.nil))
  case hrun2=>simp[execOp,go_sem]
  case hrun3=>simp[execOp,go_sem]
  case pB1 =>
   rintro q w7 ⟨hq,hb7⟩;have A7:=A6.mono hb7 A6.lt;have B7:=B6.mono hb7 B6.lt;have hW7:=hW6.trans (hb7.mono hW6.size);obtain⟨p,rfl,hp⟩:=hq;obtain⟨pg,pc,rfl,-⟩:=hp;rw[HQ.u];obtain⟨dl,hdl⟩:=Nq ((digs (x + -y).natAbs).length);rw[hdl];clear hdl;refine⟨four A7 B7,?_⟩;simp only[sX,sY,sZ];refine wpAnyH_ready (rs:=[4]) (by kernel_rfl) (by simp) (consRun (v:=Yd w7.heap.size 0) (w':=w7.alloc (.cells Jo 124)) 5 rfl rfl (by rfl) ?hrun3 (four (A7.alloc _) (B7.alloc _)) ?pB1 AllReadyH.nil)
   case hrun3=>simp[execOp,go_sem]
   simp only[sX,sY,sZ];have DD:=Blk.new w7 124 Jo;have hWZ:=hW7.alloc hW7.size (.cells Jo 124);have AZ:=A7.alloc (.cells Jo 124);have BZ:=B7.alloc (.cells Jo 124);have sA:=A7.lt;have sB:=B7.lt;clear A6 B6 A7 B7 hV6 hW6 hW7 hb6 hb7 hr zz;generalize w7.heap.size=D at *;generalize w7.alloc (.cells Jo 124)=w8 at *;have hsD:=DD.lt;obtain⟨⟨r0,r1⟩,⟨f0,f1⟩⟩:=two DD;refine storeY (i:=5) (w':=(w8.setCell ⟨D,0,none⟩ (.bool (decide (x<y)))).setCell ⟨D,1,none⟩ (.slice pg dl pc)) rfl (by rfl) (by kernel_rfl) rfl ?hrunS rfl (four ((AZ.other _ (by simp;omega)).other _ (by simp;omega)) ((BZ.other _ (by simp;omega)).other _ (by simp;omega))) ?_
   case hrunS=>simp[execOp,go_sem,r0,r1,f0,f1]
   refine wpAnyH_done (by kernel_rfl) ?_ _;obtain⟨⟨y0,y1⟩,-⟩:=two ((DD.set 0 (.bool (decide (x<y)))).set 1 (.slice pg dl pc));have HZ:=h_ ((hWZ.setCell (p:=⟨D,0,none⟩) (by simp;omega) (.bool (decide (x<y)))).setCell (p:=⟨D,1,none⟩) (by simp;omega) (.slice pg dl pc));clear DD AZ BZ hWZ r0 r1 f0 f1;generalize (w8.setCell ⟨D,0,none⟩ (.bool (decide (x<y)))).setCell ⟨D,1,none⟩ (.slice pg dl pc)=W9 at *;go_wp2;go_ret;exact⟨rfl,HZ.u⟩
  case pB2 =>
   simp only[sX,sY,sZ];have hb7:Below w6.heap.size w6 (w6.alloc (.cells Jo 124)):=(bR _ _).alloc (nR _) _;have DD0:=Blk.new w6 124 Jo;have A7:=A6.alloc (.cells Jo 124);have B7:=B6.alloc (.cells Jo 124);have hW7:=hW6.alloc hW6.size (.cells Jo 124);have hV7:=hV6.mono hb7;have hr7:=hr.mono hb7;have sA:=A6.lt;have sB:=B6.lt;clear A6 B6 hV6 hW6 hb6 hb7 hr zz;generalize w6.heap.size=D at *;generalize w6.alloc (.cells Jo 124)=w7 at *;refine wpAnyH_ready (rs:=[3]) (by kernel_rfl) (by simp) (consCall (f:=148) (args:=#[.agg #[.bool sx,.slice a lx ca],v]) (R:=fun r wz=>BigV wz r (x + -y)/\Below w7.heap.size w7 wz) 9 rfl rfl (by rfl) ?hrun2 ((q35 _ _ x (-y) _ hV7 hr7 (by have:=HLX.u;omega) (by rw[Int.natAbs_neg];have:=HLX.u;omega)).mono fun e w7 ⟨r,he,hr,hb⟩=>⟨r,he,hr,hb⟩) ?pC AllReadyH.nil)
   case hrun2=>simp[execOp,go_sem]
   rintro q w8 ⟨hq,hb8⟩;have AZ:=A7.mono hb8 A7.lt;have BZ:=B7.mono hb8 B7.lt;have DD:=DD0.mono hb8 DD0.lt;have hWZ:=hW7.trans (hb8.mono hW7.size);obtain⟨p,rfl,hp⟩:=hq;obtain⟨pg,pc,rfl,-⟩:=hp;rw[HQ.u];obtain⟨dl,hdl⟩:=Nq ((digs (x + -y).natAbs).length);rw[hdl];clear hdl;refine⟨four AZ BZ,?_⟩;simp only[sX,sY,sZ];clear A7 B7 hW7 hb8 hV7 hr7 DD0;have hsD:=DD.lt;obtain⟨⟨r0,r1⟩,⟨f0,f1⟩⟩:=two DD;refine storeY (i:=5) (w':=(w8.setCell ⟨D,0,none⟩ (.bool (decide (x<y)))).setCell ⟨D,1,none⟩ (.slice pg dl pc)) rfl (by rfl) (by kernel_rfl) rfl ?hrunS rfl (four ((AZ.other _ (by simp;omega)).other _ (by simp;omega)) ((BZ.other _ (by simp;omega)).other _ (by simp;omega))) ?_
   case hrunS=>simp[execOp,go_sem,r0,r1,f0,f1]
   refine wpAnyH_done (by kernel_rfl) ?_ _;obtain⟨⟨y0,y1⟩,-⟩:=two ((DD.set 0 (.bool (decide (x<y)))).set 1 (.slice pg dl pc));have HZ:=h_ ((hWZ.setCell (p:=⟨D,0,none⟩) (by simp;omega) (.bool (decide (x<y)))).setCell (p:=⟨D,1,none⟩) (by simp;omega) (.slice pg dl pc));clear DD AZ BZ hWZ r0 r1 f0 f1;generalize (w8.setCell ⟨D,0,none⟩ (.bool (decide (x<y)))).setCell ⟨D,1,none⟩ (.slice pg dl pc)=W9 at *;go_wp2;go_ret;exact⟨rfl,HZ.u⟩
 case pA =>
  simp only[sX,sY,sZ];have hbA:Below W.heap.size W (W.drew.alloc (.cells Jo 124)):=q23 ((bR W.heap.size W.drew).alloc (nR _) _);have DD0:Blk (W.drew.alloc (.cells Jo 124)) W.heap.size 124 [.bool false,Yb]:=Blk.new W.drew 124 Jo;have A6:=HA.u.mono hbA HA.u.lt;have B6:=HB.u.mono hbA HB.u.lt;have hW6:=HW.u.trans (hbA.mono HW.u.size);have hV6:=HV.u.mono hbA;have hU6:=HU.u.mono hbA;have sA:=HA.u.lt;have sB:=HB.u.lt;have hD0:W.drew.heap.size=W.heap.size:=rfl;rw[hD0];clear hbA zz hD0;generalize W.heap.size=D at *;generalize W.drew.alloc (.cells Jo 124)=w6 at *;refine wpAnyH_ready (rs:=[2]) (by kernel_rfl) (by simp) (consCall (f:=149) (args:=#[.agg #[.bool sy,.slice b ly cb]]) (R:=fun r wz=>BigV wz r (-y)/\Below w6.heap.size w6 wz) 8 rfl rfl (by rfl) ?hrun1 ((q36 _ y _ hU6).mono fun e w6 ⟨r,he,hr,hb⟩=>⟨r,he,hr,hb⟩) ?pA1 AllReadyH.nil)
  case hrun1=>simp[execOp,go_sem]
  rintro v w7 ⟨hr,hb7⟩;have A7:=A6.mono hb7 A6.lt;have B7:=B6.mono hb7 B6.lt;have DD1:=DD0.mono hb7 DD0.lt;have hW7:=hW6.trans (hb7.mono hW6.size);have hV7:=hV6.mono hb7;refine⟨four A7 B7,?_⟩;simp only[sX,sY,sZ];refine wpAnyH_ready (rs:=[3]) (by kernel_rfl) (by simp) (consCall (f:=148) (args:=#[.agg #[.bool sx,.slice a lx ca],v]) (R:=fun r wz=>BigV wz r (x + -y)/\Below w7.heap.size w7 wz) 9 rfl rfl (by rfl) ?hrun2 ((q35 _ _ x (-y) _ hV7 hr (by have:=HLX.u;omega) (by rw[Int.natAbs_neg];have:=HLX.u;omega)).mono fun e w7 ⟨r,he,hr,hb⟩=>⟨r,he,hr,hb⟩) ?pA2 AllReadyH.nil)
  case hrun2=>simp[execOp,go_sem]
  rintro q w8 ⟨hq,hb8⟩;have AZ:=A7.mono hb8 A7.lt;have BZ:=B7.mono hb8 B7.lt;have DD:=DD1.mono hb8 DD1.lt;have hWZ:=hW7.trans (hb8.mono hW7.size);obtain⟨p,rfl,hp⟩:=hq;obtain⟨pg,pc,rfl,-⟩:=hp;rw[HQ.u];obtain⟨dl,hdl⟩:=Nq ((digs (x + -y).natAbs).length);rw[hdl];clear hdl;refine⟨four AZ BZ,?_⟩;simp only[sX,sY,sZ];clear A6 B6 A7 B7 hW6 hW7 hb7 hb8 hV6 hU6 hV7 hr DD0 DD1;have hsD:=DD.lt;obtain⟨⟨r0,r1⟩,⟨f0,f1⟩⟩:=two DD;refine storeY (i:=5) (w':=(w8.setCell ⟨D,0,none⟩ (.bool (decide (x<y)))).setCell ⟨D,1,none⟩ (.slice pg dl pc)) rfl (by rfl) (by kernel_rfl) rfl ?hrunS rfl (four ((AZ.other _ (by simp;omega)).other _ (by simp;omega)) ((BZ.other _ (by simp;omega)).other _ (by simp;omega))) ?_
  case hrunS=>simp[execOp,go_sem,r0,r1,f0,f1]
  refine wpAnyH_done (by kernel_rfl) ?_ _;obtain⟨⟨y0,y1⟩,-⟩:=two ((DD.set 0 (.bool (decide (x<y)))).set 1 (.slice pg dl pc));have HZ:=h_ ((hWZ.setCell (p:=⟨D,0,none⟩) (by simp;omega) (.bool (decide (x<y)))).setCell (p:=⟨D,1,none⟩) (by simp;omega) (.slice pg dl pc));clear DD AZ BZ hWZ r0 r1 f0 f1;generalize (w8.setCell ⟨D,0,none⟩ (.bool (decide (x<y)))).setCell ⟨D,1,none⟩ (.slice pg dl pc)=W9 at *;go_wp2;go_ret;exact⟨rfl,HZ.u⟩
theorem qbv {z:Int}(h0:-9223372036854775808<=z)(h1:z<=9223372036854775807):(digs z.natAbs).length<=19:=q1b (by omega)
def fitsB (z:Int):Bool:=decide (-9223372036854775808<=z/\z<=9223372036854775807)
theorem q6v (v:Value)(z:Int)(w:World)(hv:BigV w v z)(bz:(digs z.natAbs).length<=500) :
 Calls Tryz.prog 85 #[v] w fun e w'=>e=.returned (.bool (fitsB z))/\Below w.heap.size w w':=by
 have HV:=h_ hv
 obtain⟨v1,rfl,hv1⟩:=hv
 obtain⟨a,ca,rfl,-⟩:=hv1
 obtain⟨sz,hsz⟩:=Nq (decide (z<0))
 obtain⟨lz,hlz⟩:=Nq ((digs z.natAbs).length)
 rw[hsz,hlz]at HV⊢
 have BZ:=h_ bz
 clear hsz hlz bz
 have H0:=h_ (Blk.new w 124 #[.bool sz,.slice a lz ca])
 have HW:Hi (Below w.heap.size w (w.alloc (.cells #[.bool sz,.slice a lz ca] 124))):=(bR _ _).alloc (nR _) _
 go_enter Tryz.func85,Tryz.ntmps85
 go_wp2_with fail
 refine(q2c 9223372036854775807 _ (by omega) (by omega)).mono ?_
 rintro e w1 ⟨t1,rfl,ht1,hb1⟩
 replace H0:=mB H0 hb1;replace HW:=mT HW hb1;clear hb1
 rw[show decide ((9223372036854775807:Int)<0)=false from rfl]
 have hT:BigV w1 (.agg #[.bool false,t1]) 9223372036854775807:=⟨t1,rfl,ht1⟩
 obtain⟨ta,tc,rfl,-⟩:=ht1
 obtain⟨lt,hlt⟩:=Nq ((digs (Int.natAbs 9223372036854775807)).length)
 rw[hlt]at hT⊢
 clear hlt
 have B1:=Blk.new w1 124 #[.bool false,.slice ta lt tc]
 have hbA:Below w1.heap.size w1 (w1.alloc (.cells #[.bool false,.slice ta lt tc] 124)):=(bR _ _).alloc (nR _) _
 have HT:=h_ (hT.mono hbA)
 replace H0:=mB H0 hbA;replace HW:=mT HW hbA
 have H1:=h_ B1
 clear hT B1 hbA
 go_wp2_with fail
 refine(q2c (-9223372036854775808) _ (by omega) (by omega)).mono ?_
 rintro e w2 ⟨t2,rfl,ht2,hb2⟩
 replace H0:=mB H0 hb2;replace H1:=mB H1 hb2;replace HW:=mT HW hb2;replace HT:=h_ (HT.u.mono hb2);clear hb2
 rw[show decide ((-9223372036854775808:Int)<0)=true from rfl]
 have hU:BigV w2 (.agg #[.bool true,t2]) (-9223372036854775808):=⟨t2,rfl,ht2⟩
 obtain⟨ua,uc,rfl,-⟩:=ht2
 obtain⟨lu,hlu⟩:=Nq ((digs (Int.natAbs (-9223372036854775808))).length)
 rw[hlu]at hU⊢
 clear hlu
 have B2:=Blk.new w2 124 #[.bool true,.slice ua lu uc]
 have hbA:Below w2.heap.size w2 (w2.alloc (.cells #[.bool true,.slice ua lu uc] 124)):=(bR _ _).alloc (nR _) _
 have HU:=h_ (hU.mono hbA)
 replace HT:=h_ (HT.u.mono hbA)
 replace H0:=mB H0 hbA;replace H1:=mB H1 hbA;replace HW:=mT HW hbA
 have H2:=h_ B2
 replace HV:=h_ (HV.u.mono HW.u)
 clear hU B2 hbA
 obtain⟨⟨z0,z1⟩,-⟩:=two H0.u
 obtain⟨⟨z2,z3⟩,-⟩:=two H1.u
 obtain⟨⟨z4,z5⟩,-⟩:=two H2.u
 have LT:=h_ (qbv (z:=9223372036854775807) (by omega) (by omega));have LU:=h_ (qbv (z:=-9223372036854775808) (by omega) (by omega))
 go_wp2_with fail
 refine(q2a _ _ 9223372036854775807 z _ HT.u HV.u (by have:=LT.u;omega) BZ.u).mono ?_
 rintro e w3 ⟨rfl,hb3⟩
 replace H0:=mB H0 hb3;replace H2:=mB H2 hb3;replace HW:=mT HW hb3;replace HU:=h_ (HU.u.mono hb3);replace HV:=h_ (HV.u.mono hb3)
 clear hb3 z0 z1 z2 z3 z4 z5 H1 HT
 obtain⟨⟨z0,z1⟩,-⟩:=two H0.u
 obtain⟨⟨z4,z5⟩,-⟩:=two H2.u
 by_cases g1:9223372036854775807<z
 . have HF:Hi (fitsB z=false):=by rw[Hi,fitsB,Zy];omega
   rw[Yh g1];clear g1;go_wp2;go_ret;exact⟨qdx HF.u.symm,HW.u⟩
 . have G1:=h_ g1
   rw[Yg g1];clear g1;go_wp2_with fail;refine(q2a _ _ z (-9223372036854775808) _ HV.u HU.u BZ.u (by have:=LU.u;omega)).mono ?_;rintro e w4 ⟨rfl,hb4⟩;replace HW:=mT HW hb4;clear hb4;have HF:Hi ((!decide (z < -9223372036854775808))=fitsB z):=by
    rw[Hi,fitsB,<- decide_not,decide_eq_decide];have:=G1.u;omega
   obtain⟨c,hc⟩:=Nq (decide (z < -9223372036854775808));rw[hc]at HF⊢;clear hc;go_wp2;go_ret;exact⟨qdx HF.u,HW.u⟩
theorem qes (neg:Bool)(n L ca:Nat)(a:Option Addr)(w:World)(hL:L=(digs n).length)(bL:L<=500)(hn:n<=9223372036854775808)(hp:neg=false->n<=9223372036854775807)(hI:Ints w a L (fun k=>(((digs n).getD k 0:Nat):Int)))(z:Int)(hz:z=if neg then -(n:Int) else n) :
 Calls Tryz.prog 86 #[.agg #[.bool neg,.slice a L ca]] w fun e w'=>e=.returned (Ya z)/\Below w.heap.size w w':=by
 have H0:=Blk.new w 124 #[.bool neg,.slice a L ca]
 have HW:Hi (Below w.heap.size w (w.alloc (.cells #[.bool neg,.slice a L ca] 124))):=(bR _ _).alloc (nR _) _
 have hI2:=hI.mono HW.u
 obtain⟨⟨z0,z1⟩,-⟩:=two H0
 have HZ:=h_ hz;have HN:=h_ (And.intro hL (And.intro hn hp));clear H0 hI hL hn hp hz
 go_enter Tryz.func86,Tryz.ntmps86
 go_wp2
 generalize w.alloc (.cells #[.bool neg,.slice a L ca] 124)=W at *
 go_loopw [3,4] (fun x i wr=>∃(k:Nat) (X:Int),k<=L/\i=Ya ((k:Int) - 1)/\x=Ya X/\X=(if neg then -((n / 10 ^ k:Nat):Int) else ((n / 10 ^ k:Nat):Int))/\wr=W) (fun _ i _=>(intOf i+1).toNat)
 case atStart =>
  refine⟨L,0,nR _,rfl,rfl,?_,rfl⟩;rw[HN.u.1,Nat.div_eq_of_lt (qha n)];cases neg <;> rfl
 case round =>
  obtain⟨k,X,hk,rfl,rfl,hX,rfl⟩:=hrel;cases k with
  | zero =>
   have HX:=h_ hX;clear hX;go_wp2;go_ret;exact⟨qij (by have:=HX.u;rw[HZ.u,this];simp),HW.u⟩
  | succ k =>
   rw[show((k+1:Nat):Int) - 1=(k:Int) by omega];obtain⟨b1,o1,rfl,-,c1⟩:=hI2 k (by omega);dsimp only at c1;rw[qg3]at c1;have s1:=qby n k;have hle:n / 10 ^ k<=n:=Nat.div_le_self _ _;obtain⟨d,hd⟩:=Nq (n / 10 ^ k % 10);have hd10:d<10:=by rw[<- hd];exact Nat.mod_lt _ (by decide)
   rw[hd]at c1 s1;obtain⟨dI,hdI⟩:=Nq ((d:Int));rw[hdI]at c1;have hnn:=HN.u.2;have b0:0<=dI:=by omega
   have b9:dI<=9:=by omega
   have HH:=h_ (And.intro s1 hdI);cases neg with
   | true =>
    simp only[if_true]at hX;have x0:X*10<=0:=(by omega);have x1:-9223372036854775808<=X*10:=(by omega);have x2:-9223372036854775808<=X*10 - dI:=(by omega);have HX:=h_ hX;clear hX s1 hle hd hd10 hdI hnn;go_wp2;go_roundw
    case rel=>exact⟨k,X*10 - dI,by omega,rfl,rfl,by have:=HX.u;have:=HH.u;(try simp only[if_true]);omega,trivial⟩
    case measure=>simp[intOf]
   | false =>
    simp only[Vw,if_false]at hX;have x0:0<=X*10:=(by omega);have x1:X*10<=9223372036854775807:=(by have:=hnn.2 rfl;omega);have x2:X*10+dI<=9223372036854775807:=(by have:=hnn.2 rfl;omega);have HX:=h_ hX;clear hX s1 hle hd hd10 hdI hnn;go_wp2;go_roundw
    case rel=>exact⟨k,X*10+dI,by omega,rfl,rfl,by have:=HX.u;have:=HH.u;(try simp only[Vw,if_false]);omega,trivial⟩
    case measure=>simp[intOf]
theorem q4v (v:Value)(z:Int)(w:World)(hv:BigV w v z)(h0:-9223372036854775808<=z)(h1:z<=9223372036854775807) :
 Calls Tryz.prog 86 #[v] w fun e w'=>e=.returned (Ya z)/\Below w.heap.size w w':=by
 obtain⟨u,rfl,a,ca,rfl,-,-,hI⟩:=hv
 refine qes _ z.natAbs _ ca a w rfl (by have:=qbv h0 h1;omega) (by omega) (fun h=>?_) hI z ?_
 . have:¬ z<0:=by simpa using h
   omega
 . by_cases h:z<0
   . simp[h];omega
   . simp[h];omega
end Go.Proofs.YtfmammdgehbjhaaGreatDoor
