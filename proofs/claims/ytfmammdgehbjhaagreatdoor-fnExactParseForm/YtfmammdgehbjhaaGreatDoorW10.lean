import Derived.Test.YtfmammdgehbjhaaGreatDoorW04
import Derived.Test.YtfmammdgehbjhaaGreatDoorShelf2
set_option maxRecDepth 100000
set_option maxHeartbeats 64000000
namespace Go.Proofs.YtfmammdgehbjhaaGreatDoor
open Go Go.RowKit
def zv (u:Vx):Bool:=decide (u.k=0/\u.n=0/\u.s.size=0)
theorem zv_eq (u:Vx):eqX u blankX=zv u:=by
 have:(u.s.toList=[]) ↔ u.s.size=0:=by
  have:=empty0 u.s;rw[Zj]at this;simpa using this
 unfold eqX zv blankX
 by_cases h1:u.k=0
 . by_cases h2:u.n=0
   . simp[h1,h2,this]
   . simp[h1,h2]
 . simp[h1]
theorem q1h (u:Vx)(w:World)(hs:u.s.size<=9223372036854775807):Calls Tryz.prog 185 #[vv u] w fun e w'=>e=.returned (.bool (okVal u.k u.n u.s&&decide (u.k≠4)&&decide (0<=u.n)))/\Below w.heap.size w w':=by
 unfold vv
 have H0:=h_ (Blk.new w 131 #[Ya u.k,Ya u.n,.string u.s])
 have HB:=h_ ((bR w.heap.size w).alloc (nR _) (.cells #[Ya u.k,Ya u.n,.string u.s] 131))
 obtain⟨r,hr⟩:=Nq ((okVal u.k u.n u.s&&decide (u.k≠4)&&decide (0<=u.n)))
 rw[hr]
 go_enter Tryz.func185,Tryz.ntmps185
 go_wp2_with fail
 refine(q1g _ _ _ _ hs).mono ?_
 rintro e w1 ⟨rfl,hb1⟩
 replace H0:=mB H0 hb1;replace HB:=mT HB hb1;clear hb1
 obtain⟨z0,z1,z2⟩:=three H0.u
 cases hv:okVal u.k u.n u.s
 . rw[hv]at hr
   have HX:Hi (false=r):=h_ hr;clear hr hv;go_wp2_with fail;go_ret;exact⟨qdx HX.u,HB.u⟩
 . rw[hv,Zs]at hr
   by_cases h4:u.k=4
   . have HX:Hi (false=r):=h_ (by rw[<- hr,Yg (fun h=>h h4)];rfl);clear hr hv
     rw[h4]at z0 H0;go_wp2_with fail;go_ret;exact⟨qdx HX.u,HB.u⟩
   . rw[Yh h4,Zs]at hr
     have h4':(u.k != 4)=true:=(by simp[h4]);have HX:=h_ hr;clear hr hv h4;go_wp2_with fail;go_ret;exact⟨qdx HX.u,HB.u⟩
theorem q0d (n:Nx)(w:World):Calls Tryz.prog 169 #[nv n] w fun e w'=>e=.returned (Ya (arn n))/\Below w.heap.size w w':=by
 rw[qbd,ar_opn]
 unfold nv
 have H0:=h_ (Blk.new w 133 #[Ya n.op,Ya n.v.k,Ya n.v.n,.string n.v.s,.string n.nm])
 have HB:=h_ ((bR w.heap.size w).alloc (nR _) (.cells #[Ya n.op,Ya n.v.k,Ya n.v.n,.string n.v.s,.string n.nm] 133))
 by_cases h:2<=n.op/\n.op<=25
 . rw[Yn h]
   go_enter Tryz.func169,Tryz.ntmps169;go_wp2_with (first | (go_at_call 186;refine(q1k _ _).mono ?_;rintro e w' ⟨rfl,hw⟩;replace hw:=hw.symm;subst hw;rw[Yh h]) | (go_at_call 187;refine(q20 _ _).mono ?_;rintro e w' ⟨rfl,hw⟩;replace hw:=hw.symm;subst hw));go_ret;exact⟨rfl,HB.u⟩
 . rw[Yi h]
   go_enter Tryz.func169,Tryz.ntmps169;go_wp2_with (go_at_call 186;refine(q1k _ _).mono ?_;rintro e w' ⟨rfl,hw⟩;replace hw:=hw.symm;subst hw;rw[Yg h]);go_ret;exact⟨rfl,HB.u⟩
theorem q6r (n:Nx)(w:World)(hf:Fit n):Calls Tryz.prog 168 #[nv n] w fun e w'=>e=.returned (.bool (okNode n))/\Below w.heap.size w w':=by
 obtain⟨hs,hm,-,-⟩:=hf
 unfold nv
 obtain⟨W0,hW0⟩:=Nq (w.alloc (.cells #[Ya n.op,Ya n.v.k,Ya n.v.n,.string n.v.s,.string n.nm] 133))
 have H0:=h_ (Blk.new w 133 #[Ya n.op,Ya n.v.k,Ya n.v.n,.string n.v.s,.string n.nm])
 have HB:=h_ ((bR w.heap.size w).alloc (nR _) (.cells #[Ya n.op,Ya n.v.k,Ya n.v.n,.string n.v.s,.string n.nm] 133))
 rw[hW0]at H0 HB
 have e0:=empty0 n.nm
 rcases ops2 n.op with h | h | ⟨h,h'⟩
 . have ho:=okNode0 h
   rw[h]at H0 hW0⊢;clear h;obtain⟨z0,z1,z2,z3,z4⟩:=five H0.u;by_cases h0:n.nm.size=0
   . rw[Yh h0]at e0 ho
     rw[Zs]at ho;have HX:=h_ ho;clear ho;go_enter Tryz.func168,Tryz.ntmps168;go_wp2_with fail
     try rw[hW0]
     refine(q1h n.v _ hs).mono ?_;rintro e w1 ⟨rfl,hb1⟩;replace HB:=mT HB hb1;clear hb1;generalize (okVal n.v.k n.v.n n.v.s&&decide (n.v.k≠4)&&decide (0<=n.v.n))=r at *;cases r
     all_goals
      go_wp2_with fail;go_ret;exact⟨qdx HX.u.symm,HB.u⟩
   . rw[Yg h0]at e0 ho
     have HX:Hi (okNode n=false):=h_ ho;clear ho h0;go_enter Tryz.func168,Tryz.ntmps168;go_wp2_with fail;go_ret;exact⟨qdx HX.u.symm,HB.u⟩
 . have ho:=okNode1 h
   rw[h]at H0 hW0⊢;clear h;obtain⟨z0,z1,z2,z3,z4⟩:=five H0.u;go_enter Tryz.func168,Tryz.ntmps168;go_wp2_with fail
   try rw[hW0]
   clear hW0;refine wp_region_held_drew (S:=fun w'=>w'.cell? ⟨w.heap.size,1,none⟩=some (Ya n.v.k)/\w'.cell? ⟨w.heap.size,2,none⟩=some (Ya n.v.n)/\w'.cell? ⟨w.heap.size,3,none⟩=some (.string n.v.s)/\w'.cell? ⟨w.heap.size,4,none⟩=some (.string n.nm)) (by kernel_rfl) ⟨z1,z2,z3,z4⟩ (fun zz=>?_);clear z0 z1 z2 z3 z4;refine tj 0 17 (Yd w.heap.size 1) zz ?_;refine tj 1 18 (.agg #[Ya n.v.k,Ya n.v.n,.string n.v.s]) zz ?_;simp only[sX,sY,sZ];refine callY (i:=2) (f:=133) (args:=#[]) (R:=fun r wz=>r=vv blankX/\Below W0.heap.size W0 wz) 19 rfl rfl (by rfl) (by kernel_rfl) ?hrun2 ((q19 _).mono fun e w6 ⟨he,hb⟩=>⟨_,he,rfl,q23 hb⟩) ?_
   case hrun2=>simp[execOp,go_sem]
   rintro r3 w3 ⟨rfl,hb⟩;replace H0:=mB H0 hb;replace HB:=mT HB hb;clear hb;obtain⟨z0,z1,z2,z3,z4⟩:=five H0.u;replace zz:w3.cell? ⟨w.heap.size,1,none⟩=some (Ya n.v.k)/\w3.cell? ⟨w.heap.size,2,none⟩=some (Ya n.v.n)/\w3.cell? ⟨w.heap.size,3,none⟩=some (.string n.v.s)/\w3.cell? ⟨w.heap.size,4,none⟩=some (.string n.nm):=⟨z1,z2,z3,z4⟩;clear z0 z1 z2 z3 z4;refine⟨zz,?_⟩;simp only[sX,sY,sZ];unfold vv;refine tj 3 20 (.bool (eqX n.v blankX)) zz ?_ (hy:=fun w hS=>by simp[execOp,go_sem, *];unfold eqX blankX;(repeat' split) <;> simp_all);simp only[sX,sY,sZ];rw[zv_eq];rw[show decide (n.v.k=0/\n.v.n=0/\n.v.s.size=0)=zv n.v from rfl]at ho;cases hz:zv n.v
   . have HX:Hi (okNode n=false):=h_ (by rw[ho,hz];rfl)
     clear ho hz;refine tj 4 21 (.bool false) zz ?_;refine tn 5 22 zz ?_;refine tn 6 23 zz ?_;refine tn 7 24 zz ?_;simp only[sX,sY,sZ];refine tj 8 25 (.bool false) zz ?_;refine tj 9 2 (.bool false) zz ?_;simp only[sX,sY,sZ];refine wpAnyH_done (by kernel_rfl) ?_ _;clear zz;go_wp2;go_ret;exact⟨qdx HX.u.symm,HB.u⟩
   . have HX:Hi (okNode n=goodN n.nm):=h_ (by rw[ho,hz];rfl)
     clear ho hz;refine tj 4 21 (.bool true) zz ?_;refine tj 5 22 (Yd w.heap.size 4) zz ?_;refine tj 6 23 (.string n.nm) zz ?_;simp only[sX,sY,sZ];refine callY (i:=7) (f:=135) (args:=#[.string n.nm]) (R:=fun r wz=>r=.bool (goodN n.nm)/\wz=w3) 24 rfl rfl (by rfl) (by kernel_rfl) ?hrun7 ((q1i _ _ hm).mono fun e w6 ⟨he,hb⟩=>⟨_,he,rfl,hb⟩) ?_
     case hrun7=>simp[execOp,go_sem]
     rintro r3 w4 ⟨rfl,hw⟩;replace hw:=hw.symm;subst hw;refine⟨zz,?_⟩;simp only[sX,sY,sZ];refine tj 8 25 (.bool (goodN n.nm)) zz ?_;refine tj 9 2 (.bool (goodN n.nm)) zz ?_;simp only[sX,sY,sZ];refine wpAnyH_done (by kernel_rfl) ?_ _;clear zz;go_wp2;go_ret;exact⟨qdx HX.u.symm,HB.u⟩
 . have ho:=okNode2 h h'
   have h1:(n.op==0)=false:=Ye.2 h;have h2:(n.op==1)=false:=Ye.2 h';clear h h';obtain⟨z0,z1,z2,z3,z4⟩:=five H0.u;go_enter Tryz.func168,Tryz.ntmps168;go_wp2_with fail
   try rw[hW0]
   clear hW0;refine wp_region_held_drew (S:=fun w'=>w'.cell? ⟨w.heap.size,0,none⟩=some (Ya n.op)/\w'.cell? ⟨w.heap.size,1,none⟩=some (Ya n.v.k)/\w'.cell? ⟨w.heap.size,2,none⟩=some (Ya n.v.n)/\w'.cell? ⟨w.heap.size,3,none⟩=some (.string n.v.s)/\w'.cell? ⟨w.heap.size,4,none⟩=some (.string n.nm)) (by kernel_rfl) ⟨z0,z1,z2,z3,z4⟩ (fun zz=>?_);clear z0 z1 z2 z3 z4;refine tj 0 26 (Yd w.heap.size 0) zz ?_;refine tj 1 27 (Ya n.op) zz ?_;simp only[sX,sY,sZ];refine callY (i:=2) (f:=186) (args:=#[Ya n.op]) (R:=fun r wz=>r=.bool (decide (2<=n.op/\n.op<=25))/\wz=W0.drew) 28 rfl rfl (by rfl) (by kernel_rfl) ?hrun2 ((q1k _ _).mono fun e w6 ⟨he,hb⟩=>⟨_,he,rfl,hb⟩) ?_
   case hrun2=>simp[execOp,go_sem]
   rintro r3 w3 ⟨rfl,hw⟩;subst hw;refine⟨zz,?_⟩;simp only[sX,sY,sZ];cases hop:decide (2<=n.op/\n.op<=25)
   . have HX:Hi (okNode n=false):=h_ (by rw[ho,hop];rfl)
     clear ho hop;refine tj 3 29 (.bool false) zz ?_;refine tn 4 30 zz ?_;refine tn 5 31 zz ?_;refine tn 6 32 zz ?_;simp only[sX,sY,sZ];refine tj 7 33 (.bool false) zz ?_;refine tj 8 34 (.bool false) zz ?_;refine tn 9 35 zz ?_;refine tn 10 36 zz ?_;simp only[sX,sY,sZ];refine tn 11 37 zz ?_;refine tn 12 38 zz ?_;refine tj 13 39 (.bool false) zz ?_;refine tj 14 2 (.bool false) zz ?_;simp only[sX,sY,sZ];refine wpAnyH_done (by kernel_rfl) ?_ _;clear zz;go_wp2;go_ret;exact⟨qdx HX.u.symm,HB.u.drew⟩
   rw[hop,Zs]at ho;clear hop;refine tj 3 29 (.bool true) zz ?_;refine tj 4 30 (Yd w.heap.size 4) zz ?_;refine tj 5 31 (.string n.nm) zz ?_;refine tj 6 32 (.bool (decide (n.nm.size=0))) zz ?_;simp only[sX,sY,sZ];refine tj 7 33 (.bool (decide (n.nm.size=0))) zz ?_;refine tj 8 34 (.bool (decide (n.nm.size=0))) zz ?_;simp only[sX,sY,sZ];rw[show decide (n.v.k=0/\n.v.n=0/\n.v.s.size=0)=zv n.v from rfl]at ho;cases hq:decide (n.nm.size=0)
   . have HX:Hi (okNode n=false):=h_ (by rw[ho,hq,Bool.and_false])
     clear ho hq e0;refine tn 9 35 zz ?_;refine tn 10 36 zz ?_;refine tn 11 37 zz ?_;refine tn 12 38 zz ?_;simp only[sX,sY,sZ];refine tj 13 39 (.bool false) zz ?_;refine tj 14 2 (.bool false) zz ?_;simp only[sX,sY,sZ];refine wpAnyH_done (by kernel_rfl) ?_ _;clear zz;go_wp2;go_ret;exact⟨qdx HX.u.symm,HB.u.drew⟩
   rw[hq,Bool.and_true]at ho;have HX:=h_ ho;clear ho hq e0;refine tj 9 35 (Yd w.heap.size 1) zz ?_;refine tj 10 36 (.agg #[Ya n.v.k,Ya n.v.n,.string n.v.s]) zz ?_;simp only[sX,sY,sZ];refine callY (i:=11) (f:=133) (args:=#[]) (R:=fun r wz=>r=vv blankX/\Below W0.heap.size W0 wz) 37 rfl rfl (by rfl) (by kernel_rfl) ?hrun3 ((q19 _).mono fun e w6 ⟨he,hb⟩=>⟨_,he,rfl,q23 hb⟩) ?_
   case hrun3=>simp[execOp,go_sem]
   rintro r3 w3 ⟨rfl,hb⟩;replace H0:=mB H0 hb;replace HB:=mT HB hb;clear hb;obtain⟨z0,z1,z2,z3,z4⟩:=five H0.u;replace zz:w3.cell? ⟨w.heap.size,0,none⟩=some (Ya n.op)/\w3.cell? ⟨w.heap.size,1,none⟩=some (Ya n.v.k)/\w3.cell? ⟨w.heap.size,2,none⟩=some (Ya n.v.n)/\w3.cell? ⟨w.heap.size,3,none⟩=some (.string n.v.s)/\w3.cell? ⟨w.heap.size,4,none⟩=some (.string n.nm):=⟨z0,z1,z2,z3,z4⟩;clear z0 z1 z2 z3 z4;refine⟨zz,?_⟩;simp only[sX,sY,sZ];unfold vv;refine tj 12 38 (.bool (eqX n.v blankX)) zz ?_ (hy:=fun w hS=>by simp[execOp,go_sem, *];unfold eqX blankX;(repeat' split) <;> simp_all);simp only[sX,sY,sZ];rw[zv_eq];refine tj 13 39 (.bool (zv n.v)) zz ?_;refine tj 14 2 (.bool (zv n.v)) zz ?_;simp only[sX,sY,sZ];refine wpAnyH_done (by kernel_rfl) ?_ _;clear zz;go_wp2;go_ret;exact⟨qdx HX.u.symm,HB.u⟩
def pv (p:Ph):Value:=.agg #[.string p.t,.int .i64 p.lv,.int .i64 p.d]
def PCel (w:World)(b o:Nat)(p:Ph):Prop:=b<w.heap.size/\w.cell? ⟨b,o,none⟩=some (.string p.t)/\w.cell? ⟨b,o+1,none⟩=some (.int .i64 p.lv)/\w.cell? ⟨b,o+2,none⟩=some (.int .i64 p.d)
theorem PCel.mono {w w':World}{b o:Nat}{p:Ph}(h:PCel w b o p)(hb:Below w.heap.size w w'):PCel w' b o p :=
 ⟨Y3 h.1 hb.size,(hb.cell h.1).trans h.2.1,(hb.cell h.1).trans h.2.2.1,(hb.cell h.1).trans h.2.2.2⟩
def Phs (w:World)(a:Option Addr)(l:List Ph):Prop:=∀k (h:k<l.length),∃b o,a=some ⟨b,o,none⟩/\PCel w b (o+k*3) l[k]
theorem Phs.mono {w w':World}{a:Option Addr}{l:List Ph}(h:Phs w a l)(hb:Below w.heap.size w w'):Phs w' a l:=fun k hk=>by
 obtain⟨b,o,e,hc⟩:=h k hk
 exact⟨b,o,e,hc.mono hb⟩
theorem q47 (p:Ph)(l:Int)(w:World)(hs:p.t.size<=2000000):Calls Tryz.prog 199 #[pv p,Ya l] w fun r w'=>r=.returned (.string (wrap l p))/\Below w.heap.size w w':=by
 unfold pv
 have HB:=h_ ((bR w.heap.size w).alloc (nR _) (.cells (J0 p.t p.lv p.d) 182))
 have HW:Hi (wrap l p=if p.lv<l then ⟨#[40]⟩++p.t++⟨#[41]⟩ else p.t):=h_ rfl
 obtain⟨t,ht⟩:=Nq (wrap l p)
 rw[ht]at HW⊢
 clear ht
 by_cases hq:p.lv<l
 . rw[Yn hq]at HW
   go_enter Tryz.func199,Tryz.ntmps199;go_wp2_with fail;go_ret;exact⟨qik HW.u.symm,HB.u⟩
 . rw[Yi hq]at HW
   go_enter Tryz.func199,Tryz.ntmps199;go_wp2_with fail;go_ret;exact⟨qik HW.u.symm,HB.u⟩
theorem qh0 (r:List ByteArray):(jt r).data.toList=Lib.joinTail [44,32] (r.map (·.data.toList)):=by
 induction r with
 | nil=>rfl
 | cons x r ih=>simp only[jt,Zu,Vq,ih,Vr,Lib.joinTail,List.flatten_cons]
theorem qgx (l:List ByteArray):jn l=⟨(Lib.join (l.map (·.data.toList)) [44,32]).toArray⟩:=by
 refine q88 ?_
 cases l with
 | nil=>rfl
 | cons x r=>rw[Vr,Lib.join_cons];simp only[jn,Zu,Vq,qh0]
def stV (l:List ByteArray):List Value:=l.map .string
theorem qcl:(Tryz.prog.info? 9).map (fun i=>(i.zero,i.size,i.bytes))=some (some Yc,1,16):=by kernel_rfl
theorem q79 (a:Option Addr)(c:Nat)(l:List Ph)(w:World)(hl:1<=l.length)(hl3:l.length<=3)(ha:Phs w a l)(hs:tot l<=2000000) :
 Calls Tryz.prog 200 #[.slice a l.length c] w fun r w'=>r=.returned (.string (jn (l.map (·.t))))/\Below w.heap.size w w':=by
 have HA:=h_ ha
 have hj:=(qgy l).2
 have HJ:=h_ (qgx (l.map (·.t)))
 obtain⟨n,hn⟩:=Nq l.length
 rw[hn]at hl hl3 hj⊢
 have HN:=h_ hn
 clear ha hn
 obtain⟨t,ht⟩:=Nq (jn (l.map (·.t)))
 rw[ht]at HJ hj⊢
 clear ht
 obtain⟨i0,hi,hz0,hz1,hz2⟩:=info_parts qcl
 have hbn:i0.bytes*n<=281474976710656:=by rw[hz2];omega
 obtain⟨B,hB⟩:=Nq w.heap.size
 go_enter Tryz.func200,Tryz.ntmps200
 go_wp2_with (at_make;refine wpList_make_own _ rfl _ _ 22 rfl w.heap.size 9 i0 _ 1 Tryz.underlying22 hi hz0 hz1 .i64 .i64 _ n rfl rfl rfl hbn (by unfold maxLen;omega) (nR _) ?_;intro w1 hown hgrow)
 have HB1:=h_ ((bR w.heap.size w).grown hgrow (nR _) (fun k h=>by cases h))
 rw[hB]at hown HB1
 have HO:=h_ hown
 clear hgrow hown hbn hi hz0 hz1 hz2
 go_wp2_with fail
 try rw[hB]
 go_loopw [3,5,11] (fun tx _ i wr=>∃k:Nat,k<=n/\tx=.slice (some ⟨B,0,none⟩) k n/\i=Ya k/\wr.ownsRow B 9 1 (.slice (some ⟨B,0,none⟩) k n) k (stV ((l.take k).map (·.t)))/\Below B w wr) (fun _ _ i _=>n - (intOf i).toNat)
 case atStart=>exact⟨0,nZ _,rfl,rfl,HO.u,HB1.u⟩
 case round =>
  clear HO HB1;obtain⟨k,hk,rfl,rfl,hO,hb⟩:=hrel;have HO:=h_ hO;have HB:=h_ hb;have HV:=h_ (HA.u.mono (hb.mono (by omega)));clear hO hb;by_cases hlt:k<n
  . have hlt':(k:Int)<n:=by omega
    have hkl:k<l.length:=(by have:=HN.u;omega);obtain⟨b,o,rfl,-,c0,c1,c2⟩:=HV.u k hkl;have HT:Hi ((l.take (k+1)).map (·.t)=(l.take k).map (·.t)++[l[k].t]):=h_ (by rw[Yq hkl,Zt];rfl);obtain⟨p,hp⟩:=Nq (l[k]);rw[hp]at HT c0 c1 c2;clear hp;obtain⟨i0,hi,hz0,hz1,hz2⟩:=info_parts qcl;obtain⟨W,hW⟩:=Nq (wr.alloc (.cells (J0 p.t p.lv p.d) 182));have HO1:Hi (W.ownsRow B 9 1 (.slice (some ⟨B,0,none⟩) k n) k (stV ((l.take k).map (·.t)))):=h_ (by rw[<- hW];exact HO.u.alloc _);have HB1:Hi (Below B w W):=h_ (by rw[<- hW];exact HB.u.alloc (by have:=HB.u.size;omega) _);have HK:Hi (Blk W wr.heap.size 182 [.string p.t,Ya p.lv,Ya p.d]):=h_ (by rw[<- hW];exact Blk.new wr 182 (J0 p.t p.lv p.d));obtain⟨y0,y1,y2⟩:=three HK.u;go_wp2_with (at_builtin;refine wpList_append_fits _ rfl _ _ 22 rfl B 9 i0 1 Tryz.underlying22 hi hz1 B k n _ rfl (HO1.u.alloc _) ⟨W.heap.size,0,none⟩ 1 1 [.string p.t] rfl rfl (qbm W 9 _) (by simp[Value.oneCell']) (by omega) ?_);intro w3 ho' hgr';have hB2:=(HB1.u.alloc (by have:=HB1.u.size;omega) (.cells #[.string p.t] 9)).grown hgr' (by have:=HB1.u.size;simp;omega) (fun q' e=>by cases e;exact nR _);have HO2:Hi (w3.ownsRow B 9 1 (.slice (some ⟨B,0,none⟩) (k+1) n) (k+1) (stV ((l.take (k+1)).map (·.t)))):=h_ (by rw[HT.u];simpa [stV] using ho');have HB2:=h_ hB2;clear ho' hgr' hB2 hi hz0 hz1 hz2 HO HB HO1 HB1 HK c0 c1 c2 y0 y1 y2 hW;go_wp2_with fail;go_roundw
    case rel=>first | exact⟨k+1,by omega,rfl,by go_num,HO2.u,HB2.u⟩ | ((repeat apply Exists.intro);exact⟨⟨k+1,by omega,rfl,by go_num,HO2.u,HB2.u⟩,rfl⟩)
    case measure=>simp[intOf];omega
  . obtain rfl:k=n:=by omega
    have hO:=HO.u;rw[Za (by have:=HN.u;omega)]at hO;have HC:Hi (∀(j:Nat) x,(l.map (·.t))[j]? = some x->wr.cell? ⟨B,0+j,none⟩=some (.string x)):=h_ fun j x hx=>by
     have hj:j<(l.map (·.t)).length:=(Z6.1 hx).1;have:=hO.cellAt j (by rw[Zf]at hj;have:=HN.u;omega);rw[Z3];rw[show(⟨B,j,none⟩:Addr)=⟨B,j,none⟩ from rfl];rw[this];simp only[stV,Vs,hx,Option.map_some]
    have hlen2:(l.map (·.t)).length=k:=(by rw[Zf];exact HN.u);have hblt:B<wr.heap.size:=by
     rcases hO.2 with ⟨h',_⟩ | ⟨g',cap',cur,h',_,hg,_⟩
     . simp at h'
     . simp only[Value.slice.injEq,Zr,Addr.mk.injEq,and_true,true_and]at h'
       obtain⟨rfl,-⟩:=h';exact(Zc.1 hg).1
    clear hO;go_wp2_with fail;have hJ:=HJ.u;refine(show Calls Tryz.prog 107 #[.slice (some ⟨B,0,none⟩) k k,.string ⟨#[44,32]⟩] wr fun r w'=>r=.returned (.string t)/\Below wr.heap.size wr w' from ?_).mono ?_
    . have hc:=Tryz.strings_Join B 0 k (l.map (·.t)) ⟨#[44,32]⟩ wr HC.u hblt (by omega) (by omega) (by
       have e:t.size=(Lib.join ((l.map (·.t)).map (·.data.toList)) [44,32]).length:=(by rw[hJ];rfl);show(Lib.join ((l.map (·.t)).map (·.data.toList)) [44,32]).length<=_;omega)
      rw[hlen2]at hc;refine hc.mono fun r w' ⟨h1,h2⟩=>⟨?_,h2⟩;rw[h1,hJ]
    rintro r w2 ⟨rfl,hb⟩;have HB2:=h_ (HB.u.trans (hb.mono (by have:=HB.u.size;omega)));clear hb hJ;go_wp2_with fail;go_ret;exact⟨rfl,by rw[hB];exact HB2.u⟩
def Wrds (w:World):Prop:=3<w.heap.size/\∀k,k<26->w.cell? ⟨3,k,none⟩=some (.string (wrdT.getD k ⟨#[]⟩))
theorem Wrds.mono {w w':World}(h:Wrds w)(hb:Below w.heap.size w w'):Wrds w':=⟨Y3 h.1 hb.size,fun k hk=>(hb.cell h.1).trans (h.2 k hk)⟩
theorem Wrds.at {w:World}(h:Wrds w){op:Int}(h0:0<=op)(h1:op<=25):w.cell? ⟨3,op.toNat,none⟩=some (.string (wrd op)):=h.2 op.toNat (by omega)
theorem qhb (op:Int):1<=lvl op/\lvl op<=7:=by
 unfold lvl
 (repeat' split) <;> omega
theorem q9s {n:Nx}(h:okNode n=true):0<=n.op/\n.op<=25:=by
 rcases ops2 n.op with h0 | h0 | ⟨h0,h1⟩
 . omega
 . omega
 . rw[okNode2 h0 h1]at h
   simp only[Yo,Yj]at h;omega
theorem q21 (n:Nx)(a:Option Addr)(c:Nat)(l:List Ph)(w:World)(hok:okNode n=true)(hf:Fit n)(hl:l.length=arn n)(ha:Phs w a l)(hs:tot l<=2000000)(hw:Wrds w)(hp:Pow w) :
 Calls Tryz.prog 188 #[nv n,.slice a (arn n) c] w fun r w'=>r=.returned (.string (phT n l))/\Below w.heap.size w w':=by
 unfold nv
 obtain⟨hop0,hop25⟩:=q9s hok
 obtain⟨W0,hW0⟩:=Nq (w.alloc (.cells (Jh n) 133))
 have HK:=h_ (Blk.new w 133 (Jh n))
 have HB:=h_ ((bR w.heap.size w).alloc (nR _) (.cells (Jh n) 133))
 rw[hW0]at HK HB
 have HA:=h_ (ha.mono HB.u);have HP:=h_ (hp.mono HB.u)
 have hwc:=(hw.mono HB.u).at hop0 hop25
 have HT:Hi (phT n l=phT n l):=h_ rfl
 obtain⟨t,ht⟩:=Nq (phT n l)
 rw[ht]
 have HX:=h_ ht
 obtain⟨y0,y1,y2,y3,y4⟩:=five HK.u
 have HL:=h_ hl;have HS:=h_ hs
 clear ha hw hp HT ht hl hs
 go_enter Tryz.func188,Tryz.ntmps188
 go_wp2_with fail
 try rw[hW0]
 clear hW0
 have hopn:((n.op.toNat:Nat):Int)=n.op:=by omega
 refine wp_region_held_drew (S:=fun w'=>w'.cell? ⟨w.heap.size,0,none⟩=some (Ya n.op)/\w'.cell? ⟨3,n.op.toNat,none⟩=some (.string (wrd n.op))) (by kernel_rfl) ⟨y0,hwc⟩ (fun zz=>?_)
 clear y0 y1 y2 y3 y4 hwc
 refine tj 0 8 (Yd w.heap.size 0) zz ?_
 refine tj 1 9 (Ya n.op) zz ?_
 refine tj 3 11 (Yd w.heap.size 0) zz ?_
 refine tj 4 12 (Ya n.op) zz ?_
 simp only[sX,sY,sZ]
 refine tj 5 13 (Yd 3 n.op.toNat) zz ?_ (hy:=fun w hS=>by simp[execOp,go_sem, *];intro h;omega)
 refine tj 6 14 (.string (wrd n.op)) zz ?_
 simp only[sX,sY,sZ]
 refine callY (i:=2) (f:=189) (args:=#[Ya n.op]) (R:=fun r wz=>r=Ya (lvl n.op)/\wz=W0.drew) 10 rfl rfl (by rfl) (by kernel_rfl) ?hrun0 ((q59 _ _).mono fun e w6 ⟨he,hb⟩=>⟨_,he,rfl,hb⟩) ?_
 case hrun0=>simp[execOp,go_sem]
 rintro r3 w3 ⟨rfl,hw⟩
 subst hw
 refine⟨zz,?_⟩
 simp only[sX,sY,sZ]
 refine tj 7 5 (Ya (lvl n.op)) zz ?_
 refine tj 8 6 (.string (wrd n.op)) zz ?_
 simp only[sX,sY,sZ]
 refine wpAnyH_done (by kernel_rfl) ?_ _
 clear zz hopn
 have HD:Hi (Below W0.heap.size W0 W0.drew):=h_ ((bR _ _).drew)
 replace HB:=h_ (HB.u.trans (HD.u.mono HB.u.size));replace HK:=h_ (HK.u.mono HD.u HK.u.lt);replace HA:=h_ (HA.u.mono HD.u);replace HP:=h_ (HP.u.mono HD.u)
 clear HD
 obtain⟨W1,hW1⟩:=Nq W0.drew
 rw[hW1]at HB HK HA HP⊢
 clear hW1
 obtain⟨W0,hW0⟩:∃W0,W0=W1:=⟨_,rfl⟩
 subst hW0
 obtain⟨y0,y1,y2,y3,y4⟩:=five HK.u
 rcases ops2 n.op with h | h | ⟨h,h'⟩
 . have HY:Hi (showB n.v.k n.v.n n.v.s=t):=h_ (by rw[<- HX.u,phT,Yn h])
   rw[h]at y0;go_wp2_with fail;refine(q31 _ _ _ _ hf.1 hf.2.2.1 hf.2.2.2 HP.u).mono ?_;rintro r w2 ⟨rfl,hb⟩;replace HB:=mT HB hb;clear hb;go_wp2_with fail;go_ret;exact⟨qik HY.u,HB.u⟩
 . have HY:Hi (n.nm=t):=h_ (by rw[<- HX.u,phT,Yi (by omega),Yn h])
   rw[h]at y0;go_wp2_with fail;go_ret;exact⟨qik HY.u,HB.u⟩
 have n0:(n.op==0)=false:=Ye.2 h
 have n1:(n.op==1)=false:=Ye.2 h'
 have hop:2<=n.op:=by omega
 have hwsz:=qf7 hop hop25
 have hfa:=hf
 clear hf hfa
 by_cases h2:n.op=2
 . have e1:arn n=1:=by unfold arn;rw[ar_one (.inl h2)];rfl
   rw[e1]at HL⊢;obtain⟨x,rfl⟩:=list1 HL.u;have HY:Hi (⟨#[45]⟩++wrap 6 x=t):=h_ (by rw[<- HX.u,phT,Yi h,Yi h',Yn h2];rfl);obtain⟨b1,o1,rfl,-,c0,c1,c2⟩:=HA.u 0 (by simp);simp only[Vd,Vm,Zq]at c0 c1 c2;have hsx:x.t.size<=2000000:=by have:=HS.u;simp only[tot]at this;omega
   have hws:=qaz 6 x;rw[h2]at y0;rw[show wrd n.op=⟨#[45]⟩ by rw[h2];rfl,show lvl n.op=6 by rw[h2];rfl];clear n0 n1 hop h h' h2 hwsz;go_wp2_with fail;refine(q47 x 6 _ hsx).mono ?_;rintro r w2 ⟨rfl,hb⟩;replace HB:=mT HB hb;generalize wrap 6 x=q at *;clear hb;go_wp2_with fail;go_ret;exact⟨qik HY.u,HB.u⟩
 by_cases h3:n.op=3
 . have e1:arn n=1:=by unfold arn;rw[ar_one (.inr h3)];rfl
   rw[e1]at HL⊢;obtain⟨x,rfl⟩:=list1 HL.u;have HY:Hi (⟨#[110,111,116,32]⟩++wrap 6 x=t):=h_ (by rw[<- HX.u,phT,Yi h,Yi h',Yi h2,Yn h3];rfl);obtain⟨b1,o1,rfl,-,c0,c1,c2⟩:=HA.u 0 (by simp);simp only[Vd,Vm,Zq]at c0 c1 c2;have hsx:x.t.size<=2000000:=by have:=HS.u;simp only[tot]at this;omega
   have hws:=qaz 6 x;rw[h3]at y0;rw[show wrd n.op=⟨#[110,111,116]⟩ by rw[h3];rfl,show lvl n.op=6 by rw[h3];rfl];clear n0 n1 hop h h' h2 h3 hwsz;go_wp2_with fail;refine(q47 x 6 _ hsx).mono ?_;rintro r w2 ⟨rfl,hb⟩;replace HB:=mT HB hb;generalize wrap 6 x=q at *;clear hb;go_wp2_with fail;go_ret;exact⟨qik HY.u,HB.u⟩
 have n2:(n.op==2)=false:=Ye.2 h2
 have n3:(n.op==3)=false:=Ye.2 h3
 by_cases h7:lvl n.op=7
 . have HY:Hi (wrd n.op++⟨#[40]⟩++jn (l.map (·.t))++⟨#[41]⟩=t):=h_ (by rw[<- HX.u,phT,Yi h,Yi h',Yi h2,Yi h3,Yn h7])
   have har:=arn_le n;have har1:1<=arn n:=by
    have:=qbd n;have e:=ar_opn n.op;rw[Yn (by omega)]at e;have:1<=opn n.op:=(by unfold opn;(repeat' split) <;> omega);omega
   have hjs:=qgy l;have hst:=HS.u;rw[HL.u]at hjs;rw[h7];clear h h' h2 h3 h7;generalize wrd n.op=wd at *;go_wp2_with fail;refine(show Calls Tryz.prog 200 #[.slice a (arn n) c] W0 fun r w'=>r=.returned (.string (jn (l.map (·.t))))/\Below W0.heap.size W0 w' from ?_).mono ?_
   . rw[<- HL.u];exact q79 a c l W0 (by have:=HL.u;omega) (by have:=HL.u;omega) HA.u HS.u
   rintro r w2 ⟨rfl,hb⟩;replace HB:=mT HB hb;clear hb;generalize jn (l.map (·.t))=q at *;have hA:(wd++(⟨#[40]⟩:ByteArray)).size=wd.size+1:=by rw[Ym];rfl
   have hA2:(wd++(⟨#[40]⟩:ByteArray)++q).size=wd.size+1+q.size:=by rw[Ym,hA]
   go_wp2_with fail;go_ret;exact⟨qik HY.u,HB.u⟩
 . have e2:arn n=2:=by unfold arn;rw[ar_two hop hop25 h7 h2 h3];rfl
   rw[e2]at HL⊢;obtain⟨x,y,rfl⟩:=list2 HL.u;have HY:Hi (wrap (lft n.op) x++⟨#[32]⟩++wrd n.op++⟨#[32]⟩++wrap (lvl n.op+1) y=t):=h_ (by rw[<- HX.u,phT,Yi h,Yi h',Yi h2,Yi h3,Yi h7];rfl);have hg0:=HA.u 0 (by simp);have hg1:=HA.u 1 (by simp);obtain⟨b1,o1,rfl,hc0⟩:=hg0;obtain⟨b2,o2,e12,hc1⟩:=hg1;cases e12;simp only[Vd,List.getElem_cons_succ,Vm,Nat.one_mul,Zq]at hc0 hc1;have HC:=h_ (And.intro hc0 hc1);have hsx:x.t.size+y.t.size<=2000000:=by have:=HS.u;simp only[tot]at this;omega
   have hlv:=qhb n.op;have HLf:Hi (lft n.op=if lvl n.op=3 then 4 else lvl n.op):=h_ rfl;obtain⟨lv,hlve⟩:=Nq (lvl n.op);obtain⟨lf,hlfe⟩:=Nq (lft n.op);rw[hlve]at HY HLf h7 hlv⊢;rw[hlfe]at HY HLf;have n7:(lv==7)=false:=Ye.2 h7;clear hlve hlfe h h' h2 h3;by_cases h3:lv=3
   . have hl4:lf=4:=by rw[HLf.u,Yn h3]
     subst h3 hl4;simp only[show(3:Int)+1=4 from rfl]at HY;clear HLf n7 h7 hlv;go_wp2_with fail;refine wp_region_held_drew (S:=fun w'=>PCel w' b1 o1 x/\PCel w' b1 (o1+3) y) (by kernel_rfl) ⟨hc0,hc1⟩ (fun zz=>?_);refine tj 0 65 (.slice (some ⟨b1,o1,none⟩) 2 c) zz ?_;refine tj 1 66 (Yd b1 o1) zz ?_;refine tj 2 67 (.agg (J0 x.t x.lv x.d)) zz ?_ (hy:=fun w hS=>by obtain⟨⟨-,q0,q1,q2⟩,-,q3,q4,q5⟩:=hS;simp[execOp,go_sem,q0,q1,q2]);refine tj 3 68 (Ya 4) zz ?_;simp only[sX,sY,sZ];refine tj 6 71 (.string (wrd n.op)) zz ?_;refine tj 9 74 (.slice (some ⟨b1,o1,none⟩) 2 c) zz ?_;refine tj 10 75 (Yd b1 (o1+3)) zz ?_;refine tj 11 76 (.agg (J0 y.t y.lv y.d)) zz ?_ (hy:=fun w hS=>by obtain⟨⟨-,q0,q1,q2⟩,-,q3,q4,q5⟩:=hS;simp[execOp,go_sem,q3,q4,q5]);simp only[sX,sY,sZ];refine tj 12 77 (Ya 3) zz ?_;refine tj 13 78 (Ya 4) zz ?_ (hy:=fun w hS=>by simp[execOp,go_sem, *];rfl);simp only[sX,sY,sZ];refine callY (i:=4) (f:=199) (args:=#[.agg (J0 x.t x.lv x.d),Ya 4]) (R:=fun r wz=>r=.string (wrap 4 x)/\Below W0.heap.size W0 wz) 69 rfl rfl (by rfl) (by kernel_rfl) ?hrun1 ((q47 x 4 _ (by omega)).mono fun e w6 ⟨he,hb⟩=>⟨_,he,rfl,q23 hb⟩) ?_
     case hrun1=>simp[execOp,go_sem]
     rintro r3 W4 ⟨rfl,hb⟩;replace HB:=mT HB hb;replace zz:PCel W4 b1 o1 x/\PCel W4 b1 (o1+3) y:=⟨HC.u.1.mono hb,HC.u.2.mono hb⟩;clear hb hc0 hc1;refine⟨zz,?_⟩;simp only[sX,sY,sZ];have ht1:=qaz 4 x;have ht2:=qaz 4 y;obtain⟨t1,ht1e⟩:=Nq (wrap 4 x);rw[ht1e]at HY ht1⊢;clear ht1e;have hA:(t1++(⟨#[32]⟩:ByteArray)).size=t1.size+1:=(by rw[Ym];rfl);obtain⟨wd,hwde⟩:=Nq (wrd n.op);rw[hwde]at HY hwsz⊢;clear hwde;refine tj 5 70 (.string (t1++⟨#[32]⟩)) zz ?_ (hy:=fun w hS=>by have:=run_string_add_sum (P:=Tryz.prog) w t1 ⟨#[32]⟩ (by show t1.size+1<=_;omega);simp[execOp,go_sem,this]);simp only[sX,sY,sZ];have hA2:(t1++(⟨#[32]⟩:ByteArray)++wd).size=t1.size+1+wd.size:=(by rw[Ym,hA]);refine tj 7 72 (.string (t1++⟨#[32]⟩++wd)) zz ?_ (hy:=fun w hS=>by have:=run_string_add_sum (P:=Tryz.prog) w (t1++⟨#[32]⟩) wd (by omega);simp[execOp,go_sem,this]);simp only[sX,sY,sZ];have hA3:(t1++(⟨#[32]⟩:ByteArray)++wd++⟨#[32]⟩).size=t1.size+1+wd.size+1:=(by rw[Ym,hA2];rfl);refine tj 8 73 (.string (t1++⟨#[32]⟩++wd++⟨#[32]⟩)) zz ?_ (hy:=fun w hS=>by have:=run_string_add_sum (P:=Tryz.prog) w (t1++⟨#[32]⟩++wd) ⟨#[32]⟩ (by rw[hA2];show t1.size+1+wd.size+1<=_;omega);simp[execOp,go_sem,this]);simp only[sX,sY,sZ];refine callY (i:=14) (f:=199) (args:=#[.agg (J0 y.t y.lv y.d),Ya 4]) (R:=fun r wz=>r=.string (wrap 4 y)/\Below W4.heap.size W4 wz) 79 rfl rfl (by rfl) (by kernel_rfl) ?hrun2 ((q47 y 4 _ (by omega)).mono fun e w6 ⟨he,hb⟩=>⟨_,he,rfl,hb⟩) ?_
     case hrun2=>simp[execOp,go_sem]
     rintro r3 W5 ⟨rfl,hb⟩;replace HB:=mT HB hb;replace zz:PCel W5 b1 o1 x/\PCel W5 b1 (o1+3) y:=⟨zz.1.mono hb,zz.2.mono hb⟩;clear hb;refine⟨zz,?_⟩;simp only[sX,sY,sZ];obtain⟨t2,ht2e⟩:=Nq (wrap 4 y);rw[ht2e]at HY ht2⊢;clear ht2e;obtain⟨u3,hu3⟩:=Nq (t1++(⟨#[32]⟩:ByteArray)++wd++⟨#[32]⟩);rw[hu3]at HY hA3⊢;clear hu3 hA hA2;refine tj 15 80 (.string (u3++t2)) zz ?_ (hy:=fun w hS=>by have:=run_string_add_sum (P:=Tryz.prog) w u3 t2 (by omega);simp[execOp,go_sem,this]);refine tj 16 4 (.string (u3++t2)) zz ?_;simp only[sX,sY,sZ];refine wpAnyH_done (by kernel_rfl) ?_ _;clear zz;go_wp2;go_ret;exact⟨qik HY.u,HB.u⟩
   . have hl4:lf=lv:=by rw[HLf.u,Yi h3]
     subst hl4;have n3':(lf==3)=false:=Ye.2 h3;clear HLf h7 h3;go_wp2_with fail;refine wp_region_held_drew (S:=fun w'=>PCel w' b1 o1 x/\PCel w' b1 (o1+3) y) (by kernel_rfl) ⟨hc0,hc1⟩ (fun zz=>?_);refine tj 0 65 (.slice (some ⟨b1,o1,none⟩) 2 c) zz ?_;refine tj 1 66 (Yd b1 o1) zz ?_;refine tj 2 67 (.agg (J0 x.t x.lv x.d)) zz ?_ (hy:=fun w hS=>by obtain⟨⟨-,q0,q1,q2⟩,-,q3,q4,q5⟩:=hS;simp[execOp,go_sem,q0,q1,q2]);refine tj 3 68 (Ya lf) zz ?_;simp only[sX,sY,sZ];refine tj 6 71 (.string (wrd n.op)) zz ?_;refine tj 9 74 (.slice (some ⟨b1,o1,none⟩) 2 c) zz ?_;refine tj 10 75 (Yd b1 (o1+3)) zz ?_;refine tj 11 76 (.agg (J0 y.t y.lv y.d)) zz ?_ (hy:=fun w hS=>by obtain⟨⟨-,q0,q1,q2⟩,-,q3,q4,q5⟩:=hS;simp[execOp,go_sem,q3,q4,q5]);simp only[sX,sY,sZ];refine tj 12 77 (Ya lf) zz ?_;refine tj 13 78 (Ya (lf+1)) zz ?_ (hy:=fun w hS=>by simp[execOp,go_sem, *];rw[IntKind.wrap_i64];omega);simp only[sX,sY,sZ];refine callY (i:=4) (f:=199) (args:=#[.agg (J0 x.t x.lv x.d),Ya lf]) (R:=fun r wz=>r=.string (wrap lf x)/\Below W0.heap.size W0 wz) 69 rfl rfl (by rfl) (by kernel_rfl) ?hrun1 ((q47 x lf _ (by omega)).mono fun e w6 ⟨he,hb⟩=>⟨_,he,rfl,q23 hb⟩) ?_
     case hrun1=>simp[execOp,go_sem]
     rintro r3 W4 ⟨rfl,hb⟩;replace HB:=mT HB hb;replace zz:PCel W4 b1 o1 x/\PCel W4 b1 (o1+3) y:=⟨HC.u.1.mono hb,HC.u.2.mono hb⟩;clear hb hc0 hc1;refine⟨zz,?_⟩;simp only[sX,sY,sZ];have ht1:=qaz lf x;have ht2:=qaz (lf+1) y;obtain⟨t1,ht1e⟩:=Nq (wrap lf x);rw[ht1e]at HY ht1⊢;clear ht1e;have hA:(t1++(⟨#[32]⟩:ByteArray)).size=t1.size+1:=(by rw[Ym];rfl);obtain⟨wd,hwde⟩:=Nq (wrd n.op);rw[hwde]at HY hwsz⊢;clear hwde;refine tj 5 70 (.string (t1++⟨#[32]⟩)) zz ?_ (hy:=fun w hS=>by have:=run_string_add_sum (P:=Tryz.prog) w t1 ⟨#[32]⟩ (by show t1.size+1<=_;omega);simp[execOp,go_sem,this]);simp only[sX,sY,sZ];have hA2:(t1++(⟨#[32]⟩:ByteArray)++wd).size=t1.size+1+wd.size:=(by rw[Ym,hA]);refine tj 7 72 (.string (t1++⟨#[32]⟩++wd)) zz ?_ (hy:=fun w hS=>by have:=run_string_add_sum (P:=Tryz.prog) w (t1++⟨#[32]⟩) wd (by omega);simp[execOp,go_sem,this]);simp only[sX,sY,sZ];have hA3:(t1++(⟨#[32]⟩:ByteArray)++wd++⟨#[32]⟩).size=t1.size+1+wd.size+1:=(by rw[Ym,hA2];rfl);refine tj 8 73 (.string (t1++⟨#[32]⟩++wd++⟨#[32]⟩)) zz ?_ (hy:=fun w hS=>by have:=run_string_add_sum (P:=Tryz.prog) w (t1++⟨#[32]⟩++wd) ⟨#[32]⟩ (by rw[hA2];show t1.size+1+wd.size+1<=_;omega);simp[execOp,go_sem,this]);simp only[sX,sY,sZ];refine callY (i:=14) (f:=199) (args:=#[.agg (J0 y.t y.lv y.d),Ya (lf+1)]) (R:=fun r wz=>r=.string (wrap (lf+1) y)/\Below W4.heap.size W4 wz) 79 rfl rfl (by rfl) (by kernel_rfl) ?hrun2 ((q47 y (lf+1) _ (by omega)).mono fun e w6 ⟨he,hb⟩=>⟨_,he,rfl,hb⟩) ?_
     case hrun2=>simp[execOp,go_sem]
     rintro r3 W5 ⟨rfl,hb⟩;replace HB:=mT HB hb;replace zz:PCel W5 b1 o1 x/\PCel W5 b1 (o1+3) y:=⟨zz.1.mono hb,zz.2.mono hb⟩;clear hb;refine⟨zz,?_⟩;simp only[sX,sY,sZ];obtain⟨t2,ht2e⟩:=Nq (wrap (lf+1) y);rw[ht2e]at HY ht2⊢;clear ht2e;obtain⟨u3,hu3⟩:=Nq (t1++(⟨#[32]⟩:ByteArray)++wd++⟨#[32]⟩);rw[hu3]at HY hA3⊢;clear hu3 hA hA2;refine tj 15 80 (.string (u3++t2)) zz ?_ (hy:=fun w hS=>by have:=run_string_add_sum (P:=Tryz.prog) w u3 t2 (by omega);simp[execOp,go_sem,this]);refine tj 16 4 (.string (u3++t2)) zz ?_;simp only[sX,sY,sZ];refine wpAnyH_done (by kernel_rfl) ?_ _;clear zz;go_wp2;go_ret;exact⟨qik HY.u,HB.u⟩
end Go.Proofs.YtfmammdgehbjhaaGreatDoor
