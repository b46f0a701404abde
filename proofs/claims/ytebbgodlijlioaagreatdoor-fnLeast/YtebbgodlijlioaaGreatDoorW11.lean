import Derived.Test.YtebbgodlijlioaaGreatDoorW08
import Derived.Test.YtebbgodlijlioaaGreatDoorW09
import Derived.Test.YtebbgodlijlioaaGreatDoorW04
import Derived.Test.YtebbgodlijlioaaGreatDoorShelf2
set_option maxRecDepth 100000
set_option maxHeartbeats 64000000
namespace Go.Proofs.YtebbgodlijlioaaGreatDoor
open Go Go.RowKit
def zv (u:Vx):Bool:=decide (u.k=0/\u.n=0/\u.s.size=0)
theorem zv_eq (u:Vx):eqX u blankX=zv u:=by
 have:(u.s.toList=[]) ↔ u.s.size=0:=by
  have:=empty0 u.s;rw[Zn]at this;simpa using this
 unfold eqX zv blankX
 by_cases h1:u.k=0
 . by_cases h2:u.n=0
   . simp[h1,h2,this]
   . simp[h1,h2]
 . simp[h1]
theorem q1k (u:Vx)(w:World)(hs:u.s.size<=9223372036854775807):Calls Tryz.prog 202 #[vv u] w fun e w'=>e=.returned (.bool (okVal u.k u.n u.s&&decide (u.k≠4)&&decide (0<=u.n)))/\Below w.heap.size w w':=by
 unfold vv
 have H0:=h_ (Blk.new w 94 #[J9 u.k,J9 u.n,.string u.s])
 have HB:=h_ ((bR w.heap.size w).alloc (nR _) (.cells #[J9 u.k,J9 u.n,.string u.s] 94))
 obtain⟨r,hr⟩:=Nq ((okVal u.k u.n u.s&&decide (u.k≠4)&&decide (0<=u.n)))
 rw[hr]
 go_enter Tryz.func202,Tryz.ntmps202
 go_wp2_with fail
 refine(q1j _ _ _ _ hs).mono ?_
 rintro e w1 ⟨rfl,hb1⟩
 replace H0:=mB H0 hb1;replace HB:=mT HB hb1;clear hb1
 obtain⟨z0,z1,z2⟩:=three H0.u
 cases hv:okVal u.k u.n u.s
 . rw[hv]at hr
   have HX:Hi (false=r):=h_ hr;clear hr hv;go_wp2_with fail;go_ret;exact⟨qe9 HX.u,HB.u⟩
 . rw[hv,Zc]at hr
   by_cases h4:u.k=4
   . have HX:Hi (false=r):=h_ (by rw[<- hr,Yi (fun h=>h h4)];rfl);clear hr hv
     rw[h4]at z0 H0;go_wp2_with fail;go_ret;exact⟨qe9 HX.u,HB.u⟩
   . rw[Ym h4,Zc]at hr
     have h4':(u.k != 4)=true:=(by simp[h4]);have HX:=h_ hr;clear hr hv h4;go_wp2_with fail;go_ret;exact⟨qe9 HX.u,HB.u⟩
theorem q0d (n:Nx)(w:World):Calls Tryz.prog 197 #[nv n] w fun e w'=>e=.returned (J9 (arn n))/\Below w.heap.size w w':=by
 rw[qc4,ar_opn]
 unfold nv
 have H0:=h_ (Blk.new w 96 #[J9 n.op,J9 n.v.k,J9 n.v.n,.string n.v.s,.string n.nm])
 have HB:=h_ ((bR w.heap.size w).alloc (nR _) (.cells #[J9 n.op,J9 n.v.k,J9 n.v.n,.string n.v.s,.string n.nm] 96))
 by_cases h:2<=n.op/\n.op<=25
 . rw[Yy h]
   go_enter Tryz.func197,Tryz.ntmps197;go_wp2_with (first | (go_at_call 204;refine(q1n _ _).mono ?_;rintro e w' ⟨rfl,hw⟩;replace hw:=hw.symm;subst hw;rw[Ym h]) | (go_at_call 205;refine(q20 _ _).mono ?_;rintro e w' ⟨rfl,hw⟩;replace hw:=hw.symm;subst hw));go_ret;exact⟨rfl,HB.u⟩
 . rw[Yu h]
   go_enter Tryz.func197,Tryz.ntmps197;go_wp2_with (go_at_call 204;refine(q1n _ _).mono ?_;rintro e w' ⟨rfl,hw⟩;replace hw:=hw.symm;subst hw;rw[Yi h]);go_ret;exact⟨rfl,HB.u⟩
theorem q77 (n:Nx)(w:World)(hf:Fit n):Calls Tryz.prog 196 #[nv n] w fun e w'=>e=.returned (.bool (okNode n))/\Below w.heap.size w w':=by
 obtain⟨hs,hm,-,-⟩:=hf
 unfold nv
 obtain⟨W0,hW0⟩:=Nq (w.alloc (.cells #[J9 n.op,J9 n.v.k,J9 n.v.n,.string n.v.s,.string n.nm] 96))
 have H0:=h_ (Blk.new w 96 #[J9 n.op,J9 n.v.k,J9 n.v.n,.string n.v.s,.string n.nm])
 have HB:=h_ ((bR w.heap.size w).alloc (nR _) (.cells #[J9 n.op,J9 n.v.k,J9 n.v.n,.string n.v.s,.string n.nm] 96))
 rw[hW0]at H0 HB
 have e0:=empty0 n.nm
 rcases ops2 n.op with h | h | ⟨h,h'⟩
 . have ho:=okNode0 h
   rw[h]at H0 hW0⊢;clear h;obtain⟨z0,z1,z2,z3,z4⟩:=five H0.u;by_cases h0:n.nm.size=0
   . rw[Ym h0]at e0 ho
     rw[Zc]at ho;have HX:=h_ ho;clear ho;go_enter Tryz.func196,Tryz.ntmps196;go_wp2_with fail
     try rw[hW0]
     refine(q1k n.v _ hs).mono ?_;rintro e w1 ⟨rfl,hb1⟩;replace HB:=mT HB hb1;clear hb1;generalize (okVal n.v.k n.v.n n.v.s&&decide (n.v.k≠4)&&decide (0<=n.v.n))=r at *;cases r
     all_goals
      go_wp2_with fail;go_ret;exact⟨qe9 HX.u.symm,HB.u⟩
   . rw[Yi h0]at e0 ho
     have HX:Hi (okNode n=false):=h_ ho;clear ho h0;go_enter Tryz.func196,Tryz.ntmps196;go_wp2_with fail;go_ret;exact⟨qe9 HX.u.symm,HB.u⟩
 . have ho:=okNode1 h
   rw[h]at H0 hW0⊢;clear h;obtain⟨z0,z1,z2,z3,z4⟩:=five H0.u;go_enter Tryz.func196,Tryz.ntmps196;go_wp2_with fail
   try rw[hW0]
   clear hW0;refine wp_region_held_drew (S:=fun w'=>w'.cell? ⟨w.heap.size,1,none⟩=some (J9 n.v.k)/\w'.cell? ⟨w.heap.size,2,none⟩=some (J9 n.v.n)/\w'.cell? ⟨w.heap.size,3,none⟩=some (.string n.v.s)/\w'.cell? ⟨w.heap.size,4,none⟩=some (.string n.nm)) (by kernel_rfl) ⟨z1,z2,z3,z4⟩ (fun zz=>?_);clear z0 z1 z2 z3 z4;refine tj 0 17 (Yc w.heap.size 1) zz ?_;refine tj 1 18 (.agg #[J9 n.v.k,J9 n.v.n,.string n.v.s]) zz ?_;simp only[sX,sY,sZ];refine callY (i:=2) (f:=203) (args:=#[]) (R:=fun r wz=>r=vv blankX/\Below W0.heap.size W0 wz) 19 rfl rfl (by rfl) (by kernel_rfl) ?hrun2 ((q19 _).mono fun e w6 ⟨he,hb⟩=>⟨_,he,rfl,q28 hb⟩) ?_
   case hrun2=>simp[execOp,go_sem]
   rintro r3 w3 ⟨rfl,hb⟩;replace H0:=mB H0 hb;replace HB:=mT HB hb;clear hb;obtain⟨z0,z1,z2,z3,z4⟩:=five H0.u;replace zz:w3.cell? ⟨w.heap.size,1,none⟩=some (J9 n.v.k)/\w3.cell? ⟨w.heap.size,2,none⟩=some (J9 n.v.n)/\w3.cell? ⟨w.heap.size,3,none⟩=some (.string n.v.s)/\w3.cell? ⟨w.heap.size,4,none⟩=some (.string n.nm):=⟨z1,z2,z3,z4⟩;clear z0 z1 z2 z3 z4;refine⟨zz,?_⟩;simp only[sX,sY,sZ];unfold vv;refine tj 3 20 (.bool (eqX n.v blankX)) zz ?_ (hy:=fun w hS=>by simp[execOp,go_sem, *];unfold eqX blankX;(repeat' split) <;> simp_all);simp only[sX,sY,sZ];rw[zv_eq];rw[show decide (n.v.k=0/\n.v.n=0/\n.v.s.size=0)=zv n.v from rfl]at ho;cases hz:zv n.v
   . have HX:Hi (okNode n=false):=h_ (by rw[ho,hz];rfl)
     clear ho hz;refine tj 4 21 (.bool false) zz ?_;refine tn 5 22 zz ?_;refine tn 6 23 zz ?_;refine tn 7 24 zz ?_;simp only[sX,sY,sZ];refine tj 8 25 (.bool false) zz ?_;refine tj 9 2 (.bool false) zz ?_;simp only[sX,sY,sZ];refine wpAnyH_done (by kernel_rfl) ?_ _;clear zz;go_wp2;go_ret;exact⟨qe9 HX.u.symm,HB.u⟩
   . have HX:Hi (okNode n=goodN n.nm):=h_ (by rw[ho,hz];rfl)
     clear ho hz;refine tj 4 21 (.bool true) zz ?_;refine tj 5 22 (Yc w.heap.size 4) zz ?_;refine tj 6 23 (.string n.nm) zz ?_;simp only[sX,sY,sZ];refine callY (i:=7) (f:=166) (args:=#[.string n.nm]) (R:=fun r wz=>r=.bool (goodN n.nm)/\wz=w3) 24 rfl rfl (by rfl) (by kernel_rfl) ?hrun7 ((q1l _ _ hm).mono fun e w6 ⟨he,hb⟩=>⟨_,he,rfl,hb⟩) ?_
     case hrun7=>simp[execOp,go_sem]
     rintro r3 w4 ⟨rfl,hw⟩;replace hw:=hw.symm;subst hw;refine⟨zz,?_⟩;simp only[sX,sY,sZ];refine tj 8 25 (.bool (goodN n.nm)) zz ?_;refine tj 9 2 (.bool (goodN n.nm)) zz ?_;simp only[sX,sY,sZ];refine wpAnyH_done (by kernel_rfl) ?_ _;clear zz;go_wp2;go_ret;exact⟨qe9 HX.u.symm,HB.u⟩
 . have ho:=okNode2 h h'
   have h1:(n.op==0)=false:=Yf.2 h;have h2:(n.op==1)=false:=Yf.2 h';clear h h';obtain⟨z0,z1,z2,z3,z4⟩:=five H0.u;go_enter Tryz.func196,Tryz.ntmps196;go_wp2_with fail
   try rw[hW0]
   clear hW0;refine wp_region_held_drew (S:=fun w'=>w'.cell? ⟨w.heap.size,0,none⟩=some (J9 n.op)/\w'.cell? ⟨w.heap.size,1,none⟩=some (J9 n.v.k)/\w'.cell? ⟨w.heap.size,2,none⟩=some (J9 n.v.n)/\w'.cell? ⟨w.heap.size,3,none⟩=some (.string n.v.s)/\w'.cell? ⟨w.heap.size,4,none⟩=some (.string n.nm)) (by kernel_rfl) ⟨z0,z1,z2,z3,z4⟩ (fun zz=>?_);clear z0 z1 z2 z3 z4;refine tj 0 26 (Yc w.heap.size 0) zz ?_;refine tj 1 27 (J9 n.op) zz ?_;simp only[sX,sY,sZ];refine callY (i:=2) (f:=204) (args:=#[J9 n.op]) (R:=fun r wz=>r=.bool (decide (2<=n.op/\n.op<=25))/\wz=W0.drew) 28 rfl rfl (by rfl) (by kernel_rfl) ?hrun2 ((q1n _ _).mono fun e w6 ⟨he,hb⟩=>⟨_,he,rfl,hb⟩) ?_
   case hrun2=>simp[execOp,go_sem]
   rintro r3 w3 ⟨rfl,hw⟩;subst hw;refine⟨zz,?_⟩;simp only[sX,sY,sZ];cases hop:decide (2<=n.op/\n.op<=25)
   . have HX:Hi (okNode n=false):=h_ (by rw[ho,hop];rfl)
     clear ho hop;refine tj 3 29 (.bool false) zz ?_;refine tn 4 30 zz ?_;refine tn 5 31 zz ?_;refine tn 6 32 zz ?_;simp only[sX,sY,sZ];refine tj 7 33 (.bool false) zz ?_;refine tj 8 34 (.bool false) zz ?_;refine tn 9 35 zz ?_;refine tn 10 36 zz ?_;simp only[sX,sY,sZ];refine tn 11 37 zz ?_;refine tn 12 38 zz ?_;refine tj 13 39 (.bool false) zz ?_;refine tj 14 2 (.bool false) zz ?_;simp only[sX,sY,sZ];refine wpAnyH_done (by kernel_rfl) ?_ _;clear zz;go_wp2;go_ret;exact⟨qe9 HX.u.symm,HB.u.drew⟩
   rw[hop,Zc]at ho;clear hop;refine tj 3 29 (.bool true) zz ?_;refine tj 4 30 (Yc w.heap.size 4) zz ?_;refine tj 5 31 (.string n.nm) zz ?_;refine tj 6 32 (.bool (decide (n.nm.size=0))) zz ?_;simp only[sX,sY,sZ];refine tj 7 33 (.bool (decide (n.nm.size=0))) zz ?_;refine tj 8 34 (.bool (decide (n.nm.size=0))) zz ?_;simp only[sX,sY,sZ];rw[show decide (n.v.k=0/\n.v.n=0/\n.v.s.size=0)=zv n.v from rfl]at ho;cases hq:decide (n.nm.size=0)
   . have HX:Hi (okNode n=false):=h_ (by rw[ho,hq,Ol])
     clear ho hq e0;refine tn 9 35 zz ?_;refine tn 10 36 zz ?_;refine tn 11 37 zz ?_;refine tn 12 38 zz ?_;simp only[sX,sY,sZ];refine tj 13 39 (.bool false) zz ?_;refine tj 14 2 (.bool false) zz ?_;simp only[sX,sY,sZ];refine wpAnyH_done (by kernel_rfl) ?_ _;clear zz;go_wp2;go_ret;exact⟨qe9 HX.u.symm,HB.u.drew⟩
   rw[hq,Bool.and_true]at ho;have HX:=h_ ho;clear ho hq e0;refine tj 9 35 (Yc w.heap.size 1) zz ?_;refine tj 10 36 (.agg #[J9 n.v.k,J9 n.v.n,.string n.v.s]) zz ?_;simp only[sX,sY,sZ];refine callY (i:=11) (f:=203) (args:=#[]) (R:=fun r wz=>r=vv blankX/\Below W0.heap.size W0 wz) 37 rfl rfl (by rfl) (by kernel_rfl) ?hrun3 ((q19 _).mono fun e w6 ⟨he,hb⟩=>⟨_,he,rfl,q28 hb⟩) ?_
   case hrun3=>simp[execOp,go_sem]
   rintro r3 w3 ⟨rfl,hb⟩;replace H0:=mB H0 hb;replace HB:=mT HB hb;clear hb;obtain⟨z0,z1,z2,z3,z4⟩:=five H0.u;replace zz:w3.cell? ⟨w.heap.size,0,none⟩=some (J9 n.op)/\w3.cell? ⟨w.heap.size,1,none⟩=some (J9 n.v.k)/\w3.cell? ⟨w.heap.size,2,none⟩=some (J9 n.v.n)/\w3.cell? ⟨w.heap.size,3,none⟩=some (.string n.v.s)/\w3.cell? ⟨w.heap.size,4,none⟩=some (.string n.nm):=⟨z0,z1,z2,z3,z4⟩;clear z0 z1 z2 z3 z4;refine⟨zz,?_⟩;simp only[sX,sY,sZ];unfold vv;refine tj 12 38 (.bool (eqX n.v blankX)) zz ?_ (hy:=fun w hS=>by simp[execOp,go_sem, *];unfold eqX blankX;(repeat' split) <;> simp_all);simp only[sX,sY,sZ];rw[zv_eq];refine tj 13 39 (.bool (zv n.v)) zz ?_;refine tj 14 2 (.bool (zv n.v)) zz ?_;simp only[sX,sY,sZ];refine wpAnyH_done (by kernel_rfl) ?_ _;clear zz;go_wp2;go_ret;exact⟨qe9 HX.u.symm,HB.u⟩
def pv (p:Ph):Value:=.agg #[.string p.t,.int .i64 p.lv,.int .i64 p.d]
def PCel (w:World)(b o:Nat)(p:Ph):Prop:=b<w.heap.size/\w.cell? ⟨b,o,none⟩=some (.string p.t)/\w.cell? ⟨b,o+1,none⟩=some (.int .i64 p.lv)/\w.cell? ⟨b,o+2,none⟩=some (.int .i64 p.d)
theorem PCel.mono {w w':World}{b o:Nat}{p:Ph}(h:PCel w b o p)(hb:Below w.heap.size w w'):PCel w' b o p :=
 ⟨Y7 h.1 hb.size,(hb.cell h.1).trans h.2.1,(hb.cell h.1).trans h.2.2.1,(hb.cell h.1).trans h.2.2.2⟩
def Phs (w:World)(a:Option Addr)(l:List Ph):Prop:=∀k (h:k<l.length),∃b o,a=some ⟨b,o,none⟩/\PCel w b (o+k*3) l[k]
theorem Phs.mono {w w':World}{a:Option Addr}{l:List Ph}(h:Phs w a l)(hb:Below w.heap.size w w'):Phs w' a l:=fun k hk=>by
 obtain⟨b,o,e,hc⟩:=h k hk
 exact⟨b,o,e,hc.mono hb⟩
theorem q4i (p:Ph)(l:Int)(w:World)(hs:p.t.size<=2000000):Calls Tryz.prog 212 #[pv p,J9 l] w fun r w'=>r=.returned (.string (wrap l p))/\Below w.heap.size w w':=by
 unfold pv
 have HB:=h_ ((bR w.heap.size w).alloc (nR _) (.cells (Jy p.t p.lv p.d) 208))
 have HW:Hi (wrap l p=if p.lv<l then ⟨#[40]⟩++p.t++⟨#[41]⟩ else p.t):=h_ rfl
 obtain⟨t,ht⟩:=Nq (wrap l p)
 rw[ht]at HW⊢
 clear ht
 by_cases hq:p.lv<l
 . rw[Yy hq]at HW
   go_enter Tryz.func212,Tryz.ntmps212;go_wp2_with fail;go_ret;exact⟨qj4 HW.u.symm,HB.u⟩
 . rw[Yu hq]at HW
   go_enter Tryz.func212,Tryz.ntmps212;go_wp2_with fail;go_ret;exact⟨qj4 HW.u.symm,HB.u⟩
theorem qhf (r:List ByteArray):(jt r).data.toList=Lib.joinTail [44,32] (r.map (·.data.toList)):=by
 induction r with
 | nil=>rfl
 | cons x r ih=>simp only[jt,Vm,Array.toList_append,ih,Zx,Lib.joinTail,List.flatten_cons]
theorem qhc (l:List ByteArray):jn l=⟨(Lib.join (l.map (·.data.toList)) [44,32]).toArray⟩:=by
 refine q8j ?_
 cases l with
 | nil=>rfl
 | cons x r=>rw[Zx,Lib.join_cons];simp only[jn,Vm,Array.toList_append,qhf]
def stV (l:List ByteArray):List Value:=l.map .string
theorem qct:(Tryz.prog.info? 9).map (fun i=>(i.zero,i.size,i.bytes))=some (some Yb,1,16):=by kernel_rfl
theorem q7y (a:Option Addr)(c:Nat)(l:List Ph)(w:World)(hl:1<=l.length)(hl3:l.length<=3)(ha:Phs w a l)(hs:tot l<=2000000) :
 Calls Tryz.prog 213 #[.slice a l.length c] w fun r w'=>r=.returned (.string (jn (l.map (·.t))))/\Below w.heap.size w w':=by
 have HA:=h_ ha
 have hj:=(qhd l).2
 have HJ:=h_ (qhc (l.map (·.t)))
 obtain⟨n,hn⟩:=Nq l.length
 rw[hn]at hl hl3 hj⊢
 have HN:=h_ hn
 clear ha hn
 obtain⟨t,ht⟩:=Nq (jn (l.map (·.t)))
 rw[ht]at HJ hj⊢
 clear ht
 obtain⟨i0,hi,hz0,hz1,hz2⟩:=info_parts qct
 have hbn:i0.bytes*n<=281474976710656:=by rw[hz2];omega
 obtain⟨B,hB⟩:=Nq w.heap.size
 go_enter Tryz.func213,Tryz.ntmps213
 go_wp2_with (at_make;refine wpList_make_own _ rfl _ _ 23 rfl w.heap.size 9 i0 _ 1 Tryz.underlying23 hi hz0 hz1 .i64 .i64 _ n rfl rfl rfl hbn (by unfold maxLen;omega) (nR _) ?_;intro w1 hown hgrow)
 have HB1:=h_ ((bR w.heap.size w).grown hgrow (nR _) (fun k h=>by cases h))
 rw[hB]at hown HB1
 have HO:=h_ hown
 clear hgrow hown hbn hi hz0 hz1 hz2
 go_wp2_with fail
 try rw[hB]
 go_loopw [3,5,11] (fun tx _ i wr=>∃k:Nat,k<=n/\tx=.slice (some ⟨B,0,none⟩) k n/\i=J9 k/\wr.ownsRow B 9 1 (.slice (some ⟨B,0,none⟩) k n) k (stV ((l.take k).map (·.t)))/\Below B w wr) (fun _ _ i _=>n - (intOf i).toNat)
 case atStart=>exact⟨0,nZ _,rfl,rfl,HO.u,HB1.u⟩
 case round =>
  clear HO HB1;obtain⟨k,hk,rfl,rfl,hO,hb⟩:=hrel;have HO:=h_ hO;have HB:=h_ hb;have HV:=h_ (HA.u.mono (hb.mono (by omega)));clear hO hb;by_cases hlt:k<n
  . have hlt':(k:Int)<n:=by omega
    have hkl:k<l.length:=(by have:=HN.u;omega);obtain⟨b,o,rfl,-,c0,c1,c2⟩:=HV.u k hkl;have HT:Hi ((l.take (k+1)).map (·.t)=(l.take k).map (·.t)++[l[k].t]):=h_ (by rw[Yr hkl,Zf];rfl);obtain⟨p,hp⟩:=Nq (l[k]);rw[hp]at HT c0 c1 c2;clear hp;obtain⟨i0,hi,hz0,hz1,hz2⟩:=info_parts qct;obtain⟨W,hW⟩:=Nq (wr.alloc (.cells (Jy p.t p.lv p.d) 208));have HO1:Hi (W.ownsRow B 9 1 (.slice (some ⟨B,0,none⟩) k n) k (stV ((l.take k).map (·.t)))):=h_ (by rw[<- hW];exact HO.u.alloc _);have HB1:Hi (Below B w W):=h_ (by rw[<- hW];exact HB.u.alloc (by have:=HB.u.size;omega) _);have HK:Hi (Blk W wr.heap.size 208 [.string p.t,J9 p.lv,J9 p.d]):=h_ (by rw[<- hW];exact Blk.new wr 208 (Jy p.t p.lv p.d));obtain⟨y0,y1,y2⟩:=three HK.u;go_wp2_with (at_builtin;refine wpList_append_fits _ rfl _ _ 23 rfl B 9 i0 1 Tryz.underlying23 hi hz1 B k n _ rfl (HO1.u.alloc _) ⟨W.heap.size,0,none⟩ 1 1 [.string p.t] rfl rfl (qc6 W 9 _) (by simp[Value.oneCell']) (by omega) ?_);intro w3 ho' hgr';have hB2:=(HB1.u.alloc (by have:=HB1.u.size;omega) (.cells #[.string p.t] 9)).grown hgr' (by have:=HB1.u.size;simp;omega) (fun q' e=>by cases e;exact nR _);have HO2:Hi (w3.ownsRow B 9 1 (.slice (some ⟨B,0,none⟩) (k+1) n) (k+1) (stV ((l.take (k+1)).map (·.t)))):=h_ (by rw[HT.u];simpa [stV] using ho');have HB2:=h_ hB2;clear ho' hgr' hB2 hi hz0 hz1 hz2 HO HB HO1 HB1 HK c0 c1 c2 y0 y1 y2 hW;go_wp2_with fail;go_roundw
    case rel=>first | exact⟨k+1,by omega,rfl,by go_num,HO2.u,HB2.u⟩ | ((repeat apply Exists.intro);exact⟨⟨k+1,by omega,rfl,by go_num,HO2.u,HB2.u⟩,rfl⟩)
    case measure=>simp[intOf];omega
  . obtain rfl:k=n:=by omega
    have hO:=HO.u;rw[Zh (by have:=HN.u;omega)]at hO;have HC:Hi (∀(j:Nat) x,(l.map (·.t))[j]? = some x->wr.cell? ⟨B,0+j,none⟩=some (.string x)):=h_ fun j x hx=>by
     have hj:j<(l.map (·.t)).length:=(List.getElem?_eq_some_iff.1 hx).1;have:=hO.cellAt j (by rw[Yz]at hj;have:=HN.u;omega);rw[Zi];rw[show(⟨B,j,none⟩:Addr)=⟨B,j,none⟩ from rfl];rw[this];simp only[stV,Zk,hx,Option.map_some]
    have hlen2:(l.map (·.t)).length=k:=(by rw[Yz];exact HN.u);have hblt:B<wr.heap.size:=by
     rcases hO.2 with ⟨h',_⟩ | ⟨g',cap',cur,h',_,hg,_⟩
     . simp at h'
     . simp only[Value.slice.injEq,Option.some.injEq,Addr.mk.injEq,and_true,true_and]at h'
       obtain⟨rfl,-⟩:=h';exact(Yt.1 hg).1
    clear hO;go_wp2_with fail;have hJ:=HJ.u;refine(show Calls Tryz.prog 172 #[.slice (some ⟨B,0,none⟩) k k,.string ⟨#[44,32]⟩] wr fun r w'=>r=.returned (.string t)/\Below wr.heap.size wr w' from ?_).mono ?_
    . have hc:=Tryz.strings_Join B 0 k (l.map (·.t)) ⟨#[44,32]⟩ wr HC.u hblt (by omega) (by omega) (by
       have e:t.size=(Lib.join ((l.map (·.t)).map (·.data.toList)) [44,32]).length:=(by rw[hJ];rfl);show(Lib.join ((l.map (·.t)).map (·.data.toList)) [44,32]).length<=_;omega)
      rw[hlen2]at hc;refine hc.mono fun r w' ⟨h1,h2⟩=>⟨?_,h2⟩;rw[h1,hJ]
    rintro r w2 ⟨rfl,hb⟩;have HB2:=h_ (HB.u.trans (hb.mono (by have:=HB.u.size;omega)));clear hb hJ;go_wp2_with fail;go_ret;exact⟨rfl,by rw[hB];exact HB2.u⟩
end Go.Proofs.YtebbgodlijlioaaGreatDoor
