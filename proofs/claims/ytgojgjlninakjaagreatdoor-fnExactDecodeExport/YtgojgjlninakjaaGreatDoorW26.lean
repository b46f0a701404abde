import Derived.Test.YtgojgjlninakjaaGreatDoorW24
set_option maxRecDepth 100000
set_option maxHeartbeats 64000000
namespace Go.Proofs.YtgojgjlninakjaaGreatDoor
open Go Go.RowKit
theorem q3e {w:World}{base e g n:Nat}{xs:List Value}(h:w.ownsRow base e 2 (.slice (some ⟨g,0,none⟩) n n) n xs):Blk w g e xs/\xs.length=n*2:=by
 refine⟨?_,h.1⟩
 rcases h.2 with ⟨h',_⟩ | ⟨g',cap',cur,h',_,hg,_,_,hs,htake⟩
 . simp at h'
 . simp only[Value.slice.injEq,Z9,Addr.mk.injEq,and_true,true_and]at h'
   obtain⟨rfl,rfl⟩:=h';rw[Yz (by simp;omega)]at htake;rw[<- htake];simpa [Blk] using hg
def DCel (w:World)(b o:Nat)(v0 v1:Value):Prop:=b<w.heap.size/\w.cell? ⟨b,o,none⟩=some v0/\w.cell? ⟨b,o+1,none⟩=some v1
theorem DCel.mono {w w':World}{b o:Nat}{v0 v1:Value}(h:DCel w b o v0 v1)(hb:Below w.heap.size w w'):DCel w' b o v0 v1:=⟨Ys h.1 hb.size,(hb.cell h.1).trans h.2.1,(hb.cell h.1).trans h.2.2⟩
theorem qaw (u:(Int × Int))(w:World):Calls Tryz.prog 45 #[.agg (Js u.1 u.2)] w fun r w'=>r=.returned (.agg (Js u.1 u.2))/\Below w.heap.size w w':=by
 go_enter Tryz.func45,Tryz.ntmps45
 go_wp2_with fail
 refine bodyPost_ret (v:=.agg (Js u.1 u.2)) (by simp[results,Tryz.results45,go_sem]) rfl ⟨rfl,?_⟩
 exact(((bR _ _).alloc (nR _) _).alloc (by simp) _).alloc (by simp;omega) _
theorem q8t:(Tryz.prog.info? 95).map (fun i=>(i.zero,i.size,i.bytes))=some (some (.agg Jm),2,16):=by kernel_rfl
theorem qav (a:Option Addr)(l:List (Int × Int))(c:Nat)(w:World)(ha:Prs w a l)(hn:l.length<=1048576) :
 Calls Tryz.prog 22 #[.slice a l.length c] w fun r w'=>r=.returned (.slice (some ⟨w.heap.size,0,none⟩) l.length l.length)/\Prs w' (some ⟨w.heap.size,0,none⟩) l/\Bk w' w.heap.size 95 (l.length*2)/\Below w.heap.size w w':=by
 obtain⟨i0,hi,hz0,hz1,hz2⟩:=info_parts q8t
 obtain⟨B,hB⟩:=Nq w.heap.size
 have hbn:i0.bytes*l.length<=281474976710656:=by rw[hz2];omega
 have HA:=h_ ha
 clear ha
 go_enter Tryz.func22,Tryz.ntmps22
 go_wp2_with (at_make;refine wpList_make_full _ rfl _ _ 32 rfl w.heap.size 95 i0 _ 2 Tryz.underlying32 hi hz0 hz1 .i64 .i64 _ _ l.length rfl rfl rfl rfl hbn (by unfold maxLen;omega) (nR _) ?_;intro w1 hown hgrow)
 have hb1:Below B w w1:=by rw[<- hB];exact(bR _ _).grown hgrow (nR _) (fun k h=>by cases h)
 rw[hB]at hown
 obtain⟨hX,hXl⟩:=q3e hown
 have HX:=h_ hX;have HXL:=h_ hXl;have HB1:=h_ hb1
 clear hgrow hbn hi hz0 hz1 hz2 hown hX hXl hb1
 go_wp2_with fail
 try rw[hB]
 go_loopw [4] (fun i wr=>∃(k:Nat) (xs:List Value),k<=l.length/\i=J6 k/\Blk wr B 95 xs/\xs.length=l.length*2/\(∀j (h:j<l.length),j<k->xs[j*2]? = some (J6 l[j].1)/\xs[j*2+1]? = some (J6 l[j].2))/\Below B w wr) (fun i _=>l.length - (intOf i).toNat)
 case atStart=>exact⟨0,_,nZ _,rfl,HX.u,HXL.u,fun j _ h=>absurd h (nL _),HB1.u⟩
 case round =>
  clear HX HXL HB1;obtain⟨k,xs,hk,rfl,hX,hXl,hx,hb⟩:=hrel;have HX:=h_ hX;have HXL:=h_ hXl;have HXX:=h_ hx;have HB:=h_ hb;have HV:=h_ (HA.u.mono (hb.mono (by omega)));clear hX hXl hx hb;by_cases hlt:k<l.length
  . have hlt':(k:Int)<l.length:=by omega
    obtain⟨b1,o1,rfl,hl1,hc1,hc2⟩:=HV.u k hlt;obtain⟨u,hu⟩:=Nq (l[k]);rw[hu]at hc1 hc2;have HU:=h_ hu;clear hu;go_wp2_with fail;refine(qaw u _).mono ?_;rintro x w3 ⟨rfl,hb3⟩;have X3:=HX.u.mono hb3 HX.u.lt;have B3:=HB.u.trans (hb3.mono (by have:=HX.u.lt;omega));have c0:=X3.cell (k*2);have c1:=X3.cell (k*2+1);have f0:=X3.free (k*2);have f1:=X3.free (k*2+1);rw[Yc (by have:=HXL.u;omega)]at c0 c1;have HX3:=h_ X3;have HB3:=h_ B3;clear X3 B3 hb3 hc1 hc2;go_wp2_with fail;go_roundw
    case rel =>
     refine⟨k+1,_,by omega,by go_num,(HX3.u.set (k*2) (J6 u.1)).set (k*2+1) (J6 u.2),by simpa using HXL.u,fun j hjl hj=>?_,(HB3.u.setCell (nR _) _).setCell (nR _) _⟩;have hxl:=HXL.u;by_cases ej:j=k
     . subst ej
       rw[HU.u];simp[List.getElem?_set];omega
     . have:=HXX.u j hjl (by omega)
       simp only[Vh]
       (repeat rw[Yn (by omega)])
       exact this
    case measure=>simp[intOf];omega
  . obtain rfl:k=l.length:=by omega
    have hlt':¬ (l.length:Int)<(l.length:Int):=(by omega);go_wp2_with fail;go_ret;refine⟨rfl,?_,⟨_,HX.u,HXL.u⟩,HB.u⟩;intro j hj;have:=HXX.u j hj hj;exact⟨B,0,rfl,HX.u.lt,by rw[Y7,HX.u.cell];exact this.1,by rw[Y7,HX.u.cell];exact this.2⟩
theorem q8h (u:(Int × Int))(w:World):Calls Tryz.prog 56 #[.agg (Js u.1 u.2),.agg (Js u.1 u.2)] w fun r w'=>r=.returned (.bool true)/\Below w.heap.size w w':=by
 have HB:=h_ (((bR w.heap.size w).alloc (nR _) (.cells (Js u.1 u.2) 95)).alloc (by simp) (.cells (Js u.1 u.2) 95))
 go_enter Tryz.func56,Tryz.ntmps56
 go_wp2_with fail
 go_ret
 exact⟨rfl,HB.u⟩
theorem q3o (a b:Option Addr)(l:List (Int × Int))(ca cb:Nat)(w:World)(hn:l.length<=1048576)(ha:Prs w a l)(hb:Prs w b l) :
 Calls Tryz.prog 29 #[.slice a l.length ca,.slice b l.length cb] w fun r w'=>r=.returned (.bool true)/\Below w.heap.size w w':=by
 have HA:=h_ ha;have HB0:=h_ hb
 clear ha hb
 go_enter Tryz.func29,Tryz.ntmps29
 go_wp2_with fail
 go_loopw [5] (fun i wr=>∃k:Nat,k<=l.length/\i=J6 k/\Below w.heap.size w wr) (fun i _=>l.length - (intOf i).toNat)
 case atStart=>exact⟨0,nZ _,rfl,bR _ _⟩
 case round =>
  obtain⟨k,hk,rfl,hB⟩:=hrel;have HB:=h_ hB;by_cases hlt:k<l.length
  . obtain⟨b1,o1,rfl,l1,p0,p1⟩:=(HA.u.mono hB) k hlt
    obtain⟨b2,o2,rfl,l2,r0,r1⟩:=(HB0.u.mono hB) k hlt;obtain⟨u,hu⟩:=Nq (l[k]);rw[hu]at p0 p1 r0 r1;have HC1:Hi (DCel wr b1 (o1+k*2) (J6 u.1) (J6 u.2)):=h_ ⟨l1,p0,p1⟩;have HC2:Hi (DCel wr b2 (o2+k*2) (J6 u.1) (J6 u.2)):=h_ ⟨l2,r0,r1⟩;have k0:(0:Int)<=k:=(by omega);have k1:(k:Int)<l.length:=(by omega);clear hB hu p0 p1 r0 r1 l1 l2;go_wp2_with fail;refine wp_region_held_drew (S:=fun w'=>DCel w' b1 (o1+k*2) (J6 u.1) (J6 u.2)/\DCel w' b2 (o2+k*2) (J6 u.1) (J6 u.2)) (by kernel_rfl) ⟨HC1.u,HC2.u⟩ (fun zz=>?_);refine tj 0 17 (.slice (some ⟨b1,o1,none⟩) l.length ca) zz ?_;refine tj 1 18 (J6 k) zz ?_;refine tj 2 19 (.pointer (some ⟨b1,o1+k*2,none⟩)) zz ?_;refine tj 3 20 (.agg (Js u.1 u.2)) zz ?_ (hy:=fun w hS=>by obtain⟨⟨-,q0,q1⟩,-⟩:=hS;simp[execOp,go_sem,q0,q1]);simp only[sX,sY,sZ];refine tj 4 21 (.slice (some ⟨b2,o2,none⟩) l.length cb) zz ?_;refine tj 5 22 (J6 k) zz ?_;refine tj 6 23 (.pointer (some ⟨b2,o2+k*2,none⟩)) zz ?_;refine tj 7 24 (.agg (Js u.1 u.2)) zz ?_ (hy:=fun w hS=>by obtain⟨-,⟨-,q0,q1⟩⟩:=hS;simp[execOp,go_sem,q0,q1]);simp only[sX,sY,sZ];refine callY (i:=8) (f:=56) (args:=#[.agg (Js u.1 u.2),.agg (Js u.1 u.2)]) (R:=fun v wz=>v=.bool true/\Below wr.heap.size wr wz) 25 rfl rfl (by rfl) (by kernel_rfl) ?hrun1 ((q8h u _).mono fun e w6 ⟨he,hb⟩=>⟨_,he,rfl,q29 hb⟩) ?_
    case hrun1=>simp[execOp,go_sem]
    rintro v w6 ⟨rfl,hb6⟩;have HB6:=mT HB hb6;replace zz:DCel w6 b1 (o1+k*2) (J6 u.1) (J6 u.2)/\DCel w6 b2 (o2+k*2) (J6 u.1) (J6 u.2):=⟨HC1.u.mono hb6,HC2.u.mono hb6⟩;clear hb6;refine⟨zz,?_⟩;simp only[sX,sY,sZ];refine tj 9 26 (.bool false) zz ?_;simp only[sX,sY,sZ];refine wpAnyH_done (by kernel_rfl) ?_ _;clear zz;go_wp2_with fail;go_roundw
    case rel=>exact⟨k+1,by omega,by go_num,HB6.u⟩
    case measure=>simp[intOf];omega
  . obtain rfl:k=l.length:=by omega
    have hlt':¬ (l.length:Int)<(l.length:Int):=(by omega);clear hB;go_wp2_with fail;go_ret;exact⟨rfl,HB.u⟩
theorem qay (u:Rl)(w:World):Calls Tryz.prog 46 #[.agg #[.string u.nm,J6 u.lb]] w fun r w'=>r=.returned (.agg #[.string u.nm,J6 u.lb])/\Below w.heap.size w w':=by
 go_enter Tryz.func46,Tryz.ntmps46
 go_wp2_with fail
 refine bodyPost_ret (v:=.agg #[.string u.nm,J6 u.lb]) (by simp[results,Tryz.results46,go_sem]) rfl ⟨rfl,?_⟩
 exact(((bR _ _).alloc (nR _) _).alloc (by simp) _).alloc (by simp;omega) _
theorem q8u:(Tryz.prog.info? 85).map (fun i=>(i.zero,i.size,i.bytes))=some (some (.agg #[J8,J6 0]),2,24):=by kernel_rfl
theorem qax (a:Option Addr)(l:List Rl)(c:Nat)(w:World)(ha:Rls w a l)(hn:l.length<=1048576) :
 Calls Tryz.prog 23 #[.slice a l.length c] w fun r w'=>r=.returned (.slice (some ⟨w.heap.size,0,none⟩) l.length l.length)/\Rls w' (some ⟨w.heap.size,0,none⟩) l/\Bk w' w.heap.size 85 (l.length*2)/\Below w.heap.size w w':=by
 obtain⟨i0,hi,hz0,hz1,hz2⟩:=info_parts q8u
 obtain⟨B,hB⟩:=Nq w.heap.size
 have hbn:i0.bytes*l.length<=281474976710656:=by rw[hz2];omega
 have HA:=h_ ha
 clear ha
 go_enter Tryz.func23,Tryz.ntmps23
 go_wp2_with (at_make;refine wpList_make_full _ rfl _ _ 33 rfl w.heap.size 85 i0 _ 2 Tryz.underlying33 hi hz0 hz1 .i64 .i64 _ _ l.length rfl rfl rfl rfl hbn (by unfold maxLen;omega) (nR _) ?_;intro w1 hown hgrow)
 have hb1:Below B w w1:=by rw[<- hB];exact(bR _ _).grown hgrow (nR _) (fun k h=>by cases h)
 rw[hB]at hown
 obtain⟨hX,hXl⟩:=q3e hown
 have HX:=h_ hX;have HXL:=h_ hXl;have HB1:=h_ hb1
 clear hgrow hbn hi hz0 hz1 hz2 hown hX hXl hb1
 go_wp2_with fail
 try rw[hB]
 go_loopw [4] (fun i wr=>∃(k:Nat) (xs:List Value),k<=l.length/\i=J6 k/\Blk wr B 85 xs/\xs.length=l.length*2/\(∀j (h:j<l.length),j<k->xs[j*2]? = some (.string l[j].nm)/\xs[j*2+1]? = some (J6 l[j].lb))/\Below B w wr) (fun i _=>l.length - (intOf i).toNat)
 case atStart=>exact⟨0,_,nZ _,rfl,HX.u,HXL.u,fun j _ h=>absurd h (nL _),HB1.u⟩
 case round =>
  clear HX HXL HB1;obtain⟨k,xs,hk,rfl,hX,hXl,hx,hb⟩:=hrel;have HX:=h_ hX;have HXL:=h_ hXl;have HXX:=h_ hx;have HB:=h_ hb;have HV:=h_ (HA.u.mono (hb.mono (by omega)));clear hX hXl hx hb;by_cases hlt:k<l.length
  . have hlt':(k:Int)<l.length:=by omega
    obtain⟨b1,o1,rfl,hl1,hc1,hc2⟩:=HV.u k hlt;obtain⟨u,hu⟩:=Nq (l[k]);rw[hu]at hc1 hc2;have HU:=h_ hu;clear hu;go_wp2_with fail;refine(qay u _).mono ?_;rintro x w3 ⟨rfl,hb3⟩;have X3:=HX.u.mono hb3 HX.u.lt;have B3:=HB.u.trans (hb3.mono (by have:=HX.u.lt;omega));have c0:=X3.cell (k*2);have c1:=X3.cell (k*2+1);have f0:=X3.free (k*2);have f1:=X3.free (k*2+1);rw[Yc (by have:=HXL.u;omega)]at c0 c1;have HX3:=h_ X3;have HB3:=h_ B3;clear X3 B3 hb3 hc1 hc2;go_wp2_with fail;go_roundw
    case rel =>
     refine⟨k+1,_,by omega,by go_num,(HX3.u.set (k*2) (.string u.nm)).set (k*2+1) (J6 u.lb),by simpa using HXL.u,fun j hjl hj=>?_,(HB3.u.setCell (nR _) _).setCell (nR _) _⟩;have hxl:=HXL.u;by_cases ej:j=k
     . subst ej
       rw[HU.u];simp[List.getElem?_set];omega
     . have:=HXX.u j hjl (by omega)
       simp only[Vh]
       (repeat rw[Yn (by omega)])
       exact this
    case measure=>simp[intOf];omega
  . obtain rfl:k=l.length:=by omega
    have hlt':¬ (l.length:Int)<(l.length:Int):=(by omega);go_wp2_with fail;go_ret;refine⟨rfl,?_,⟨_,HX.u,HXL.u⟩,HB.u⟩;intro j hj;have:=HXX.u j hj hj;exact⟨B,0,rfl,HX.u.lt,by rw[Y7,HX.u.cell];exact this.1,by rw[Y7,HX.u.cell];exact this.2⟩
theorem q8i (u:Rl)(w:World):Calls Tryz.prog 57 #[.agg #[.string u.nm,J6 u.lb],.agg #[.string u.nm,J6 u.lb]] w fun r w'=>r=.returned (.bool true)/\Below w.heap.size w w':=by
 have hq:(u.nm.toList==u.nm.toList)=true:=by simp
 have HB:=h_ (((bR w.heap.size w).alloc (nR _) (.cells #[.string u.nm,J6 u.lb] 85)).alloc (by simp) (.cells #[.string u.nm,J6 u.lb] 85))
 go_enter Tryz.func57,Tryz.ntmps57
 go_wp2_with fail
 go_ret
 exact⟨rfl,HB.u⟩
theorem q3p (a b:Option Addr)(l:List Rl)(ca cb:Nat)(w:World)(hn:l.length<=1048576)(ha:Rls w a l)(hb:Rls w b l) :
 Calls Tryz.prog 30 #[.slice a l.length ca,.slice b l.length cb] w fun r w'=>r=.returned (.bool true)/\Below w.heap.size w w':=by
 have HA:=h_ ha;have HB0:=h_ hb
 clear ha hb
 go_enter Tryz.func30,Tryz.ntmps30
 go_wp2_with fail
 go_loopw [5] (fun i wr=>∃k:Nat,k<=l.length/\i=J6 k/\Below w.heap.size w wr) (fun i _=>l.length - (intOf i).toNat)
 case atStart=>exact⟨0,nZ _,rfl,bR _ _⟩
 case round =>
  obtain⟨k,hk,rfl,hB⟩:=hrel;have HB:=h_ hB;by_cases hlt:k<l.length
  . obtain⟨b1,o1,rfl,l1,p0,p1⟩:=(HA.u.mono hB) k hlt
    obtain⟨b2,o2,rfl,l2,r0,r1⟩:=(HB0.u.mono hB) k hlt;obtain⟨u,hu⟩:=Nq (l[k]);rw[hu]at p0 p1 r0 r1;have HC1:Hi (DCel wr b1 (o1+k*2) (.string u.nm) (J6 u.lb)):=h_ ⟨l1,p0,p1⟩;have HC2:Hi (DCel wr b2 (o2+k*2) (.string u.nm) (J6 u.lb)):=h_ ⟨l2,r0,r1⟩;have k0:(0:Int)<=k:=(by omega);have k1:(k:Int)<l.length:=(by omega);clear hB hu p0 p1 r0 r1 l1 l2;go_wp2_with fail;refine wp_region_held_drew (S:=fun w'=>DCel w' b1 (o1+k*2) (.string u.nm) (J6 u.lb)/\DCel w' b2 (o2+k*2) (.string u.nm) (J6 u.lb)) (by kernel_rfl) ⟨HC1.u,HC2.u⟩ (fun zz=>?_);refine tj 0 17 (.slice (some ⟨b1,o1,none⟩) l.length ca) zz ?_;refine tj 1 18 (J6 k) zz ?_;refine tj 2 19 (.pointer (some ⟨b1,o1+k*2,none⟩)) zz ?_;refine tj 3 20 (.agg #[.string u.nm,J6 u.lb]) zz ?_ (hy:=fun w hS=>by obtain⟨⟨-,q0,q1⟩,-⟩:=hS;simp[execOp,go_sem,q0,q1]);simp only[sX,sY,sZ];refine tj 4 21 (.slice (some ⟨b2,o2,none⟩) l.length cb) zz ?_;refine tj 5 22 (J6 k) zz ?_;refine tj 6 23 (.pointer (some ⟨b2,o2+k*2,none⟩)) zz ?_;refine tj 7 24 (.agg #[.string u.nm,J6 u.lb]) zz ?_ (hy:=fun w hS=>by obtain⟨-,⟨-,q0,q1⟩⟩:=hS;simp[execOp,go_sem,q0,q1]);simp only[sX,sY,sZ];refine callY (i:=8) (f:=57) (args:=#[.agg #[.string u.nm,J6 u.lb],.agg #[.string u.nm,J6 u.lb]]) (R:=fun v wz=>v=.bool true/\Below wr.heap.size wr wz) 25 rfl rfl (by rfl) (by kernel_rfl) ?hrun1 ((q8i u _).mono fun e w6 ⟨he,hb⟩=>⟨_,he,rfl,q29 hb⟩) ?_
    case hrun1=>simp[execOp,go_sem]
    rintro v w6 ⟨rfl,hb6⟩;have HB6:=mT HB hb6;replace zz:DCel w6 b1 (o1+k*2) (.string u.nm) (J6 u.lb)/\DCel w6 b2 (o2+k*2) (.string u.nm) (J6 u.lb):=⟨HC1.u.mono hb6,HC2.u.mono hb6⟩;clear hb6;refine⟨zz,?_⟩;simp only[sX,sY,sZ];refine tj 9 26 (.bool false) zz ?_;simp only[sX,sY,sZ];refine wpAnyH_done (by kernel_rfl) ?_ _;clear zz;go_wp2_with fail;go_roundw
    case rel=>exact⟨k+1,by omega,by go_num,HB6.u⟩
    case measure=>simp[intOf];omega
  . obtain rfl:k=l.length:=by omega
    have hlt':¬ (l.length:Int)<(l.length:Int):=(by omega);clear hB;go_wp2_with fail;go_ret;exact⟨rfl,HB.u⟩
theorem q4z (a:Option Addr)(c n:Nat)(l0:Int)(w:World)(h0:0<=l0)(h1:l0<=1048576)(hm:n<=9223372036854775807) :
 Calls Tryz.prog 14 #[.slice a n c,J6 l0] w fun r w'=>∃q:Int,r=.returned (J6 q)/\(0<=q->q<=1048576/\n<=1048576)/\(q<0->q = -1)/\Below w.heap.size w w':=by
 have hw1:wrap64 (l0 - (n:Int))=l0 - (n:Int):=q55 (by omega) (by omega)
 by_cases h:(n:Int)<=l0
 . have h':¬ l0 - (n:Int)<0:=by omega
   go_enter Tryz.func14,Tryz.ntmps14;go_wp2_with fail;go_ret;exact⟨_,rfl,fun _=>by omega,fun h=>by omega,bR _ _⟩
 . have h':l0 - (n:Int)<0:=by omega
   go_enter Tryz.func14,Tryz.ntmps14;go_wp2_with fail;go_ret;exact⟨_,rfl,fun h=>absurd h (by decide),fun _=>rfl,bR _ _⟩
theorem q7k (a:Option Addr)(c n:Nat)(l0:Int)(w:World)(h0:0<=l0)(h1:l0<=1048576)(hm:n<=9223372036854775807) :
 Calls Tryz.prog 61 #[.slice a n c,J6 l0] w fun r w'=>∃q:Int,r=.returned (J6 q)/\(0<=q->q<=1048576/\n<=1048576)/\(q<0->q = -1)/\Below w.heap.size w w':=by
 have hw1:wrap64 (l0 - (n:Int))=l0 - (n:Int):=q55 (by omega) (by omega)
 by_cases h:(n:Int)<=l0
 . have h':¬ l0 - (n:Int)<0:=by omega
   go_enter Tryz.func61,Tryz.ntmps61;go_wp2_with fail;go_ret;exact⟨_,rfl,fun _=>by omega,fun h=>by omega,bR _ _⟩
 . have h':l0 - (n:Int)<0:=by omega
   go_enter Tryz.func61,Tryz.ntmps61;go_wp2_with fail;go_ret;exact⟨_,rfl,fun h=>absurd h (by decide),fun _=>rfl,bR _ _⟩
theorem qaq (u:Rl)(l0:Int)(w:World)(hs:u.nm.size<=9223372036854775807)(h0:0<=l0)(h1:l0<=1048576) :
 Calls Tryz.prog 37 #[.agg #[.string u.nm,J6 u.lb],J6 l0] w fun r w'=>∃q:Int,r=.returned (J6 q)/\(0<=q->q<=1048576)/\(q<0->q = -1)/\Below w.heap.size w w':=by
 have hw1:wrap64 (l0 - (u.nm.size:Int))=l0 - (u.nm.size:Int):=q55 (by omega) (by omega)
 have HB:=h_ ((bR w.heap.size w).alloc (nR _) (.cells #[.string u.nm,J6 u.lb] 75))
 by_cases h:(u.nm.size:Int)<=l0
 . have h':¬ l0 - (u.nm.size:Int)<0:=by omega
   go_enter Tryz.func37,Tryz.ntmps37;go_wp2_with fail;go_ret;exact⟨_,rfl,fun _=>by omega,fun h=>by omega,HB.u⟩
 . have h':l0 - (u.nm.size:Int)<0:=by omega
   go_enter Tryz.func37,Tryz.ntmps37;go_wp2_with fail;go_ret;exact⟨_,rfl,fun h=>absurd h (by decide),fun _=>rfl,HB.u⟩
theorem q50 (a:Option Addr)(c:Nat)(l:List Rl)(l0:Int)(w:World)(h0:0<=l0)(h1:l0<=1048576)(hm:l.length<=9223372036854775807)(hs:∀x,x∈l->x.nm.size<=9223372036854775807)(ha:Rls w a l) :
 Calls Tryz.prog 15 #[.slice a l.length c,J6 l0] w fun r w'=>∃q:Int,r=.returned (J6 q)/\(0<=q->q<=1048576/\l.length<=1048576)/\(q<0->q = -1)/\Below w.heap.size w w':=by
 have HA:=h_ ha;have HF:=h_ hs
 clear ha hs
 have hw1:wrap64 (l0 - (l.length:Int))=l0 - (l.length:Int):=q55 (by omega) (by omega)
 by_cases h:(l.length:Int)<=l0
 . have h':¬ l0 - (l.length:Int)<0:=by omega
   obtain⟨lq,hlq⟩:=Nq (l0 - (l.length:Int));have HLQ:Hi (0<=lq/\lq<=1048576):=h_ (by omega);have HLN:Hi (l.length<=1048576):=h_ (by omega);rw[hlq]at h' hw1;go_enter Tryz.func15,Tryz.ntmps15;go_wp2_with fail;clear h h' hw1 hlq;go_loopw [1,5] (fun lf i wr=>∃(k:Nat) (lq:Int),k<=l.length/\i=J6 k/\lf=J6 lq/\0<=lq/\lq<=1048576/\Below w.heap.size w wr) (fun _ i _=>l.length - (intOf i).toNat)
   case atStart=>exact⟨0,lq,nZ _,rfl,rfl,HLQ.u.1,HLQ.u.2,bR _ _⟩
   case round =>
    clear HLQ;obtain⟨k,lq,hk,rfl,rfl,g0,g1,hb⟩:=hrel;have HB:=h_ hb;have HAr:=h_ (HA.u.mono hb);clear hb;by_cases hlt:k<l.length
    . have hlt':(k:Int)<l.length:=by omega
      obtain⟨b,o,rfl,-,z0,z1⟩:=HAr.u k hlt;have HC:=h_ (qaq l[k] lq wr (HF.u _ (Ye hlt)) g0 g1);generalize l[k]=x at *;go_wp2_with fail;refine HC.u.mono ?_;rintro r W2 ⟨q,rfl,hq1,hq2,hb⟩;have HB2:=mT HB hb;have HQ1:=h_ hq1;have HQ2:=h_ hq2;clear hb hq1 hq2 z0 z1;by_cases hr:q<0
      . go_wp2_with fail
        go_ret;exact⟨_,rfl,fun h=>absurd h (by decide),fun _=>rfl,HB2.u⟩
      . go_wp2_with fail
        go_roundw
        case rel=>first | exact⟨k+1,q,by omega,by go_num,rfl,by omega,HQ1.u (by omega),HB2.u⟩ | ((repeat apply Exists.intro);exact⟨⟨k+1,q,by omega,by go_num,rfl,by omega,HQ1.u (by omega),HB2.u⟩,rfl⟩)
        case measure=>simp[intOf];omega
    . obtain rfl:k=l.length:=by omega
      have hlt':¬ (l.length:Int)<(l.length:Int):=(by omega);go_wp2_with fail;go_ret;exact⟨_,rfl,fun _=>⟨g1,HLN.u⟩,fun h=>by omega,HB.u⟩
 . have h':l0 - (l.length:Int)<0:=by omega
   go_enter Tryz.func15,Tryz.ntmps15;go_wp2_with fail;go_ret;exact⟨_,rfl,fun h=>absurd h (by decide),fun _=>rfl,bR _ _⟩
theorem qdj {w w':World}{G n:Nat}{e:Nat->Nx}(h:Nods w (some ⟨G,0,none⟩) n e)(hk:w'.heap[G]? = w.heap[G]?)(hz:w'.heap.size=w.heap.size):Nods w' (some ⟨G,0,none⟩) n e:=fun k hkn=>by
 obtain⟨b,o,e1,h0,h1,h2,h3,h4,h5⟩:=h k hkn
 cases e1
 exact⟨G,0,rfl,by rw[hz];exact h0,(World.cell?_of_block (a:=⟨G,0+k*5,none⟩) hk).trans h1,(World.cell?_of_block (a:=⟨G,0+k*5+1,none⟩) hk).trans h2,(World.cell?_of_block (a:=⟨G,0+k*5+2,none⟩) hk).trans h3,(World.cell?_of_block (a:=⟨G,0+k*5+3,none⟩) hk).trans h4,(World.cell?_of_block (a:=⟨G,0+k*5+4,none⟩) hk).trans h5⟩
theorem qcy {w w':World}{G n:Nat}{e:Nat->Int}(h:Ints w (some ⟨G,0,none⟩) n e)(hk:w'.heap[G]? = w.heap[G]?)(hz:w'.heap.size=w.heap.size):Ints w' (some ⟨G,0,none⟩) n e:=fun k hkn=>by
 obtain⟨b,o,e1,h0,h1⟩:=h k hkn
 cases e1
 exact⟨G,0,rfl,by rw[hz];exact h0,(World.cell?_of_block (a:=⟨G,0+k,none⟩) hk).trans h1⟩
theorem Nods.other {w:World}{G n:Nat}{e:Nat->Nx}(h:Nods w (some ⟨G,0,none⟩) n e){R:Nat}(hR:G≠R)(j:Nat)(v:Value):Nods (w.setCell ⟨R,j,none⟩ v) (some ⟨G,0,none⟩) n e:=qdj h (heap_setCell_other w ⟨R,j,none⟩ G v hR) (by simp)
theorem Ints.other {w:World}{G n:Nat}{e:Nat->Int}(h:Ints w (some ⟨G,0,none⟩) n e){R:Nat}(hR:G≠R)(j:Nat)(v:Value):Ints (w.setCell ⟨R,j,none⟩ v) (some ⟨G,0,none⟩) n e:=qcy h (heap_setCell_other w ⟨R,j,none⟩ G v hR) (by simp)
def FarA (N:Nat)(A:FA):Prop:=∃g1 g2 g3 g4 g5:Nat,A.b=some ⟨g1,0,none⟩/\A.i=some ⟨g2,0,none⟩/\A.h=some ⟨g3,0,none⟩/\A.v=some ⟨g4,0,none⟩/\A.u=some ⟨g5,0,none⟩/\N<=g1/\N<=g2/\N<=g3/\N<=g4/\N<=g5
theorem FSl.keep {w w':World}{f:Fl}{A:FA}{N:Nat}(h:FSl w f A)(hA:FarA N A)(hk:∀G,N<=G->w'.heap[G]? = w.heap[G]?)(hz:w'.heap.size=w.heap.size):FSl w' f A:=by
 obtain⟨g1,g2,g3,g4,g5,e1,e2,e3,e4,e5,l1,l2,l3,l4,l5⟩:=hA
 obtain⟨h1,h2,h3,h4,h5⟩:=h
 unfold IntL at h1
 unfold NodL at h2 h3 h4 h5
 rw[e1]at h1;rw[e2]at h2;rw[e3]at h3;rw[e4]at h4;rw[e5]at h5
 refine⟨?_,?_,?_,?_,?_⟩
 . unfold IntL;rw[e1];exact qcy h1 (hk _ l1) hz
 . unfold NodL;rw[e2];exact qdj h2 (hk _ l2) hz
 . unfold NodL;rw[e3];exact qdj h3 (hk _ l3) hz
 . unfold NodL;rw[e4];exact qdj h4 (hk _ l4) hz
 . unfold NodL;rw[e5];exact qdj h5 (hk _ l5) hz
structure SmF (f:Fl):Prop where
 b:f.bys.length<=1048576
 i:f.is.length<=1048576
 h:f.wh.length<=1048576
 v:f.va.length<=1048576
 u:f.mu.length<=1048576
def FBk (N:Nat)(w:World)(f:Fl)(A:FA):Prop:=∃g1 g2 g3 g4 g5:Nat,A.b=some ⟨g1,0,none⟩/\A.i=some ⟨g2,0,none⟩/\A.h=some ⟨g3,0,none⟩/\A.v=some ⟨g4,0,none⟩/\A.u=some ⟨g5,0,none⟩/\(N<=g1/\N<=g2/\N<=g3/\N<=g4/\N<=g5)/\Bk w g1 3 f.bys.length/\Bk w g2 172 (f.is.length*5)/\Bk w g3 172 (f.wh.length*5)/\Bk w g4 172 (f.va.length*5)/\Bk w g5 172 (f.mu.length*5)
theorem FBk.keep {N:Nat}{w w':World}{f:Fl}{A:FA}(h:FBk N w f A)(hk:∀G,N<=G->G<w.heap.size->w'.heap[G]? = w.heap[G]?):FBk N w' f A:=by
 obtain⟨g1,g2,g3,g4,g5,e1,e2,e3,e4,e5,⟨l1,l2,l3,l4,l5⟩,b1,b2,b3,b4,b5⟩:=h
 exact⟨g1,g2,g3,g4,g5,e1,e2,e3,e4,e5,⟨l1,l2,l3,l4,l5⟩,b1.keep (hk _ l1 b1.lt),b2.keep (hk _ l2 b2.lt),b3.keep (hk _ l3 b3.lt),b4.keep (hk _ l4 b4.lt),b5.keep (hk _ l5 b5.lt)⟩
theorem FBk.lower {N N':Nat}{w:World}{f:Fl}{A:FA}(h:FBk N w f A)(hN:N'<=N):FBk N' w f A:=by
 obtain⟨g1,g2,g3,g4,g5,e1,e2,e3,e4,e5,⟨l1,l2,l3,l4,l5⟩,b⟩:=h
 exact⟨g1,g2,g3,g4,g5,e1,e2,e3,e4,e5,⟨by omega,by omega,by omega,by omega,by omega⟩,b⟩
theorem qar (f:Fl)(A:FA)(w:World)(hn:SmF f)(ha:FSl w f A) :
 Calls Tryz.prog 47 #[fV f A] w fun r w'=>∃A',r=.returned (fV f A')/\FSl w' f A'/\f.bys.length<=A'.bc/\FarA w.heap.size A'/\FBk w.heap.size w' f A'/\Below w.heap.size w w':=by
 obtain⟨ab,abc,ai,aic,ah,ahc,av,avc,au,auc⟩:=A
 have HA:=h_ ha;have HN:=h_ hn
 unfold fV
 dsimp only
 have HK:=h_ (((Blk.new w 80 (Ja f ab abc ai aic ah ahc av avc au auc)).alloc (.cells Jn 88)).alloc (.cells (Jr f) 88))
 have HR:=h_ ((Blk.new (w.alloc (.cells (Ja f ab abc ai aic ah ahc av avc au auc) 80)) 88 Jn).alloc (.cells (Jr f) 88))
 have HO:=h_ (Blk.new ((w.alloc (.cells (Ja f ab abc ai aic ah ahc av avc au auc) 80)).alloc (.cells Jn 88)) 88 (Jr f))
 have HB:=h_ ((((bR w.heap.size w).alloc (nR _) (.cells (Ja f ab abc ai aic ah ahc av avc au auc) 80)).alloc (by simp) (.cells Jn 88)).alloc (by simp;omega) (.cells (Jr f) 88))
 simp only[Yk]at HR HO
 obtain⟨V0,hV0⟩:∃V,((w.alloc (.cells (Ja f ab abc ai aic ah ahc av avc au auc) 80)).alloc (.cells Jn 88)).alloc (.cells (Jr f) 88)=V:=⟨_,rfl⟩
 have HZ:Hi (w.heap.size+3<=V0.heap.size):=h_ (by rw[<- hV0];simp)
 rw[hV0]at HK HR HO HB
 clear ha hn
 obtain⟨x0,x1,x2,x3,x4,x5,x6,x7,x8⟩:=nine HK.u
 go_enter Tryz.func47,Tryz.ntmps47
 go_wp2_with fail
 try rw[hV0]
 clear hV0 x0 x1 x2 x3 x4 x5 x6 x7 x8
 refine(qas ab (fun k=>f.bys.getD k 0) f.bys.length abc V0 (HA.u.mono HB.u).b HN.u.b).mono ?_
 rintro e w1 ⟨rfl,hP,hb⟩
 have hbk:Bk w1 V0.heap.size 3 f.bys.length:=⟨_,hP,by simp[is]⟩
 obtain⟨G1,hG1⟩:∃G,V0.heap.size=G:=⟨_,rfl⟩
 have hgG1:w.heap.size+3<=G1:=by have:=HZ.u;omega
 have HK':=mB HK hb;have HR':=mB HR hb;have HO':=mB HO hb;have HB':=mT HB hb
 have HZ':Hi (w.heap.size+3<=w1.heap.size):=h_ (by have:=HZ.u;have:=hb.size;omega)
 rw[hG1]at hP hbk⊢
 have HM3:=h_ hP.ints
 have HF3:=h_ hbk
 clear hP hbk hb hG1 HK HR HO HB HZ
 obtain⟨x0,x1,x2,x3,x4,x5,x6,x7,x8⟩:=nine HK'.u
 obtain⟨o0,o1,o2,o3,o4,o5,o6,o7,o8⟩:=nine HO'.u
 have e3:=HO'.u.free 3;have e7:=HO'.u.free 7
 go_wp2_with fail
 have HK:=h_ (HK'.u.other (.slice (some ⟨G1,0,none⟩) f.bys.length f.bys.length) (a:=⟨w.heap.size+2,3,none⟩) (by simp));have HR:=h_ (HR'.u.other (.slice (some ⟨G1,0,none⟩) f.bys.length f.bys.length) (a:=⟨w.heap.size+2,3,none⟩) (by simp));have HO:=h_ (HO'.u.set 3 (.slice (some ⟨G1,0,none⟩) f.bys.length f.bys.length));have HB:=h_ (HB'.u.setCell (p:=⟨w.heap.size+2,3,none⟩) (show w.heap.size<=w.heap.size+2 by omega) (.slice (some ⟨G1,0,none⟩) f.bys.length f.bys.length))
 have HZ:Hi (w.heap.size+3<=(w1.setCell ⟨w.heap.size+2,3,none⟩ (.slice (some ⟨G1,0,none⟩) f.bys.length f.bys.length)).heap.size):=h_ (by simpa using HZ'.u)
 replace HM3:=h_ (HM3.u.other (R:=w.heap.size+2) (by omega) 3 (.slice (some ⟨G1,0,none⟩) f.bys.length f.bys.length))
 replace HF3:=h_ (HF3.u.other (R:=w.heap.size+2) (by omega) 3 (.slice (some ⟨G1,0,none⟩) f.bys.length f.bys.length))
 obtain⟨V1,hV1⟩:∃V,(w1.setCell ⟨w.heap.size+2,3,none⟩ (.slice (some ⟨G1,0,none⟩) f.bys.length f.bys.length))=V:=⟨_,rfl⟩
 rw[hV1]at HK HR HO HB HZ HM3 HF3
 simp only[Yx,Y2]at HO
 try rw[hV1]
 clear hV1 HK' HR' HO' HB' HZ' x0 x1 x2 x3 x4 x5 x6 x7 x8 o0 o1 o2 o3 o4 o5 o6 o7 o8 e3 e7
 refine(qat ai (nf f.is) f.is.length aic V1 (HA.u.mono HB.u).i HN.u.i).mono ?_
 rintro e w2 ⟨rfl,hP,hbk,hb⟩
 obtain⟨G2,hG2⟩:∃G,V1.heap.size=G:=⟨_,rfl⟩
 have hgG2:w.heap.size+3<=G2:=by have:=HZ.u;omega
 have HK':=mB HK hb;have HR':=mB HR hb;have HO':=mB HO hb;have HB':=mT HB hb
 have HZ':Hi (w.heap.size+3<=w2.heap.size):=h_ (by have:=HZ.u;have:=hb.size;omega)
 replace HM3:=h_ (HM3.u.mono hb)
 replace HF3:=h_ (HF3.u.mono hb HF3.u.lt)
 rw[hG2]at hP hbk⊢
 have HM4:=h_ hP
 have HF4:=h_ hbk
 clear hP hbk hb hG2 HK HR HO HB HZ
 obtain⟨x0,x1,x2,x3,x4,x5,x6,x7,x8⟩:=nine HK'.u
 obtain⟨o0,o1,o2,o3,o4,o5,o6,o7,o8⟩:=nine HO'.u
 have e3:=HO'.u.free 4;have e7:=HO'.u.free 7
 go_wp2_with fail
 have HK:=h_ (HK'.u.other (.slice (some ⟨G2,0,none⟩) f.is.length f.is.length) (a:=⟨w.heap.size+2,4,none⟩) (by simp));have HR:=h_ (HR'.u.other (.slice (some ⟨G2,0,none⟩) f.is.length f.is.length) (a:=⟨w.heap.size+2,4,none⟩) (by simp));have HO:=h_ (HO'.u.set 4 (.slice (some ⟨G2,0,none⟩) f.is.length f.is.length));have HB:=h_ (HB'.u.setCell (p:=⟨w.heap.size+2,4,none⟩) (show w.heap.size<=w.heap.size+2 by omega) (.slice (some ⟨G2,0,none⟩) f.is.length f.is.length))
 have HZ:Hi (w.heap.size+3<=(w2.setCell ⟨w.heap.size+2,4,none⟩ (.slice (some ⟨G2,0,none⟩) f.is.length f.is.length)).heap.size):=h_ (by simpa using HZ'.u)
 replace HM3:=h_ (HM3.u.other (R:=w.heap.size+2) (by omega) 4 (.slice (some ⟨G2,0,none⟩) f.is.length f.is.length))
 replace HF3:=h_ (HF3.u.other (R:=w.heap.size+2) (by omega) 4 (.slice (some ⟨G2,0,none⟩) f.is.length f.is.length))
 replace HM4:=h_ (HM4.u.other (R:=w.heap.size+2) (by omega) 4 (.slice (some ⟨G2,0,none⟩) f.is.length f.is.length))
 replace HF4:=h_ (HF4.u.other (R:=w.heap.size+2) (by omega) 4 (.slice (some ⟨G2,0,none⟩) f.is.length f.is.length))
 obtain⟨V2,hV2⟩:∃V,(w2.setCell ⟨w.heap.size+2,4,none⟩ (.slice (some ⟨G2,0,none⟩) f.is.length f.is.length))=V:=⟨_,rfl⟩
 rw[hV2]at HK HR HO HB HZ HM3 HM4 HF3 HF4
 simp only[Yx,Y2]at HO
 try rw[hV2]
 clear hV2 HK' HR' HO' HB' HZ' x0 x1 x2 x3 x4 x5 x6 x7 x8 o0 o1 o2 o3 o4 o5 o6 o7 o8 e3 e7
 refine(qat ah (nf f.wh) f.wh.length ahc V2 (HA.u.mono HB.u).h HN.u.h).mono ?_
 rintro e w3 ⟨rfl,hP,hbk,hb⟩
 obtain⟨G3,hG3⟩:∃G,V2.heap.size=G:=⟨_,rfl⟩
 have hgG3:w.heap.size+3<=G3:=by have:=HZ.u;omega
 have HK':=mB HK hb;have HR':=mB HR hb;have HO':=mB HO hb;have HB':=mT HB hb
 have HZ':Hi (w.heap.size+3<=w3.heap.size):=h_ (by have:=HZ.u;have:=hb.size;omega)
 replace HM3:=h_ (HM3.u.mono hb)
 replace HF3:=h_ (HF3.u.mono hb HF3.u.lt)
 replace HM4:=h_ (HM4.u.mono hb)
 replace HF4:=h_ (HF4.u.mono hb HF4.u.lt)
 rw[hG3]at hP hbk⊢
 have HM5:=h_ hP
 have HF5:=h_ hbk
 clear hP hbk hb hG3 HK HR HO HB HZ
 obtain⟨x0,x1,x2,x3,x4,x5,x6,x7,x8⟩:=nine HK'.u
 obtain⟨o0,o1,o2,o3,o4,o5,o6,o7,o8⟩:=nine HO'.u
 have e3:=HO'.u.free 5;have e7:=HO'.u.free 7
 go_wp2_with fail
 have HK:=h_ (HK'.u.other (.slice (some ⟨G3,0,none⟩) f.wh.length f.wh.length) (a:=⟨w.heap.size+2,5,none⟩) (by simp));have HR:=h_ (HR'.u.other (.slice (some ⟨G3,0,none⟩) f.wh.length f.wh.length) (a:=⟨w.heap.size+2,5,none⟩) (by simp));have HO:=h_ (HO'.u.set 5 (.slice (some ⟨G3,0,none⟩) f.wh.length f.wh.length));have HB:=h_ (HB'.u.setCell (p:=⟨w.heap.size+2,5,none⟩) (show w.heap.size<=w.heap.size+2 by omega) (.slice (some ⟨G3,0,none⟩) f.wh.length f.wh.length))
 have HZ:Hi (w.heap.size+3<=(w3.setCell ⟨w.heap.size+2,5,none⟩ (.slice (some ⟨G3,0,none⟩) f.wh.length f.wh.length)).heap.size):=h_ (by simpa using HZ'.u)
 replace HM3:=h_ (HM3.u.other (R:=w.heap.size+2) (by omega) 5 (.slice (some ⟨G3,0,none⟩) f.wh.length f.wh.length))
 replace HF3:=h_ (HF3.u.other (R:=w.heap.size+2) (by omega) 5 (.slice (some ⟨G3,0,none⟩) f.wh.length f.wh.length))
 replace HM4:=h_ (HM4.u.other (R:=w.heap.size+2) (by omega) 5 (.slice (some ⟨G3,0,none⟩) f.wh.length f.wh.length))
 replace HF4:=h_ (HF4.u.other (R:=w.heap.size+2) (by omega) 5 (.slice (some ⟨G3,0,none⟩) f.wh.length f.wh.length))
 replace HM5:=h_ (HM5.u.other (R:=w.heap.size+2) (by omega) 5 (.slice (some ⟨G3,0,none⟩) f.wh.length f.wh.length))
 replace HF5:=h_ (HF5.u.other (R:=w.heap.size+2) (by omega) 5 (.slice (some ⟨G3,0,none⟩) f.wh.length f.wh.length))
 obtain⟨V3,hV3⟩:∃V,(w3.setCell ⟨w.heap.size+2,5,none⟩ (.slice (some ⟨G3,0,none⟩) f.wh.length f.wh.length))=V:=⟨_,rfl⟩
 rw[hV3]at HK HR HO HB HZ HM3 HM4 HM5 HF3 HF4 HF5
 simp only[Yx,Y2]at HO
 try rw[hV3]
 clear hV3 HK' HR' HO' HB' HZ' x0 x1 x2 x3 x4 x5 x6 x7 x8 o0 o1 o2 o3 o4 o5 o6 o7 o8 e3 e7
 refine(qat av (nf f.va) f.va.length avc V3 (HA.u.mono HB.u).v HN.u.v).mono ?_
 rintro e w4 ⟨rfl,hP,hbk,hb⟩
 obtain⟨G4,hG4⟩:∃G,V3.heap.size=G:=⟨_,rfl⟩
 have hgG4:w.heap.size+3<=G4:=by have:=HZ.u;omega
 have HK':=mB HK hb;have HR':=mB HR hb;have HO':=mB HO hb;have HB':=mT HB hb
 have HZ':Hi (w.heap.size+3<=w4.heap.size):=h_ (by have:=HZ.u;have:=hb.size;omega)
 replace HM3:=h_ (HM3.u.mono hb)
 replace HF3:=h_ (HF3.u.mono hb HF3.u.lt)
 replace HM4:=h_ (HM4.u.mono hb)
 replace HF4:=h_ (HF4.u.mono hb HF4.u.lt)
 replace HM5:=h_ (HM5.u.mono hb)
 replace HF5:=h_ (HF5.u.mono hb HF5.u.lt)
 rw[hG4]at hP hbk⊢
 have HM6:=h_ hP
 have HF6:=h_ hbk
 clear hP hbk hb hG4 HK HR HO HB HZ
 obtain⟨x0,x1,x2,x3,x4,x5,x6,x7,x8⟩:=nine HK'.u
 obtain⟨o0,o1,o2,o3,o4,o5,o6,o7,o8⟩:=nine HO'.u
 have e3:=HO'.u.free 6;have e7:=HO'.u.free 7
 go_wp2_with fail
 have HK:=h_ ((HK'.u.other (.slice (some ⟨G4,0,none⟩) f.va.length f.va.length) (a:=⟨w.heap.size+2,6,none⟩) (by simp)).other (.string f.sy) (a:=⟨w.heap.size+2,7,none⟩) (by simp));have HR:=h_ ((HR'.u.other (.slice (some ⟨G4,0,none⟩) f.va.length f.va.length) (a:=⟨w.heap.size+2,6,none⟩) (by simp)).other (.string f.sy) (a:=⟨w.heap.size+2,7,none⟩) (by simp));have HO:=h_ ((HO'.u.set 6 (.slice (some ⟨G4,0,none⟩) f.va.length f.va.length)).set 7 (.string f.sy));have HB:=h_ ((HB'.u.setCell (p:=⟨w.heap.size+2,6,none⟩) (show w.heap.size<=w.heap.size+2 by omega) (.slice (some ⟨G4,0,none⟩) f.va.length f.va.length)).setCell (p:=⟨w.heap.size+2,7,none⟩) (show w.heap.size<=w.heap.size+2 by omega) (.string f.sy))
 have HZ:Hi (w.heap.size+3<=((w4.setCell ⟨w.heap.size+2,6,none⟩ (.slice (some ⟨G4,0,none⟩) f.va.length f.va.length)).setCell ⟨w.heap.size+2,7,none⟩ (.string f.sy)).heap.size):=h_ (by simpa using HZ'.u)
 replace HM3:=h_ ((HM3.u.other (R:=w.heap.size+2) (by omega) 6 (.slice (some ⟨G4,0,none⟩) f.va.length f.va.length)).other (R:=w.heap.size+2) (by omega) 7 (.string f.sy))
 replace HF3:=h_ ((HF3.u.other (R:=w.heap.size+2) (by omega) 6 (.slice (some ⟨G4,0,none⟩) f.va.length f.va.length)).other (R:=w.heap.size+2) (by omega) 7 (.string f.sy))
 replace HM4:=h_ ((HM4.u.other (R:=w.heap.size+2) (by omega) 6 (.slice (some ⟨G4,0,none⟩) f.va.length f.va.length)).other (R:=w.heap.size+2) (by omega) 7 (.string f.sy))
 replace HF4:=h_ ((HF4.u.other (R:=w.heap.size+2) (by omega) 6 (.slice (some ⟨G4,0,none⟩) f.va.length f.va.length)).other (R:=w.heap.size+2) (by omega) 7 (.string f.sy))
 replace HM5:=h_ ((HM5.u.other (R:=w.heap.size+2) (by omega) 6 (.slice (some ⟨G4,0,none⟩) f.va.length f.va.length)).other (R:=w.heap.size+2) (by omega) 7 (.string f.sy))
 replace HF5:=h_ ((HF5.u.other (R:=w.heap.size+2) (by omega) 6 (.slice (some ⟨G4,0,none⟩) f.va.length f.va.length)).other (R:=w.heap.size+2) (by omega) 7 (.string f.sy))
 replace HM6:=h_ ((HM6.u.other (R:=w.heap.size+2) (by omega) 6 (.slice (some ⟨G4,0,none⟩) f.va.length f.va.length)).other (R:=w.heap.size+2) (by omega) 7 (.string f.sy))
 replace HF6:=h_ ((HF6.u.other (R:=w.heap.size+2) (by omega) 6 (.slice (some ⟨G4,0,none⟩) f.va.length f.va.length)).other (R:=w.heap.size+2) (by omega) 7 (.string f.sy))
 obtain⟨V4,hV4⟩:∃V,((w4.setCell ⟨w.heap.size+2,6,none⟩ (.slice (some ⟨G4,0,none⟩) f.va.length f.va.length)).setCell ⟨w.heap.size+2,7,none⟩ (.string f.sy))=V:=⟨_,rfl⟩
 rw[hV4]at HK HR HO HB HZ HM3 HM4 HM5 HM6 HF3 HF4 HF5 HF6
 simp only[Yx,Y2]at HO
 try rw[hV4]
 clear hV4 HK' HR' HO' HB' HZ' x0 x1 x2 x3 x4 x5 x6 x7 x8 o0 o1 o2 o3 o4 o5 o6 o7 o8 e3 e7
 refine(qat au (nf f.mu) f.mu.length auc V4 (HA.u.mono HB.u).u HN.u.u).mono ?_
 rintro e w5 ⟨rfl,hP,hbk,hb⟩
 obtain⟨G5,hG5⟩:∃G,V4.heap.size=G:=⟨_,rfl⟩
 have hgG5:w.heap.size+3<=G5:=by have:=HZ.u;omega
 have HK':=mB HK hb;have HR':=mB HR hb;have HO':=mB HO hb;have HB':=mT HB hb
 have HZ':Hi (w.heap.size+3<=w5.heap.size):=h_ (by have:=HZ.u;have:=hb.size;omega)
 replace HM3:=h_ (HM3.u.mono hb)
 replace HF3:=h_ (HF3.u.mono hb HF3.u.lt)
 replace HM4:=h_ (HM4.u.mono hb)
 replace HF4:=h_ (HF4.u.mono hb HF4.u.lt)
 replace HM5:=h_ (HM5.u.mono hb)
 replace HF5:=h_ (HF5.u.mono hb HF5.u.lt)
 replace HM6:=h_ (HM6.u.mono hb)
 replace HF6:=h_ (HF6.u.mono hb HF6.u.lt)
 rw[hG5]at hP hbk⊢
 have HM8:=h_ hP
 have HF8:=h_ hbk
 clear hP hbk hb hG5 HK HR HO HB HZ
 obtain⟨x0,x1,x2,x3,x4,x5,x6,x7,x8⟩:=nine HK'.u
 obtain⟨o0,o1,o2,o3,o4,o5,o6,o7,o8⟩:=nine HO'.u
 have e3:=HO'.u.free 8;have e7:=HO'.u.free 7
 obtain⟨r0,r1,r2,r3,r4,r5,r6,r7,r8⟩:=nine HR'.u
 have s0:=HR'.u.free 0;have s1:=HR'.u.free 1;have s2:=HR'.u.free 2;have s3:=HR'.u.free 3;have s4:=HR'.u.free 4;have s5:=HR'.u.free 5;have s6:=HR'.u.free 6;have s7:=HR'.u.free 7;have s8:=HR'.u.free 8
 have HF:Hi (∀(W:World),(∀G,w.heap.size+3<=G->W.heap[G]? = w5.heap[G]?)->W.heap.size=w5.heap.size->FSl W f ⟨some ⟨G1,0,none⟩,f.bys.length,some ⟨G2,0,none⟩,f.is.length,some ⟨G3,0,none⟩,f.wh.length,some ⟨G4,0,none⟩,f.va.length,some ⟨G5,0,none⟩,f.mu.length⟩):=h_ fun W hW hz=>⟨qcy HM3.u (hW _ hgG1) hz,qdj HM4.u (hW _ hgG2) hz,qdj HM5.u (hW _ hgG3) hz,qdj HM6.u (hW _ hgG4) hz,qdj HM8.u (hW _ hgG5) hz⟩
 go_wp2_with fail
 refine bodyPost_ret (v:=.agg #[.string f.nm,J6 f.ty,J6 f.lb,.slice (some ⟨G1,0,none⟩) f.bys.length f.bys.length,.slice (some ⟨G2,0,none⟩) f.is.length f.is.length,.slice (some ⟨G3,0,none⟩) f.wh.length f.wh.length,.slice (some ⟨G4,0,none⟩) f.va.length f.va.length,.string f.sy,.slice (some ⟨G5,0,none⟩) f.mu.length f.mu.length]) (by simp[results,Tryz.results47,go_sem, *]) rfl ⟨⟨some ⟨G1,0,none⟩,f.bys.length,some ⟨G2,0,none⟩,f.is.length,some ⟨G3,0,none⟩,f.wh.length,some ⟨G4,0,none⟩,f.va.length,some ⟨G5,0,none⟩,f.mu.length⟩,rfl,?_,nR _,⟨G1,G2,G3,G4,G5,rfl,rfl,rfl,rfl,rfl,by omega,by omega,by omega,by omega,by omega⟩,?_,?_⟩
 . refine HF.u _ (fun G hG=>?_) (by simp)
   repeat rw[heap_setCell_other _ _ _ _ (by simp;omega)]
 . have hk:∀(W:World),(∀G,w.heap.size+3<=G->W.heap[G]? = w5.heap[G]?)->FBk w.heap.size W f ⟨some ⟨G1,0,none⟩,f.bys.length,some ⟨G2,0,none⟩,f.is.length,some ⟨G3,0,none⟩,f.wh.length,some ⟨G4,0,none⟩,f.va.length,some ⟨G5,0,none⟩,f.mu.length⟩:=fun W hW=>⟨G1,G2,G3,G4,G5,rfl,rfl,rfl,rfl,rfl,⟨by omega,by omega,by omega,by omega,by omega⟩,HF3.u.keep (hW _ hgG1),HF4.u.keep (hW _ hgG2),HF5.u.keep (hW _ hgG3),HF6.u.keep (hW _ hgG4),HF8.u.keep (hW _ hgG5)⟩
   refine hk _ (fun G hG=>?_)
   repeat rw[heap_setCell_other _ _ _ _ (by simp;omega)]
 . repeat refine Below.setCell ?_ (by simp;try omega) _
   exact HB'.u
theorem q3f {w:World}{base e g n:Nat}{xs:List Value}(h:w.ownsRow base e 9 (.slice (some ⟨g,0,none⟩) n n) n xs):Blk w g e xs/\xs.length=n*9:=by
 refine⟨?_,h.1⟩
 rcases h.2 with ⟨h',_⟩ | ⟨g',cap',cur,h',_,hg,_,_,hs,htake⟩
 . simp at h'
 . simp only[Value.slice.injEq,Z9,Addr.mk.injEq,and_true,true_and]at h'
   obtain⟨rfl,rfl⟩:=h';rw[Yz (by simp;omega)]at htake;rw[<- htake];simpa [Blk] using hg
theorem q8w:(Tryz.prog.info? 88).map (fun i=>(i.zero,i.size,i.bytes))=some (some (.agg Jn),9,168):=by kernel_rfl
def Rows9 (xs:List Value)(l:List Fl)(AF:Nat->FA)(k:Nat):Prop:=∀j (h:j<l.length),j<k->xs[j*9]? = some (.string l[j].nm)/\xs[j*9+1]? = some (.int .i64 l[j].ty)/\xs[j*9+2]? = some (.int .i64 l[j].lb)/\xs[j*9+3]? = some (.slice (AF j).b l[j].bys.length (AF j).bc)/\xs[j*9+4]? = some (.slice (AF j).i l[j].is.length (AF j).ic)/\xs[j*9+5]? = some (.slice (AF j).h l[j].wh.length (AF j).hc)/\xs[j*9+6]? = some (.slice (AF j).v l[j].va.length (AF j).vc)/\xs[j*9+7]? = some (.string l[j].sy)/\xs[j*9+8]? = some (.slice (AF j).u l[j].mu.length (AF j).uc)
theorem q7n (a:Option Addr)(l:List Fl)(AF0:Nat->FA)(c:Nat)(w:World)(ha:Flds w a l AF0)(hn:l.length<=1048576)(hs:∀x,x∈l->SmF x) :
 Calls Tryz.prog 24 #[.slice a l.length c] w fun r w'=>∃AF,r=.returned (.slice (some ⟨w.heap.size,0,none⟩) l.length l.length)/\Flds w' (some ⟨w.heap.size,0,none⟩) l AF/\(∀k (h:k<l.length),l[k].bys.length<=(AF k).bc/\FarA (w.heap.size+1) (AF k)/\FBk (w.heap.size+1) w' l[k] (AF k))/\Bk w' w.heap.size 88 (l.length*9)/\Below w.heap.size w w':=by
 obtain⟨i0,hi,hz0,hz1,hz2⟩:=info_parts q8w
 obtain⟨B,hB⟩:=Nq w.heap.size
 have hbn:i0.bytes*l.length<=281474976710656:=by rw[hz2];omega
 have HA:=h_ ha;have HSm:=h_ hs
 clear ha hs
 go_enter Tryz.func24,Tryz.ntmps24
 go_wp2_with (at_make;refine wpList_make_full _ rfl _ _ 34 rfl w.heap.size 88 i0 _ 9 Tryz.underlying34 hi hz0 hz1 .i64 .i64 _ _ l.length rfl rfl rfl rfl hbn (by unfold maxLen;omega) (nR _) ?_;intro w1 hown hgrow)
 have hb1:Below B w w1:=by rw[<- hB];exact(bR _ _).grown hgrow (nR _) (fun k h=>by cases h)
 rw[hB]at hown
 obtain⟨hX,hXl⟩:=q3f hown
 have HX:=h_ hX;have HXL:=h_ hXl;have HB1:=h_ hb1
 clear hgrow hbn hi hz0 hz1 hz2 hown hX hXl hb1
 go_wp2_with fail
 try rw[hB]
 go_loopw [4] (fun i wr=>∃(k:Nat) (xs:List Value) (AF:Nat->FA),k<=l.length/\i=J6 k/\Blk wr B 88 xs/\xs.length=l.length*9/\Rows9 xs l AF k/\(∀j (h:j<l.length),j<k->FSl wr l[j] (AF j)/\FarA (B+1) (AF j)/\l[j].bys.length<=(AF j).bc/\FBk (B+1) wr l[j] (AF j))/\Below B w wr) (fun i _=>l.length - (intOf i).toNat)
 case atStart=>exact⟨0,_,AF0,nZ _,rfl,HX.u,HXL.u,fun j _ h=>absurd h (nL _),fun j _ h=>absurd h (nL _),HB1.u⟩
 case round =>
  clear HX HXL HB1;obtain⟨k,xs,AF,hk,rfl,hX,hXl,hx,hsl,hb⟩:=hrel;have HX:=h_ hX;have HXL:=h_ hXl;have HXX:=h_ hx;have HB:=h_ hb;have HSl:=h_ hsl;have HV:=h_ (HA.u.mono (hb.mono (by omega)));clear hX hXl hx hb hsl;by_cases hlt:k<l.length
  . have hlt':(k:Int)<l.length:=by omega
    obtain⟨b1,o1,rfl,⟨-,z0,z1,z2,z3,z4,z5,z6,z7,z8⟩,hsf⟩:=HV.u k hlt;have HC:=h_ (qar l[k] (AF0 k) wr (HSm.u _ (Ye hlt)) hsf);obtain⟨u,hu⟩:=Nq (l[k]);rw[hu]at z0 z1 z2 z3 z4 z5 z6 z7 z8 HC;have HU:=h_ hu;clear hu hsf;generalize AF0 k=fa at *;obtain⟨ab,abc,ai,aic,ah,ahc,av,avc,au,auc⟩:=fa;unfold fV at HC;dsimp only at z3 z4 z5 z6 z8 HC;go_wp2_with fail;refine HC.u.mono ?_;rintro x w3 ⟨A',rfl,hs3,hcap,hfar,hfb,hb3⟩;have HFb:=h_ hfb;have X3:=HX.u.mono hb3 HX.u.lt;have B3:=HB.u.trans (hb3.mono (by have:=HX.u.lt;omega));have c0:=X3.cell (k*9);have c1:=X3.cell (k*9+1);have c2:=X3.cell (k*9+2);have c3:=X3.cell (k*9+3);have c4:=X3.cell (k*9+4);have c5:=X3.cell (k*9+5);have c6:=X3.cell (k*9+6);have c7:=X3.cell (k*9+7);have c8:=X3.cell (k*9+8);have f0:=X3.free (k*9);have f1:=X3.free (k*9+1);have f2:=X3.free (k*9+2);have f3:=X3.free (k*9+3);have f4:=X3.free (k*9+4);have f5:=X3.free (k*9+5);have f6:=X3.free (k*9+6);have f7:=X3.free (k*9+7);have f8:=X3.free (k*9+8);rw[Yc (by have:=HXL.u;omega)]at c0 c1 c2 c3 c4 c5 c6 c7 c8;have HX3:=h_ X3;have HB3:=h_ B3;have HS3:=h_ hs3;have HFar:=h_ hfar;have HCap:=h_ hcap;have hBw:B<wr.heap.size:=HX.u.lt;have HSl3:Hi (∀j (h:j<l.length),j<k->FSl w3 l[j] (AF j)/\FarA (B+1) (AF j)/\l[j].bys.length<=(AF j).bc/\FBk (B+1) w3 l[j] (AF j)):=h_ fun j h hj=>⟨(HSl.u j h hj).1.mono hb3,(HSl.u j h hj).2.1,(HSl.u j h hj).2.2.1,(HSl.u j h hj).2.2.2.keep fun G _ hG=>hb3.block G hG⟩;clear X3 B3 hb3 z0 z1 z2 z3 z4 z5 z6 z7 z8 hs3 hfar hcap hfb HC;go_wp2_with fail;go_roundw
    case rel =>
     have hxl:=HXL.u;have hu:=HU.u;obtain⟨g1,g2,g3,g4,g5,e1,e2,e3,e4,e5,l1,l2,l3,l4,l5⟩:=HFar.u;have hfar2:FarA (B+1) A':=⟨g1,g2,g3,g4,g5,e1,e2,e3,e4,e5,by omega,by omega,by omega,by omega,by omega⟩;refine⟨k+1,_,fun j=>if j=k then A' else AF j,by omega,by go_num,((((((((HX3.u.set (k*9) (.string u.nm)).set (k*9+1) (J6 u.ty)).set (k*9+2) (J6 u.lb)).set (k*9+3) (.slice A'.b u.bys.length A'.bc)).set (k*9+4) (.slice A'.i u.is.length A'.ic)).set (k*9+5) (.slice A'.h u.wh.length A'.hc)).set (k*9+6) (.slice A'.v u.va.length A'.vc)).set (k*9+7) (.string u.sy)).set (k*9+8) (.slice A'.u u.mu.length A'.uc),by simpa using hxl,fun j hjl hj=>?_,fun j hjl hj=>?_,((((((((HB3.u.setCell (nR _) _).setCell (nR _) _).setCell (nR _) _).setCell (nR _) _).setCell (nR _) _).setCell (nR _) _).setCell (nR _) _).setCell (nR _) _).setCell (nR _) _⟩
     . by_cases ej:j=k
       . subst ej
         simp only[Yv];rw[hu];simp[List.getElem?_set];omega
       . have:=HXX.u j hjl (by omega)
         simp only[Yn ej,Vh]
         (repeat rw[Yn (by omega)])
         exact this
     . have hkeep:∀G,B+1<=G->((((((((((w3.setCell ⟨B,k*9,none⟩ (.string u.nm)).setCell ⟨B,k*9+1,none⟩ (J6 u.ty)).setCell ⟨B,k*9+2,none⟩ (J6 u.lb)).setCell ⟨B,k*9+3,none⟩ (.slice A'.b u.bys.length A'.bc)).setCell ⟨B,k*9+4,none⟩ (.slice A'.i u.is.length A'.ic)).setCell ⟨B,k*9+5,none⟩ (.slice A'.h u.wh.length A'.hc)).setCell ⟨B,k*9+6,none⟩ (.slice A'.v u.va.length A'.vc)).setCell ⟨B,k*9+7,none⟩ (.string u.sy)).setCell ⟨B,k*9+8,none⟩ (.slice A'.u u.mu.length A'.uc)).heap[G]? = w3.heap[G]?):=fun G hG=>by
        repeat rw[heap_setCell_other _ _ _ _ (by simp;omega)]
       by_cases ej:j=k
       . subst ej
         simp only[Yv];rw[hu];exact⟨HS3.u.keep hfar2 hkeep (by simp),hfar2,HCap.u,(HFb.u.lower (by omega)).keep fun G hG _=>hkeep G hG⟩
       . simp only[Yn ej]
         have h0:=HSl3.u j hjl (by omega);exact⟨h0.1.keep h0.2.1 hkeep (by simp),h0.2.1,h0.2.2.1,h0.2.2.2.keep fun G hG _=>hkeep G hG⟩
    case measure=>simp[intOf];omega
  . obtain rfl:k=l.length:=by omega
    have hlt':¬ (l.length:Int)<(l.length:Int):=(by omega);go_wp2_with fail;go_ret;refine⟨rfl,AF,?_,fun j h=>⟨(HSl.u j h h).2.2.1,(HSl.u j h h).2.1,(HSl.u j h h).2.2.2⟩,⟨_,HX.u,HXL.u⟩,HB.u⟩;intro j hj;obtain⟨h0,h1,h2,h3,h4,h5,h6,h7,h8⟩:=HXX.u j hj hj;have hX:=HX.u;exact⟨B,0,rfl,⟨hX.lt,by rw[Y7,hX.cell];exact h0,by rw[Y7,hX.cell];exact h1,by rw[Y7,hX.cell];exact h2,by rw[Y7,hX.cell];exact h3,by rw[Y7,hX.cell];exact h4,by rw[Y7,hX.cell];exact h5,by rw[Y7,hX.cell];exact h6,by rw[Y7,hX.cell];exact h7,by rw[Y7,hX.cell];exact h8⟩,(HSl.u j hj hj).1⟩
theorem q7j (f:Fl)(A:FA)(l0:Int)(w:World)(hf:FitF f)(h0:0<=l0)(h1:l0<=1048576)(ha:FSl w f A) :
 Calls Tryz.prog 38 #[fV f A,J6 l0] w fun r w'=>∃q:Int,r=.returned (J6 q)/\(0<=q->q<=1048576/\SmF f)/\(q<0->q = -1)/\Below w.heap.size w w':=by
 obtain⟨ab,abc,ai,aic,ah,ahc,av,avc,au,auc⟩:=A
 unfold fV
 dsimp only
 have HK:=h_ (Blk.new w 80 (Ja f ab abc ai aic ah ahc av avc au auc))
 have HB:=h_ ((bR w.heap.size w).alloc (nR _) (.cells (Ja f ab abc ai aic ah ahc av avc au auc) 80))
 obtain⟨W0,hW0⟩:=Nq (w.alloc (.cells (Ja f ab abc ai aic ah ahc av avc au auc) 80))
 rw[hW0]at HK HB
 have HS:=h_ (ha.mono HB.u);have HF:=h_ hf
 have hnm:=hf.nm;have hsy:=hf.sy
 clear ha hf
 obtain⟨x0,x1,x2,x3,x4,x5,x6,x7,x8⟩:=nine HK.u
 have hw1:wrap64 (l0 - (f.nm.size:Int))=l0 - (f.nm.size:Int):=q55 (by omega) (by omega)
 by_cases h:(f.nm.size:Int)<=l0
 case neg =>
  have h':l0 - (f.nm.size:Int)<0:=by omega
  go_enter Tryz.func38,Tryz.ntmps38;go_wp2_with fail;go_ret;exact⟨_,rfl,fun h=>absurd h (by decide),fun _=>rfl,HB.u⟩
 have h':¬ l0 - (f.nm.size:Int)<0:=by omega
 obtain⟨q0,hq0⟩:=Nq (l0 - (f.nm.size:Int))
 have g0:0<=q0:=by omega
 have g1:q0<=1048576:=by omega
 rw[hq0]at hw1 h'
 clear h
 go_enter Tryz.func38,Tryz.ntmps38
 go_wp2_with fail
 try rw[hW0]
 clear hW0 hw1 h' hq0
 refine(q7k ab abc f.bys.length q0 W0 g0 g1 HF.u.bl).mono ?_
 rintro r W1 ⟨q1,rfl,hq,hm,hb⟩
 replace HK:=mB HK hb;replace HS:=h_ (HS.u.mono hb);replace HB:=mT HB hb
 have HQ1:=h_ hq
 clear hq hm hb x0 x1 x2 x3 x4 x5 x6 x7 x8
 obtain⟨x0,x1,x2,x3,x4,x5,x6,x7,x8⟩:=nine HK.u
 by_cases hr1:q1<0
 . go_wp2_with fail
   go_ret;exact⟨_,rfl,fun h=>absurd h (by decide),fun _=>rfl,HB.u⟩
 have hl1:q1<=1048576:=(HQ1.u (by omega)).1
 have hk1:f.bys.length<=1048576:=(HQ1.u (by omega)).2
 go_wp2_with fail
 refine(q7l ai f.is.length aic (nf f.is) q1 W1 (by omega) hl1 HF.u.il HF.u.i HS.u.i).mono ?_
 rintro r W2 ⟨q2,rfl,hq,hm,hb⟩
 replace HK:=mB HK hb;replace HS:=h_ (HS.u.mono hb);replace HB:=mT HB hb
 have HQ2:=h_ hq
 clear hq hm hb x0 x1 x2 x3 x4 x5 x6 x7 x8
 obtain⟨x0,x1,x2,x3,x4,x5,x6,x7,x8⟩:=nine HK.u
 by_cases hr2:q2<0
 . go_wp2_with fail
   go_ret;exact⟨_,rfl,fun h=>absurd h (by decide),fun _=>rfl,HB.u⟩
 have hl2:q2<=1048576:=(HQ2.u (by omega)).1
 have hk2:f.is.length<=1048576:=(HQ2.u (by omega)).2.1
 go_wp2_with fail
 refine(q7l ah f.wh.length ahc (nf f.wh) q2 W2 (by omega) hl2 HF.u.hl HF.u.h HS.u.h).mono ?_
 rintro r W3 ⟨q3,rfl,hq,hm,hb⟩
 replace HK:=mB HK hb;replace HS:=h_ (HS.u.mono hb);replace HB:=mT HB hb
 have HQ3:=h_ hq
 clear hq hm hb x0 x1 x2 x3 x4 x5 x6 x7 x8
 obtain⟨x0,x1,x2,x3,x4,x5,x6,x7,x8⟩:=nine HK.u
 by_cases hr3:q3<0
 . go_wp2_with fail
   go_ret;exact⟨_,rfl,fun h=>absurd h (by decide),fun _=>rfl,HB.u⟩
 have hl3:q3<=1048576:=(HQ3.u (by omega)).1
 have hk3:f.wh.length<=1048576:=(HQ3.u (by omega)).2.1
 go_wp2_with fail
 refine(q7l av f.va.length avc (nf f.va) q3 W3 (by omega) hl3 HF.u.vl HF.u.v HS.u.v).mono ?_
 rintro r W4 ⟨q4,rfl,hq,hm,hb⟩
 replace HK:=mB HK hb;replace HS:=h_ (HS.u.mono hb);replace HB:=mT HB hb
 have HQ4:=h_ hq
 clear hq hm hb x0 x1 x2 x3 x4 x5 x6 x7 x8
 obtain⟨x0,x1,x2,x3,x4,x5,x6,x7,x8⟩:=nine HK.u
 by_cases hr4:q4<0
 . go_wp2_with fail
   go_ret;exact⟨_,rfl,fun h=>absurd h (by decide),fun _=>rfl,HB.u⟩
 have hl4:q4<=1048576:=(HQ4.u (by omega)).1
 have hk4:f.va.length<=1048576:=(HQ4.u (by omega)).2.1
 have hw2:wrap64 (q4 - (f.sy.size:Int))=q4 - (f.sy.size:Int):=q55 (by omega) (by omega)
 by_cases h:(f.sy.size:Int)<=q4
 case neg =>
  have h':q4 - (f.sy.size:Int)<0:=by omega
  go_wp2_with fail;go_ret;exact⟨_,rfl,fun h=>absurd h (by decide),fun _=>rfl,HB.u⟩
 have h':¬ q4 - (f.sy.size:Int)<0:=by omega
 obtain⟨q5,hq5⟩:=Nq (q4 - (f.sy.size:Int))
 have g5:0<=q5:=by omega
 have g6:q5<=1048576:=by omega
 rw[hq5]at hw2 h'
 clear h
 go_wp2_with fail
 clear hw2 h' hq5
 refine(q7l au f.mu.length auc (nf f.mu) q5 W4 g5 g6 HF.u.ul HF.u.u HS.u.u).mono ?_
 rintro r W6 ⟨q6,rfl,hq,hm,hb⟩
 replace HK:=mB HK hb;replace HS:=h_ (HS.u.mono hb);replace HB:=mT HB hb
 have HQ6:=h_ hq
 clear hq hm hb x0 x1 x2 x3 x4 x5 x6 x7 x8
 obtain⟨x0,x1,x2,x3,x4,x5,x6,x7,x8⟩:=nine HK.u
 by_cases hr6:q6<0
 . go_wp2_with fail
   go_ret;exact⟨_,rfl,fun h=>absurd h (by decide),fun _=>rfl,HB.u⟩
 have hl6:q6<=1048576:=(HQ6.u (by omega)).1
 have hk6:f.mu.length<=1048576:=(HQ6.u (by omega)).2.1
 go_wp2_with fail
 go_ret
 exact⟨_,rfl,fun _=>⟨hl6,hk1,hk2,hk3,hk4,hk6⟩,fun h=>by omega,HB.u⟩
theorem q4y (a:Option Addr)(c:Nat)(l:List Fl)(AF:Nat->FA)(l0:Int)(w:World)(h0:0<=l0)(h1:l0<=1048576)(hm:l.length<=9223372036854775807)(hs:∀x,x∈l->FitF x)(ha:Flds w a l AF) :
 Calls Tryz.prog 16 #[.slice a l.length c,J6 l0] w fun r w'=>∃q:Int,r=.returned (J6 q)/\(0<=q->q<=1048576/\l.length<=1048576/\∀x,x∈l->SmF x)/\(q<0->q = -1)/\Below w.heap.size w w':=by
 have HA:=h_ ha;have HF:=h_ hs
 clear ha hs
 have hw1:wrap64 (l0 - (l.length:Int))=l0 - (l.length:Int):=q55 (by omega) (by omega)
 by_cases h:(l.length:Int)<=l0
 . have h':¬ l0 - (l.length:Int)<0:=by omega
   obtain⟨lq,hlq⟩:=Nq (l0 - (l.length:Int));have HLQ:Hi (0<=lq/\lq<=1048576):=h_ (by omega);have HLN:Hi (l.length<=1048576):=h_ (by omega);rw[hlq]at h' hw1;go_enter Tryz.func16,Tryz.ntmps16;go_wp2_with fail;clear h h' hw1 hlq;go_loopw [1,5] (fun lf i wr=>∃(k:Nat) (lq:Int),k<=l.length/\i=J6 k/\lf=J6 lq/\0<=lq/\lq<=1048576/\(∀j (h:j<l.length),j<k->SmF l[j])/\Below w.heap.size w wr) (fun _ i _=>l.length - (intOf i).toNat)
   case atStart=>exact⟨0,lq,nZ _,rfl,rfl,HLQ.u.1,HLQ.u.2,fun j _ h=>absurd h (nL _),bR _ _⟩
   case round =>
    clear HLQ;obtain⟨k,lq,hk,rfl,rfl,g0,g1,hall,hb⟩:=hrel;have HB:=h_ hb;have HAr:=h_ (HA.u.mono hb);have HL:=h_ hall;clear hb hall;by_cases hlt:k<l.length
    . have hlt':(k:Int)<l.length:=by omega
      obtain⟨b,o,rfl,⟨-,z0,z1,z2,z3,z4,z5,z6,z7,z8⟩,hsl⟩:=HAr.u k hlt;have HC:=h_ (q7j l[k] (AF k) lq wr (HF.u _ (Ye hlt)) g0 g1 hsl);have HG:Hi (SmF l[k]->∀j (h:j<l.length),j<k+1->SmF l[j]):=h_ fun h j hj hjk=>by
       by_cases ej:j=k
       . subst ej;exact h
       . exact HL.u j hj (by omega)
      generalize l[k]=f at *;generalize AF k=fa at *;obtain⟨ab,abc,ai,aic,ah,ahc,av,avc,au,auc⟩:=fa;unfold fV at HC;dsimp only at z3 z4 z5 z6 z8 HC;clear hsl;go_wp2_with fail;refine HC.u.mono ?_;rintro r W2 ⟨q,rfl,hq1,hq2,hb⟩;have HB2:=mT HB hb;have HQ1:=h_ hq1;clear hb hq1 hq2 z0 z1 z2 z3 z4 z5 z6 z7 z8;by_cases hr:q<0
      . go_wp2_with fail
        go_ret;exact⟨_,rfl,fun h=>absurd h (by decide),fun _=>rfl,HB2.u⟩
      . have hq5:=(HQ1.u (by omega)).1
        have HG2:=h_ (HG.u (HQ1.u (by omega)).2);go_wp2_with fail;go_roundw
        case rel=>first | exact⟨k+1,q,by omega,by go_num,rfl,by omega,hq5,HG2.u,HB2.u⟩ | ((repeat apply Exists.intro);exact⟨⟨k+1,q,by omega,by go_num,rfl,by omega,hq5,HG2.u,HB2.u⟩,rfl⟩)
        case measure=>simp[intOf];omega
    . obtain rfl:k=l.length:=by omega
      have hlt':¬ (l.length:Int)<(l.length:Int):=(by omega);have HX:Hi (∀x,x∈l->SmF x):=h_ fun x hx=>by
       obtain⟨j,hj,rfl⟩:=Yw.1 hx;exact HL.u j hj hj
      go_wp2_with fail;go_ret;exact⟨_,rfl,fun _=>⟨g1,HLN.u,HX.u⟩,fun h=>by omega,HB.u⟩
 . have h':l0 - (l.length:Int)<0:=by omega
   go_enter Tryz.func16,Tryz.ntmps16;go_wp2_with fail;go_ret;exact⟨_,rfl,fun h=>absurd h (by decide),fun _=>rfl,bR _ _⟩
theorem q5o (f:Fl)(A A2:FA)(w:World)(hf:SmF f)(ha:FSl w f A)(hb:FSl w f A2) :
 Calls Tryz.prog 58 #[fV f A,fV f A2] w fun r w'=>r=.returned (.bool true)/\Below w.heap.size w w':=by
 obtain⟨ab,abc,ai,aic,ah,ahc,av,avc,au,auc⟩:=A
 obtain⟨qb,qbc,qi,qic,qh,qhc,qv,qvc,qu,quc⟩:=A2
 unfold fV
 dsimp only
 have hq:(f.nm.toList==f.nm.toList)=true:=by simp
 have hq2:(f.sy.toList==f.sy.toList)=true:=by simp
 have HK:=h_ ((Blk.new w 88 (Ja f ab abc ai aic ah ahc av avc au auc)).alloc (.cells (Ja f qb qbc qi qic qh qhc qv qvc qu quc) 88))
 have HK2:=h_ (Blk.new (w.alloc (.cells (Ja f ab abc ai aic ah ahc av avc au auc) 88)) 88 (Ja f qb qbc qi qic qh qhc qv qvc qu quc))
 rw[Yk]at HK2
 have HB:=h_ (((bR w.heap.size w).alloc (nR _) (.cells (Ja f ab abc ai aic ah ahc av avc au auc) 88)).alloc (by simp) (.cells (Ja f qb qbc qi qic qh qhc qv qvc qu quc) 88))
 obtain⟨W0,hW0⟩:=Nq ((w.alloc (.cells (Ja f ab abc ai aic ah ahc av avc au auc) 88)).alloc (.cells (Ja f qb qbc qi qic qh qhc qv qvc qu quc) 88))
 rw[hW0]at HK HK2 HB
 have HS:=h_ (ha.mono HB.u);have HS2:=h_ (hb.mono HB.u);have HF:=h_ hf
 clear ha hf hb
 obtain⟨x0,x1,x2,x3,x4,x5,x6,x7,x8⟩:=nine HK.u
 obtain⟨y0,y1,y2,y3,y4,y5,y6,y7,y8⟩:=nine HK2.u
 have HCi:Hi (Calls Tryz.prog 92 #[.slice ab f.bys.length abc,.slice qb f.bys.length qbc] W0 fun e w'=>e=.returned (.bool true)/\Below W0.heap.size W0 w'):=h_ (by
  have h:=q5p ab qb (fun k=>f.bys.getD k 0) (fun k=>f.bys.getD k 0) f.bys.length abc qbc W0 HS.u.b HS2.u.b (by have:=HF.u.b;omega);rw[qab (fun _ _=>rfl)]at h;exact h)
 go_enter Tryz.func58,Tryz.ntmps58
 go_wp2_with fail
 try rw[hW0]
 refine HCi.u.mono ?_
 rintro r W1 ⟨rfl,hb⟩
 replace HK:=mB HK hb;replace HK2:=mB HK2 hb;replace HS:=h_ (HS.u.mono hb);replace HS2:=h_ (HS2.u.mono hb);replace HB:=mT HB hb
 clear hW0 hb x0 x1 x2 x3 x4 x5 x6 x7 x8 y0 y1 y2 y3 y4 y5 y6 y7 y8
 obtain⟨x0,x1,x2,x3,x4,x5,x6,x7,x8⟩:=nine HK.u
 obtain⟨y0,y1,y2,y3,y4,y5,y6,y7,y8⟩:=nine HK2.u
 go_wp2_with fail
 refine(q3n ai qi (nf f.is) f.is.length aic qic W1 HF.u.i HS.u.i HS2.u.i).mono ?_
 rintro r W2 ⟨rfl,hb⟩
 replace HK:=mB HK hb;replace HK2:=mB HK2 hb;replace HS:=h_ (HS.u.mono hb);replace HS2:=h_ (HS2.u.mono hb);replace HB:=mT HB hb
 clear hb x0 x1 x2 x3 x4 x5 x6 x7 x8 y0 y1 y2 y3 y4 y5 y6 y7 y8
 obtain⟨x0,x1,x2,x3,x4,x5,x6,x7,x8⟩:=nine HK.u
 obtain⟨y0,y1,y2,y3,y4,y5,y6,y7,y8⟩:=nine HK2.u
 go_wp2_with fail
 refine(q3n ah qh (nf f.wh) f.wh.length ahc qhc W2 HF.u.h HS.u.h HS2.u.h).mono ?_
 rintro r W3 ⟨rfl,hb⟩
 replace HK:=mB HK hb;replace HK2:=mB HK2 hb;replace HS:=h_ (HS.u.mono hb);replace HS2:=h_ (HS2.u.mono hb);replace HB:=mT HB hb
 clear hb x0 x1 x2 x3 x4 x5 x6 x7 x8 y0 y1 y2 y3 y4 y5 y6 y7 y8
 obtain⟨x0,x1,x2,x3,x4,x5,x6,x7,x8⟩:=nine HK.u
 obtain⟨y0,y1,y2,y3,y4,y5,y6,y7,y8⟩:=nine HK2.u
 go_wp2_with fail
 refine(q3n av qv (nf f.va) f.va.length avc qvc W3 HF.u.v HS.u.v HS2.u.v).mono ?_
 rintro r W4 ⟨rfl,hb⟩
 replace HK:=mB HK hb;replace HK2:=mB HK2 hb;replace HS:=h_ (HS.u.mono hb);replace HS2:=h_ (HS2.u.mono hb);replace HB:=mT HB hb
 clear hb x0 x1 x2 x3 x4 x5 x6 x7 x8 y0 y1 y2 y3 y4 y5 y6 y7 y8
 obtain⟨x0,x1,x2,x3,x4,x5,x6,x7,x8⟩:=nine HK.u
 obtain⟨y0,y1,y2,y3,y4,y5,y6,y7,y8⟩:=nine HK2.u
 go_wp2_with fail
 refine(q3n au qu (nf f.mu) f.mu.length auc quc W4 HF.u.u HS.u.u HS2.u.u).mono ?_
 rintro r W5 ⟨rfl,hb⟩
 replace HK:=mB HK hb;replace HK2:=mB HK2 hb;replace HS:=h_ (HS.u.mono hb);replace HS2:=h_ (HS2.u.mono hb);replace HB:=mT HB hb
 clear hb x0 x1 x2 x3 x4 x5 x6 x7 x8 y0 y1 y2 y3 y4 y5 y6 y7 y8
 obtain⟨x0,x1,x2,x3,x4,x5,x6,x7,x8⟩:=nine HK.u
 obtain⟨y0,y1,y2,y3,y4,y5,y6,y7,y8⟩:=nine HK2.u
 go_wp2_with fail
 go_ret
 exact⟨rfl,HB.u⟩
theorem q3m (a b:Option Addr)(l:List Fl)(AF BF:Nat->FA)(ca cb:Nat)(w:World)(hn:l.length<=1048576)(hs:∀x,x∈l->SmF x)(ha:Flds w a l AF)(hb:Flds w b l BF) :
 Calls Tryz.prog 31 #[.slice a l.length ca,.slice b l.length cb] w fun r w'=>r=.returned (.bool true)/\Below w.heap.size w w':=by
 have HA:=h_ ha;have HB0:=h_ hb;have HSm:=h_ hs
 clear ha hb hs
 go_enter Tryz.func31,Tryz.ntmps31
 go_wp2_with fail
 go_loopw [5] (fun i wr=>∃k:Nat,k<=l.length/\i=J6 k/\Below w.heap.size w wr) (fun i _=>l.length - (intOf i).toNat)
 case atStart=>exact⟨0,nZ _,rfl,bR _ _⟩
 case round =>
  obtain⟨k,hk,rfl,hB⟩:=hrel;have HB:=h_ hB;by_cases hlt:k<l.length
  . obtain⟨b1,o1,rfl,C1,S1⟩:=(HA.u.mono hB) k hlt
    obtain⟨b2,o2,rfl,C2,S2⟩:=(HB0.u.mono hB) k hlt;have HC:=h_ (fun W (hw:Below wr.heap.size wr W)=>q5o l[k] (AF k) (BF k) W (HSm.u _ (Ye hlt)) (S1.mono hw) (S2.mono hw));obtain⟨f,hu⟩:∃u,l[k]=u:=⟨_,rfl⟩;rw[hu]at C1 C2 HC;generalize AF k=fa at *;generalize BF k=fb at *;obtain⟨ab,abc,ai,aic,ah,ahc,av,avc,au,auc⟩:=fa;obtain⟨qb,qbc,qi,qic,qh,qhc,qv,qvc,qu,quc⟩:=fb;unfold fV at HC;dsimp only at HC;have HC1:=h_ C1;have HC2:=h_ C2;have k0:(0:Int)<=k:=(by omega);have k1:(k:Int)<l.length:=(by omega);clear hB hu C1 C2 S1 S2;go_wp2_with fail;refine wp_region_held_drew (S:=fun w'=>FCel w' b1 (o1+k*9) f ⟨ab,abc,ai,aic,ah,ahc,av,avc,au,auc⟩/\FCel w' b2 (o2+k*9) f ⟨qb,qbc,qi,qic,qh,qhc,qv,qvc,qu,quc⟩) (by kernel_rfl) ⟨HC1.u,HC2.u⟩ (fun zz=>?_);refine tj 0 17 (.slice (some ⟨b1,o1,none⟩) l.length ca) zz ?_;refine tj 1 18 (J6 k) zz ?_;refine tj 2 19 (.pointer (some ⟨b1,o1+k*9,none⟩)) zz ?_;refine tj 3 20 (.agg (Ja f ab abc ai aic ah ahc av avc au auc)) zz ?_ (hy:=fun w hS=>by obtain⟨⟨-,q0,q1,q2,q3,q4,q5,q6,q7,q8⟩,-⟩:=hS;simp[execOp,go_sem,q0,q1,q2,q3,q4,q5,q6,q7,q8]);simp only[sX,sY,sZ];refine tj 4 21 (.slice (some ⟨b2,o2,none⟩) l.length cb) zz ?_;refine tj 5 22 (J6 k) zz ?_;refine tj 6 23 (.pointer (some ⟨b2,o2+k*9,none⟩)) zz ?_;refine tj 7 24 (.agg (Ja f qb qbc qi qic qh qhc qv qvc qu quc)) zz ?_ (hy:=fun w hS=>by obtain⟨-,⟨-,q0,q1,q2,q3,q4,q5,q6,q7,q8⟩⟩:=hS;simp[execOp,go_sem,q0,q1,q2,q3,q4,q5,q6,q7,q8]);simp only[sX,sY,sZ];refine callY (i:=8) (f:=58) (args:=#[.agg (Ja f ab abc ai aic ah ahc av avc au auc),.agg (Ja f qb qbc qi qic qh qhc qv qvc qu quc)]) (R:=fun v wz=>v=.bool true/\Below wr.heap.size wr wz) 25 rfl rfl (by rfl) (by kernel_rfl) ?hrun1 ((HC.u _ (bR _ _).drew).mono fun e w6 ⟨he,hb⟩=>⟨_,he,rfl,q29 hb⟩) ?_
    case hrun1=>simp[execOp,go_sem]
    rintro v w6 ⟨rfl,hb6⟩;have HB6:=mT HB hb6;replace zz:FCel w6 b1 (o1+k*9) f ⟨ab,abc,ai,aic,ah,ahc,av,avc,au,auc⟩/\FCel w6 b2 (o2+k*9) f ⟨qb,qbc,qi,qic,qh,qhc,qv,qvc,qu,quc⟩:=⟨HC1.u.mono hb6,HC2.u.mono hb6⟩;clear hb6;refine⟨zz,?_⟩;simp only[sX,sY,sZ];refine tj 9 26 (.bool false) zz ?_;simp only[sX,sY,sZ];refine wpAnyH_done (by kernel_rfl) ?_ _;clear zz;go_wp2_with fail;go_roundw
    case rel=>exact⟨k+1,by omega,by go_num,HB6.u⟩
    case measure=>simp[intOf];omega
  . obtain rfl:k=l.length:=by omega
    have hlt':¬ (l.length:Int)<(l.length:Int):=(by omega);clear hB;go_wp2_with fail;go_ret;exact⟨rfl,HB.u⟩
end Go.Proofs.YtgojgjlninakjaaGreatDoor
