import Derived.Test.YtgojgjlninakjaaGreatDoorW18
import Derived.Test.YtgojgjlninakjaaGreatDoorW05
set_option maxRecDepth 100000
set_option maxHeartbeats 64000000
namespace Go.Proofs.YtgojgjlninakjaaGreatDoor
open Go Go.RowKit
def Bk (w:World)(g:Nat)(t:TypeId)(n:Nat):Prop:=∃cs,Blk w g t cs/\cs.length=n
theorem Bk.lt {w:World}{g:Nat}{t:TypeId}{n:Nat}(h:Bk w g t n):g<w.heap.size:=h.elim fun _ h=>h.1.lt
theorem Bk.mono {w w':World}{B g:Nat}{t:TypeId}{n:Nat}(h:Bk w g t n)(hb:Below B w w')(hg:g<B):Bk w' g t n:=h.elim fun cs h=>⟨cs,h.1.mono hb hg,h.2⟩
theorem Bk.keep {w w':World}{g:Nat}{t:TypeId}{n:Nat}(h:Bk w g t n)(hk:w'.heap[g]? = w.heap[g]?):Bk w' g t n:=h.elim fun cs h=>⟨cs,hk.trans h.1,h.2⟩
theorem Bk.other {w:World}{g:Nat}{t:TypeId}{n:Nat}(h:Bk w g t n){R:Nat}(hR:g≠R)(j:Nat)(v:Value):Bk (w.setCell ⟨R,j,none⟩ v) g t n:=h.elim fun cs h=>⟨cs,h.1.other v hR,h.2⟩
theorem Bk.set {w:World}{g:Nat}{t:TypeId}{n:Nat}(h:Bk w g t n)(j:Nat)(v:Value):Bk (w.setCell ⟨g,j,none⟩ v) g t n:=h.elim fun cs h=>⟨cs.set j v,h.1.set j v,by rw[List.length_set];exact h.2⟩
theorem Bk.cell {w:World}{g:Nat}{t:TypeId}{n:Nat}(h:Bk w g t n){j:Nat}(hj:j<n):∃v,w.cell? ⟨g,j,none⟩=some v:=h.elim fun cs h=>⟨_,(h.1.cell j).trans (Yc (by rw[h.2];exact hj))⟩
theorem Bk.free {w:World}{g:Nat}{t:TypeId}{n:Nat}(h:Bk w g t n)(j:Nat):w.frozen? ⟨g,j,none⟩=false:=h.elim fun _ h=>h.1.free j
theorem q3q (k n:Int)(t:ByteArray)(w:World) :
 Calls Tryz.prog 55 #[.agg (Jk k n t),.agg (Jk k n t)] w fun e w'=>e=.returned (.bool true)/\Below w.heap.size w w':=by
 have hq:(t.toList==t.toList)=true:=by simp
 have hB:∀o1 o2,Below w.heap.size w ((w.alloc o1).alloc o2):=fun o1 o2=>((bR _ w).alloc (nR _) o1).alloc (by simp) o2
 have HB:=h_ hB;clear hB
 go_enter Tryz.func55,Tryz.ntmps55
 go_wp2
 go_ret
 exact⟨rfl,HB.u _ _⟩
theorem q7m (kind num:Int)(s:ByteArray)(left:Int)(w:World)(hs:s.size<=9223372036854775807)(h0:0<=left)(h1:left<=1048576) :
 Calls Tryz.prog 130 #[.agg (Jk kind num s),J6 left] w fun e w'=>e=.returned (J6 (if left<s.size then -1 else left - s.size))/\Below w.heap.size w w':=by
 by_cases h:left<s.size
 all_goals
  go_enter Tryz.func130,Tryz.ntmps130;go_wp2;go_ret;exact⟨rfl,(bR _ _).alloc (nR _) _⟩
theorem q7o (kind num:Int)(s:ByteArray)(w:World) :
 Calls Tryz.prog 142 #[.agg (Jk kind num s)] w fun e w'=>e=.returned (.agg (Jk kind num s))/\Below w.heap.size w w':=by
 go_enter Tryz.func142,Tryz.ntmps142
 go_wp2
 refine bodyPost_ret (v:=.agg (Jk kind num s)) (by simp[results,Tryz.results142,go_sem, *]) rfl ⟨rfl,?_⟩
 exact(((bR _ w).alloc (nR _) _).alloc (by simp) _).alloc (by simp;omega) _
theorem qcx:(Tryz.prog.info? 172).map (fun i=>(i.zero,i.size,i.bytes))=some (some (.agg #[J6 0,J6 0,J6 0,J8,J8]),5,56):=by kernel_rfl
theorem Blk.of_owns5 {w:World}{base e g n:Nat}{xs:List Value}(h:w.ownsRow base e 5 (.slice (some ⟨g,0,none⟩) n n) n xs):Blk w g e xs/\xs.length=n*5:=by
 refine⟨?_,h.1⟩
 rcases h.2 with ⟨h',_⟩ | ⟨g',cap',cur,h',_,hg,_,_,hs,htake⟩
 . simp at h'
 . simp only[Value.slice.injEq,Z9,Addr.mk.injEq,and_true,true_and]at h'
   obtain⟨rfl,rfl⟩:=h';rw[Yz (by simp;omega)]at htake;rw[<- htake];simpa [Blk] using hg
theorem qap (n:Nx)(left:Int)(w:World)(hf:Fit n)(l0:0<=left)(l1:left<=1048576) :
 Calls Tryz.prog 94 #[nv n,J6 left] w fun r w'=>∃q:Int,r=.returned (J6 q)/\(0<=q->q<=1048576/\n.v.s.size<=1048576/\n.nm.size<=1048576)/\(q<0->q = -1)/\Below w.heap.size w w':=by
 obtain⟨hs,hm,-,-⟩:=hf
 unfold nv
 have HK:=h_ (Blk.new w 176 #[J6 n.op,J6 n.v.k,J6 n.v.n,.string n.v.s,.string n.nm])
 have HB:=h_ ((bR w.heap.size w).alloc (nR _) (.cells #[J6 n.op,J6 n.v.k,J6 n.v.n,.string n.v.s,.string n.nm] 176))
 go_enter Tryz.func94,Tryz.ntmps94
 go_wp2_with fail
 refine(q7m n.v.k n.v.n n.v.s left _ hs l0 l1).mono ?_
 rintro e w2 ⟨rfl,hb⟩
 replace HK:=mB HK hb;replace HB:=mT HB hb
 clear hb
 obtain⟨y0,y1,y2,y3,y4⟩:=five HK.u
 by_cases hq:left<n.v.s.size
 . rw[Yv hq]
   go_wp2_with fail;go_ret;exact⟨_,rfl,fun h=>absurd h (by decide),fun _=>rfl,HB.u⟩
 . rw[Yn hq]
   have hq':¬ left - n.v.s.size<0:=by omega
   obtain⟨l2,hl2⟩:=Nq (left - n.v.s.size);have HL:Hi (l2<=1048576/\n.v.s.size<=1048576/\0<=l2):=h_ (by omega);rw[hl2]at hq'⊢;clear hl2 hq;have hl3:=HL.u.1;by_cases hr:l2<n.nm.size
   . have hr':l2 - n.nm.size<0:=by omega
     go_wp2_with fail;go_ret;exact⟨_,rfl,fun h=>absurd h (by decide),fun _=>rfl,HB.u⟩
   . have hr':¬ l2 - n.nm.size<0:=by omega
     go_wp2_with fail;go_ret;exact⟨_,rfl,fun _=>by have:=HL.u;omega,fun h=>by omega,HB.u⟩
theorem q7l (a:Option Addr)(m c:Nat)(e:Nat->Nx)(l0:Int)(w:World)(h0:0<=l0)(h1:l0<=1048576)(hm:m<=9223372036854775807)(hf:∀k,k<m->Fit (e k))(ha:Nods w a m e) :
 Calls Tryz.prog 62 #[.slice a m c,J6 l0] w fun r w'=>∃q:Int,r=.returned (J6 q)/\(0<=q->q<=1048576/\m<=1048576/\∀k,k<m->(e k).v.s.size<=1048576/\(e k).nm.size<=1048576)/\(q<0->q = -1)/\Below w.heap.size w w':=by
 have HA:=h_ ha;have HF:=h_ hf
 clear ha hf
 have hw1:wrap64 (l0 - (m:Int))=l0 - (m:Int):=q55 (by omega) (by omega)
 by_cases h:(m:Int)<=l0
 . have h':¬ l0 - (m:Int)<0:=by omega
   obtain⟨lq,hlq⟩:=Nq (l0 - (m:Int));have HLQ:Hi (0<=lq/\lq<=1048576):=h_ (by omega);rw[hlq]at h' hw1;go_enter Tryz.func62,Tryz.ntmps62;go_wp2_with fail
   try rw[hlq]
   clear hlq hw1 h';go_loopw [1,5] (fun l i wr=>∃(k:Nat) (left:Int),k<=m/\l=J6 left/\i=J6 k/\0<=left/\left<=1048576/\(∀j,j<k->(e j).v.s.size<=1048576/\(e j).nm.size<=1048576)/\Below w.heap.size w wr) (fun _ i _=>m - (intOf i).toNat)
   case atStart=>exact⟨0,_,nZ _,rfl,rfl,HLQ.u.1,HLQ.u.2,fun j hj=>absurd hj (nL _),bR _ _⟩
   case round =>
    clear HLQ;obtain⟨k,left,hk,rfl,rfl,q0,q1,hall,hb⟩:=hrel;have HALL:=h_ hall;have HB:=h_ hb;have HV:=h_ (HA.u.mono hb);clear hall hb;by_cases hlt:k<m
    . have hlt':(k:Int)<m:=by omega
      obtain⟨b,o,rfl,-,c0,c1,c2,c3,c4⟩:=HV.u k hlt;go_wp2_with fail;refine(qap (e k) left _ (HF.u k hlt) q0 q1).mono ?_;rintro r w2 ⟨q,rfl,hq,hq',hb⟩;replace HB:=mT HB hb;clear hb c0 c1 c2 c3 c4;by_cases hn:q<0
      . obtain rfl:=hq' hn
        clear hq hq' hn;go_wp2_with fail;go_ret;exact⟨_,rfl,fun h=>absurd h (by decide),fun _=>rfl,HB.u⟩
      . have HQ:=h_ (hq (by omega))
        have HN:Hi (∀j,j<k+1->(e j).v.s.size<=1048576/\(e j).nm.size<=1048576):=h_ fun j hj=>by
         by_cases ej:j=k
         . rw[ej];exact HQ.u.2
         . exact HALL.u j (by omega)
        clear hq hq';go_wp2_with fail;go_roundw
        case rel=>exact⟨k+1,q,by omega,rfl,by go_num,by omega,HQ.u.1,HN.u,HB.u⟩
        case measure=>simp[intOf];omega
    . obtain rfl:k=m:=by omega
      go_wp2_with fail;go_ret;exact⟨_,rfl,fun _=>⟨q1,by omega,HALL.u⟩,fun h=>by omega,HB.u⟩
 . have h':l0 - (m:Int)<0:=by omega
   go_enter Tryz.func62,Tryz.ntmps62;go_wp2_with fail;go_ret;exact⟨_,rfl,fun h=>absurd h (by decide),fun _=>rfl,bR _ _⟩
theorem qau (n:Nx)(w:World) :
 Calls Tryz.prog 113 #[nv n] w fun r w'=>r=.returned (nv n)/\Below w.heap.size w w':=by
 unfold nv
 have HK:=h_ (((Blk.new w 176 #[J6 n.op,J6 n.v.k,J6 n.v.n,.string n.v.s,.string n.nm]).alloc (.cells #[J6 0,J6 0,J6 0,J8,J8] 172)).alloc (.cells #[J6 n.op,J6 0,J6 0,J8,J8] 172))
 have HR:=h_ ((Blk.new (w.alloc (.cells #[J6 n.op,J6 n.v.k,J6 n.v.n,.string n.v.s,.string n.nm] 176)) 172 #[J6 0,J6 0,J6 0,J8,J8]).alloc (.cells #[J6 n.op,J6 0,J6 0,J8,J8] 172))
 have HO:=h_ (Blk.new ((w.alloc (.cells #[J6 n.op,J6 n.v.k,J6 n.v.n,.string n.v.s,.string n.nm] 176)).alloc (.cells #[J6 0,J6 0,J6 0,J8,J8] 172)) 172 #[J6 n.op,J6 0,J6 0,J8,J8])
 have HB:=h_ ((((bR w.heap.size w).alloc (nR _) (.cells #[J6 n.op,J6 n.v.k,J6 n.v.n,.string n.v.s,.string n.nm] 176)).alloc (by simp) (.cells #[J6 0,J6 0,J6 0,J8,J8] 172)).alloc (by simp;omega) (.cells #[J6 n.op,J6 0,J6 0,J8,J8] 172))
 simp only[Yk]at HR HO
 go_enter Tryz.func113,Tryz.ntmps113
 go_wp2_with fail
 refine(q7o n.v.k n.v.n n.v.s _).mono ?_
 rintro x w2 ⟨rfl,hb⟩
 replace HK:=mB HK hb;replace HR:=mB HR hb;replace HO:=mB HO hb;replace HB:=mT HB hb
 clear hb
 obtain⟨y0,y1,y2,y3,y4⟩:=five HK.u
 obtain⟨r0,r1,r2,r3,r4⟩:=five HR.u
 obtain⟨o0,o1,o2,o3,o4⟩:=five HO.u
 have f0:=HR.u.free 0;have f1:=HR.u.free 1;have f2:=HR.u.free 2;have f3:=HR.u.free 3;have f4:=HR.u.free 4
 have g1:=HO.u.free 1;have g2:=HO.u.free 2;have g3:=HO.u.free 3;have g4:=HO.u.free 4
 go_wp2_with fail
 refine bodyPost_ret (v:=.agg #[J6 n.op,J6 n.v.k,J6 n.v.n,.string n.v.s,.string n.nm]) (by simp[results,Tryz.results113,go_sem, *]) rfl ⟨rfl,?_⟩
 exact((((((((HB.u.setCell (by simp;omega) _).setCell (by simp;omega) _).setCell (by simp;omega) _).setCell (by simp;omega) _).setCell (by simp) _).setCell (by simp) _).setCell (by simp) _).setCell (by simp) _).setCell (by simp) _
theorem qat (a:Option Addr)(e:Nat->Nx)(n c:Nat)(w:World)(ha:Nods w a n e)(hn:n<=1048576) :
 Calls Tryz.prog 78 #[.slice a n c] w fun r w'=>r=.returned (.slice (some ⟨w.heap.size,0,none⟩) n n)/\Nods w' (some ⟨w.heap.size,0,none⟩) n e/\Bk w' w.heap.size 172 (n*5)/\Below w.heap.size w w':=by
 obtain⟨i0,hi,hz0,hz1,hz2⟩:=info_parts qcx
 obtain⟨B,hB⟩:=Nq w.heap.size
 have hbn:i0.bytes*n<=281474976710656:=by rw[hz2];omega
 have HA:=h_ ha
 clear ha
 go_enter Tryz.func78,Tryz.ntmps78
 go_wp2_with (at_make;refine wpList_make_full _ rfl _ _ 86 rfl w.heap.size 172 i0 _ 5 Tryz.underlying86 hi hz0 hz1 .i64 .i64 _ _ n rfl rfl rfl rfl hbn (by unfold maxLen;omega) (nR _) ?_;intro w1 hown hgrow)
 have hb1:Below B w w1:=by rw[<- hB];exact(bR _ _).grown hgrow (nR _) (fun k h=>by cases h)
 rw[hB]at hown
 obtain⟨hX,hXl⟩:=Blk.of_owns5 hown
 have HX:=h_ hX;have HXL:=h_ hXl;have HB1:=h_ hb1
 clear hgrow hbn hi hz0 hz1 hz2 hown hX hXl hb1
 go_wp2_with fail
 try rw[hB]
 go_loopw [4] (fun i wr=>∃(k:Nat) (xs:List Value),k<=n/\i=J6 k/\Blk wr B 172 xs/\xs.length=n*5/\(∀j,j<k->xs[j*5]? = some (J6 (e j).op)/\xs[j*5+1]? = some (J6 (e j).v.k)/\xs[j*5+2]? = some (J6 (e j).v.n)/\xs[j*5+3]? = some (.string (e j).v.s)/\xs[j*5+4]? = some (.string (e j).nm))/\Below B w wr) (fun i _=>n - (intOf i).toNat)
 case atStart=>exact⟨0,_,nZ _,rfl,HX.u,HXL.u,fun j h=>absurd h (nL _),HB1.u⟩
 case round =>
  clear HX HXL HB1;obtain⟨k,xs,hk,rfl,hX,hXl,hx,hb⟩:=hrel;have HX:=h_ hX;have HXL:=h_ hXl;have HXX:=h_ hx;have HB:=h_ hb;have HV:=h_ (HA.u.mono (hb.mono (by omega)));clear hX hXl hx hb;by_cases hlt:k<n
  . have hlt':(k:Int)<n:=by omega
    obtain⟨b1,o1,rfl,hl1,hc1,hc2,hc3,hc4,hc5⟩:=HV.u k hlt;go_wp2_with fail;refine(qau (e k) _).mono ?_;rintro x w3 ⟨rfl,hb3⟩;have X3:=HX.u.mono hb3 HX.u.lt;have B3:=HB.u.trans (hb3.mono (by have:=HX.u.lt;omega));have c0:=X3.cell (k*5);have c1:=X3.cell (k*5+1);have c2:=X3.cell (k*5+2);have c3:=X3.cell (k*5+3);have c4:=X3.cell (k*5+4);have f0:=X3.free (k*5);have f1:=X3.free (k*5+1);have f2:=X3.free (k*5+2);have f3:=X3.free (k*5+3);have f4:=X3.free (k*5+4);rw[Yc (by have:=HXL.u;omega)]at c0 c1 c2 c3 c4;have HX3:=h_ X3;have HB3:=h_ B3;clear X3 B3 hb3 hc1 hc2 hc3 hc4 hc5;unfold nv;go_wp2_with fail;go_roundw
    case rel =>
     refine⟨k+1,_,by omega,by go_num,((((HX3.u.set (k*5) (J6 (e k).op)).set (k*5+1) (J6 (e k).v.k)).set (k*5+2) (J6 (e k).v.n)).set (k*5+3) (.string (e k).v.s)).set (k*5+4) (.string (e k).nm),by simpa using HXL.u,fun j hj=>?_,((((HB3.u.setCell (nR _) _).setCell (nR _) _).setCell (nR _) _).setCell (nR _) _).setCell (nR _) _⟩;have hxl:=HXL.u;by_cases ej:j=k
     . subst ej
       simp[List.getElem?_set];omega
     . have:=HXX.u j (by omega)
       simp only[Vh]
       (repeat rw[Yn (by omega)])
       exact this
    case measure=>simp[intOf];omega
  . obtain rfl:n=k:=by omega
    go_wp2_with fail;go_ret;refine⟨by rw[hB];rfl,?_,?_,?_⟩
    . intro j hj
      have:=HXX.u j hj;exact⟨B,0,by rw[hB],HX.u.lt,by rw[Y7,HX.u.cell];exact this.1,by rw[Y7,HX.u.cell];exact this.2.1,by rw[Y7,HX.u.cell];exact this.2.2.1,by rw[Y7,HX.u.cell];exact this.2.2.2.1,by rw[Y7,HX.u.cell];exact this.2.2.2.2⟩
    . rw[hB];exact⟨_,HX.u,HXL.u⟩
    . rw[hB];exact HB.u
theorem q5q (n:Nx)(w:World) :
 Calls Tryz.prog 129 #[nv n,nv n] w fun r w'=>r=.returned (.bool true)/\Below w.heap.size w w':=by
 unfold nv
 have hq:(n.nm.toList==n.nm.toList)=true:=by simp
 have HK:=h_ ((Blk.new w 172 #[J6 n.op,J6 n.v.k,J6 n.v.n,.string n.v.s,.string n.nm]).alloc (.cells #[J6 n.op,J6 n.v.k,J6 n.v.n,.string n.v.s,.string n.nm] 172))
 have HR:=h_ (Blk.new (w.alloc (.cells #[J6 n.op,J6 n.v.k,J6 n.v.n,.string n.v.s,.string n.nm] 172)) 172 #[J6 n.op,J6 n.v.k,J6 n.v.n,.string n.v.s,.string n.nm])
 have HB:=h_ (((bR w.heap.size w).alloc (nR _) (.cells #[J6 n.op,J6 n.v.k,J6 n.v.n,.string n.v.s,.string n.nm] 172)).alloc (by simp) (.cells #[J6 n.op,J6 n.v.k,J6 n.v.n,.string n.v.s,.string n.nm] 172))
 simp only[Yk]at HR
 go_enter Tryz.func129,Tryz.ntmps129
 go_wp2_with fail
 refine(q3q n.v.k n.v.n n.v.s _).mono ?_
 rintro x w2 ⟨rfl,hb⟩
 replace HK:=mB HK hb;replace HR:=mB HR hb;replace HB:=mT HB hb
 clear hb
 obtain⟨y0,y1,y2,y3,y4⟩:=five HK.u
 obtain⟨r0,r1,r2,r3,r4⟩:=five HR.u
 go_wp2_with fail
 go_ret
 exact⟨rfl,HB.u⟩
theorem q3n (a b:Option Addr)(e:Nat->Nx)(n ca cb:Nat)(w:World)(hn:n<=1048576)(ha:Nods w a n e)(hb:Nods w b n e) :
 Calls Tryz.prog 93 #[.slice a n ca,.slice b n cb] w fun r w'=>r=.returned (.bool true)/\Below w.heap.size w w':=by
 have HA:=h_ ha;have HB0:=h_ hb
 clear ha hb
 go_enter Tryz.func93,Tryz.ntmps93
 go_wp2_with fail
 go_loopw [5] (fun i wr=>∃k:Nat,k<=n/\i=J6 k/\Below w.heap.size w wr) (fun i _=>n - (intOf i).toNat)
 case atStart=>exact⟨0,nZ _,rfl,bR _ _⟩
 case round =>
  obtain⟨k,hk,rfl,hB⟩:=hrel;have HB:=h_ hB;by_cases hlt:k<n
  . obtain⟨b1,o1,rfl,C1⟩:=(HA.u.mono hB) k hlt
    obtain⟨b2,o2,rfl,C2⟩:=(HB0.u.mono hB) k hlt;obtain⟨u,hu⟩:=Nq (e k);rw[hu]at C1 C2;have HC1:=h_ C1;have HC2:=h_ C2;have k0:(0:Int)<=k:=(by omega);have k1:(k:Int)<n:=(by omega);clear hB hu C1 C2;go_wp2_with fail;refine wp_region_held_drew (S:=fun w'=>NCel w' b1 (o1+k*5) u/\NCel w' b2 (o2+k*5) u) (by kernel_rfl) ⟨HC1.u,HC2.u⟩ (fun zz=>?_);refine tj 0 17 (.slice (some ⟨b1,o1,none⟩) n ca) zz ?_;refine tj 1 18 (J6 k) zz ?_;refine tj 2 19 (.pointer (some ⟨b1,o1+k*5,none⟩)) zz ?_;refine tj 3 20 (.agg #[J6 u.op,J6 u.v.k,J6 u.v.n,.string u.v.s,.string u.nm]) zz ?_ (hy:=fun w hS=>by obtain⟨⟨-,q0,q1,q2,q3,q4⟩,-⟩:=hS;simp[execOp,go_sem,q0,q1,q2,q3,q4]);simp only[sX,sY,sZ];refine tj 4 21 (.slice (some ⟨b2,o2,none⟩) n cb) zz ?_;refine tj 5 22 (J6 k) zz ?_;refine tj 6 23 (.pointer (some ⟨b2,o2+k*5,none⟩)) zz ?_;refine tj 7 24 (.agg #[J6 u.op,J6 u.v.k,J6 u.v.n,.string u.v.s,.string u.nm]) zz ?_ (hy:=fun w hS=>by obtain⟨-,⟨-,q0,q1,q2,q3,q4⟩⟩:=hS;simp[execOp,go_sem,q0,q1,q2,q3,q4]);simp only[sX,sY,sZ];refine callY (i:=8) (f:=129) (args:=#[nv u,nv u]) (R:=fun v wz=>v=.bool true/\Below wr.heap.size wr wz) 25 rfl rfl (by rfl) (by kernel_rfl) ?hrun1 ((q5q u _).mono fun e w6 ⟨he,hb⟩=>⟨_,he,rfl,q29 hb⟩) ?_
    case hrun1=>simp[execOp,go_sem,nv]
    rintro v w6 ⟨rfl,hb6⟩;have HB6:=mT HB hb6;replace zz:NCel w6 b1 (o1+k*5) u/\NCel w6 b2 (o2+k*5) u:=⟨HC1.u.mono hb6,HC2.u.mono hb6⟩;clear hb6;refine⟨zz,?_⟩;simp only[sX,sY,sZ];refine tj 9 26 (.bool false) zz ?_;simp only[sX,sY,sZ];refine wpAnyH_done (by kernel_rfl) ?_ _;clear zz;go_wp2_with fail;go_roundw
    case rel=>exact⟨k+1,by omega,by go_num,HB6.u⟩
    case measure=>simp[intOf];omega
  . obtain rfl:n=k:=by omega
    clear hB;go_wp2_with fail;go_ret;exact⟨rfl,HB.u⟩
theorem q8m (nl nr:Nat)(f:Fl):fieldOk nl nr f=(decide (1<=f.ty/\f.ty<=3)&&decide (-1<=f.lb/\f.lb<nl)&&bysOk nr f.bys&&decide (f.is.length=0∨f.bys.length=0)&&okText f.sy&&decide (f.va.length≠0∨f.sy.size=0)&&ruleOk f.is&&ruleOk f.wh&&ruleOk f.va&&ruleOk f.mu):=rfl
theorem q0s (f:Fl)(A:FA)(m:Fm)(M:MA)(w:World)(hf:FitF f)(ha:FSl w f A) :
 Calls Tryz.prog 98 #[fV f A,mV m M] w fun r w'=>r=.returned (.bool (fieldOk m.L.length m.R.length f))/\Below w.heap.size w w':=by
 obtain⟨ab,abc,ai,aic,ah,ahc,av,avc,au,auc⟩:=A
 obtain⟨al,alc,ap,apc,ar,arc,af,afc,afa⟩:=M
 unfold fV mV
 dsimp only
 have hfo:=q8m m.L.length m.R.length f
 have HK:=h_ ((Blk.new w 88 (Ja f ab abc ai aic ah ahc av avc au auc)).alloc (.cells (#[.slice al m.L.length alc,.slice ap m.P.length apc,.slice ar m.R.length arc,.slice af m.F.length afc]) 36))
 have HR:=h_ (Blk.new (w.alloc (.cells (Ja f ab abc ai aic ah ahc av avc au auc) 88)) 36 (#[.slice al m.L.length alc,.slice ap m.P.length apc,.slice ar m.R.length arc,.slice af m.F.length afc]))
 rw[Yk]at HR
 have HB:=h_ (((bR w.heap.size w).alloc (nR _) (.cells (Ja f ab abc ai aic ah ahc av avc au auc) 88)).alloc (by simp) (.cells (#[.slice al m.L.length alc,.slice ap m.P.length apc,.slice ar m.R.length arc,.slice af m.F.length afc]) 36))
 obtain⟨W0,hW0⟩:=Nq ((w.alloc (.cells (Ja f ab abc ai aic ah ahc av avc au auc) 88)).alloc (.cells (#[.slice al m.L.length alc,.slice ap m.P.length apc,.slice ar m.R.length arc,.slice af m.F.length afc]) 36))
 rw[hW0]at HK HR HB
 have HS:=h_ (ha.mono HB.u);have HF:=h_ hf
 obtain⟨nl,hnl⟩:=Nq m.L.length
 obtain⟨nr,hnr⟩:=Nq m.R.length
 rw[hnl]at hfo HR hW0⊢;rw[hnr]at hfo HR hW0⊢
 clear hnl hnr ha hf
 obtain⟨y0,y1,y2,y3,y4,y5,y6,y7,y8⟩:=nine HK.u
 obtain⟨z0,z1,z2,z3⟩:=quad HR.u
 by_cases h1:f.ty<1
 . rw[show fieldOk nl nr f=false by rw[hfo,Yb (by omega)];rfl]
   go_enter Tryz.func98,Tryz.ntmps98;go_wp2_with fail;go_ret;exact⟨rfl,HB.u⟩
 by_cases h2:3<f.ty
 . rw[show fieldOk nl nr f=false by rw[hfo,Yb (by omega)];rfl]
   go_enter Tryz.func98,Tryz.ntmps98;go_wp2_with fail;go_ret;exact⟨rfl,HB.u⟩
 by_cases h3:f.lb < -1
 . rw[show fieldOk nl nr f=false by rw[hfo,Yb (show ¬ (-1<=f.lb/\f.lb<nl) by omega),Ok];rfl]
   go_enter Tryz.func98,Tryz.ntmps98;go_wp2_with fail;go_ret;exact⟨rfl,HB.u⟩
 by_cases h4:(nl:Int)<=f.lb
 . rw[show fieldOk nl nr f=false by rw[hfo,Yb (show ¬ (-1<=f.lb/\f.lb<nl) by omega),Ok];rfl]
   go_enter Tryz.func98,Tryz.ntmps98;go_wp2_with fail;go_ret;exact⟨rfl,HB.u⟩
 rw[Yj (show 1<=f.ty/\f.ty<=3 by omega),Yj (show -1<=f.lb/\f.lb<nl by omega),Y5,Y5]at hfo
 obtain⟨q,hq⟩:=Nq (fieldOk nl nr f)
 rw[hq]at hfo⊢
 have HQ:=h_ hfo
 have hbl:=HF.u.bl
 have HSb:Hi (∀k (h:k<f.bys.length),∃b o,ab=some ⟨b,o,none⟩/\b<W0.heap.size/\W0.cell? ⟨b,o+k,none⟩=some (J6 f.bys[k])):=h_ fun k h=>by
  obtain⟨b,o,e,hlt,hc⟩:=HS.u.b k h;refine⟨b,o,e,hlt,?_⟩;rw[hc];show some (Value.int .i64 (f.bys.getD k 0))=_;rw[Yo,Yc h];rfl
 clear hq hfo
 go_enter Tryz.func98,Tryz.ntmps98
 go_wp2_with fail
 try rw[hW0]
 clear hW0 y0 y1 y2 y3 y4 y5 y6 y7 y8 z0 z1 z2 z3
 go_loopw [5,6] (fun i _ wr=>∃k:Nat,k<=f.bys.length/\i=J6 k/\(∀j (h:j<f.bys.length),j<k->inR nr f.bys[j]=true/\∀i (hi:i<j),f.bys[j]≠f.bys[i])/\Below W0.heap.size W0 wr) (fun i _ _=>f.bys.length - (intOf i).toNat)
 case atStart=>exact⟨0,nZ _,rfl,fun j _ hj=>absurd hj (nL _),bR _ _⟩
 case round =>
  obtain⟨k,hk,rfl,hall,hb⟩:=hrel;have HL:=h_ hall;have HB1:=h_ hb;have HKr:=mB HK hb;have HRr:=mB HR hb;obtain⟨y0,y1,y2,y3,y4,y5,y6,y7,y8⟩:=nine HKr.u;obtain⟨z0,z1,z2,z3⟩:=quad HRr.u;clear hall hb;by_cases hlt:k<f.bys.length
  . have hlt':(k:Int)<f.bys.length:=by omega
    obtain⟨b,o,rfl,hbl2,hc⟩:=HSb.u k hlt;have c0:=(HB1.u.cell (p:=⟨b,o+k,none⟩) hbl2).trans hc;have HX:Hi (inR nr f.bys[k]=false->q=false):=h_ fun h=>by rw[HQ.u,qbk hlt h];rfl
    have HT:Hi (∀j (hj:j<k),f.bys[k]=f.bys[j]->q=false):=h_ fun j hj h=>by rw[HQ.u,q5f hlt hj h];rfl
    have HD:Hi (Below W0.heap.size W0 wr.drew):=h_ HB1.u.drew;have hinr:inR nr f.bys[k]=decide (0<=f.bys[k]/\f.bys[k]<nr):=rfl;clear hc;obtain⟨x,hx⟩:=Nq (f.bys[k]);by_cases hn:x<0
    . have HX2:Hi (q=false):=h_ (HX.u (by rw[hinr,hx,Yb (by omega)]))
      rw[hx]at c0;go_wp2_with fail;refine wp_region_held_drew (S:=fun w'=>w'.cell? ⟨w.heap.size,3,none⟩=some (.slice (some ⟨b,o,none⟩) f.bys.length abc)/\w'.cell? ⟨b,o+k,none⟩=some (J6 x)/\w'.cell? ⟨w.heap.size+1,2,none⟩=some (.slice ar nr arc)) (by kernel_rfl) ⟨y3,c0,z2⟩ (fun zz=>?_);refine tj 0 35 (J9 w.heap.size 3) zz ?_;refine tj 1 36 (.slice (some ⟨b,o,none⟩) f.bys.length abc) zz ?_;refine tj 2 37 (J6 k) zz ?_;refine tj 3 38 (J9 b (o+k)) zz ?_;simp only[sX,sY,sZ];refine tj 4 39 (J6 x) zz ?_;refine tj 5 40 (.bool true) zz ?_;refine tj 6 41 (.bool true) zz ?_;refine tn 7 42 zz ?_;simp only[sX,sY,sZ];refine tn 8 43 zz ?_;refine tn 9 44 zz ?_;refine tn 10 45 zz ?_;refine tn 11 46 zz ?_;simp only[sX,sY,sZ];refine tn 12 47 zz ?_;refine tn 13 48 zz ?_;refine tn 14 49 zz ?_;refine tn 15 50 zz ?_;simp only[sX,sY,sZ];refine tj 16 51 (.bool true) zz ?_;simp only[sX,sY,sZ];refine wpAnyH_done (by kernel_rfl) ?_ _;clear zz;go_wp2_with fail;go_ret;exact⟨qia HX2.u.symm,HB.u.trans (HD.u.mono HB.u.size)⟩
    by_cases hg:(nr:Int)<=x
    . have HX2:Hi (q=false):=h_ (HX.u (by rw[hinr,hx,Yb (by omega)]))
      rw[hx]at c0;go_wp2_with fail;refine wp_region_held_drew (S:=fun w'=>w'.cell? ⟨w.heap.size,3,none⟩=some (.slice (some ⟨b,o,none⟩) f.bys.length abc)/\w'.cell? ⟨b,o+k,none⟩=some (J6 x)/\w'.cell? ⟨w.heap.size+1,2,none⟩=some (.slice ar nr arc)) (by kernel_rfl) ⟨y3,c0,z2⟩ (fun zz=>?_);refine tj 0 35 (J9 w.heap.size 3) zz ?_;refine tj 1 36 (.slice (some ⟨b,o,none⟩) f.bys.length abc) zz ?_;refine tj 2 37 (J6 k) zz ?_;refine tj 3 38 (J9 b (o+k)) zz ?_;simp only[sX,sY,sZ];refine tj 4 39 (J6 x) zz ?_;refine tj 5 40 (.bool false) zz ?_;refine tj 6 41 (.bool false) zz ?_;refine tj 7 42 (J9 w.heap.size 3) zz ?_;simp only[sX,sY,sZ];refine tj 8 43 (.slice (some ⟨b,o,none⟩) f.bys.length abc) zz ?_;refine tj 9 44 (J6 k) zz ?_;refine tj 10 45 (J9 b (o+k)) zz ?_;refine tj 11 46 (J6 x) zz ?_;simp only[sX,sY,sZ];refine tj 12 47 (.pointer (some ⟨(w.heap.size+1),2,none⟩)) zz ?_;refine tj 13 48 (.slice ar nr arc) zz ?_;refine tj 14 49 (J6 nr) zz ?_;refine tj 15 50 (.bool true) zz ?_;simp only[sX,sY,sZ];refine tj 16 51 (.bool true) zz ?_;simp only[sX,sY,sZ];refine wpAnyH_done (by kernel_rfl) ?_ _;clear zz;go_wp2_with fail;go_ret;exact⟨qia HX2.u.symm,HB.u.trans (HD.u.mono HB.u.size)⟩
    have HI:Hi (inR nr f.bys[k]=true):=h_ (by rw[hinr,hx,Yj (by omega)]);have HC0:=h_ c0;rw[hx]at c0;go_wp2_with fail;refine wp_region_held_drew (S:=fun w'=>w'.cell? ⟨w.heap.size,3,none⟩=some (.slice (some ⟨b,o,none⟩) f.bys.length abc)/\w'.cell? ⟨b,o+k,none⟩=some (J6 x)/\w'.cell? ⟨w.heap.size+1,2,none⟩=some (.slice ar nr arc)) (by kernel_rfl) ⟨y3,c0,z2⟩ (fun zz=>?_);refine tj 0 35 (J9 w.heap.size 3) zz ?_;refine tj 1 36 (.slice (some ⟨b,o,none⟩) f.bys.length abc) zz ?_;refine tj 2 37 (J6 k) zz ?_;refine tj 3 38 (J9 b (o+k)) zz ?_;simp only[sX,sY,sZ];refine tj 4 39 (J6 x) zz ?_;refine tj 5 40 (.bool false) zz ?_;refine tj 6 41 (.bool false) zz ?_;refine tj 7 42 (J9 w.heap.size 3) zz ?_;simp only[sX,sY,sZ];refine tj 8 43 (.slice (some ⟨b,o,none⟩) f.bys.length abc) zz ?_;refine tj 9 44 (J6 k) zz ?_;refine tj 10 45 (J9 b (o+k)) zz ?_;refine tj 11 46 (J6 x) zz ?_;simp only[sX,sY,sZ];refine tj 12 47 (.pointer (some ⟨(w.heap.size+1),2,none⟩)) zz ?_;refine tj 13 48 (.slice ar nr arc) zz ?_;refine tj 14 49 (J6 nr) zz ?_;refine tj 15 50 (.bool false) zz ?_;simp only[sX,sY,sZ];refine tj 16 51 (.bool false) zz ?_;simp only[sX,sY,sZ];refine wpAnyH_done (by kernel_rfl) ?_ _;clear zz;clear y0 y1 y2 y3 y4 y5 y6 y7 y8 z0 z1 z2 z3 c0 HB1 HKr HRr;go_wp2_with fail;go_loopw [6] (fun jv w3=>∃j:Nat,j<=k/\jv=J6 j/\(∀i (hi:i<k),i<j->f.bys[k]≠f.bys[i])/\Below W0.heap.size W0 w3) (fun jv _=>k - (intOf jv).toNat)
    case atStart=>exact⟨0,nZ _,rfl,fun i _ hj=>absurd hj (nL _),HD.u⟩
    case round =>
     obtain⟨j,hj,rfl,hin,hb⟩:=hrel;have HIN:=h_ hin;have HB1:=h_ hb;have HKr:=mB HK hb;obtain⟨y0,y1,y2,y3,y4,y5,y6,y7,y8⟩:=nine HKr.u;clear hin hb;by_cases hjk:j<k
     . have hjk':(j:Int)<k:=by omega
       have hjl:(j:Int)<f.bys.length:=(by omega);obtain⟨b2,o2,e2,hl2,hc1⟩:=HSb.u j (by omega);cases e2;obtain⟨b3,o3,e3,hl3,hc3⟩:=HSb.u k hlt;cases e3;have c1:=(HB1.u.cell (p:=⟨b,o+j,none⟩) hl2).trans hc1;have c0:=(HB1.u.cell (p:=⟨b,o+k,none⟩) hl3).trans hc3;have HX2:Hi (f.bys[k]=f.bys[j]->q=false):=h_ fun h=>HT.u j hjk h;have HN:Hi (f.bys[k]≠f.bys[j]->∀i (hi:i<k),i<j+1->f.bys[k]≠f.bys[i]):=h_ fun h i hi hij=>by
        by_cases ei:i=j
        . subst ei;exact h
        . exact HIN.u i hi (by omega)
       have HD2:Hi (Below W0.heap.size W0 wr.drew):=h_ HB1.u.drew;clear hc1 hc3;obtain⟨u,hu⟩:=Nq (f.bys[j]);rw[hx]at c0;rw[hu]at c1;by_cases hxu:x=u
       . have HX3:Hi (q=false):=h_ (HX2.u (by rw[hx,hu,hxu]))
         have hxu':(x==u)=true:=(by simp[hxu]);clear hxu HX2 HN;go_wp2_with fail;refine wp_region_held_drew (S:=fun w'=>w'.cell? ⟨w.heap.size,3,none⟩=some (.slice (some ⟨b,o,none⟩) f.bys.length abc)/\w'.cell? ⟨b,o+k,none⟩=some (J6 x)/\w'.cell? ⟨b,o+j,none⟩=some (J6 u)) (by kernel_rfl) ⟨y3,c0,c1⟩ (fun zz=>?_);refine tj 0 57 (J9 w.heap.size 3) zz ?_;refine tj 1 58 (.slice (some ⟨b,o,none⟩) f.bys.length abc) zz ?_;refine tj 2 59 (J6 k) zz ?_;refine tj 3 60 (J9 b (o+k)) zz ?_;simp only[sX,sY,sZ];refine tj 4 61 (J6 x) zz ?_;refine tj 5 62 (J9 w.heap.size 3) zz ?_;refine tj 6 63 (.slice (some ⟨b,o,none⟩) f.bys.length abc) zz ?_;refine tj 7 64 (J6 j) zz ?_;simp only[sX,sY,sZ];refine tj 8 65 (J9 b (o+j)) zz ?_;refine tj 9 66 (J6 u) zz ?_;refine tj 10 67 (.bool true) zz ?_;simp only[sX,sY,sZ];refine wpAnyH_done (by kernel_rfl) ?_ _;clear zz;go_wp2_with fail;go_ret;exact⟨qia HX3.u.symm,HB.u.trans (HD2.u.mono HB.u.size)⟩
       . have HN2:=h_ (HN.u (by rw[hx,hu];exact hxu))
         have hxu':(x==u)=false:=Ya.2 hxu;clear hxu HX2 HN;go_wp2_with fail;refine wp_region_held_drew (S:=fun w'=>w'.cell? ⟨w.heap.size,3,none⟩=some (.slice (some ⟨b,o,none⟩) f.bys.length abc)/\w'.cell? ⟨b,o+k,none⟩=some (J6 x)/\w'.cell? ⟨b,o+j,none⟩=some (J6 u)) (by kernel_rfl) ⟨y3,c0,c1⟩ (fun zz=>?_);refine tj 0 57 (J9 w.heap.size 3) zz ?_;refine tj 1 58 (.slice (some ⟨b,o,none⟩) f.bys.length abc) zz ?_;refine tj 2 59 (J6 k) zz ?_;refine tj 3 60 (J9 b (o+k)) zz ?_;simp only[sX,sY,sZ];refine tj 4 61 (J6 x) zz ?_;refine tj 5 62 (J9 w.heap.size 3) zz ?_;refine tj 6 63 (.slice (some ⟨b,o,none⟩) f.bys.length abc) zz ?_;refine tj 7 64 (J6 j) zz ?_;simp only[sX,sY,sZ];refine tj 8 65 (J9 b (o+j)) zz ?_;refine tj 9 66 (J6 u) zz ?_;refine tj 10 67 (.bool false) zz ?_;simp only[sX,sY,sZ];refine wpAnyH_done (by kernel_rfl) ?_ _;clear zz;go_wp2_with fail;go_roundw
         case rel=>exact⟨j+1,by omega,by go_num,HN2.u,HD2.u⟩
         case measure=>simp[intOf];omega
     . obtain rfl:j=k:=by omega
       have hjk':¬ (j:Int)<(j:Int):=(by omega);have HN:Hi (∀i (h:i<f.bys.length),i<j+1->inR nr f.bys[i]=true/\∀m (hm:m<i),f.bys[i]≠f.bys[m]):=h_ fun i h hi=>by
        by_cases ei:i=j
        . subst ei;exact⟨HI.u,fun m hm=>HIN.u m hm hm⟩
        . exact HL.u i h (by omega)
       go_wp2_with fail;go_roundw
       case rel=>first | exact⟨j+1,by omega,by go_num,HN.u,HB1.u⟩ | ((repeat apply Exists.intro);exact⟨⟨j+1,by omega,by go_num,HN.u,HB1.u⟩,rfl⟩)
       case measure=>simp[intOf];omega
  . have hlt':¬ (k:Int)<f.bys.length:=by omega
    have hbo:bysOk nr f.bys=true:=qbm (fun i h=>(HL.u i h (by omega)).1) (fun i h j hj=>(HL.u i h (by omega)).2 j hj);have HQ2:=h_ HQ.u;rw[hbo,Y5]at HQ2;have HSr:=h_ (HS.u.mono HB1.u);have HBw:=h_ (HB.u.trans (HB1.u.mono HB.u.size));have hil:=HF.u.il;have hvl:=HF.u.vl;clear HQ hbo HL HSb HS;by_cases hi:0<f.is.length/\0<f.bys.length
    . have hi1:(0:Int)<f.is.length:=by omega
      have hi2:(0:Int)<f.bys.length:=(by omega);have HX:Hi (q=false):=h_ (by rw[HQ2.u,Yb (show ¬ (f.is.length=0∨f.bys.length=0) by omega)];rfl);clear HQ2 hi;go_wp2_with fail;go_ret;exact⟨qia HX.u.symm,HBw.u⟩
    have HQ3:Hi (q=(okText f.sy&&decide (f.va.length≠0∨f.sy.size=0)&&ruleOk f.is&&ruleOk f.wh&&ruleOk f.va&&ruleOk f.mu)):=h_ (by rw[HQ2.u,Yj (show f.is.length=0∨f.bys.length=0 by omega),Y5]);clear HQ2;have hsplit:f.is.length=0∨((0:Int)<f.is.length/\f.bys.length=0):=(by omega);clear hi;have hsy:=HF.u.sy;rcases hsplit with hz1 | ⟨hz1,hz2⟩
    all_goals
     go_wp2_with fail;refine(q1t f.sy _ hsy).mono ?_;rintro e w4 ⟨rfl,hw⟩;replace hw:=hw.symm;subst hw;clear hz1
     try clear hz2
     cases hot:okText f.sy
     . have HX:Hi (q=false):=h_ (by rw[HQ3.u,hot];rfl)
       go_wp2_with fail;go_ret;exact⟨qia HX.u.symm,HBw.u⟩
     have HQ4:Hi (q=(decide (f.va.length≠0∨f.sy.size=0)&&ruleOk f.is&&ruleOk f.wh&&ruleOk f.va&&ruleOk f.mu)):=h_ (by rw[HQ3.u,hot,Y5]);clear hot;have hsp:(f.va.length=0/\(0:Int)<f.sy.size)∨(f.va.length=0/\f.sy.size=0)∨((f.va.length:Int)==0)=false:=by
      by_cases hv:f.va.length=0
      . by_cases hs0:f.sy.size=0
        . exact .inr (.inl ⟨hv,hs0⟩)
        . exact .inl ⟨hv,by omega⟩
      . exact .inr (.inr (Ya.2 (by omega)))
     rcases hsp with ⟨hv1,hv2⟩ | hrest
     . have HX:Hi (q=false):=h_ (by
        rw[HQ4.u,Yb (by omega)];rfl)
       go_wp2_with fail;go_ret;exact⟨qia HX.u.symm,HBw.u⟩
     have HQ5:Hi (q=(ruleOk f.is&&ruleOk f.wh&&ruleOk f.va&&ruleOk f.mu)):=h_ (by
      rw[HQ4.u,Yj,Y5];rcases hrest with ⟨h1,h2⟩ | h1
      . omega
      . have:=Ya.1 h1
        omega)
     clear HQ3 HQ4;rcases hrest with ⟨hv1,hv2⟩ | hv1
     all_goals
      go_wp2_with fail;refine(q48 ai aic f.is _ HF.u.il HSr.u.i HF.u.i).mono ?_;rintro e w5 ⟨rfl,hb⟩;replace HBw:=mT HBw hb;replace HSr:=h_ (HSr.u.mono hb);replace HKr:=mB HKr hb;clear hb y0 y1 y2 y3 y4 y5 y6 y7 y8;clear hv1
      try clear hv2
      obtain⟨y0,y1,y2,y3,y4,y5,y6,y7,y8⟩:=nine HKr.u;cases hri:ruleOk f.is
      . have HX:Hi (q=false):=h_ (by rw[HQ5.u,hri];simp)
        go_wp2_with fail;go_ret;exact⟨qia HX.u.symm,HBw.u⟩
      rw[hri]at HQ5;go_wp2_with fail;refine(q48 ah ahc f.wh _ HF.u.hl HSr.u.h HF.u.h).mono ?_;rintro e w5 ⟨rfl,hb⟩;replace HBw:=mT HBw hb;replace HSr:=h_ (HSr.u.mono hb);replace HKr:=mB HKr hb;clear hb y0 y1 y2 y3 y4 y5 y6 y7 y8;obtain⟨y0,y1,y2,y3,y4,y5,y6,y7,y8⟩:=nine HKr.u;cases hrh:ruleOk f.wh
      . have HX:Hi (q=false):=h_ (by rw[HQ5.u,hrh];simp)
        go_wp2_with fail;go_ret;exact⟨qia HX.u.symm,HBw.u⟩
      rw[hrh]at HQ5;go_wp2_with fail;refine(q48 av avc f.va _ HF.u.vl HSr.u.v HF.u.v).mono ?_;rintro e w5 ⟨rfl,hb⟩;replace HBw:=mT HBw hb;replace HSr:=h_ (HSr.u.mono hb);replace HKr:=mB HKr hb;clear hb y0 y1 y2 y3 y4 y5 y6 y7 y8;obtain⟨y0,y1,y2,y3,y4,y5,y6,y7,y8⟩:=nine HKr.u;cases hrv:ruleOk f.va
      . have HX:Hi (q=false):=h_ (by rw[HQ5.u,hrv];simp)
        go_wp2_with fail;go_ret;exact⟨qia HX.u.symm,HBw.u⟩
      rw[hrv]at HQ5;go_wp2_with fail;refine(q48 au auc f.mu _ HF.u.ul HSr.u.u HF.u.u).mono ?_;rintro e w5 ⟨rfl,hb⟩;replace HBw:=mT HBw hb;clear hb y0 y1 y2 y3 y4 y5 y6 y7 y8;have HX:Hi (q=ruleOk f.mu):=h_ (by rw[HQ5.u];simp);generalize ruleOk f.mu=z at *;cases z
      all_goals
       go_wp2_with fail;go_ret;exact⟨qia HX.u.symm,HBw.u⟩
def pb (f g:Nat->Nat)(k a b:Nat):Bool:=(List.range k).any fun i=>decide (f i=a)&&decide (g i=b)
theorem qn0 (f g:Nat->Nat)(k a b:Nat):pb f g (k+1) a b=(pb f g k a b||(decide (a=f k)&&decide (b=g k))):=by
 simp only[pb,Zh,List.any_append,List.any_cons,List.any_nil,Bool.or_false]
 congr 2 <;> rw[decide_eq_decide] <;> exact eq_comm
theorem pb_iff {f g:Nat->Nat}{k a b:Nat}:pb f g k a b=true ↔ ∃i,i<k/\f i=a/\g i=b:=by simp[pb]
theorem qdm (a:Nat)(w:World)(hs:a<32):Calls Tryz.prog 188 #[J6 a] w fun e w'=>∃v,e=.returned v/\(v=.agg (#[.int .u32 ((2 ^ a:Nat):Int)])/\Below w.heap.size w w') :=
 (qmq a w hs).mono fun e w' ⟨he,hw⟩=>⟨_,he,rfl,by rw[hw];exact(bR _ _).alloc (nR _) _⟩
theorem q7r (s t:Nat)(w:World)(hs:s<4294967296)(ht:t<4294967296):Calls Tryz.prog 187 #[.agg #[.int .u32 s],.agg #[.int .u32 t]] w fun e w'=>∃v,e=.returned v/\(v=.agg (#[.int .u32 ((s ||| t:Nat):Int)])/\Below w.heap.size w w') :=
 (qf4 s t w hs ht).mono fun e w' ⟨he,hw⟩=>⟨_,he,rfl,by rw[hw];exact(((bR _ w).alloc (nR _) _).alloc (by simp) _).alloc (by simp;omega) _⟩
def TwoP (w':World)(P:Nat)(lo hi:Int):Prop:=w'.cell? ⟨P,0,none⟩=some (.int .i64 lo)/\w'.cell? ⟨P,1,none⟩=some (.int .i64 hi)
theorem q0a (n:Nat)(a:Option Addr)(m c:Nat)(f g:Nat->Nat)(w:World)(h32:n<=32)(hm:m<=256)(ha:Pairs w a m (fun k=>(f k:Int)) (fun k=>(g k:Int)))(hf:∀k,k<m->f k<n)(hg:∀k,k<m->g k<n) :
 Calls Tryz.prog 146 #[.agg (Jp n a m c)] w fun e w'=>∃u,e=.returned (.agg (us u).toArray)/\IsRel u (pb f g m)/\Below w.heap.size w w':=by
 go_enter Tryz.func146,Tryz.ntmps146
 go_wp2_with (refine q0k rfl _ _ rfl (w.heap.size+1+1) (fun _=>0) (fun _=>0) rfl rfl (blk3 _ _ _ _ _ rfl) ?_;intro w1 hb1 hg1 hs1;have hA:=(blk1 _ _ _ _ _).grown hg1 (by simp;omega);have hR:=(blk2 _ _ _ _ (fun _=>0) rfl).grown hg1 (by simp);have hB:=(below3 _ _ _ _).trans ((bR w.heap.size _).grown hg1 (by simp;omega) (fun k e=>by cases e;omega));have x1:=hA.cell 1;simp only[Y6,Yg]at x1;replace hA:=h_ hA;replace hR:=h_ hR;replace hB:=h_ hB;replace hb1:=h_ hb1;clear hg1 hs1)
 clear x1 hA
 go_loopw [10] (fun i wr=>∃(k:Nat) (u:Nat->Nat),k<=m/\i=J6 k/\IsRel u (pb f g k)/\Blk wr (w.heap.size+1+1) 218 (us u)/\Blk wr (w.heap.size+1) 218 (us fun _=>0)/\Below w.heap.size w wr) (fun i _=>m - (intOf i).toNat)
 case atStart=>exact⟨0,fun _=>0,nZ _,rfl,fun a _=>⟨by simp,fun b=>by simp[pb]⟩,hb1.u,hR.u,hB.u⟩
 case round =>
  clear hb1 hR hB;obtain⟨k,u,hk,rfl,hrel,hO,hR,hB⟩:=hrel;have HREL:=h_ hrel;have HO:=h_ hO;have HR:=h_ hR;have HB:=h_ hB;by_cases hlt:k<m
  . obtain⟨b1,o1,rfl,hl1,hc1,hc2⟩:=(ha.mono hB) k hlt
    dsimp only at hc1 hc2;have flt:=hf k hlt;have glt:=hg k hlt;obtain⟨x,hx⟩:=Nq (f k);obtain⟨y,hy⟩:=Nq (g k);rw[hx]at hc1 flt;rw[hy]at hc2 glt;have x32:x<32:=(by omega);have y32:y<32:=(by omega);have hgx:=(hrel x x32).1;have HS:Hi (IsRel (fun j=>if j=x then u x ||| 2 ^ y else u j) (pb f g (k+1))):=(hrel.add x32 y32).congr fun a b _=>by rw[qn0,hx,hy]
    have y2:=two_lt y32;have hb3:Below wr.heap.size wr (wr.alloc (.cells (Js x y) 95)):=(bR _ _).alloc (nR _) _;have P3:=Blk.new wr 95 (Js x y);have O3:=hO.mono hb3 hO.lt;have R3:=hR.mono hb3 hR.lt;have B3:=hB.trans (hb3.mono hB.size);have hPU:wr.heap.size≠w.heap.size+1+1:=(by have:=hO.lt;omega);have S0:TwoP (wr.alloc (.cells (Js x y) 95)) wr.heap.size x y:=⟨P3.cell 0,P3.cell 1⟩;have HS0:=h_ S0;have HO3:=h_ O3;have HR3:=h_ R3;have HB3:=h_ B3;have HP3:=h_ P3;have x0i:(0:Int)<=x:=(by omega);have x1i:(x:Int)<32:=(by omega);clear hrel hO hR hB hx hy flt glt hb3 P3 O3 R3 B3 S0 HREL HO HR HB ha;go_wp2_with fail;generalize wr.alloc (.cells (Js x y) 95)=W at *;generalize wr.heap.size=P at *;refine wp_region_held_drew (S:=fun w'=>TwoP w' P x y) (by kernel_rfl) HS0.u (fun zz=>?_);refine tj 0 14 (J9 P 0) zz ?_ (hy:=fun w hS=>by obtain⟨q0,q1⟩:=hS;simp[execOp,go_sem, *]);refine tj 1 15 (J6 x) zz ?_ (hy:=fun w hS=>by obtain⟨q0,q1⟩:=hS;simp[execOp,go_sem, *]);refine tj 2 16 (J9 P 0) zz ?_ (hy:=fun w hS=>by obtain⟨q0,q1⟩:=hS;simp[execOp,go_sem, *]);refine tj 3 17 (J6 x) zz ?_ (hy:=fun w hS=>by obtain⟨q0,q1⟩:=hS;simp[execOp,go_sem, *]);simp only[sX,sY,sZ];refine tj 4 18 (J9 (w.heap.size+1+1) x) zz ?_ (hy:=fun w hS=>by obtain⟨q0,q1⟩:=hS;simp[execOp,go_sem, *]);refine tj 6 20 (J9 P 1) zz ?_ (hy:=fun w hS=>by obtain⟨q0,q1⟩:=hS;simp[execOp,go_sem, *]);refine tj 7 21 (J6 y) zz ?_ (hy:=fun w hS=>by obtain⟨q0,q1⟩:=hS;simp[execOp,go_sem, *]);simp only[sX,sY,sZ];have cW:W.cell? ⟨w.heap.size+1+1,x,none⟩=some (.int .u32 (u x:Int)):=(by rw[HO3.u.cell x,us_get u x32]);refine wpAnyH_ready (rs:=[5,8]) (by kernel_rfl) (by simp) (consRun (v:=.agg #[.int .u32 (u x:Int)]) (w':=W.drew) 19 rfl rfl (by rfl) ?hrun0 zz ?pA (consCall (f:=188) (args:=#[J6 y]) (R:=fun v wz=>v=.agg (#[.int .u32 ((2 ^ y:Nat):Int)])/\Below W.heap.size W wz) 22 rfl rfl (by rfl) ?hrun1 ((qdm y _ y32).mono fun e w6 ⟨v,he,hv,hb⟩=>⟨v,he,hv,q29 hb⟩) ?pB AllReadyH.nil))
    case hrun0=>simp[execOp,go_sem,cW]
    case hrun1=>simp[execOp,go_sem]
    case pA =>
     simp only[sX,sY,sZ];refine callY (i:=8) (f:=188) (args:=#[J6 y]) (R:=fun v wz=>v=.agg (#[.int .u32 ((2 ^ y:Nat):Int)])/\Below W.heap.size W wz) 22 rfl rfl (by rfl) (by kernel_rfl) ?hrun1 ((qdm y _ y32).mono fun e w6 ⟨v,he,hv,hb⟩=>⟨v,he,hv,q29 hb⟩) ?_
     case hrun1=>simp[execOp,go_sem]
     rintro v w6 ⟨rfl,hb6⟩;have P6:=HP3.u.mono hb6 HP3.u.lt;have O6:=HO3.u.mono hb6 HO3.u.lt;have R6:=HR3.u.mono hb6 HR3.u.lt;have B6:=HB3.u.trans (hb6.mono HB3.u.size);refine⟨⟨P6.cell 0,P6.cell 1⟩,?_⟩;simp only[sX,sY,sZ];refine callY (i:=9) (f:=187) (args:=#[.agg #[.int .u32 (u x:Int)],.agg (#[.int .u32 ((2 ^ y:Nat):Int)])]) (R:=fun v wz=>v=.agg (#[.int .u32 ((u x ||| 2 ^ y:Nat):Int)])/\Below w6.heap.size w6 wz) 23 rfl rfl (by rfl) (by kernel_rfl) ?hrun2 (q7r (u x) (2 ^ y) w6 hgx y2) ?_
     case hrun2=>simp[execOp,go_sem]
     rintro v w7 ⟨rfl,hb7⟩;have P7:=P6.mono hb7 P6.lt;have O7:=O6.mono hb7 O6.lt;have R7:=R6.mono hb7 R6.lt;have B7:=B6.trans (hb7.mono B6.size);have c7:w7.cell? ⟨w.heap.size+1+1,x,none⟩=some (.int .u32 (u x:Int)):=(by rw[O7.cell x,us_get u x32]);have f7:=O7.free x;refine⟨⟨P7.cell 0,P7.cell 1⟩,?_⟩;simp only[sX,sY,sZ];replace zz:TwoP w7 P x y:=⟨P7.cell 0,P7.cell 1⟩;refine tj 10 24 (J9 (w.heap.size+1+1) x) zz ?_ (hy:=fun w hS=>by obtain⟨q0,q1⟩:=hS;simp[execOp,go_sem, *]);simp only[sX,sY,sZ];obtain⟨vv,hvv⟩:=Nq ((u x ||| 2 ^ y));rw[hvv]at HS⊢;refine storeY (i:=11) (w':=w7.setCell ⟨w.heap.size+1+1,x,none⟩ (.int .u32 (vv:Int))) rfl (by rfl) (by kernel_rfl) rfl ?hrun3 rfl ⟨(P7.other _ hPU).cell 0,(P7.other _ hPU).cell 1⟩ ?_
     case hrun3=>simp[execOp,go_sem,c7,f7]
     refine wpAnyH_done (by kernel_rfl) ?_ _;have HO8:=h_ (O7.set x (.int .u32 (vv:Int)));have HR8:=h_ (R7.other (a:=⟨w.heap.size+1+1,x,none⟩) (.int .u32 (vv:Int)) (by simp));have HB8:=h_ (B7.setCell (p:=⟨w.heap.size+1+1,x,none⟩) (by simp;omega) (.int .u32 (vv:Int)));clear P7 O7 R7 B7 c7 f7 zz;generalize w7.setCell ⟨w.heap.size+1+1,x,none⟩ (.int .u32 (vv:Int))=w8 at *;go_wp2;go_roundw
     case rel=>exact⟨k+1,_,by omega,by go_num,HS.u,by rw[<- us_set u _ x32];exact HO8.u,HR8.u,HB8.u⟩
     case measure=>simp[intOf];omega
    case pB =>
     rintro v w6 ⟨rfl,hb6⟩;have P6:=HP3.u.mono hb6 HP3.u.lt;have O6:=HO3.u.mono hb6 HO3.u.lt;have R6:=HR3.u.mono hb6 HR3.u.lt;have B6:=HB3.u.trans (hb6.mono HB3.u.size);have c6:w6.cell? ⟨w.heap.size+1+1,x,none⟩=some (.int .u32 (u x:Int)):=(by rw[O6.cell x,us_get u x32]);refine⟨⟨P6.cell 0,P6.cell 1⟩,?_⟩;simp only[sX,sY,sZ];refine wpAnyH_ready (rs:=[5]) (by kernel_rfl) (by simp) (consRun (v:=.agg #[.int .u32 (u x:Int)]) (w':=w6) 19 rfl rfl (by rfl) ?hrun0 ⟨P6.cell 0,P6.cell 1⟩ ?pC AllReadyH.nil)
     case hrun0=>simp[execOp,go_sem,c6]
     simp only[sX,sY,sZ];refine callY (i:=9) (f:=187) (args:=#[.agg #[.int .u32 (u x:Int)],.agg (#[.int .u32 ((2 ^ y:Nat):Int)])]) (R:=fun v wz=>v=.agg (#[.int .u32 ((u x ||| 2 ^ y:Nat):Int)])/\Below w6.heap.size w6 wz) 23 rfl rfl (by rfl) (by kernel_rfl) ?hrun2 (q7r (u x) (2 ^ y) w6 hgx y2) ?_
     case hrun2=>simp[execOp,go_sem]
     rintro v w7 ⟨rfl,hb7⟩;have P7:=P6.mono hb7 P6.lt;have O7:=O6.mono hb7 O6.lt;have R7:=R6.mono hb7 R6.lt;have B7:=B6.trans (hb7.mono B6.size);have c7:w7.cell? ⟨w.heap.size+1+1,x,none⟩=some (.int .u32 (u x:Int)):=(by rw[O7.cell x,us_get u x32]);have f7:=O7.free x;refine⟨⟨P7.cell 0,P7.cell 1⟩,?_⟩;simp only[sX,sY,sZ];replace zz:TwoP w7 P x y:=⟨P7.cell 0,P7.cell 1⟩;refine tj 10 24 (J9 (w.heap.size+1+1) x) zz ?_ (hy:=fun w hS=>by obtain⟨q0,q1⟩:=hS;simp[execOp,go_sem, *]);simp only[sX,sY,sZ];obtain⟨vv,hvv⟩:=Nq ((u x ||| 2 ^ y));rw[hvv]at HS⊢;refine storeY (i:=11) (w':=w7.setCell ⟨w.heap.size+1+1,x,none⟩ (.int .u32 (vv:Int))) rfl (by rfl) (by kernel_rfl) rfl ?hrun3 rfl ⟨(P7.other _ hPU).cell 0,(P7.other _ hPU).cell 1⟩ ?_
     case hrun3=>simp[execOp,go_sem,c7,f7]
     refine wpAnyH_done (by kernel_rfl) ?_ _;have HO8:=h_ (O7.set x (.int .u32 (vv:Int)));have HR8:=h_ (R7.other (a:=⟨w.heap.size+1+1,x,none⟩) (.int .u32 (vv:Int)) (by simp));have HB8:=h_ (B7.setCell (p:=⟨w.heap.size+1+1,x,none⟩) (by simp;omega) (.int .u32 (vv:Int)));clear P7 O7 R7 B7 c7 f7 zz;generalize w7.setCell ⟨w.heap.size+1+1,x,none⟩ (.int .u32 (vv:Int))=w8 at *;go_wp2;go_roundw
     case rel=>exact⟨k+1,_,by omega,by go_num,HS.u,by rw[<- us_set u _ x32];exact HO8.u,HR8.u,HB8.u⟩
     case measure=>simp[intOf];omega
  . obtain rfl:k=m:=by omega
    have HREL':=h_ hrel;clear hO hR hB hrel;go_wp2_with (first | (refine q0u rfl _ rfl (w.heap.size+1+1) u rfl HO.u ?_) | (refine q0k rfl _ _ rfl (w.heap.size+1) (fun _=>0) u rfl rfl HR.u ?_;intro w2 hb2 hg2 hs2;replace hb2:=h_ hb2;replace hg2:=h_ hg2));refine bodyPost_ret (results_cell_row rfl _ _ (w.heap.size+1) 218 (us u).toArray (0,0) _ rfl hb2.u Tryz.underlying218 rfl (qnr u)) rfl ⟨u,rfl,HREL'.u,?_⟩;exact HB.u.trans ((bR w.heap.size _).grown hg2.u HB.u.size (fun k e=>by cases e;omega))
theorem q39 (N:Int)(a:Option Addr)(m c:Nat)(w:World)(hm:m<=9223372036854775807)(hno:¬ (1<=N/\N<=32/\m<=256)) :
 Calls Tryz.prog 144 #[.agg (Jp N a m c)] w fun e w'=>e=.returned (.bool false)/\Below w.heap.size w w':=by
 have hcase:N<1∨(1<=N/\32<N)∨(1<=N/\N<=32/\256<m):=by omega
 rcases hcase with h | ⟨h,h'⟩ | ⟨h,h',h''⟩
 all_goals
  go_enter Tryz.func144,Tryz.ntmps144;go_wp2;go_ret;exact⟨rfl,(bR _ _).alloc (nR _) _⟩
theorem qhr (w:World)(t:TypeId)(x y:Int):(w.alloc (.cells (Js x y) t)).cell? ⟨w.heap.size,0,none⟩=some (J6 x)/\(w.alloc (.cells (Js x y) t)).cell? ⟨w.heap.size,1,none⟩=some (J6 y):=by
 have B:=Blk.new w t (Js x y)
 exact⟨B.cell 0,B.cell 1⟩
theorem q38 (N:Int)(a:Option Addr)(m c:Nat)(f g:Nat->Int)(w:World)(h1:1<=N)(h32:N<=32)(hm:m<=256)(ha:Pairs w a m f g)(V:Bool)(hV:V=true ↔ ∀k,k<m->0<=f k/\f k<N/\0<=g k/\g k<N) :
 Calls Tryz.prog 144 #[.agg (Jp N a m c)] w fun e w'=>e=.returned (.bool V)/\Below w.heap.size w w':=by
 have HV:=h_ hV;clear hV
 go_enter Tryz.func144,Tryz.ntmps144
 go_wp2
 have hb:Below w.heap.size w (w.alloc (.cells (Jp N a m c) 131)):=(bR _ _).alloc (nR _) _
 have HB:=h_ hb;clear hb
 have B0:=Blk.new w 131 (Jp N a m c)
 have PA:=ha.mono HB.u
 generalize (w.alloc (.cells (Jp N a m c) 131))=W at *
 go_loopw [22] (fun i wr=>∃k:Nat,k<=m/\i=J6 k/\(∀j,j<k->0<=f j/\f j<N/\0<=g j/\g j<N)/\Below W.heap.size W wr) (fun i _=>m - (intOf i).toNat)
 case atStart=>exact⟨0,nZ _,rfl,fun j h=>absurd h (nL _),bR _ _⟩
 case round =>
  obtain⟨k,hk,rfl,heq,hB⟩:=hrel;have HE:=h_ heq;clear heq;have P2:=PA.mono hB;have c0:=(B0.mono hB B0.lt).cell 0;simp only[Yg]at c0;have hs:w.heap.size<wr.heap.size:=Ys B0.lt hB.size;have HC:=h_ hB;clear hB;by_cases hlt:k<m
  . obtain⟨b,off,rfl,hl,hc,hd⟩:=P2 k hlt
    have hF:¬ (0<=f k/\f k<N/\0<=g k/\g k<N)->V=false:=fun hn=>qk0 HV.u fun hall=>hn (hall k hlt);have HF:=h_ hF;clear hF;have HZ:=h_ (HB.u.trans ((HC.u.trans (((bR _ _).alloc (nR _) (.cells (Js (f k) (g k)) 95)).mono HC.u.size)).mono HB.u.size));have HY:=h_ (HC.u.trans (((bR _ _).alloc (nR _) (.cells (Js (f k) (g k)) 95)).mono HC.u.size));obtain⟨p0,p1⟩:=qhr wr 95 (f k) (g k);have q0:=((B0.mono HY.u B0.lt).cell 0);simp only[Yg]at q0;by_cases x1:f k<0∨N<=f k
    . go_wp2_with fail
      refine(q90 (f k) N _ x1).mono ?_;rintro e w' ⟨rfl,rfl⟩;go_wp2;go_ret;exact⟨qia (HF.u (by omega)).symm,HZ.u⟩
    have y0:0<=f k:=(by omega);have y1:f k<N:=(by omega);by_cases x2:g k<0∨N<=g k
    . go_wp2_with fail
      refine(q62 (f k) N _ y0 y1).mono ?_;rintro e w' ⟨rfl,rfl⟩;go_wp2_with fail;refine(q90 (g k) N _ x2).mono ?_;rintro e w' ⟨rfl,rfl⟩;go_wp2;go_ret;exact⟨qia (HF.u (by omega)).symm,HZ.u⟩
    have z0:0<=g k:=(by omega);have z1:g k<N:=(by omega);go_wp2_with fail;refine(q62 (f k) N _ y0 y1).mono ?_;rintro e w' ⟨rfl,rfl⟩;go_wp2_with fail;refine(q62 (g k) N _ z0 z1).mono ?_;rintro e w' ⟨rfl,rfl⟩;go_wp2;go_roundw
    case rel=>exact⟨k+1,by omega,by go_num,fun j hj=>by
     by_cases e:j=k
     . subst e;omega
     . exact HE.u j (by omega),HY.u⟩
    case measure=>simp[intOf];omega
  . go_wp2
    go_ret;exact⟨qia (HV.u.2 fun j hj=>HE.u j (by omega)).symm,HB.u.trans (HC.u.mono HB.u.size)⟩
def sameN (g g':Nat->Nat):Bool:=(List.range 32).all fun i=>g i==g' i
theorem qe9 {g g':Nat->Nat}:sameN g g'=true ↔ ∀i,i<32->g i=g' i:=by simp[sameN]
end Go.Proofs.YtgojgjlninakjaaGreatDoor
