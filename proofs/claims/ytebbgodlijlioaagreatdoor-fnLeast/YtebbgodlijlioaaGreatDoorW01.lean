import Derived.Test.YtebbgodlijlioaaGreatDoorW00
import Derived.Lib.ItoaNum
import Derived.Lib.ItoaLen
import Derived.Lib.ParseIntBTie
set_option maxRecDepth 100000
set_option maxHeartbeats 64000000
namespace Go.Proofs.YtebbgodlijlioaaGreatDoor
def dval:List Nat->Nat
 | []=>0
 | d :: r=>d+10*dval r
def Dig (l:List Nat):Prop:=∀d,d∈l->d<10
def digs (n:Nat):List Nat:=if _h:n=0 then [] else n % 10 :: digs (n / 10)
 termination_by n
 decreasing_by omega
theorem q9h:digs 0=[]:=by rw[digs];simp
theorem qcc {n:Nat}(h:n≠0):digs n=n % 10 :: digs (n / 10):=by rw[digs,dif_neg h]
theorem q9k (n:Nat):dval (digs n)=n:=by
 induction n using Nat.strongRecOn with
 | _ n ih =>
  by_cases h:n=0
  . subst h;rw[q9h];rfl
  . rw[qcc h,dval,ih (n / 10) (by omega)];omega
theorem qca (n:Nat):Dig (digs n):=by
 induction n using Nat.strongRecOn with
 | _ n ih =>
  by_cases h:n=0
  . subst h;rw[q9h];intro d hd;cases hd
  . rw[qcc h];intro d hd
    rcases List.mem_cons.1 hd with rfl | hd
    . omega
    . exact ih (n / 10) (by omega) d hd
theorem qcb {n:Nat}:digs n=[] ↔ n=0:=by
 refine⟨fun h=>?_,fun h=>by rw[h,q9h]⟩
 rw[<- q9k n,h];rfl
theorem Dig.tail {d:Nat}{l:List Nat}(h:Dig (d :: l)):Dig l:=fun e he=>h e (List.mem_cons_of_mem _ he)
theorem Dig.head {d:Nat}{l:List Nat}(h:Dig (d :: l)):d<10:=h d (List.mem_cons_self ..)
theorem Dig.cons {l:List Nat}{d:Nat}(h:Dig l)(hd:d<10):Dig (d :: l):=fun e he=>by
 rcases List.mem_cons.1 he with rfl | he
 . exact hd
 . exact h e he
theorem Dig.take {l:List Nat}(h:Dig l)(k:Nat):Dig (l.take k):=fun e he=>h e (List.mem_of_mem_take he)
theorem dig_at {l:List Nat}(h:Dig l):∀i,l.getD i 0=dval l / 10 ^ i % 10:=by
 induction l with
 | nil=>intro i;simp[dval]
 | cons d r ih =>
  intro i;have hd:=h.head;cases i with
  | zero=>simp[dval];omega
  | succ i =>
   have e:dval (d :: r) / 10 ^ (i+1)=dval r / 10 ^ i:=by
    rw[dval,Nat.pow_succ,Nat.mul_comm (10 ^ i) 10,<- Nat.div_div_eq_div_mul]
    congr 1;omega
   rw[e,<- ih h.tail i];simp
theorem q1e {n k:Nat}(h:n<10 ^ k):(digs n).length<=k:=by
 induction k generalizing n with
 | zero=>have:n=0:=(by simpa using h);subst this;simp[q9h]
 | succ k ih =>
  by_cases h0:n=0
  . subst h0;simp[q9h]
  . rw[qcc h0,List.length_cons]
    have:=ih (n:=n / 10) (by rw[Nat.pow_succ]at h;omega);omega
theorem qgb (n i:Nat):(digs n).getD i 0=n / 10 ^ i % 10:=by rw[dig_at (qca n),q9k]
theorem q1d {n:Nat}(h:n≠0):Lib.decDigits n=(digs n).reverse.map fun d=>UInt8.ofNat (48+d):=by
 induction n using Nat.strongRecOn with
 | _ n ih =>
  rw[qcc h,Lib.decDigits];by_cases h':n<10
  . rw[dif_pos h',show n / 10=0 by omega,q9h,Nat.mod_eq_of_lt h'];simp
  . rw[dif_neg h',ih (n / 10) (by omega) (by omega)];simp
end Go.Proofs.YtebbgodlijlioaaGreatDoor
namespace Go.Proofs.YtebbgodlijlioaaGreatDoor
open Go.Lib
def hval (acc:Nat):List Nat->Nat
 | []=>acc
 | d :: r=>hval (acc*10+d) r
def hdig (l:List Nat):List UInt8:=l.map fun d=>UInt8.ofNat (48+d)
end Go.Proofs.YtebbgodlijlioaaGreatDoor
namespace Go.Proofs.YtebbgodlijlioaaGreatDoor
open Go Go.RowKit
def ui (l:List Nat):List Value:=l.map fun u=>.int .i64 ((u:Nat):Int)
theorem q3f {w:World}{base:Nat}{e:TypeId}{v:Value}{n:Nat}{us:List Nat}(h:w.ownsRow base e 1 v n (ui us)) :
 ∃a cap,v=.slice a n cap/\Ints w a n (fun k=>((us.getD k 0:Nat):Int)):=by
 have hlen:us.length=n:=by have:=h.1;simpa [ui] using this
 rcases h.2 with ⟨rfl,rfl⟩ | ⟨g,cap,cur,rfl,hb,hg,hc,-,hs,htake⟩
 . exact⟨none,0,rfl,fun k hk=>absurd hk (nL _)⟩
 . refine⟨_,cap,rfl,fun k hk=>⟨g,0,rfl,(Yt.1 hg).1,?_⟩⟩
   have:=h.cellAt k (by omega);rw[Zi,this];simp[ui,List.getD,List.getElem?_eq_getElem (show k<us.length by omega)]
theorem q87 {w:World}{base:Nat}{e:TypeId}{size:Nat}{v:Value}{n:Nat}{xs:List Value}(h:w.ownsRow base e size v n xs){q:Nat}(hq:v.ownBlock=some q):base<=q:=by
 rcases h.2 with ⟨rfl,-⟩ | ⟨g,cap,cur,rfl,hb,-⟩
 . simp[Value.ownBlock]at hq
 . simp only[Value.ownBlock,Option.some.injEq]at hq;omega
theorem qav (w:World)(t:TypeId):(w.alloc (.cells #[] t)).ownsRow w.heap.size t 1 (.slice (some ⟨w.heap.size,0,none⟩) 0 0) 0 [] :=
 ⟨rfl,.inr ⟨w.heap.size,0,#[],rfl,nR _,heap_alloc_new w (.cells #[] t),nR _,nZ _,rfl,rfl⟩⟩
theorem infoI:(Tryz.prog.info? 3).map (fun i=>(i.zero,i.size,i.bytes))=some (some (J9 0),1,8):=by kernel_rfl
theorem qc6 (w:World)(t:TypeId)(v:Value):∀(j:Nat) (u:Value),[v][j]? = some u->(w.alloc (.cells #[v] t)).cell? ((⟨w.heap.size,0,none⟩:Addr).add j)=some u:=fun j u h=>by
 match j,h with
 | 0,h=>simp at h;subst h;exact(Blk.new w t #[v]).cell 0
theorem qdu (w:World)(t:TypeId)(v:Value):(w.alloc (.cells #[v] t)).ownsRow w.heap.size t 1 (.slice (some ⟨w.heap.size,0,none⟩) 1 1) 1 [v] :=
 ⟨rfl,.inr ⟨w.heap.size,1,#[v],rfl,nR _,heap_alloc_new w (.cells #[v] t),nR _,by unfold maxLen;omega,rfl,rfl⟩⟩
def DigS (w:World)(v:Value)(l:List Nat):Prop:=∃a cap,v=.slice a l.length cap/\l.length<=cap/\(a=none->cap=0)/\Ints w a l.length (fun k=>((l.getD k 0:Nat):Int))
theorem DigS.mono {w w':World}{v:Value}{l:List Nat}(h:DigS w v l)(hb:Below w.heap.size w w'):DigS w' v l:=by
 obtain⟨a,cap,e,hc,hn,hi⟩:=h
 exact⟨a,cap,e,hc,hn,hi.mono hb⟩
theorem q37 {w:World}{base:Nat}{e:TypeId}{v:Value}{us:List Nat}(h:w.ownsRow base e 1 v us.length (ui us)):DigS w v us:=by
 rcases h.2 with ⟨rfl,h0⟩ | ⟨g,cap,cur,rfl,hb,hg,hc,-,hs,htake⟩
 . exact⟨none,0,by rw[h0],by omega,fun _=>rfl,fun k hk=>absurd hk (by omega)⟩
 . obtain⟨a,cap',e1,hI⟩:=q3f h
   simp only[Value.slice.injEq]at e1;obtain⟨rfl,-,rfl⟩:=e1;exact⟨_,_,rfl,by omega,(fun h=>by cases h),hI⟩
theorem q8a {w:World}{base:Nat}{e:TypeId}{v:Value}{n:Nat}{xs:List Value}(h:w.ownsRow base e 1 v n xs){b:Nat}(hb:b<base)(j:Nat)(u:Value):(w.setCell ⟨b,j,none⟩ u).ownsRow base e 1 v n xs:=by
 rcases h.2 with h' | ⟨g,cap,cur,e',hb',hg,hc,hx,hs,htake⟩
 . exact⟨h.1,.inl h'⟩
 . exact⟨h.1,.inr ⟨g,cap,cur,e',hb',(heap_setCell_other w ⟨b,j,none⟩ g u (by simp;omega)).trans hg,hc,hx,hs,htake⟩⟩
theorem qf7 (y:Int):(y.tmod 10<0->-(y.tmod 10)=((y.natAbs % 10:Nat):Int))/\(¬ y.tmod 10<0->y.tmod 10=((y.natAbs % 10:Nat):Int)):=by
 have e:∀n:Nat,(n:Int).tmod 10=((n % 10:Nat):Int):=fun n=>(Int.ofNat_tmod n 10).symm
 rcases Int.lt_or_le y 0 with h | h
 . obtain⟨n,rfl⟩:∃n:Nat,y = -(n:Int):=⟨y.natAbs,by omega⟩
   rw[Int.neg_tmod,e,Int.natAbs_neg];simp only[Int.natAbs_natCast];omega
 . obtain⟨n,rfl⟩:∃n:Nat,y=(n:Int):=⟨y.toNat,by omega⟩
   rw[e];simp only[Int.natAbs_natCast];exact⟨fun h=>by omega,fun _=>trivial⟩
theorem qf5 (y:Int):(y.tdiv 10).natAbs=y.natAbs / 10:=by rw[Int.natAbs_tdiv];rfl
theorem q2i (x:Int)(w:World)(h0:-9223372036854775808<=x)(h1:x<=9223372036854775807) :
 Calls Tryz.prog 136 #[J9 x] w fun e w'=>∃v,e=.returned (.agg #[.bool (decide (x<0)),v])/\DigS w' v (digs x.natAbs)/\Below w.heap.size w w':=by
 have HX:=h_ (And.intro h0 h1);clear h0 h1
 go_enter Tryz.func136,Tryz.ntmps136
 go_wp2
 have H0:Hi (((w.alloc (.cells #[.bool false,Ya] 166)).alloc (.cells #[] 3)).ownsRow (w.alloc (.cells #[.bool false,Ya] 166)).heap.size 3 1 (.slice (some ⟨(w.alloc (.cells #[.bool false,Ya] 166)).heap.size,0,none⟩) 0 0) 0 []):=qav _ _
 have HB:Hi (Below (w.heap.size+1) (w.alloc (.cells #[.bool false,Ya] 166)) ((w.alloc (.cells #[.bool false,Ya] 166)).alloc (.cells #[] 3))):=(bR _ _).alloc (by simp) _
 have H1:Hi (Below w.heap.size w (w.alloc (.cells #[.bool false,Ya] 166))):=(bR _ _).alloc (nR _) _
 have HR:=h_ (Blk.new w 166 #[.bool false,Ya])
 have hs:(w.alloc (.cells #[.bool false,Ya] 166)).heap.size=w.heap.size+1:=by simp
 rw[hs]at H0
 generalize (w.alloc (.cells #[.bool false,Ya] 166))=W at *
 go_loopw [0,3] (fun xv v wr=>∃(y:Int) (l:List Nat),xv=J9 y/\-9223372036854775808<=y/\y<=9223372036854775807/\l++digs y.natAbs=digs x.natAbs/\wr.ownsRow (w.heap.size+1) 3 1 v l.length (ui l)/\Below (w.heap.size+1) W wr) (fun xv _ _=>(intOf xv).natAbs)
 case atStart=>exact⟨x,[],rfl,HX.u.1,HX.u.2,rfl,H0.u,HB.u⟩
 case round =>
  clear H0 HB;obtain⟨y,l,rfl,y0,y1,hl,hown,hb⟩:=hrel;have hlen:l.length+(digs y.natAbs).length<=19:=by
   have e1:=congrArg List.length hl;have e2:(digs x.natAbs).length<=19:=q1e (by have:=HX.u;omega);simp at e1;omega
  have HY:=h_ (And.intro y0 y1);clear y0 y1;have HL:=h_ hl;have HO:=h_ hown;have HB:=h_ hb;clear hl hown hb;by_cases hy:y=0
  . subst hy
    have hl:=HL.u;simp only[Int.natAbs_zero,q9h,Zr]at hl;subst hl;have hr:=HR.u.mono HB.u (Om _);have HW:=h_ (H1.u.trans (HB.u.mono (by omega)));have r0:=hr.cell 0;have r1:=hr.cell 1;have f0:=hr.free 0;have f1:=hr.free 1;simp only[Yo,Yh]at r0 r1;clear hr HL HB HR H1;obtain⟨a3,c3,rfl,-⟩:=q3f HO.u;go_wp2;refine bodyPost_ret (v:=.agg #[.bool (decide (x<0)),.slice a3 (digs x.natAbs).length c3]) (by simp[results,Tryz.results136,go_sem, *]) rfl ⟨_,rfl,?_,?_⟩
    . exact q37 (q8a (q8a HO.u (Om _) _ _) (Om _) _ _)
    . exact(HW.u.setCell (by simp) _).setCell (by simp) _
  . obtain⟨m1,m2⟩:=qf7 y
    have hd:=qf5 y;have hg:=qcc (n:=y.natAbs) (by omega);have HQ:Hi (wrap64 (y.tdiv 10)=y.tdiv 10):=(by have:=HY.u;rw[Hi];unfold wrap64;omega);by_cases hm:y.tmod 10<0
    . have hw:wrap64 (-(y.tmod 10))=((y.natAbs % 10:Nat):Int):=by have:=m1 hm;unfold wrap64;omega
      have HD:=h_ hd;have HG:=h_ hg;have HE:=h_ hw;clear hd hg hw m1 m2;obtain⟨i0,hi,hz0,hz1,hz2⟩:=info_parts infoI;go_wp2_with (at_builtin;refine wpList_append_own _ rfl _ _ 30 rfl (w.heap.size+1) 3 i0 _ 1 8 Tryz.underlying30 hi hz0 hz1 hz2 rfl (by omega) u3 _ _ rfl (HO.u.alloc _) ⟨wr.heap.size,0,none⟩ 1 1 [J9 (wrap64 (-(y.tmod 10)))] rfl rfl (qc6 wr 3 _) (by simp[Value.oneCell']) (by unfold maxLen;omega) (by omega) (by have:=HB.u.size;simp;omega) ?_);intro v' w' hown' hgrow' _;have hB':=(HB.u.alloc (by have:=HB.u.size;omega) (.cells #[J9 (wrap64 (-(y.tmod 10)))] 3)).grown hgrow' (by have:=HB.u.size;simp;omega) (fun q' e=>q87 HO.u e);have HO3:Hi (w'.ownsRow (w.heap.size+1) 3 1 v' (l++[y.natAbs % 10]).length (ui (l++[y.natAbs % 10]))):=by
       rw[Hi];rw[HE.u]at hown';simpa [ui] using hown'
      have HB3:=h_ hB';clear hown' hgrow' hB' hi hz0 hz1 hz2;go_wp2_with fail;go_roundw
      case rel =>
       refine⟨y.tdiv 10,l++[y.natAbs % 10],congrArg _ HQ.u,?_,?_,?_,HO3.u,HB3.u⟩
       . have:=HY.u;have:=HD.u;omega
       . have:=HY.u;have:=HD.u;omega
       . rw[HD.u,Vb,List.singleton_append,<- HG.u];exact HL.u
      case measure=>simp only[intOf];rw[HQ.u];have:=HD.u;omega
    . have HD:=h_ hd;have HG:=h_ hg;have HE:=h_ (m2 hm);clear hd hg m1 m2
      obtain⟨i0,hi,hz0,hz1,hz2⟩:=info_parts infoI;go_wp2_with (at_builtin;refine wpList_append_own _ rfl _ _ 30 rfl (w.heap.size+1) 3 i0 _ 1 8 Tryz.underlying30 hi hz0 hz1 hz2 rfl (by omega) u3 _ _ rfl (HO.u.alloc _) ⟨wr.heap.size,0,none⟩ 1 1 [J9 (y.tmod 10)] rfl rfl (qc6 wr 3 _) (by simp[Value.oneCell']) (by unfold maxLen;omega) (by omega) (by have:=HB.u.size;simp;omega) ?_);intro v' w' hown' hgrow' _;have hB':=(HB.u.alloc (by have:=HB.u.size;omega) (.cells #[J9 (y.tmod 10)] 3)).grown hgrow' (by have:=HB.u.size;simp;omega) (fun q' e=>q87 HO.u e);have HO3:Hi (w'.ownsRow (w.heap.size+1) 3 1 v' (l++[y.natAbs % 10]).length (ui (l++[y.natAbs % 10]))):=by
       rw[Hi];rw[HE.u]at hown';simpa [ui] using hown'
      have HB3:=h_ hB';clear hown' hgrow' hB' hi hz0 hz1 hz2;go_wp2_with fail;go_roundw
      case rel =>
       refine⟨y.tdiv 10,l++[y.natAbs % 10],congrArg _ HQ.u,?_,?_,?_,HO3.u,HB3.u⟩
       . have:=HY.u;have:=HD.u;omega
       . have:=HY.u;have:=HD.u;omega
       . rw[HD.u,Vb,List.singleton_append,<- HG.u];exact HL.u
      case measure=>simp only[intOf];rw[HQ.u];have:=HD.u;omega
end Go.Proofs.YtebbgodlijlioaaGreatDoor
