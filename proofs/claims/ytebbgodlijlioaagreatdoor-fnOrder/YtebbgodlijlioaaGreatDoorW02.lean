import Derived.Test.YtebbgodlijlioaaGreatDoorW00
import Derived.Lib.ItoaNum
import Derived.Lib.ItoaLen
import Derived.Lib.ParseIntBTie
import Derived.Deep.RegionHeld3
set_option maxRecDepth 100000
set_option maxHeartbeats 64000000
namespace Go.Proofs.YtebbgodlijlioaaGreatDoor
def dval:List Nat->Nat
 | []=>0
 | d :: r=>d+10*dval r
def Dig (l:List Nat):Prop:=∀d,d∈l->d<10
def digs (n:Nat):List Nat:=if _h:n=0 then [] else n % 10 :: digs (n / 10)
 termination_by n
 decreasing_by omega
theorem qab:digs 0=[]:=by rw[digs];simp
theorem qdn {n:Nat}(h:n≠0):digs n=n % 10 :: digs (n / 10):=by rw[digs,dif_neg h]
theorem qae (n:Nat):dval (digs n)=n:=by
 induction n using Nat.strongRecOn with
 | _ n ih =>
  by_cases h:n=0
  . subst h;rw[qab];rfl
  . rw[qdn h,dval,ih (n / 10) (by omega)];omega
theorem qdl (n:Nat):Dig (digs n):=by
 induction n using Nat.strongRecOn with
 | _ n ih =>
  by_cases h:n=0
  . subst h;rw[qab];intro d hd;cases hd
  . rw[qdn h];intro d hd
    rcases List.mem_cons.1 hd with rfl | hd
    . omega
    . exact ih (n / 10) (by omega) d hd
theorem qdm {n:Nat}:digs n=[] ↔ n=0:=by
 refine⟨fun h=>?_,fun h=>by rw[h,qab]⟩
 rw[<- qae n,h];rfl
theorem Dig.tail {d:Nat}{l:List Nat}(h:Dig (d :: l)):Dig l:=fun e he=>h e (List.mem_cons_of_mem _ he)
theorem Dig.head {d:Nat}{l:List Nat}(h:Dig (d :: l)):d<10:=h d (List.mem_cons_self ..)
theorem Dig.take {l:List Nat}(h:Dig l)(k:Nat):Dig (l.take k):=fun e he=>h e (List.mem_of_mem_take he)
theorem dig_at {l:List Nat}(h:Dig l):∀i,l.getD i 0=dval l / 10 ^ i % 10:=by
 induction l with
 | nil=>intro i;simp[dval]
 | cons d r ih =>
  intro i;have hd:=h.head;cases i with
  | zero=>simp[dval];omega
  | succ i =>
   have e:dval (d :: r) / 10 ^ (i+1)=dval r / 10 ^ i:=by
    rw[dval,Nat.pow_succ,Nat.mul_comm (10 ^ i) 10,<- Nat.div_div_eq_div_mul]
    congr 1;omega
   rw[e,<- ih h.tail i];simp
theorem q1a {n k:Nat}(h:n<10 ^ k):(digs n).length<=k:=by
 induction k generalizing n with
 | zero=>have:n=0:=(by simpa using h);subst this;simp[qab]
 | succ k ih =>
  by_cases h0:n=0
  . subst h0;simp[qab]
  . rw[qdn h0,List.length_cons]
    have:=ih (n:=n / 10) (by rw[Nat.pow_succ]at h;omega);omega
theorem qia (n i:Nat):(digs n).getD i 0=n / 10 ^ i % 10:=by rw[dig_at (qdl n),qae]
theorem q19 {n:Nat}(h:n≠0):Lib.decDigits n=(digs n).reverse.map fun d=>UInt8.ofNat (48+d):=by
 induction n using Nat.strongRecOn with
 | _ n ih =>
  rw[qdn h,Lib.decDigits];by_cases h':n<10
  . rw[dif_pos h',show n / 10=0 by omega,qab,Nat.mod_eq_of_lt h'];simp
  . rw[dif_neg h',ih (n / 10) (by omega) (by omega)];simp
end Go.Proofs.YtebbgodlijlioaaGreatDoor
namespace Go.Proofs.YtebbgodlijlioaaGreatDoor
open Go.Lib
def hval (acc:Nat):List Nat->Nat
 | []=>acc
 | d :: r=>hval (acc*10+d) r
def hdig (l:List Nat):List UInt8:=l.map fun d=>UInt8.ofNat (48+d)
end Go.Proofs.YtebbgodlijlioaaGreatDoor
namespace Go.Proofs.YtebbgodlijlioaaGreatDoor
open Go Go.RowKit
def ui (l:List Nat):List Value:=l.map fun u=>.int .i64 ((u:Nat):Int)
theorem q3h {w:World}{base:Nat}{e:TypeId}{v:Value}{n:Nat}{us:List Nat}(h:w.ownsRow base e 1 v n (ui us)) :
 ∃a cap,v=.slice a n cap/\Ints w a n (fun k=>((us.getD k 0:Nat):Int)):=by
 have hlen:us.length=n:=by have:=h.1;simpa [ui] using this
 rcases h.2 with ⟨rfl,rfl⟩ | ⟨g,cap,cur,rfl,hb,hg,hc,-,hs,htake⟩
 . exact⟨none,0,rfl,fun k hk=>absurd hk (nL _)⟩
 . refine⟨_,cap,rfl,fun k hk=>⟨g,0,rfl,(Yr.1 hg).1,?_⟩⟩
   have:=h.cellAt k (by omega);rw[Zj,this];simp[ui,List.getD,List.getElem?_eq_getElem (show k<us.length by omega)]
theorem q8q {w:World}{base:Nat}{e:TypeId}{size:Nat}{v:Value}{n:Nat}{xs:List Value}(h:w.ownsRow base e size v n xs){q:Nat}(hq:v.ownBlock=some q):base<=q:=by
 rcases h.2 with ⟨rfl,-⟩ | ⟨g,cap,cur,rfl,hb,-⟩
 . simp[Value.ownBlock]at hq
 . simp only[Value.ownBlock,Option.some.injEq]at hq;omega
theorem qc1 (w:World)(t:TypeId):(w.alloc (.cells #[] t)).ownsRow w.heap.size t 1 (.slice (some ⟨w.heap.size,0,none⟩) 0 0) 0 [] :=
 ⟨rfl,.inr ⟨w.heap.size,0,#[],rfl,nR _,heap_alloc_new w (.cells #[] t),nR _,nZ _,rfl,rfl⟩⟩
theorem infoI:(Tryz.prog.info? 3).map (fun i=>(i.zero,i.size,i.bytes))=some (some (J9 0),1,8):=by kernel_rfl
theorem qdh (w:World)(t:TypeId)(v:Value):∀(j:Nat) (u:Value),[v][j]? = some u->(w.alloc (.cells #[v] t)).cell? ((⟨w.heap.size,0,none⟩:Addr).add j)=some u:=fun j u h=>by
 match j,h with
 | 0,h=>simp at h;subst h;exact(Blk.new w t #[v]).cell 0
theorem qfn (w:World)(t:TypeId)(v:Value):(w.alloc (.cells #[v] t)).ownsRow w.heap.size t 1 (.slice (some ⟨w.heap.size,0,none⟩) 1 1) 1 [v] :=
 ⟨rfl,.inr ⟨w.heap.size,1,#[v],rfl,nR _,heap_alloc_new w (.cells #[v] t),nR _,by unfold maxLen;omega,rfl,rfl⟩⟩
def DigS (w:World)(v:Value)(l:List Nat):Prop:=∃a cap,v=.slice a l.length cap/\l.length<=cap/\(a=none->cap=0)/\Ints w a l.length (fun k=>((l.getD k 0:Nat):Int))
theorem DigS.mono {w w':World}{v:Value}{l:List Nat}(h:DigS w v l)(hb:Below w.heap.size w w'):DigS w' v l:=by
 obtain⟨a,cap,e,hc,hn,hi⟩:=h
 exact⟨a,cap,e,hc,hn,hi.mono hb⟩
theorem q37 {w:World}{base:Nat}{e:TypeId}{v:Value}{us:List Nat}(h:w.ownsRow base e 1 v us.length (ui us)):DigS w v us:=by
 rcases h.2 with ⟨rfl,h0⟩ | ⟨g,cap,cur,rfl,hb,hg,hc,-,hs,htake⟩
 . exact⟨none,0,by rw[h0],by omega,fun _=>rfl,fun k hk=>absurd hk (by omega)⟩
 . obtain⟨a,cap',e1,hI⟩:=q3h h
   simp only[Value.slice.injEq]at e1;obtain⟨rfl,-,rfl⟩:=e1;exact⟨_,_,rfl,by omega,(fun h=>by cases h),hI⟩
theorem q8u {w:World}{base:Nat}{e:TypeId}{v:Value}{n:Nat}{xs:List Value}(h:w.ownsRow base e 1 v n xs){b:Nat}(hb:b<base)(j:Nat)(u:Value):(w.setCell ⟨b,j,none⟩ u).ownsRow base e 1 v n xs:=by
 rcases h.2 with h' | ⟨g,cap,cur,e',hb',hg,hc,hx,hs,htake⟩
 . exact⟨h.1,.inl h'⟩
 . exact⟨h.1,.inr ⟨g,cap,cur,e',hb',(heap_setCell_other w ⟨b,j,none⟩ g u (by simp;omega)).trans hg,hc,hx,hs,htake⟩⟩
theorem qgz (y:Int):(y.tmod 10<0->-(y.tmod 10)=((y.natAbs % 10:Nat):Int))/\(¬ y.tmod 10<0->y.tmod 10=((y.natAbs % 10:Nat):Int)):=by
 have e:∀n:Nat,(n:Int).tmod 10=((n % 10:Nat):Int):=fun n=>(Int.ofNat_tmod n 10).symm
 rcases Int.lt_or_le y 0 with h | h
 . obtain⟨n,rfl⟩:∃n:Nat,y = -(n:Int):=⟨y.natAbs,by omega⟩
   rw[Int.neg_tmod,e,Int.natAbs_neg];simp only[Int.natAbs_natCast];omega
 . obtain⟨n,rfl⟩:∃n:Nat,y=(n:Int):=⟨y.toNat,by omega⟩
   rw[e];simp only[Int.natAbs_natCast];exact⟨fun h=>by omega,fun _=>trivial⟩
theorem qgx (y:Int):(y.tdiv 10).natAbs=y.natAbs / 10:=by rw[Int.natAbs_tdiv];rfl
theorem q2g (x:Int)(w:World)(h0:-9223372036854775808<=x)(h1:x<=9223372036854775807) :
 Calls Tryz.prog 136 #[J9 x] w fun e w'=>∃v,e=.returned (.agg #[.bool (decide (x<0)),v])/\DigS w' v (digs x.natAbs)/\Below w.heap.size w w':=by
 have HX:=h_ (And.intro h0 h1);clear h0 h1
 go_enter Tryz.func136,Tryz.ntmps136
 go_wp2
 have H0:Hi (((w.alloc (.cells #[.bool false,Ya] 166)).alloc (.cells #[] 3)).ownsRow (w.alloc (.cells #[.bool false,Ya] 166)).heap.size 3 1 (.slice (some ⟨(w.alloc (.cells #[.bool false,Ya] 166)).heap.size,0,none⟩) 0 0) 0 []):=qc1 _ _
 have HB:Hi (Below (w.heap.size+1) (w.alloc (.cells #[.bool false,Ya] 166)) ((w.alloc (.cells #[.bool false,Ya] 166)).alloc (.cells #[] 3))):=(bR _ _).alloc (by simp) _
 have H1:Hi (Below w.heap.size w (w.alloc (.cells #[.bool false,Ya] 166))):=(bR _ _).alloc (nR _) _
 have HR:=h_ (Blk.new w 166 #[.bool false,Ya])
 have hs:(w.alloc (.cells #[.bool false,Ya] 166)).heap.size=w.heap.size+1:=by simp
 rw[hs]at H0
 generalize (w.alloc (.cells #[.bool false,Ya] 166))=W at *
 go_loopw [0,3] (fun xv v wr=>∃(y:Int) (l:List Nat),xv=J9 y/\-9223372036854775808<=y/\y<=9223372036854775807/\l++digs y.natAbs=digs x.natAbs/\wr.ownsRow (w.heap.size+1) 3 1 v l.length (ui l)/\Below (w.heap.size+1) W wr) (fun xv _ _=>(intOf xv).natAbs)
 case atStart=>exact⟨x,[],rfl,HX.u.1,HX.u.2,rfl,H0.u,HB.u⟩
 case round =>
  clear H0 HB;obtain⟨y,l,rfl,y0,y1,hl,hown,hb⟩:=hrel;have hlen:l.length+(digs y.natAbs).length<=19:=by
   have e1:=congrArg List.length hl;have e2:(digs x.natAbs).length<=19:=q1a (by have:=HX.u;omega);simp at e1;omega
  have HY:=h_ (And.intro y0 y1);clear y0 y1;have HL:=h_ hl;have HO:=h_ hown;have HB:=h_ hb;clear hl hown hb;by_cases hy:y=0
  . subst hy
    have hl:=HL.u;simp only[Int.natAbs_zero,qab,Zz]at hl;subst hl;have hr:=HR.u.mono HB.u (Oh _);have HW:=h_ (H1.u.trans (HB.u.mono (by omega)));have r0:=hr.cell 0;have r1:=hr.cell 1;have f0:=hr.free 0;have f1:=hr.free 1;simp only[Yu,Yh]at r0 r1;clear hr HL HB HR H1;obtain⟨a3,c3,rfl,-⟩:=q3h HO.u;go_wp2;refine bodyPost_ret (v:=.agg #[.bool (decide (x<0)),.slice a3 (digs x.natAbs).length c3]) (by simp[results,Tryz.results136,go_sem, *]) rfl ⟨_,rfl,?_,?_⟩
    . exact q37 (q8u (q8u HO.u (Oh _) _ _) (Oh _) _ _)
    . exact(HW.u.setCell (by simp) _).setCell (by simp) _
  . obtain⟨m1,m2⟩:=qgz y
    have hd:=qgx y;have hg:=qdn (n:=y.natAbs) (by omega);have HQ:Hi (wrap64 (y.tdiv 10)=y.tdiv 10):=(by have:=HY.u;rw[Hi];unfold wrap64;omega);by_cases hm:y.tmod 10<0
    . have hw:wrap64 (-(y.tmod 10))=((y.natAbs % 10:Nat):Int):=by have:=m1 hm;unfold wrap64;omega
      have HD:=h_ hd;have HG:=h_ hg;have HE:=h_ hw;clear hd hg hw m1 m2;obtain⟨i0,hi,hz0,hz1,hz2⟩:=info_parts infoI;go_wp2_with (at_builtin;refine wpList_append_own _ rfl _ _ 30 rfl (w.heap.size+1) 3 i0 _ 1 8 Tryz.underlying30 hi hz0 hz1 hz2 rfl (by omega) u3 _ _ rfl (HO.u.alloc _) ⟨wr.heap.size,0,none⟩ 1 1 [J9 (wrap64 (-(y.tmod 10)))] rfl rfl (qdh wr 3 _) (by simp[Value.oneCell']) (by unfold maxLen;omega) (by omega) (by have:=HB.u.size;simp;omega) ?_);intro v' w' hown' hgrow' _;have hB':=(HB.u.alloc (by have:=HB.u.size;omega) (.cells #[J9 (wrap64 (-(y.tmod 10)))] 3)).grown hgrow' (by have:=HB.u.size;simp;omega) (fun q' e=>q8q HO.u e);have HO3:Hi (w'.ownsRow (w.heap.size+1) 3 1 v' (l++[y.natAbs % 10]).length (ui (l++[y.natAbs % 10]))):=by
       rw[Hi];rw[HE.u]at hown';simpa [ui] using hown'
      have HB3:=h_ hB';clear hown' hgrow' hB' hi hz0 hz1 hz2;go_wp2_with fail;go_roundw
      case rel =>
       refine⟨y.tdiv 10,l++[y.natAbs % 10],congrArg _ HQ.u,?_,?_,?_,HO3.u,HB3.u⟩
       . have:=HY.u;have:=HD.u;omega
       . have:=HY.u;have:=HD.u;omega
       . rw[HD.u,Z6,List.singleton_append,<- HG.u];exact HL.u
      case measure=>simp only[intOf];rw[HQ.u];have:=HD.u;omega
    . have HD:=h_ hd;have HG:=h_ hg;have HE:=h_ (m2 hm);clear hd hg m1 m2
      obtain⟨i0,hi,hz0,hz1,hz2⟩:=info_parts infoI;go_wp2_with (at_builtin;refine wpList_append_own _ rfl _ _ 30 rfl (w.heap.size+1) 3 i0 _ 1 8 Tryz.underlying30 hi hz0 hz1 hz2 rfl (by omega) u3 _ _ rfl (HO.u.alloc _) ⟨wr.heap.size,0,none⟩ 1 1 [J9 (y.tmod 10)] rfl rfl (qdh wr 3 _) (by simp[Value.oneCell']) (by unfold maxLen;omega) (by omega) (by have:=HB.u.size;simp;omega) ?_);intro v' w' hown' hgrow' _;have hB':=(HB.u.alloc (by have:=HB.u.size;omega) (.cells #[J9 (y.tmod 10)] 3)).grown hgrow' (by have:=HB.u.size;simp;omega) (fun q' e=>q8q HO.u e);have HO3:Hi (w'.ownsRow (w.heap.size+1) 3 1 v' (l++[y.natAbs % 10]).length (ui (l++[y.natAbs % 10]))):=by
       rw[Hi];rw[HE.u]at hown';simpa [ui] using hown'
      have HB3:=h_ hB';clear hown' hgrow' hB' hi hz0 hz1 hz2;go_wp2_with fail;go_roundw
      case rel =>
       refine⟨y.tdiv 10,l++[y.natAbs % 10],congrArg _ HQ.u,?_,?_,?_,HO3.u,HB3.u⟩
       . have:=HY.u;have:=HD.u;omega
       . have:=HY.u;have:=HD.u;omega
       . rw[HD.u,Z6,List.singleton_append,<- HG.u];exact HL.u
      case measure=>simp only[intOf];rw[HQ.u];have:=HD.u;omega
theorem q4u:∀d:Fin 10,(⟨#[48,49,50,51,52,53,54,55,56,57]⟩:ByteArray).extract d.val (d.val+1)=⟨#[UInt8.ofNat (48+d.val)]⟩:=by decide +kernel
theorem qcd (d:Nat)(hd:d<10)(w:World):(Instr.slice 9 (.string ⟨#[48,49,50,51,52,53,54,55,56,57]⟩) (some (J9 (d:Int))) (some (J9 ((d:Int)+1))) none).run Tryz.prog w=.ok (.string ⟨#[UInt8.ofNat (48+d)]⟩) w:=by
 rw[run_slice_string w 9 _ .i64 .i64 _ _ Tryz.underlying9 (by omega) (by omega) (by show(d:Int)+1<=10;omega),show((d:Int)).toNat=d by omega,show((d:Int)+1).toNat=d+1 by omega,q4u ⟨d,hd⟩]
theorem q94 {a b:ByteArray}(h:a.data.toList=b.data.toList):a=b:=by
 obtain⟨⟨l⟩⟩:=a;obtain⟨⟨m⟩⟩:=b
 simp at h;rw[h]
theorem qcv {l:List Nat}{k d:Nat}(hk:k<l.length)(hd:l.getD k 0=d):l.take (k+1)=l.take k++[d]:=by
 rw[Vv,Yi hk]
 simp[List.getD,List.getElem?_eq_getElem hk]at hd
 simp[hd]
theorem u8_add (d:Nat):48+UInt8.ofNat d=UInt8.ofNat (48+d):=by simp[UInt8.ofNat_add]
theorem qb3:Lib.itoa 0=[48]:=by rw[Lib.itoa,Yt (by omega)];exact Lib.decDigits_one (i:=0) (by omega)
theorem q93 (l m:List UInt8):(⟨l.toArray⟩:ByteArray)++⟨m.toArray⟩=⟨(l++m).toArray⟩:=by
 apply q94;simp[ByteArray.data_append]
theorem q2f (x:Int)(w:World)(h0:-9223372036854775808<=x)(h1:x<=9223372036854775807) :
 Calls Tryz.prog 103 #[J9 x] w fun e w'=>e=.returned (.string ⟨(Lib.itoa x).toArray⟩)/\Below w.heap.size w w':=by
 go_enter Tryz.func103,Tryz.ntmps103
 go_wp2_with fail
 refine(q2g x _ h0 h1).mono ?_
 rintro e w1 ⟨v,rfl,hv,hb1⟩
 have hlen:(digs x.natAbs).length<=19:=q1a (by omega)
 have HX:=h_ (And.intro h0 h1);clear h0 h1
 obtain⟨a,cap,rfl,hc,-,hI⟩:=hv
 have bW:Below w.heap.size w (w1.alloc (.cells #[.bool (decide (x<0)),.slice a (digs x.natAbs).length cap] 166)):=hb1.alloc hb1.size _
 have hB:=Blk.new w1 166 #[.bool (decide (x<0)),.slice a (digs x.natAbs).length cap]
 have hI2:=hI.mono ((bR w1.heap.size w1).alloc (nR _) (.cells #[.bool (decide (x<0)),.slice a (digs x.natAbs).length cap] 166))
 have HW:=h_ bW;have HB:=h_ hB;have HI:=h_ hI2;clear bW hB hI2 hI hb1
 by_cases hx:x=0
 . subst hx
   simp only[Int.natAbs_zero,qab]at *;go_wp2;go_ret;exact⟨by rw[qb3];rfl,HW.u⟩
 . have hn:(digs x.natAbs).length≠0:=by intro e;have:=qdm.1 (Z7.1 e);omega
   go_wp2;go_loopw [4,5] (fun s i wr=>∃k:Nat,k<=(digs x.natAbs).length/\i=J9 k/\s=.string ⟨(hdig ((digs x.natAbs).take k).reverse).toArray⟩/\wr=w1.alloc (.cells #[.bool (decide (x<0)),.slice a (digs x.natAbs).length cap] 166)) (fun _ i _=>(digs x.natAbs).length - (intOf i).toNat)
   case atStart=>exact⟨0,nZ _,rfl,by simp[hdig],rfl⟩
   case round =>
    obtain⟨k,hk,rfl,rfl,rfl⟩:=hrel;by_cases hlt:k<(digs x.natAbs).length
    . obtain⟨b1,o1,rfl,-,hc1⟩:=HI.u k hlt
      obtain⟨d,hd,hD⟩:∃d,d<10/\(digs x.natAbs).getD k 0=d:=⟨_,by rw[qia];exact On _ (by decide),rfl⟩;dsimp only at hc1;rw[hD]at hc1;have hs:=qcd d hd;have HD:=h_ hD;clear hD;generalize hS:hdig ((digs x.natAbs).take k).reverse=S at *;have HS:=h_ hS;have hSl:S.length<=19:=(by rw[<- hS];simp[hdig];omega);clear hS;go_wp2;go_roundw
      case rel =>
       refine⟨k+1,by omega,by go_num,?_,trivial⟩;rw[qcv hlt HD.u,List.reverse_append,<- HS.u,u8_add];exact congrArg _ (q93 [_] _)
      case measure=>simp[intOf];omega
    . obtain rfl:k=(digs x.natAbs).length:=by omega
      have hz:Lib.itoa x=(if x<0 then [45] else [])++hdig (digs x.natAbs).reverse:=by
       unfold Lib.itoa hdig;split
       . rw[q19 (by omega)];rfl
       . rw[show x.toNat=x.natAbs by omega,q19 (by omega)];rfl
      have HZ:=h_ hz;clear hz;rw[Zm];generalize hS:hdig (digs x.natAbs).reverse=S at *;have hSl:S.length<=19:=(by rw[<- hS];simp[hdig];omega);clear hS;by_cases hneg:x<0
      . go_wp2
        go_ret;refine⟨?_,by have hh:=HW.u;rw[Ym hneg]at hh;exact hh⟩;rw[HZ.u,Yz hneg];exact congrArg (fun z=>Ending.returned (.string z)) (q93 [45] S)
      . go_wp2
        go_ret;refine⟨?_,by have hh:=HW.u;rw[Yj (by omega)]at hh;exact hh⟩;rw[HZ.u,Yt (by omega)];rfl
structure Vx where
 k:Int
 n:Int
 s:ByteArray
def vv (u:Vx):Value:=.agg #[.int .i64 u.k,.int .i64 u.n,.string u.s]
def blankX:Vx:=⟨0,0,⟨#[]⟩⟩
def Cel (w:World)(b o:Nat)(u:Vx):Prop:=b<w.heap.size/\w.cell? ⟨b,o,none⟩=some (.int .i64 u.k)/\w.cell? ⟨b,o+1,none⟩=some (.int .i64 u.n)/\w.cell? ⟨b,o+2,none⟩=some (.string u.s)
theorem Cel.mono {w w':World}{b o:Nat}{u:Vx}(h:Cel w b o u)(hb:Below w.heap.size w w'):Cel w' b o u :=
 ⟨Y5 h.1 hb.size,(hb.cell h.1).trans h.2.1,(hb.cell h.1).trans h.2.2.1,(hb.cell h.1).trans h.2.2.2⟩
def eqX (p q:Vx):Bool:=if p.k=q.k then if p.n=q.n then decide (p.s.toList=q.s.toList) else false else false
def Vals (w:World)(a:Option Addr)(m:Nat)(f:Nat->Vx):Prop:=∀k,k<m->∃b o,a=some ⟨b,o,none⟩/\Cel w b (o+k*3) (f k)
theorem Vals.mono {w w':World}{a:Option Addr}{m:Nat}{f:Nat->Vx}(h:Vals w a m f)(hb:Below w.heap.size w w'):Vals w' a m f:=fun k hk=>by
 obtain⟨b,o,e,hc⟩:=h k hk
 exact⟨b,o,e,hc.mono hb⟩
def ar (op:Int):Int:=if op=2∨op=3∨op=21∨op=22∨op=23∨op=24∨op=25 then 1 else if op=16 then 3 else if 4<=op/\op<=20 then 2 else 0
theorem qde (op:Int):(op=2∨op=3∨op=21∨op=22∨op=23∨op=24∨op=25∨op=16)∨((¬ op=2/\¬ op=3/\¬ op=21/\¬ op=22)/\(¬ op=23/\¬ op=24/\¬ op=25/\¬ op=16)/\(op<4∨(4<=op/\op<=20)∨(4<=op/\20<op))):=by omega
theorem q57 (op:Int)(w:World):Calls Tryz.prog 138 #[J9 op] w fun e w'=>e=.returned (J9 (ar op))/\w'=w:=by
 rcases qde op with (rfl | rfl | rfl | rfl | rfl | rfl | rfl | rfl) | ⟨⟨n1,n2,n3,n4⟩,⟨n5,n6,n7,n8⟩,h⟩
 case inr =>
  have e0:¬ (op=2∨op=3∨op=21∨op=22∨op=23∨op=24∨op=25):=by omega
  have m8:=n8;replace n1:(op==2)=false:=Yf.2 n1;replace n2:(op==3)=false:=Yf.2 n2;replace n3:(op==21)=false:=Yf.2 n3;replace n4:(op==22)=false:=Yf.2 n4;replace n5:(op==23)=false:=Yf.2 n5;replace n6:(op==24)=false:=Yf.2 n6;replace n7:(op==25)=false:=Yf.2 n7;replace n8:(op==16)=false:=Yf.2 n8;rcases h with h | ⟨h,h'⟩ | ⟨h,h'⟩
  . have e:ar op=0:=by rw[ar,Yt e0,Yt m8,Yt (by omega)]
    rw[e];clear e e0 m8;go_enter Tryz.func138,Tryz.ntmps138;go_wp2;go_ret;exact⟨rfl,rfl⟩
  . have e:ar op=2:=by rw[ar,Yt e0,Yt m8,Yz ⟨h,h'⟩]
    rw[e];clear e e0 m8;go_enter Tryz.func138,Tryz.ntmps138;go_wp2;go_ret;exact⟨rfl,rfl⟩
  . have e:ar op=0:=by rw[ar,Yt e0,Yt m8,Yt (by omega)]
    rw[e];clear e e0 m8;go_enter Tryz.func138,Tryz.ntmps138;go_wp2;go_ret;exact⟨rfl,rfl⟩
 all_goals (
  go_enter Tryz.func138,Tryz.ntmps138;go_wp2;go_ret;exact⟨rfl,rfl⟩)
theorem q25 {B:Nat}{w w':World}(h:Below B w.drew w'):Below B w w':=⟨h.os,h.tape,h.output,h.size,h.block⟩
section
variable {md:Region.Mode} {ops:Array Oper} {Q:Exit->Act->World->Prop} {S:World->Prop} {o:Oper} {a:Act}
theorem ql4 {a:Act}{o:Oper}{d:Tmp}{v:Value}(h:o.dst=some d):a.put o.dst v = { tmps:=a.tmps.setIfInBounds d v,defers:=a.defers }:=by rw[h];rfl
theorem takeY {i:Nat}{v:Value}{fuel:Nat}{listed:Array Bool}{w:World}(d:Tmp)(hi:ops[i]? = some o)(hd:o.dst=some d)(hs:Region.noSelect ops=true)(hf:Region.free md ops listed i=true)(hr:(Region.ready md ops listed).contains i=true)
 (hQ:∀c (b:Act) (t:Array Value) w,Q (.panic c) { tmps:=t,defers:=b.defers } w->Q (.panic c) b w) (hw:Region.wanted o (yielded ops a.tmps)=true) (hy:∀w,S w->(execOp a.eval o).run Tryz.prog w=.ok (.value v) w) (hS:S w) (h:wpAnyH Tryz.prog md ops Q S fuel (listed.setIfInBounds i true) { tmps:=a.tmps.setIfInBounds d v,defers:=a.defers } w):wpAnyH Tryz.prog md ops Q S (fuel+1) listed a w :=
 wpAnyH_take hi hs hf hr (fun c a w h=>hQ c a _ w (by rw[ql4 hd]at h;exact h)) (.inl ⟨hw,hy⟩) hS (by rw[ql4 hd];exact h)
theorem takeN {i:Nat}{fuel:Nat}{listed:Array Bool}{w:World}(d:Tmp)(hi:ops[i]? = some o)(hd:o.dst=some d)(hs:Region.noSelect ops=true)(hf:Region.free md ops listed i=true)(hr:(Region.ready md ops listed).contains i=true)
 (hQ:∀c (b:Act) (t:Array Value) w,Q (.panic c) { tmps:=t,defers:=b.defers } w->Q (.panic c) b w) (hw:Region.wanted o (yielded ops a.tmps)=false) (hS:S w) (h:wpAnyH Tryz.prog md ops Q S fuel (listed.setIfInBounds i true) { tmps:=a.tmps.setIfInBounds d undef,defers:=a.defers } w):wpAnyH Tryz.prog md ops Q S (fuel+1) listed a w :=
 wpAnyH_take hi hs hf hr (fun c a w h=>hQ c a _ w (by rw[ql4 hd]at h;exact h)) (.inr ⟨hw,rfl⟩) hS (by rw[ql4 hd];exact h)
theorem tj {fuel:Nat}{listed:Array Bool}{w:World}(i:Nat)(d:Tmp)(v:Value)(hS:S w)(h:wpAnyH Tryz.prog md ops Q S fuel (listed.setIfInBounds i true) { tmps:=a.tmps.setIfInBounds d v,defers:=a.defers } w)(hi:ops[i]? = some o:=by exact rfl)(hd:o.dst=some d:=by exact rfl)(hs:Region.noSelect ops=true:=by kernel_rfl)(hf:Region.free md ops listed i=true:=by kernel_rfl)(hr:(Region.ready md ops listed).contains i=true:=by kernel_rfl)
 (hQ:∀c (b:Act) (t:Array Value) w,Q (.panic c) { tmps:=t,defers:=b.defers } w->Q (.panic c) b w:=by exact fun _ _ _ _ h=>h) (hw:Region.wanted o (yielded ops a.tmps)=true:=by rfl) (hy:∀w,S w->(execOp a.eval o).run Tryz.prog w=.ok (.value v) w:=by intro w hS;simp[execOp,go_sem, *]):wpAnyH Tryz.prog md ops Q S (fuel+1) listed a w :=
 takeY d hi hd hs hf hr hQ hw hy hS h
theorem tn {fuel:Nat}{listed:Array Bool}{w:World}(i:Nat)(d:Tmp)(hS:S w)(h:wpAnyH Tryz.prog md ops Q S fuel (listed.setIfInBounds i true) { tmps:=a.tmps.setIfInBounds d undef,defers:=a.defers } w)(hi:ops[i]? = some o:=by exact rfl)(hd:o.dst=some d:=by exact rfl)(hs:Region.noSelect ops=true:=by kernel_rfl)(hf:Region.free md ops listed i=true:=by kernel_rfl)(hr:(Region.ready md ops listed).contains i=true:=by kernel_rfl)
 (hQ:∀c (b:Act) (t:Array Value) w,Q (.panic c) { tmps:=t,defers:=b.defers } w->Q (.panic c) b w:=by exact fun _ _ _ _ h=>h) (hw:Region.wanted o (yielded ops a.tmps)=false:=by rfl):wpAnyH Tryz.prog md ops Q S (fuel+1) listed a w :=
 takeN d hi hd hs hf hr hQ hw hS h
theorem callY {i:Nat}{fuel:Nat}{listed:Array Bool}{w:World}{f:FuncId}{args:Array Value}{R:Value->World->Prop}(d:Tmp)(hi:ops[i]? = some o)(hd:o.dst=some d)(hw:Region.wanted o (yielded ops a.tmps)=true)(hr:Region.ready md ops listed=[i])
 (hrun:(execOp a.eval o).run Tryz.prog w=.ok (.enter f args) w) (hc:Calls Tryz.prog f args w fun e w'=>∃v,e=.returned v/\R v w')
 (h:∀v w',R v w'->S w'/\wpAnyH Tryz.prog md ops Q S fuel (listed.setIfInBounds i true) { tmps:=a.tmps.setIfInBounds d v,defers:=a.defers } w'):wpAnyH Tryz.prog md ops Q S (fuel+1) listed a w:=by
 refine wpAnyH_ready hr (by simp) (AllReadyH.cons hi (fun K hK=>?_) AllReadyH.nil)
 rw[Yz hw]
 unfold Oper.wp
 rw[hrun,Oper.upon_enter]
 refine hc.mono ?_
 rintro e w' ⟨v,rfl,hR⟩
 obtain⟨h1,h2⟩:=h v w' hR
 show K (a.put o.dst v) w'
 rw[ql4 hd]
 exact hK.out _ _ h1 (fun _=>h2)
theorem storeY {i:Nat}{fuel:Nat}{listed:Array Bool}{w w':World}{v:Next}(hi:ops[i]? = some o)(hw:Region.wanted o (yielded ops a.tmps)=true)(hr:Region.ready md ops listed=[i])
 (hd:o.dst=none) (hrun:(execOp a.eval o).run Tryz.prog w=.ok v w') (hv:v=.skip) (hS:S w') (h:wpAnyH Tryz.prog md ops Q S fuel (listed.setIfInBounds i true) a w'):wpAnyH Tryz.prog md ops Q S (fuel+1) listed a w:=by
 subst hv
 refine wpAnyH_ready hr (by simp) (AllReadyH.cons hi (fun K hK=>?_) AllReadyH.nil)
 rw[Yz hw]
 unfold Oper.wp
 rw[hrun,Oper.upon_skip,hd]
 exact hK.out _ _ hS (fun _=>h)
end
section
variable {md:Region.Mode} {ops:Array Oper} {Q:Exit->Act->World->Prop} {S:World->Prop} {o:Oper} {a:Act} {fuel:Nat} {listed:Array Bool} {i:Nat} {rs:List Nat} {w w':World}
theorem consCall {f:FuncId}{args:Array Value}{R:Value->World->Prop}(d:Tmp)(hi:ops[i]? = some o)(hd:o.dst=some d)(hw:Region.wanted o (yielded ops a.tmps)=true)
 (hrun:(execOp a.eval o).run Tryz.prog w=.ok (.enter f args) w) (hc:Calls Tryz.prog f args w fun e w'=>∃v,e=.returned v/\R v w')
 (h:∀v w',R v w'->S w'/\wpAnyH Tryz.prog md ops Q S fuel (listed.setIfInBounds i true) { tmps:=a.tmps.setIfInBounds d v,defers:=a.defers } w') (hs:AllReadyH Tryz.prog md ops Q S fuel listed a w rs):AllReadyH Tryz.prog md ops Q S fuel listed a w (i :: rs):=by
 refine AllReadyH.cons hi (fun K hK=>?_) hs
 rw[Yz hw]
 unfold Oper.wp
 rw[hrun,Oper.upon_enter]
 refine hc.mono ?_
 rintro e w' ⟨v,rfl,hR⟩
 obtain⟨h1,h2⟩:=h v w' hR
 show K (a.put o.dst v) w'
 rw[ql4 hd]
 exact hK.out _ _ h1 (fun _=>h2)
theorem consRun {v:Value}(d:Tmp)(hi:ops[i]? = some o)(hd:o.dst=some d)(hw:Region.wanted o (yielded ops a.tmps)=true)
 (hrun:(execOp a.eval o).run Tryz.prog w=.ok (.value v) w') (hS:S w') (h:wpAnyH Tryz.prog md ops Q S fuel (listed.setIfInBounds i true) { tmps:=a.tmps.setIfInBounds d v,defers:=a.defers } w') (hs:AllReadyH Tryz.prog md ops Q S fuel listed a w rs):AllReadyH Tryz.prog md ops Q S fuel listed a w (i :: rs):=by
 refine AllReadyH.cons hi (fun K hK=>?_) hs
 rw[Yz hw]
 unfold Oper.wp
 rw[hrun]
 show K (a.put o.dst v) w'
 rw[ql4 hd]
 exact hK.out _ _ hS (fun _=>h)
end
theorem q1j (op:Int)(w:World):Calls Tryz.prog 204 #[J9 op] w fun e w'=>e=.returned (.bool (decide (2<=op/\op<=25)))/\w'=w:=by
 by_cases h2:2<=op
 . by_cases h25:op<=25
   . rw[Ym ⟨h2,h25⟩]
     go_enter Tryz.func204,Tryz.ntmps204;go_wp2;go_ret;exact⟨by simp,rfl⟩
   . have e:decide (2<=op/\op<=25)=false:=Yj (fun h=>h25 h.2)
     rw[e];clear e;go_enter Tryz.func204,Tryz.ntmps204;go_wp2;go_ret;exact⟨by simp,rfl⟩
 . have e:decide (2<=op/\op<=25)=false:=Yj (fun h=>h2 h.1)
   rw[e];clear e;go_enter Tryz.func204,Tryz.ntmps204;go_wp2;go_ret;exact⟨by rfl,rfl⟩
def opn (op:Int):Int:=if op=2∨op=3∨op=21∨op=22∨op=23∨op=24∨op=25 then 1 else if op=16 then 3 else 2
theorem ar_opn (op:Int):ar op=if 2<=op/\op<=25 then opn op else 0:=by
 unfold ar opn
 by_cases h1:op=2∨op=3∨op=21∨op=22∨op=23∨op=24∨op=25
 . rw[Yz h1,Yz h1,Yz (by omega)]
 . rw[Yt h1,Yt h1]
   by_cases h2:op=16
   . rw[Yz h2,Yz h2,Yz (by omega)]
   . rw[Yt h2,Yt h2]
     by_cases h3:4<=op/\op<=20
     . rw[Yz h3,Yz (by omega)]
     . rw[Yt h3,Yt (by omega)]
theorem q1w (op:Int)(w:World):Calls Tryz.prog 205 #[J9 op] w fun e w'=>e=.returned (J9 (opn op))/\w'=w:=by
 rcases qde op with (rfl | rfl | rfl | rfl | rfl | rfl | rfl | rfl) | ⟨⟨n1,n2,n3,n4⟩,⟨n5,n6,n7,n8⟩,-⟩
 case inr =>
  have e:opn op=2:=by rw[opn,Yt (by omega),Yt n8]
  rw[e];clear e;go_enter Tryz.func205,Tryz.ntmps205;go_wp2;go_ret;exact⟨rfl,rfl⟩
 all_goals (
  go_enter Tryz.func205,Tryz.ntmps205;go_wp2;go_ret;exact⟨rfl,rfl⟩)
end Go.Proofs.YtebbgodlijlioaaGreatDoor
