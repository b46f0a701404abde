import Derived.Lib.ItoaNum
import Derived.Lib.ItoaLen
import Derived.Lib.ParseIntBTie
import Derived.Test.YtgkcaeidhkddjaaGreatDoorXOwn
set_option maxRecDepth 100000
set_option maxHeartbeats 20000000
namespace Go.Proofs.YtgkcaeidhkddjaaGreatDoor
def dval:List Nat->Nat
 | []=>0
 | d :: r=>d+10*dval r
def Dig (l:List Nat):Prop:=∀ d,d ∈ l->d<10
def digs (n:Nat):List Nat:=if _h:n=0 then [] else n % 10 :: digs (n / 10)
 termination_by n
 decreasing_by omega
theorem qat:digs 0=[]:=by rw [digs];simp
theorem qdz {n:Nat} (h:n ≠ 0):digs n=n % 10 :: digs (n / 10):=by rw [digs,dif_neg h]
theorem qau (n:Nat):dval (digs n)=n:=by
 induction n using Nat.strongRecOn with
 | _ n ih =>
  by_cases h:n=0
  . subst h;rw [qat];rfl
  . rw [qdz h,dval,ih (n / 10) (by omega)];omega
theorem qdx (n:Nat):Dig (digs n):=by
 induction n using Nat.strongRecOn with
 | _ n ih =>
  by_cases h:n=0
  . subst h;rw [qat];intro d hd;cases hd
  . rw [qdz h];intro d hd
    rcases List.mem_cons.1 hd with rfl | hd
    . omega
    . exact ih (n / 10) (by omega) d hd
theorem qdy {n:Nat}:digs n=[] ↔ n=0:=by
 refine ⟨fun h=>?_,fun h=>by rw [h,qat]⟩
 rw [<- qau n,h];rfl
theorem Dig.tail {d:Nat} {l:List Nat} (h:Dig (d :: l)):Dig l:=fun e he=>h e (List.mem_cons_of_mem _ he)
theorem Dig.head {d:Nat} {l:List Nat} (h:Dig (d :: l)):d<10:=h d (List.mem_cons_self ..)
theorem dig_at {l:List Nat} (h:Dig l):∀ i,l.getD i 0=dval l / 10 ^ i % 10:=by
 induction l with
 | nil=>intro i;simp [dval]
 | cons d r ih =>
  intro i
  have hd:=h.head
  cases i with
  | zero=>simp [dval];omega
  | succ i =>
   have e:dval (d :: r) / 10 ^ (i+1)=dval r / 10 ^ i:=by
    rw [dval,Nat.pow_succ,Nat.mul_comm (10 ^ i) 10,<- Nat.div_div_eq_div_mul]
    congr 1;omega
   rw [e,<- ih h.tail i];simp
theorem q1g {n k:Nat} (h:n<10 ^ k):(digs n).length<=k:=by
 induction k generalizing n with
 | zero=>have:n=0:=(by simpa using h);subst this;simp [qat]
 | succ k ih =>
  by_cases h0:n=0
  . subst h0;simp [qat]
  . rw [qdz h0,List.length_cons]
    have:=ih (n:=n / 10) (by rw [Nat.pow_succ] at h;omega)
    omega
theorem qi0 (n i:Nat):(digs n).getD i 0=n / 10 ^ i % 10:=by rw [dig_at (qdx n),qau]
theorem q1f {n:Nat} (h:n ≠ 0):Lib.decDigits n=(digs n).reverse.map fun d=>UInt8.ofNat (48+d):=by
 induction n using Nat.strongRecOn with
 | _ n ih =>
  rw [qdz h,Lib.decDigits]
  by_cases h':n<10
  . rw [dif_pos h',show n / 10=0 by omega,qat,Nat.mod_eq_of_lt h'];simp
  . rw [dif_neg h',ih (n / 10) (by omega) (by omega)];simp
end Go.Proofs.YtgkcaeidhkddjaaGreatDoor
namespace Go.Proofs.YtgkcaeidhkddjaaGreatDoor
open Go.Lib
def hval (acc:Nat):List Nat->Nat
 | []=>acc
 | d :: r=>hval (acc*10+d) r
def hdig (l:List Nat):List UInt8:=l.map fun d=>UInt8.ofNat (48+d)
end Go.Proofs.YtgkcaeidhkddjaaGreatDoor
namespace Go.Proofs.YtgkcaeidhkddjaaGreatDoor
open Go Go.RowKit
def DigS (w:World) (v:Value) (l:List Nat):Prop:=∃ a cap,v=.slice a l.length cap/\l.length<=cap/\(a=none->cap=0)/\Ints w a l.length (fun k=>((l.getD k 0:Nat):Int))
theorem q3e {w:World} {base:Nat} {e:TypeId} {v:Value} {us:List Nat} (h:w.ownsRow base e 1 v us.length (ui us)):DigS w v us:=by
 rcases h.2 with ⟨rfl,h0⟩ | ⟨g,cap,cur,rfl,hb,hg,hc,-,hs,htake⟩
 . exact ⟨none,0,by rw [h0],by omega,fun _=>rfl,fun k hk=>absurd hk (by omega)⟩
 . obtain ⟨a,cap',e1,hI⟩:=q3r h
   simp only [Value.slice.injEq] at e1
   obtain ⟨rfl,-,rfl⟩:=e1
   exact ⟨_,_,rfl,by omega,(fun h=>by cases h),hI⟩
theorem q90 {w:World} {base:Nat} {e:TypeId} {v:Value} {n:Nat} {xs:List Value} (h:w.ownsRow base e 1 v n xs) {b:Nat} (hb:b<base) (j:Nat) (u:Value):(w.setCell ⟨b,j,none⟩ u).ownsRow base e 1 v n xs:=by
 rcases h.2 with h' | ⟨g,cap,cur,e',hb',hg,hc,hx,hs,htake⟩
 . exact ⟨h.1,.inl h'⟩
 . exact ⟨h.1,.inr ⟨g,cap,cur,e',hb',(heap_setCell_other w ⟨b,j,none⟩ g u (by simp;omega)).trans hg,hc,hx,hs,htake⟩⟩
theorem qgs (y:Int):(y.tmod 10<0->-(y.tmod 10)=((y.natAbs % 10:Nat):Int))/\(¬ y.tmod 10<0->y.tmod 10=((y.natAbs % 10:Nat):Int)):=by
 have e:∀ n:Nat,(n:Int).tmod 10=((n % 10:Nat):Int):=fun n=>(Int.ofNat_tmod n 10).symm
 rcases Int.lt_or_le y 0 with h | h
 . obtain ⟨n,rfl⟩:∃ n:Nat,y = -(n:Int):=⟨y.natAbs,by omega⟩
   rw [Int.neg_tmod,e,Int.natAbs_neg];simp only [Int.natAbs_natCast];omega
 . obtain ⟨n,rfl⟩:∃ n:Nat,y=(n:Int):=⟨y.toNat,by omega⟩
   rw [e];simp only [Int.natAbs_natCast]
   exact ⟨fun h=>by omega,fun _=>trivial⟩
theorem qgq (y:Int):(y.tdiv 10).natAbs=y.natAbs / 10:=by rw [Int.natAbs_tdiv];rfl
theorem q2h (x:Int) (w:World) (h0:-9223372036854775808<=x) (h1:x<=9223372036854775807) :
 Calls Tryz.prog 109 #[.int .i64 x] w fun e w'=>∃ v,e=.returned (.agg #[.bool (decide (x<0)),v])/\DigS w' v (digs x.natAbs)/\Below w.heap.size w w':=by
 have HX:=h_ (And.intro h0 h1);clear h0 h1
 go_enter Tryz.func109,Tryz.ntmps109
 go_wp2
 have H0:Hid (((w.alloc (.cells #[.bool false,.slice none 0 0] 197)).alloc (.cells #[] 3)).ownsRow (w.alloc (.cells #[.bool false,.slice none 0 0] 197)).heap.size 3 1 (.slice (some ⟨(w.alloc (.cells #[.bool false,.slice none 0 0] 197)).heap.size,0,none⟩) 0 0) 0 []):=qcf _ _
 have HB:Hid (Below (w.heap.size+1) (w.alloc (.cells #[.bool false,.slice none 0 0] 197)) ((w.alloc (.cells #[.bool false,.slice none 0 0] 197)).alloc (.cells #[] 3))):=(bR _ _).alloc (by simp) _
 have H1:Hid (Below w.heap.size w (w.alloc (.cells #[.bool false,.slice none 0 0] 197))):=(bR _ _).alloc (nR _) _
 have HR:=h_ (Blk.new w 197 #[.bool false,.slice none 0 0])
 have hs:(w.alloc (.cells #[.bool false,.slice none 0 0] 197)).heap.size=w.heap.size+1:=by simp
 rw [hs] at H0
 generalize (w.alloc (.cells #[.bool false,.slice none 0 0] 197))=W at *
 go_loopw [0,3] (fun xv v wr=>∃ (y:Int) (l:List Nat),xv=.int .i64 y/\-9223372036854775808<=y/\y<=9223372036854775807/\l++digs y.natAbs=digs x.natAbs/\wr.ownsRow (w.heap.size+1) 3 1 v l.length (ui l)/\Below (w.heap.size+1) W wr) (fun xv _ _=>(intOf xv).natAbs)
 case atStart=>exact ⟨x,[],rfl,(u_ HX).1,(u_ HX).2,rfl,u_ H0,u_ HB⟩
 case round =>
  clear H0 HB
  obtain ⟨y,l,rfl,y0,y1,hl,hown,hb⟩:=hrel
  have hlen:l.length+(digs y.natAbs).length<=19:=by
   have e1:=congrArg List.length hl
   have e2:(digs x.natAbs).length<=19:=q1g (by have:=u_ HX;omega)
   simp at e1;omega
  have HY:=h_ (And.intro y0 y1);clear y0 y1
  have HL:=h_ hl;have HO:=h_ hown;have HB:=h_ hb;clear hl hown hb
  by_cases hy:y=0
  . subst hy
    have hl:=u_ HL
    simp only [Int.natAbs_zero,qat,List.append_nil] at hl
    subst hl
    have hr:=(u_ HR).mono (u_ HB) (Nat.lt_succ_self _)
    have HW:=h_ ((u_ H1).trans ((u_ HB).mono (by omega)))
    have r0:=hr.cell 0;have r1:=hr.cell 1;have f0:=hr.free 0;have f1:=hr.free 1
    simp only [List.getElem?_cons_succ,List.getElem?_cons_zero] at r0 r1
    clear hr HL HB HR H1
    obtain ⟨a3,c3,rfl,-⟩:=q3r (u_ HO)
    go_wp2
    refine bodyPost_ret (v:=.agg #[.bool (decide (x<0)),.slice a3 (digs x.natAbs).length c3]) (by simp [results,Tryz.results109,go_sem, *]) rfl ⟨_,rfl,?_,?_⟩
    . exact q3e (q90 (q90 (u_ HO) (Nat.lt_succ_self _) _ _) (Nat.lt_succ_self _) _ _)
    . exact ((u_ HW).setCell (by simp) _).setCell (by simp) _
  . obtain ⟨m1,m2⟩:=qgs y
    have hd:=qgq y
    have hg:=qdz (n:=y.natAbs) (by omega)
    have HQ:Hid (wrap64 (y.tdiv 10)=y.tdiv 10):=by have:=u_ HY;rw [Hid];unfold wrap64;omega
    by_cases hm:y.tmod 10<0
    . have hw:wrap64 (-(y.tmod 10))=((y.natAbs % 10:Nat):Int):=by have:=m1 hm;unfold wrap64;omega
      have HD:=h_ hd;have HG:=h_ hg;have HE:=h_ hw;clear hd hg hw m1 m2
      obtain ⟨i0,hi,hz0,hz1,hz2⟩:=info_parts infoI
      go_wp2_with (at_builtin;refine wpList_append_own _ rfl _ _ 84 rfl (w.heap.size+1) 3 i0 _ 1 8 Tryz.underlying84 hi hz0 hz1 hz2 rfl (by omega) u3 _ _ rfl ((u_ HO).alloc _) ⟨wr.heap.size,0,none⟩ 1 1 [.int .i64 (wrap64 (-(y.tmod 10)))] rfl rfl (qdt wr 3 _) (by simp [Value.oneCell']) (by unfold maxLen;omega) (by omega) (by have:=(u_ HB).size;simp;omega) ?_)
      intro v' w' hown' hgrow' _
      have hB':=((u_ HB).alloc (by have:=(u_ HB).size;omega) (.cells #[.int .i64 (wrap64 (-(y.tmod 10)))] 3)).grown hgrow' (by have:=(u_ HB).size;simp;omega) (fun q' e=>q8y (u_ HO) e)
      have HO3:Hid (w'.ownsRow (w.heap.size+1) 3 1 v' (l++[y.natAbs % 10]).length (ui (l++[y.natAbs % 10]))):=by
       rw [Hid];rw [u_ HE] at hown';simpa [ui] using hown'
      have HB3:=h_ hB'
      clear hown' hgrow' hB' hi hz0 hz1 hz2
      go_wp2_with fail
      go_roundw
      case rel =>
       refine ⟨y.tdiv 10,l++[y.natAbs % 10],congrArg _ (u_ HQ),?_,?_,?_,u_ HO3,u_ HB3⟩
       . have:=u_ HY;have:=u_ HD;omega
       . have:=u_ HY;have:=u_ HD;omega
       . rw [u_ HD,List.append_assoc,List.singleton_append,<- u_ HG];exact u_ HL
      case measure=>simp only [intOf];rw [u_ HQ];have:=u_ HD;omega
    . have HD:=h_ hd;have HG:=h_ hg;have HE:=h_ (m2 hm);clear hd hg m1 m2
      obtain ⟨i0,hi,hz0,hz1,hz2⟩:=info_parts infoI
      go_wp2_with (at_builtin;refine wpList_append_own _ rfl _ _ 84 rfl (w.heap.size+1) 3 i0 _ 1 8 Tryz.underlying84 hi hz0 hz1 hz2 rfl (by omega) u3 _ _ rfl ((u_ HO).alloc _) ⟨wr.heap.size,0,none⟩ 1 1 [.int .i64 (y.tmod 10)] rfl rfl (qdt wr 3 _) (by simp [Value.oneCell']) (by unfold maxLen;omega) (by omega) (by have:=(u_ HB).size;simp;omega) ?_)
      intro v' w' hown' hgrow' _
      have hB':=((u_ HB).alloc (by have:=(u_ HB).size;omega) (.cells #[.int .i64 (y.tmod 10)] 3)).grown hgrow' (by have:=(u_ HB).size;simp;omega) (fun q' e=>q8y (u_ HO) e)
      have HO3:Hid (w'.ownsRow (w.heap.size+1) 3 1 v' (l++[y.natAbs % 10]).length (ui (l++[y.natAbs % 10]))):=by
       rw [Hid];rw [u_ HE] at hown';simpa [ui] using hown'
      have HB3:=h_ hB'
      clear hown' hgrow' hB' hi hz0 hz1 hz2
      go_wp2_with fail
      go_roundw
      case rel =>
       refine ⟨y.tdiv 10,l++[y.natAbs % 10],congrArg _ (u_ HQ),?_,?_,?_,u_ HO3,u_ HB3⟩
       . have:=u_ HY;have:=u_ HD;omega
       . have:=u_ HY;have:=u_ HD;omega
       . rw [u_ HD,List.append_assoc,List.singleton_append,<- u_ HG];exact u_ HL
      case measure=>simp only [intOf];rw [u_ HQ];have:=u_ HD;omega
theorem q4y:∀ d:Fin 10,(⟨#[48,49,50,51,52,53,54,55,56,57]⟩:ByteArray).extract d.val (d.val+1)=⟨#[UInt8.ofNat (48+d.val)]⟩:=by decide +kernel
theorem qco (d:Nat) (hd:d<10) (w:World):(Instr.slice 9 (.string ⟨#[48,49,50,51,52,53,54,55,56,57]⟩) (some (.int .i64 (d:Int))) (some (.int .i64 ((d:Int)+1))) none).run Tryz.prog w=.ok (.string ⟨#[UInt8.ofNat (48+d)]⟩) w:=by
 rw [run_slice_string w 9 _ .i64 .i64 _ _ Tryz.underlying9 (by omega) (by omega) (by show (d:Int)+1<=10;omega),show ((d:Int)).toNat=d by omega,show ((d:Int)+1).toNat=d+1 by omega,q4y ⟨d,hd⟩]
theorem q9f {a b:ByteArray} (h:a.data.toList=b.data.toList):a=b:=by
 obtain ⟨⟨l⟩⟩:=a;obtain ⟨⟨m⟩⟩:=b
 simp at h;rw [h]
theorem qda {l:List Nat} {k d:Nat} (hk:k<l.length) (hd:l.getD k 0=d):l.take (k+1)=l.take k++[d]:=by
 rw [List.take_add_one,List.getElem?_eq_getElem hk]
 simp [List.getD,List.getElem?_eq_getElem hk] at hd
 simp [hd]
theorem u8_add (d:Nat):48+UInt8.ofNat d=UInt8.ofNat (48+d):=by simp [UInt8.ofNat_add]
theorem qbk:Lib.itoa 0=[48]:=by rw [Lib.itoa,if_neg (by omega)];exact Lib.decDigits_one (i:=0) (by omega)
theorem q9e (l m:List UInt8):(⟨l.toArray⟩:ByteArray)++⟨m.toArray⟩=⟨(l++m).toArray⟩:=by
 apply q9f;simp [ByteArray.data_append]
theorem q2g (x:Int) (w:World) (h0:-9223372036854775808<=x) (h1:x<=9223372036854775807) :
 Calls Tryz.prog 71 #[.int .i64 x] w fun e w'=>e=.returned (.string ⟨(Lib.itoa x).toArray⟩)/\Below w.heap.size w w':=by
 go_enter Tryz.func71,Tryz.ntmps71
 go_wp2_with fail
 refine (q2h x _ h0 h1).mono ?_
 rintro e w1 ⟨v,rfl,hv,hb1⟩
 have hlen:(digs x.natAbs).length<=19:=q1g (by omega)
 have HX:=h_ (And.intro h0 h1);clear h0 h1
 obtain ⟨a,cap,rfl,hc,-,hI⟩:=hv
 have bW:Below w.heap.size w (w1.alloc (.cells #[.bool (decide (x<0)),.slice a (digs x.natAbs).length cap] 197)):=hb1.alloc hb1.size _
 have hB:=Blk.new w1 197 #[.bool (decide (x<0)),.slice a (digs x.natAbs).length cap]
 have hI2:=hI.mono ((bR w1.heap.size w1).alloc (nR _) (.cells #[.bool (decide (x<0)),.slice a (digs x.natAbs).length cap] 197))
 have HW:=h_ bW;have HB:=h_ hB;have HI:=h_ hI2;clear bW hB hI2 hI hb1
 by_cases hx:x=0
 . subst hx
   simp only [Int.natAbs_zero,qat] at *
   go_wp2
   go_ret
   exact ⟨by rw [qbk];rfl,u_ HW⟩
 . have hn:(digs x.natAbs).length ≠ 0:=by intro e;have:=qdy.1 (List.length_eq_zero_iff.1 e);omega
   go_wp2
   go_loopw [4,5] (fun s i wr=>∃ k:Nat,k<=(digs x.natAbs).length/\i=.int .i64 k/\s=.string ⟨(hdig ((digs x.natAbs).take k).reverse).toArray⟩/\wr=w1.alloc (.cells #[.bool (decide (x<0)),.slice a (digs x.natAbs).length cap] 197)) (fun _ i _=>(digs x.natAbs).length - (intOf i).toNat)
   case atStart=>exact ⟨0,nZ _,rfl,by simp [hdig],rfl⟩
   case round =>
    obtain ⟨k,hk,rfl,rfl,rfl⟩:=hrel
    by_cases hlt:k<(digs x.natAbs).length
    . obtain ⟨b1,o1,rfl,-,hc1⟩:=u_ HI k hlt
      obtain ⟨d,hd,hD⟩:∃ d,d<10/\(digs x.natAbs).getD k 0=d:=⟨_,by rw [qi0];exact Nat.mod_lt _ (by decide),rfl⟩
      dsimp only at hc1
      rw [hD] at hc1
      have hs:=qco d hd
      have HD:=h_ hD;clear hD
      generalize hS:hdig ((digs x.natAbs).take k).reverse=S at *
      have HS:=h_ hS
      have hSl:S.length<=19:=by rw [<- hS];simp [hdig];omega
      clear hS
      go_wp2
      go_roundw
      case rel =>
       refine ⟨k+1,by omega,by go_num,?_,trivial⟩
       rw [qda hlt (u_ HD),List.reverse_append,<- u_ HS,u8_add]
       exact congrArg _ (q9e [_] _)
      case measure=>simp [intOf];omega
    . obtain rfl:k=(digs x.natAbs).length:=by omega
      have hz:Lib.itoa x=(if x<0 then [45] else [])++hdig (digs x.natAbs).reverse:=by
       unfold Lib.itoa hdig
       split
       . rw [q1f (by omega)];rfl
       . rw [show x.toNat=x.natAbs by omega,q1f (by omega)];rfl
      have HZ:=h_ hz;clear hz
      rw [List.take_length]
      generalize hS:hdig (digs x.natAbs).reverse=S at *
      have hSl:S.length<=19:=by rw [<- hS];simp [hdig];omega
      clear hS
      by_cases hneg:x<0
      . go_wp2
        go_ret
        refine ⟨?_,by have hh:=u_ HW;rw [decide_eq_true hneg] at hh;exact hh⟩
        rw [u_ HZ,if_pos hneg]
        exact congrArg (fun z=>Ending.returned (.string z)) (q9e [45] S)
      . go_wp2
        go_ret
        refine ⟨?_,by have hh:=u_ HW;rw [decide_eq_false (by omega)] at hh;exact hh⟩
        rw [u_ HZ,if_neg (by omega)]
        rfl
end Go.Proofs.YtgkcaeidhkddjaaGreatDoor
