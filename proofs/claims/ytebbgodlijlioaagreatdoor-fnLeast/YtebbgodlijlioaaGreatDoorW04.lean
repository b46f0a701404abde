import Derived.Test.YtebbgodlijlioaaGreatDoorW01
import Derived.Test.YtebbgodlijlioaaGreatDoorW02
import Derived.Test.YtebbgodlijlioaaGreatDoorShelf
import Derived.Lib.AppendIntMem
set_option maxRecDepth 100000
set_option maxHeartbeats 64000000
namespace Go.Proofs.YtebbgodlijlioaaGreatDoor
open Go Go.RowKit
theorem q4p:∀d:Fin 10,(⟨#[48,49,50,51,52,53,54,55,56,57]⟩:ByteArray).extract d.val (d.val+1)=⟨#[UInt8.ofNat (48+d.val)]⟩:=by decide +kernel
theorem qb7 (d:Nat)(hd:d<10)(w:World):(Instr.slice 9 (.string ⟨#[48,49,50,51,52,53,54,55,56,57]⟩) (some (J9 (d:Int))) (some (J9 ((d:Int)+1))) none).run Tryz.prog w=.ok (.string ⟨#[UInt8.ofNat (48+d)]⟩) w:=by
 rw[run_slice_string w 9 _ .i64 .i64 _ _ Tryz.underlying9 (by omega) (by omega) (by show(d:Int)+1<=10;omega),show((d:Int)).toNat=d by omega,show((d:Int)+1).toNat=d+1 by omega,q4p ⟨d,hd⟩]
theorem q8j {a b:ByteArray}(h:a.data.toList=b.data.toList):a=b:=by
 obtain⟨⟨l⟩⟩:=a;obtain⟨⟨m⟩⟩:=b
 simp at h;rw[h]
theorem qbm {l:List Nat}{k d:Nat}(hk:k<l.length)(hd:l.getD k 0=d):l.take (k+1)=l.take k++[d]:=by
 rw[Vu,Yj hk]
 simp[List.getD,List.getElem?_eq_getElem hk]at hd
 simp[hd]
theorem u8_add (d:Nat):48+UInt8.ofNat d=UInt8.ofNat (48+d):=by simp[UInt8.ofNat_add]
theorem qa2:Lib.itoa 0=[48]:=by rw[Lib.itoa,Yu (by omega)];exact Lib.decDigits_one (i:=0) (by omega)
theorem q8i (l m:List UInt8):(⟨l.toArray⟩:ByteArray)++⟨m.toArray⟩=⟨(l++m).toArray⟩:=by
 apply q8j;simp[ByteArray.data_append]
theorem q2h (x:Int)(w:World)(h0:-9223372036854775808<=x)(h1:x<=9223372036854775807) :
 Calls Tryz.prog 103 #[J9 x] w fun e w'=>e=.returned (.string ⟨(Lib.itoa x).toArray⟩)/\Below w.heap.size w w':=by
 go_enter Tryz.func103,Tryz.ntmps103
 go_wp2_with fail
 refine(q2i x _ h0 h1).mono ?_
 rintro e w1 ⟨v,rfl,hv,hb1⟩
 have hlen:(digs x.natAbs).length<=19:=q1e (by omega)
 have HX:=h_ (And.intro h0 h1);clear h0 h1
 obtain⟨a,cap,rfl,hc,-,hI⟩:=hv
 have bW:Below w.heap.size w (w1.alloc (.cells #[.bool (decide (x<0)),.slice a (digs x.natAbs).length cap] 166)):=hb1.alloc hb1.size _
 have hB:=Blk.new w1 166 #[.bool (decide (x<0)),.slice a (digs x.natAbs).length cap]
 have hI2:=hI.mono ((bR w1.heap.size w1).alloc (nR _) (.cells #[.bool (decide (x<0)),.slice a (digs x.natAbs).length cap] 166))
 have HW:=h_ bW;have HB:=h_ hB;have HI:=h_ hI2;clear bW hB hI2 hI hb1
 by_cases hx:x=0
 . subst hx
   simp only[Int.natAbs_zero,q9h]at *;go_wp2;go_ret;exact⟨by rw[qa2];rfl,HW.u⟩
 . have hn:(digs x.natAbs).length≠0:=by intro e;have:=qcb.1 (Z8.1 e);omega
   go_wp2;go_loopw [4,5] (fun s i wr=>∃k:Nat,k<=(digs x.natAbs).length/\i=J9 k/\s=.string ⟨(hdig ((digs x.natAbs).take k).reverse).toArray⟩/\wr=w1.alloc (.cells #[.bool (decide (x<0)),.slice a (digs x.natAbs).length cap] 166)) (fun _ i _=>(digs x.natAbs).length - (intOf i).toNat)
   case atStart=>exact⟨0,nZ _,rfl,by simp[hdig],rfl⟩
   case round =>
    obtain⟨k,hk,rfl,rfl,rfl⟩:=hrel;by_cases hlt:k<(digs x.natAbs).length
    . obtain⟨b1,o1,rfl,-,hc1⟩:=HI.u k hlt
      obtain⟨d,hd,hD⟩:∃d,d<10/\(digs x.natAbs).getD k 0=d:=⟨_,by rw[qgb];exact Vq _ (by decide),rfl⟩;dsimp only at hc1;rw[hD]at hc1;have hs:=qb7 d hd;have HD:=h_ hD;clear hD;generalize hS:hdig ((digs x.natAbs).take k).reverse=S at *;have HS:=h_ hS;have hSl:S.length<=19:=(by rw[<- hS];simp[hdig];omega);clear hS;go_wp2;go_roundw
      case rel =>
       refine⟨k+1,by omega,by go_num,?_,trivial⟩;rw[qbm hlt HD.u,List.reverse_append,<- HS.u,u8_add];exact congrArg _ (q8i [_] _)
      case measure=>simp[intOf];omega
    . obtain rfl:k=(digs x.natAbs).length:=by omega
      have hz:Lib.itoa x=(if x<0 then [45] else [])++hdig (digs x.natAbs).reverse:=by
       unfold Lib.itoa hdig;split
       . rw[q1d (by omega)];rfl
       . rw[show x.toNat=x.natAbs by omega,q1d (by omega)];rfl
      have HZ:=h_ hz;clear hz;rw[Zm];generalize hS:hdig (digs x.natAbs).reverse=S at *;have hSl:S.length<=19:=(by rw[<- hS];simp[hdig];omega);clear hS;by_cases hneg:x<0
      . go_wp2
        go_ret;refine⟨?_,by have hh:=HW.u;rw[Ym hneg]at hh;exact hh⟩;rw[HZ.u,Yy hneg];exact congrArg (fun z=>Ending.returned (.string z)) (q8i [45] S)
      . go_wp2
        go_ret;refine⟨?_,by have hh:=HW.u;rw[Yi (by omega)]at hh;exact hh⟩;rw[HZ.u,Yu (by omega)];rfl
theorem qj4 {a b:ByteArray}(h:a=b):Ending.returned (.string a)=.returned (.string b):=by rw[h]
def Pow (w:World):Prop:=Lib.TabIs Tryz.prog w "internal/strconv.uint64pow10" .u64 Lib.pow10Tab
theorem Pow.mono {w w':World}(h:Pow w)(hb:Below w.heap.size w w'):Pow w':=Lib.tabBelow_of_tabIs h w' hb
theorem q4o (x:Int)(w:World)(h0:-9223372036854775808<=x)(h1:x<=9223372036854775807)(ht:Pow w) :
 Calls Tryz.prog 188 #[J9 x] w fun e w'=>e=.returned (.string ⟨(Lib.itoa x).toArray⟩)/\Below w.heap.size w w':=by
 have HX:=h_ (And.intro h0 h1);clear h0 h1
 go_enter Tryz.func188,Tryz.ntmps188
 go_wp2_with fail
 refine(Tryz.strconv_FormatInt_10 x HX.u.1 HX.u.2 _ ht).mono ?_
 rintro e w1 ⟨rfl,k,os,rfl⟩
 have hb:=h_ (Lib.below_grow w.heap.size w (nR _) k os)
 go_wp2
 go_ret
 exact⟨rfl,hb.u⟩
theorem qgh:(⟨(Lib.formatBool true).toArray⟩:ByteArray)=⟨#[116,114,117,101]⟩:=by decide +kernel
theorem qch:(⟨(Lib.formatBool false).toArray⟩:ByteArray)=⟨#[102,97,108,115,101]⟩:=by decide +kernel
def plainB (kind num:Int)(s:ByteArray):ByteArray :=
 if kind=1 then ⟨(Lib.itoa num).toArray⟩ else if kind=2 then (if num=1 then ⟨#[116,114,117,101]⟩ else ⟨#[102,97,108,115,101]⟩) else s
theorem q2t (kind num:Int)(s:ByteArray)(w:World)(h0:-9223372036854775808<=num)(h1:num<=9223372036854775807)(ht:Pow w) :
 Calls Tryz.prog 189 #[.agg (J5 kind num s)] w fun e w'=>e=.returned (.string (plainB kind num s))/\Below w.heap.size w w':=by
 have HX:=h_ (And.intro h0 h1);clear h0 h1
 have HW:Hi (Below w.heap.size w (w.alloc (.cells (J5 kind num s) 94))):=(bR _ _).alloc (nR _) _
 by_cases k1:kind=1
 . subst k1
   go_enter Tryz.func189,Tryz.ntmps189;go_wp2_with fail;refine(q4o num _ HX.u.1 HX.u.2 (ht.mono HW.u)).mono ?_;rintro e w2 ⟨rfl,hb2⟩;replace HW:=mT HW hb2;clear hb2;go_wp2;go_ret;exact⟨qj4 (by simp[plainB]),HW.u⟩
 . by_cases k2:kind=2
   . subst k2
     by_cases n1:num=1
     . subst n1
       go_enter Tryz.func189,Tryz.ntmps189;go_wp2_with fail;refine(Tryz.strconv_FormatBool true _).mono ?_;rintro e w2 ⟨rfl,rfl⟩;rw[qgh];go_wp2;go_ret;exact⟨qj4 (by simp[plainB]),HW.u⟩
     . have hf:(num==1)=false:=by simpa using n1
       go_enter Tryz.func189,Tryz.ntmps189;go_wp2_with fail;refine(Tryz.strconv_FormatBool false _).mono ?_;rintro e w2 ⟨rfl,rfl⟩;rw[qch];go_wp2;go_ret;exact⟨qj4 (by simp[plainB,n1]),HW.u⟩
   . go_enter Tryz.func189,Tryz.ntmps189
     go_wp2;go_ret;exact⟨qj4 (by simp[plainB,k1,k2]),HW.u⟩
theorem q4b (kind num:Int)(s:ByteArray)(w:World)(hs:s.size<=9223372036854775807)(h0:-9223372036854775808<=num)(h1:num<=9223372036854775807) :
 Calls Tryz.prog 130 #[.agg (J5 kind num s)] w fun e w'=>e=.returned (.string (showB kind num s))/\Below w.heap.size w w':=by
 have HX:=h_ (And.intro h0 h1);clear h0 h1
 have H0:=h_ (Blk.new w 94 (J5 kind num s))
 have HW:Hi (Below w.heap.size w (w.alloc (.cells (J5 kind num s) 94))):=(bR _ _).alloc (nR _) _
 go_enter Tryz.func130,Tryz.ntmps130
 go_wp2_with fail
 refine(q24 kind num s _ hs).mono ?_
 rintro e w1 ⟨rfl,hb1⟩
 replace H0:=mB H0 hb1;replace HW:=mT HW hb1;clear hb1
 obtain⟨z0,z1,z2⟩:=three H0.u
 cases hok:okVal kind num s
 . go_wp2
   go_ret;exact⟨qj4 (by simp[showB,hok]),HW.u⟩
 . rcases kinds kind with rfl | rfl | rfl | rfl | rfl | ⟨k0,k1,k2,k3,k4⟩
   . go_wp2
     go_ret;exact⟨qj4 (by simp[showB,hok]),HW.u⟩
   . go_wp2_with fail
     refine(q2h num _ HX.u.1 HX.u.2).mono ?_;rintro e w2 ⟨rfl,hb2⟩;replace HW:=mT HW hb2;clear hb2;go_wp2;go_ret;exact⟨qj4 (by simp[showB,hok]),HW.u⟩
   . by_cases n1:num=1
     all_goals
      go_wp2;go_ret;exact⟨qj4 (by first | (subst n1;simp[showB,hok];done) | (simp[showB,hok,n1])),HW.u⟩
   . have hsz:s.size<=1000:=by simp[okVal]at hok;exact(q85.1 hok.2).1
     go_wp2;go_ret;exact⟨qj4 (by simp[showB,hok]),HW.u⟩
   . go_wp2_with fail
     refine(q2h num _ HX.u.1 HX.u.2).mono ?_;rintro e w2 ⟨rfl,hb2⟩;replace HW:=mT HW hb2;clear hb2;have hl:=qa1 num HX.u.1 HX.u.2;obtain⟨S,hS⟩:∃S:ByteArray,S=⟨(Lib.itoa num).toArray⟩:=⟨_,rfl⟩;rw[<- hS]at hl⊢;have HS:=h_ hS;clear hS;go_wp2;go_ret;exact⟨qj4 (by have:=HS.u;simp[showB,hok,this]),HW.u⟩
   . simp[okVal,k0,k1,k2,k3,k4]at hok
theorem q3e (kind num:Int)(s:ByteArray)(w:World)(hs:s.size<=9223372036854775807)(h0:-9223372036854775808<=num)(h1:num<=9223372036854775807)(ht:Pow w) :
 Calls Tryz.prog 174 #[.agg (J5 kind num s)] w fun e w'=>e=.returned (.string (showB kind num s))/\Below w.heap.size w w':=by
 have HX:=h_ (And.intro h0 h1);clear h0 h1
 have H0:=h_ (Blk.new w 94 (J5 kind num s))
 have HW:Hi (Below w.heap.size w (w.alloc (.cells (J5 kind num s) 94))):=(bR _ _).alloc (nR _) _
 go_enter Tryz.func174,Tryz.ntmps174
 go_wp2_with fail
 refine(q1j kind num s _ hs).mono ?_
 rintro e w1 ⟨rfl,hb1⟩
 replace H0:=mB H0 hb1;replace HW:=mT HW hb1;clear hb1
 obtain⟨z0,z1,z2⟩:=three H0.u
 have HT:=h_ (ht.mono HW.u)
 cases hok:okVal kind num s
 . go_wp2
   go_ret;exact⟨qj4 (by simp[showB,hok]),HW.u⟩
 . rcases kinds kind with rfl | rfl | rfl | rfl | rfl | ⟨k0,k1,k2,k3,k4⟩
   . go_wp2
     go_ret;exact⟨qj4 (by simp[showB,hok]),HW.u⟩
   . go_wp2_with fail
     refine(q2t 1 num s _ HX.u.1 HX.u.2 HT.u).mono ?_;rintro e w2 ⟨rfl,hb2⟩;replace HW:=mT HW hb2;clear hb2;go_wp2;go_ret;exact⟨qj4 (by simp[showB,plainB,hok]),HW.u⟩
   . go_wp2_with fail
     refine(q2t 2 num s _ HX.u.1 HX.u.2 HT.u).mono ?_;rintro e w2 ⟨rfl,hb2⟩;replace HW:=mT HW hb2;clear hb2;go_wp2;go_ret;exact⟨qj4 (by simp[showB,plainB,hok]),HW.u⟩
   . have hsz:s.size<=1000:=by simp[okVal]at hok;exact(q85.1 hok.2).1
     go_wp2;go_ret;exact⟨qj4 (by simp[showB,hok]),HW.u⟩
   . go_wp2_with fail
     refine(q4o num _ HX.u.1 HX.u.2 HT.u).mono ?_;rintro e w2 ⟨rfl,hb2⟩;replace HW:=mT HW hb2;clear hb2;have hl:=qa1 num HX.u.1 HX.u.2;obtain⟨S,hS⟩:∃S:ByteArray,S=⟨(Lib.itoa num).toArray⟩:=⟨_,rfl⟩;rw[<- hS]at hl⊢;have HS:=h_ hS;clear hS;go_wp2;go_ret;exact⟨qj4 (by have:=HS.u;simp[showB,hok,this]),HW.u⟩
   . simp[okVal,k0,k1,k2,k3,k4]at hok
end Go.Proofs.YtebbgodlijlioaaGreatDoor
