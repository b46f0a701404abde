import Derived.Test.YtebbgodlijlioaaGreatDoorW04
import Derived.Test.YtebbgodlijlioaaGreatDoorShelf
import Derived.Lib.AppendIntMem
set_option maxRecDepth 100000
set_option maxHeartbeats 64000000
namespace Go.Proofs.YtebbgodlijlioaaGreatDoor
open Go Go.RowKit
theorem qla {a b:ByteArray}(h:a=b):Ending.returned (.string a)=.returned (.string b):=by rw[h]
def Pow (w:World):Prop:=Lib.TabIs Tryz.prog w "internal/strconv.uint64pow10" .u64 Lib.pow10Tab
theorem Pow.mono {w w':World}(h:Pow w)(hb:Below w.heap.size w w'):Pow w':=Lib.tabBelow_of_tabIs h w' hb
theorem q4t (x:Int)(w:World)(h0:-9223372036854775808<=x)(h1:x<=9223372036854775807)(ht:Pow w) :
 Calls Tryz.prog 188 #[J9 x] w fun e w'=>e=.returned (.string ⟨(Lib.itoa x).toArray⟩)/\Below w.heap.size w w':=by
 have HX:=h_ (And.intro h0 h1);clear h0 h1
 go_enter Tryz.func188,Tryz.ntmps188
 go_wp2_with fail
 refine(Tryz.strconv_FormatInt_10 x HX.u.1 HX.u.2 _ ht).mono ?_
 rintro e w1 ⟨rfl,k,os,rfl⟩
 have hb:=h_ (Lib.below_grow w.heap.size w (nR _) k os)
 go_wp2
 go_ret
 exact⟨rfl,hb.u⟩
theorem qii:(⟨(Lib.formatBool true).toArray⟩:ByteArray)=⟨#[116,114,117,101]⟩:=by decide +kernel
theorem qdu:(⟨(Lib.formatBool false).toArray⟩:ByteArray)=⟨#[102,97,108,115,101]⟩:=by decide +kernel
def plainB (kind num:Int)(s:ByteArray):ByteArray :=
 if kind=1 then ⟨(Lib.itoa num).toArray⟩ else if kind=2 then (if num=1 then ⟨#[116,114,117,101]⟩ else ⟨#[102,97,108,115,101]⟩) else s
theorem q2p (kind num:Int)(s:ByteArray)(w:World)(h0:-9223372036854775808<=num)(h1:num<=9223372036854775807)(ht:Pow w) :
 Calls Tryz.prog 189 #[.agg (J5 kind num s)] w fun e w'=>e=.returned (.string (plainB kind num s))/\Below w.heap.size w w':=by
 have HX:=h_ (And.intro h0 h1);clear h0 h1
 have HW:Hi (Below w.heap.size w (w.alloc (.cells (J5 kind num s) 94))):=(bR _ _).alloc (nR _) _
 by_cases k1:kind=1
 . subst k1
   go_enter Tryz.func189,Tryz.ntmps189;go_wp2_with fail;refine(q4t num _ HX.u.1 HX.u.2 (ht.mono HW.u)).mono ?_;rintro e w2 ⟨rfl,hb2⟩;replace HW:=mT HW hb2;clear hb2;go_wp2;go_ret;exact⟨qla (by simp[plainB]),HW.u⟩
 . by_cases k2:kind=2
   . subst k2
     by_cases n1:num=1
     . subst n1
       go_enter Tryz.func189,Tryz.ntmps189;go_wp2_with fail;refine(Tryz.strconv_FormatBool true _).mono ?_;rintro e w2 ⟨rfl,rfl⟩;rw[qii];go_wp2;go_ret;exact⟨qla (by simp[plainB]),HW.u⟩
     . have hf:(num==1)=false:=by simpa using n1
       go_enter Tryz.func189,Tryz.ntmps189;go_wp2_with fail;refine(Tryz.strconv_FormatBool false _).mono ?_;rintro e w2 ⟨rfl,rfl⟩;rw[qdu];go_wp2;go_ret;exact⟨qla (by simp[plainB,n1]),HW.u⟩
   . go_enter Tryz.func189,Tryz.ntmps189
     go_wp2;go_ret;exact⟨qla (by simp[plainB,k1,k2]),HW.u⟩
theorem qk1 {op:Int}(h:¬ (2<=op/\op<=15)):lvl op=7:=by
 unfold lvl;rw[Yt (by omega),Yt (by omega),Yt (by omega),Yt (by omega),Yt (by omega),Yt (by omega)]
theorem q5d (op:Int)(w:World):Calls Tryz.prog 132 #[J9 op] w fun e w'=>e=.returned (J9 (lvl op))/\w'=w:=by
 by_cases h:2<=op/\op<=15
 . have h:op=2∨op=3∨op=4∨op=5∨op=6∨op=7∨op=8∨op=9∨op=10∨op=11∨op=12∨op=13∨op=14∨op=15:=by omega
   rcases h with rfl | rfl | rfl | rfl | rfl | rfl | rfl | rfl | rfl | rfl | rfl | rfl | rfl | rfl
   all_goals
    go_enter Tryz.func132,Tryz.ntmps132;go_wp2;go_ret;exact⟨rfl,rfl⟩
 . rw[qk1 h]
   have n2:(op==2)=false:=Yf.2 (by omega);have n3:(op==3)=false:=Yf.2 (by omega);have n4:(op==4)=false:=Yf.2 (by omega);have n5:(op==5)=false:=Yf.2 (by omega);have n6:(op==6)=false:=Yf.2 (by omega);have n7:(op==7)=false:=Yf.2 (by omega);have n8:(op==8)=false:=Yf.2 (by omega);have n9:(op==9)=false:=Yf.2 (by omega);have n10:(op==10)=false:=Yf.2 (by omega);have n11:(op==11)=false:=Yf.2 (by omega);have n12:(op==12)=false:=Yf.2 (by omega);have n13:(op==13)=false:=Yf.2 (by omega);have n14:(op==14)=false:=Yf.2 (by omega);have n15:(op==15)=false:=Yf.2 (by omega);rcases (show op<2∨15<op by omega) with h' | h'
   all_goals
    clear h;go_enter Tryz.func132,Tryz.ntmps132;go_wp2;go_ret;exact⟨rfl,rfl⟩
theorem q5o (op:Int)(w:World):Calls Tryz.prog 207 #[J9 op] w fun e w'=>e=.returned (J9 (lvl op))/\w'=w:=by
 by_cases h:2<=op/\op<=15
 . have h:op=2∨op=3∨op=4∨op=5∨op=6∨op=7∨op=8∨op=9∨op=10∨op=11∨op=12∨op=13∨op=14∨op=15:=by omega
   rcases h with rfl | rfl | rfl | rfl | rfl | rfl | rfl | rfl | rfl | rfl | rfl | rfl | rfl | rfl
   all_goals
    go_enter Tryz.func207,Tryz.ntmps207;go_wp2;go_ret;exact⟨rfl,rfl⟩
 . rw[qk1 h]
   have n2:(op==2)=false:=Yf.2 (by omega);have n3:(op==3)=false:=Yf.2 (by omega);have n4:(op==4)=false:=Yf.2 (by omega);have n5:(op==5)=false:=Yf.2 (by omega);have n6:(op==6)=false:=Yf.2 (by omega);have n7:(op==7)=false:=Yf.2 (by omega);have n8:(op==8)=false:=Yf.2 (by omega);have n9:(op==9)=false:=Yf.2 (by omega);have n10:(op==10)=false:=Yf.2 (by omega);have n11:(op==11)=false:=Yf.2 (by omega);have n12:(op==12)=false:=Yf.2 (by omega);have n13:(op==13)=false:=Yf.2 (by omega);have n14:(op==14)=false:=Yf.2 (by omega);have n15:(op==15)=false:=Yf.2 (by omega);rcases (show op<2∨15<op by omega) with h' | h'
   all_goals
    clear h;go_enter Tryz.func207,Tryz.ntmps207;go_wp2;go_ret;exact⟨rfl,rfl⟩
theorem q1p (op:Int)(w:World)(h0:16<=op)(h1:op<=25):Calls Tryz.prog 134 #[J9 op] w fun e w'=>e=.returned (.string (wrd op))/\w'=w:=by
 have h:op=16∨op=17∨op=18∨op=19∨op=20∨op=21∨op=22∨op=23∨op=24∨op=25:=by omega
 clear h0 h1
 rcases h with rfl | rfl | rfl | rfl | rfl | rfl | rfl | rfl | rfl | rfl
 all_goals
  go_enter Tryz.func134,Tryz.ntmps134;go_wp2;go_ret;exact⟨rfl,rfl⟩
theorem q83 (op:Int)(w:World)(h0:4<=op)(h1:op<=15):Calls Tryz.prog 135 #[J9 op] w fun e w'=>e=.returned (.string (wrd op))/\w'=w:=by
 have h:op=4∨op=5∨op=6∨op=7∨op=8∨op=9∨op=10∨op=11∨op=12∨op=13∨op=14∨op=15:=by omega
 clear h0 h1
 rcases h with rfl | rfl | rfl | rfl | rfl | rfl | rfl | rfl | rfl | rfl | rfl | rfl
 all_goals
  go_enter Tryz.func135,Tryz.ntmps135;go_wp2;go_ret;exact⟨rfl,rfl⟩
theorem q58 (w:World):Calls Tryz.prog 163 #[] w fun e w'=>e=.returned (.agg #[J9 0,J9 0,Yb])/\Below w.heap.size w w':=by
 go_enter Tryz.func163,Tryz.ntmps163
 go_wp2
 exact bodyPost_ret (v:=.agg #[J9 0,J9 0,Yb]) (by simp[results,Tryz.results163,go_sem]) rfl ⟨rfl,(bR _ _).alloc (nR _) _⟩
theorem q7u (b:Bool)(w:World):Calls Tryz.prog 99 #[.bool b] w fun e w'=>e=.returned (.agg #[J9 2,J9 (if b then 1 else 0),Yb])/\Below w.heap.size w w':=by
 cases b
 . go_enter Tryz.func99,Tryz.ntmps99
   go_wp2;exact bodyPost_ret (v:=.agg #[J9 2,J9 0,Yb]) (by simp[results,Tryz.results99,go_sem]) rfl ⟨rfl,(bR _ _).alloc (nR _) _⟩
 . go_enter Tryz.func99,Tryz.ntmps99
   go_wp2;exact bodyPost_ret (v:=.agg #[J9 2,J9 1,Yb]) (by simp[results,Tryz.results99,go_sem]) rfl ⟨rfl,(bR _ _).alloc (nR _) _⟩
theorem qb7 (n:Int)(w:World):Calls Tryz.prog 78 #[J9 n] w fun e w'=>e=.returned (.agg #[J9 1,J9 n,Yb])/\Below w.heap.size w w':=by
 go_enter Tryz.func78,Tryz.ntmps78
 go_wp2
 exact bodyPost_ret (v:=.agg #[J9 1,J9 n,Yb]) (by simp[results,Tryz.results78,go_sem]) rfl ⟨rfl,(bR _ _).alloc (nR _) _⟩
theorem q7v (s:ByteArray)(w:World):Calls Tryz.prog 165 #[.string s] w fun e w'=>e=.returned (.agg #[J9 3,J9 0,.string s])/\Below w.heap.size w w':=by
 go_enter Tryz.func165,Tryz.ntmps165
 go_wp2
 exact bodyPost_ret (v:=.agg #[J9 3,J9 0,.string s]) (by simp[results,Tryz.results165,go_sem]) rfl ⟨rfl,(bR _ _).alloc (nR _) _⟩
theorem q17 (w:World):Calls Tryz.prog 203 #[] w fun e w'=>e=.returned (.agg #[J9 0,J9 0,Yb])/\Below w.heap.size w w':=by
 go_enter Tryz.func203,Tryz.ntmps203
 go_wp2
 exact bodyPost_ret (v:=.agg #[J9 0,J9 0,Yb]) (by simp[results,Tryz.results203,go_sem]) rfl ⟨rfl,(bR _ _).alloc (nR _) _⟩
theorem q2w (s:ByteArray)(w:World):Calls Tryz.prog 175 #[.string s] w fun e w'=>e=.returned (.agg #[J9 3,J9 0,.string s])/\Below w.heap.size w w':=by
 go_enter Tryz.func175,Tryz.ntmps175
 go_wp2
 exact bodyPost_ret (v:=.agg #[J9 3,J9 0,.string s]) (by simp[results,Tryz.results175,go_sem]) rfl ⟨rfl,(bR _ _).alloc (nR _) _⟩
theorem q4d (kind num:Int)(s:ByteArray)(w:World)(hs:s.size<=9223372036854775807)(h0:-9223372036854775808<=num)(h1:num<=9223372036854775807) :
 Calls Tryz.prog 130 #[.agg (J5 kind num s)] w fun e w'=>e=.returned (.string (showB kind num s))/\Below w.heap.size w w':=by
 have HX:=h_ (And.intro h0 h1);clear h0 h1
 have H0:=h_ (Blk.new w 94 (J5 kind num s))
 have HW:Hi (Below w.heap.size w (w.alloc (.cells (J5 kind num s) 94))):=(bR _ _).alloc (nR _) _
 go_enter Tryz.func130,Tryz.ntmps130
 go_wp2_with fail
 refine(q21 kind num s _ hs).mono ?_
 rintro e w1 ⟨rfl,hb1⟩
 replace H0:=mB H0 hb1;replace HW:=mT HW hb1;clear hb1
 obtain⟨z0,z1,z2⟩:=three H0.u
 cases hok:okVal kind num s
 . go_wp2
   go_ret;exact⟨qla (by simp[showB,hok]),HW.u⟩
 . rcases kinds kind with rfl | rfl | rfl | rfl | rfl | ⟨k0,k1,k2,k3,k4⟩
   . go_wp2
     go_ret;exact⟨qla (by simp[showB,hok]),HW.u⟩
   . go_wp2_with fail
     refine(q2f num _ HX.u.1 HX.u.2).mono ?_;rintro e w2 ⟨rfl,hb2⟩;replace HW:=mT HW hb2;clear hb2;go_wp2;go_ret;exact⟨qla (by simp[showB,hok]),HW.u⟩
   . by_cases n1:num=1
     all_goals
      go_wp2;go_ret;exact⟨qla (by first | (subst n1;simp[showB,hok];done) | (simp[showB,hok,n1])),HW.u⟩
   . have hsz:s.size<=1000:=by simp[okVal]at hok;exact(q8k.1 hok.2).1
     go_wp2;go_ret;exact⟨qla (by simp[showB,hok]),HW.u⟩
   . go_wp2_with fail
     refine(q2f num _ HX.u.1 HX.u.2).mono ?_;rintro e w2 ⟨rfl,hb2⟩;replace HW:=mT HW hb2;clear hb2;have hl:=qb2 num HX.u.1 HX.u.2;obtain⟨S,hS⟩:∃S:ByteArray,S=⟨(Lib.itoa num).toArray⟩:=⟨_,rfl⟩;rw[<- hS]at hl⊢;have HS:=h_ hS;clear hS;go_wp2;go_ret;exact⟨qla (by have:=HS.u;simp[showB,hok,this]),HW.u⟩
   . simp[okVal,k0,k1,k2,k3,k4]at hok
theorem q3g (kind num:Int)(s:ByteArray)(w:World)(hs:s.size<=9223372036854775807)(h0:-9223372036854775808<=num)(h1:num<=9223372036854775807)(ht:Pow w) :
 Calls Tryz.prog 174 #[.agg (J5 kind num s)] w fun e w'=>e=.returned (.string (showB kind num s))/\Below w.heap.size w w':=by
 have HX:=h_ (And.intro h0 h1);clear h0 h1
 have H0:=h_ (Blk.new w 94 (J5 kind num s))
 have HW:Hi (Below w.heap.size w (w.alloc (.cells (J5 kind num s) 94))):=(bR _ _).alloc (nR _) _
 go_enter Tryz.func174,Tryz.ntmps174
 go_wp2_with fail
 refine(q1e kind num s _ hs).mono ?_
 rintro e w1 ⟨rfl,hb1⟩
 replace H0:=mB H0 hb1;replace HW:=mT HW hb1;clear hb1
 obtain⟨z0,z1,z2⟩:=three H0.u
 have HT:=h_ (ht.mono HW.u)
 cases hok:okVal kind num s
 . go_wp2
   go_ret;exact⟨qla (by simp[showB,hok]),HW.u⟩
 . rcases kinds kind with rfl | rfl | rfl | rfl | rfl | ⟨k0,k1,k2,k3,k4⟩
   . go_wp2
     go_ret;exact⟨qla (by simp[showB,hok]),HW.u⟩
   . go_wp2_with fail
     refine(q2p 1 num s _ HX.u.1 HX.u.2 HT.u).mono ?_;rintro e w2 ⟨rfl,hb2⟩;replace HW:=mT HW hb2;clear hb2;go_wp2;go_ret;exact⟨qla (by simp[showB,plainB,hok]),HW.u⟩
   . go_wp2_with fail
     refine(q2p 2 num s _ HX.u.1 HX.u.2 HT.u).mono ?_;rintro e w2 ⟨rfl,hb2⟩;replace HW:=mT HW hb2;clear hb2;go_wp2;go_ret;exact⟨qla (by simp[showB,plainB,hok]),HW.u⟩
   . have hsz:s.size<=1000:=by simp[okVal]at hok;exact(q8k.1 hok.2).1
     go_wp2;go_ret;exact⟨qla (by simp[showB,hok]),HW.u⟩
   . go_wp2_with fail
     refine(q4t num _ HX.u.1 HX.u.2 HT.u).mono ?_;rintro e w2 ⟨rfl,hb2⟩;replace HW:=mT HW hb2;clear hb2;have hl:=qb2 num HX.u.1 HX.u.2;obtain⟨S,hS⟩:∃S:ByteArray,S=⟨(Lib.itoa num).toArray⟩:=⟨_,rfl⟩;rw[<- hS]at hl⊢;have HS:=h_ hS;clear hS;go_wp2;go_ret;exact⟨qla (by have:=HS.u;simp[showB,hok,this]),HW.u⟩
   . simp[okVal,k0,k1,k2,k3,k4]at hok
end Go.Proofs.YtebbgodlijlioaaGreatDoor
