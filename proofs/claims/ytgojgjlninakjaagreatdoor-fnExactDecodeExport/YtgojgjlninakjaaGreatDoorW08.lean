import Derived.Test.YtgojgjlninakjaaGreatDoorW04
import Derived.Test.YtgojgjlninakjaaGreatDoorShelf
import Derived.Lib.AppendIntMem
set_option maxRecDepth 100000
set_option maxHeartbeats 64000000
namespace Go.Proofs.YtgojgjlninakjaaGreatDoor
open Go Go.RowKit
theorem qnh {a b:ByteArray}(h:a=b):Ending.returned (.string a)=.returned (.string b):=by rw[h]
def Pow (w:World):Prop:=Lib.TabIs Tryz.prog w "internal/strconv.uint64pow10" .u64 Lib.pow10Tab
theorem Pow.mono {w w':World}(h:Pow w)(hb:Below w.heap.size w w'):Pow w':=Lib.tabBelow_of_tabIs h w' hb
theorem q5i (x:Int)(w:World)(h0:-9223372036854775808<=x)(h1:x<=9223372036854775807)(ht:Pow w) :
 Calls Tryz.prog 89 #[J6 x] w fun e w'=>e=.returned (.string ⟨(Lib.itoa x).toArray⟩)/\Below w.heap.size w w':=by
 have HX:=h_ (And.intro h0 h1);clear h0 h1
 go_enter Tryz.func89,Tryz.ntmps89
 go_wp2_with fail
 refine(Tryz.strconv_FormatInt_10 x HX.u.1 HX.u.2 _ ht).mono ?_
 rintro e w1 ⟨rfl,k,os,rfl⟩
 have hb:=h_ (Lib.below_grow w.heap.size w (nR _) k os)
 go_wp2
 go_ret
 exact⟨rfl,hb.u⟩
theorem qkx:(⟨(Lib.formatBool true).toArray⟩:ByteArray)=⟨#[116,114,117,101]⟩:=by decide +kernel
theorem qg2:(⟨(Lib.formatBool false).toArray⟩:ByteArray)=⟨#[102,97,108,115,101]⟩:=by decide +kernel
def plainB (kind num:Int)(s:ByteArray):ByteArray :=
 if kind=1 then ⟨(Lib.itoa num).toArray⟩ else if kind=2 then (if num=1 then ⟨#[116,114,117,101]⟩ else ⟨#[102,97,108,115,101]⟩) else s
theorem q2y (kind num:Int)(s:ByteArray)(w:World)(h0:-9223372036854775808<=num)(h1:num<=9223372036854775807)(ht:Pow w) :
 Calls Tryz.prog 164 #[.agg (Jk kind num s)] w fun e w'=>e=.returned (.string (plainB kind num s))/\Below w.heap.size w w':=by
 have HX:=h_ (And.intro h0 h1);clear h0 h1
 have HW:Hi (Below w.heap.size w (w.alloc (.cells (Jk kind num s) 50))):=(bR _ _).alloc (nR _) _
 by_cases k1:kind=1
 . subst k1
   go_enter Tryz.func164,Tryz.ntmps164;go_wp2_with fail;refine(q5i num _ HX.u.1 HX.u.2 (ht.mono HW.u)).mono ?_;rintro e w2 ⟨rfl,hb2⟩;replace HW:=mT HW hb2;clear hb2;go_wp2;go_ret;exact⟨qnh (by simp[plainB]),HW.u⟩
 . by_cases k2:kind=2
   . subst k2
     by_cases n1:num=1
     . subst n1
       go_enter Tryz.func164,Tryz.ntmps164;go_wp2_with fail;refine(Tryz.strconv_FormatBool true _).mono ?_;rintro e w2 ⟨rfl,rfl⟩;rw[qkx];go_wp2;go_ret;exact⟨qnh (by simp[plainB]),HW.u⟩
     . have hf:(num==1)=false:=by simpa using n1
       go_enter Tryz.func164,Tryz.ntmps164;go_wp2_with fail;refine(Tryz.strconv_FormatBool false _).mono ?_;rintro e w2 ⟨rfl,rfl⟩;rw[qg2];go_wp2;go_ret;exact⟨qnh (by simp[plainB,n1]),HW.u⟩
   . go_enter Tryz.func164,Tryz.ntmps164
     go_wp2;go_ret;exact⟨qnh (by simp[plainB,k1,k2]),HW.u⟩
theorem qmb {op:Int}(h:¬ (2<=op/\op<=15)):lvl op=7:=by
 unfold lvl;rw[Yn (by omega),Yn (by omega),Yn (by omega),Yn (by omega),Yn (by omega),Yn (by omega)]
theorem q6a (op:Int)(w:World):Calls Tryz.prog 210 #[J6 op] w fun e w'=>e=.returned (J6 (lvl op))/\w'=w:=by
 by_cases h:2<=op/\op<=15
 . have h:op=2∨op=3∨op=4∨op=5∨op=6∨op=7∨op=8∨op=9∨op=10∨op=11∨op=12∨op=13∨op=14∨op=15:=by omega
   rcases h with rfl | rfl | rfl | rfl | rfl | rfl | rfl | rfl | rfl | rfl | rfl | rfl | rfl | rfl
   all_goals
    go_enter Tryz.func210,Tryz.ntmps210;go_wp2;go_ret;exact⟨rfl,rfl⟩
 . rw[qmb h]
   have n2:(op==2)=false:=Ya.2 (by omega);have n3:(op==3)=false:=Ya.2 (by omega);have n4:(op==4)=false:=Ya.2 (by omega);have n5:(op==5)=false:=Ya.2 (by omega);have n6:(op==6)=false:=Ya.2 (by omega);have n7:(op==7)=false:=Ya.2 (by omega);have n8:(op==8)=false:=Ya.2 (by omega);have n9:(op==9)=false:=Ya.2 (by omega);have n10:(op==10)=false:=Ya.2 (by omega);have n11:(op==11)=false:=Ya.2 (by omega);have n12:(op==12)=false:=Ya.2 (by omega);have n13:(op==13)=false:=Ya.2 (by omega);have n14:(op==14)=false:=Ya.2 (by omega);have n15:(op==15)=false:=Ya.2 (by omega);rcases (show op<2∨15<op by omega) with h' | h'
   all_goals
    clear h;go_enter Tryz.func210,Tryz.ntmps210;go_wp2;go_ret;exact⟨rfl,rfl⟩
theorem q6o (op:Int)(w:World):Calls Tryz.prog 295 #[J6 op] w fun e w'=>e=.returned (J6 (lvl op))/\w'=w:=by
 by_cases h:2<=op/\op<=15
 . have h:op=2∨op=3∨op=4∨op=5∨op=6∨op=7∨op=8∨op=9∨op=10∨op=11∨op=12∨op=13∨op=14∨op=15:=by omega
   rcases h with rfl | rfl | rfl | rfl | rfl | rfl | rfl | rfl | rfl | rfl | rfl | rfl | rfl | rfl
   all_goals
    go_enter Tryz.func295,Tryz.ntmps295;go_wp2;go_ret;exact⟨rfl,rfl⟩
 . rw[qmb h]
   have n2:(op==2)=false:=Ya.2 (by omega);have n3:(op==3)=false:=Ya.2 (by omega);have n4:(op==4)=false:=Ya.2 (by omega);have n5:(op==5)=false:=Ya.2 (by omega);have n6:(op==6)=false:=Ya.2 (by omega);have n7:(op==7)=false:=Ya.2 (by omega);have n8:(op==8)=false:=Ya.2 (by omega);have n9:(op==9)=false:=Ya.2 (by omega);have n10:(op==10)=false:=Ya.2 (by omega);have n11:(op==11)=false:=Ya.2 (by omega);have n12:(op==12)=false:=Ya.2 (by omega);have n13:(op==13)=false:=Ya.2 (by omega);have n14:(op==14)=false:=Ya.2 (by omega);have n15:(op==15)=false:=Ya.2 (by omega);rcases (show op<2∨15<op by omega) with h' | h'
   all_goals
    clear h;go_enter Tryz.func295,Tryz.ntmps295;go_wp2;go_ret;exact⟨rfl,rfl⟩
theorem q1w (op:Int)(w:World)(h0:16<=op)(h1:op<=25):Calls Tryz.prog 212 #[J6 op] w fun e w'=>e=.returned (.string (wrd op))/\w'=w:=by
 have h:op=16∨op=17∨op=18∨op=19∨op=20∨op=21∨op=22∨op=23∨op=24∨op=25:=by omega
 clear h0 h1
 rcases h with rfl | rfl | rfl | rfl | rfl | rfl | rfl | rfl | rfl | rfl
 all_goals
  go_enter Tryz.func212,Tryz.ntmps212;go_wp2;go_ret;exact⟨rfl,rfl⟩
theorem q9d (op:Int)(w:World)(h0:4<=op)(h1:op<=15):Calls Tryz.prog 213 #[J6 op] w fun e w'=>e=.returned (.string (wrd op))/\w'=w:=by
 have h:op=4∨op=5∨op=6∨op=7∨op=8∨op=9∨op=10∨op=11∨op=12∨op=13∨op=14∨op=15:=by omega
 clear h0 h1
 rcases h with rfl | rfl | rfl | rfl | rfl | rfl | rfl | rfl | rfl | rfl | rfl | rfl
 all_goals
  go_enter Tryz.func213,Tryz.ntmps213;go_wp2;go_ret;exact⟨rfl,rfl⟩
theorem q65 (w:World):Calls Tryz.prog 70 #[] w fun e w'=>e=.returned (.agg Ju)/\Below w.heap.size w w':=by
 go_enter Tryz.func70,Tryz.ntmps70
 go_wp2
 exact bodyPost_ret (v:=.agg Ju) (by simp[results,Tryz.results70,go_sem]) rfl ⟨rfl,(bR _ _).alloc (nR _) _⟩
theorem q97 (b:Bool)(w:World):Calls Tryz.prog 71 #[.bool b] w fun e w'=>e=.returned (.agg #[J6 2,J6 (if b then 1 else 0),J8])/\Below w.heap.size w w':=by
 cases b
 . go_enter Tryz.func71,Tryz.ntmps71
   go_wp2;exact bodyPost_ret (v:=.agg #[J6 2,J6 0,J8]) (by simp[results,Tryz.results71,go_sem]) rfl ⟨rfl,(bR _ _).alloc (nR _) _⟩
 . go_enter Tryz.func71,Tryz.ntmps71
   go_wp2;exact bodyPost_ret (v:=.agg #[J6 2,J6 1,J8]) (by simp[results,Tryz.results71,go_sem]) rfl ⟨rfl,(bR _ _).alloc (nR _) _⟩
theorem qd6 (n:Int)(w:World):Calls Tryz.prog 73 #[J6 n] w fun e w'=>e=.returned (.agg #[J6 1,J6 n,J8])/\Below w.heap.size w w':=by
 go_enter Tryz.func73,Tryz.ntmps73
 go_wp2
 exact bodyPost_ret (v:=.agg #[J6 1,J6 n,J8]) (by simp[results,Tryz.results73,go_sem]) rfl ⟨rfl,(bR _ _).alloc (nR _) _⟩
theorem q99 (s:ByteArray)(w:World):Calls Tryz.prog 74 #[.string s] w fun e w'=>e=.returned (.agg #[J6 3,J6 0,.string s])/\Below w.heap.size w w':=by
 go_enter Tryz.func74,Tryz.ntmps74
 go_wp2
 exact bodyPost_ret (v:=.agg #[J6 3,J6 0,.string s]) (by simp[results,Tryz.results74,go_sem]) rfl ⟨rfl,(bR _ _).alloc (nR _) _⟩
theorem q1e (w:World):Calls Tryz.prog 126 #[] w fun e w'=>e=.returned (.agg Ju)/\Below w.heap.size w w':=by
 go_enter Tryz.func126,Tryz.ntmps126
 go_wp2
 exact bodyPost_ret (v:=.agg Ju) (by simp[results,Tryz.results126,go_sem]) rfl ⟨rfl,(bR _ _).alloc (nR _) _⟩
theorem q2a (b:Bool)(w:World):Calls Tryz.prog 159 #[.bool b] w fun e w'=>e=.returned (.agg #[J6 2,J6 (if b then 1 else 0),J8])/\Below w.heap.size w w':=by
 cases b
 . go_enter Tryz.func159,Tryz.ntmps159
   go_wp2;exact bodyPost_ret (v:=.agg #[J6 2,J6 0,J8]) (by simp[results,Tryz.results159,go_sem]) rfl ⟨rfl,(bR _ _).alloc (nR _) _⟩
 . go_enter Tryz.func159,Tryz.ntmps159
   go_wp2;exact bodyPost_ret (v:=.agg #[J6 2,J6 1,J8]) (by simp[results,Tryz.results159,go_sem]) rfl ⟨rfl,(bR _ _).alloc (nR _) _⟩
theorem q3w (n:Int)(w:World):Calls Tryz.prog 162 #[J6 n] w fun e w'=>e=.returned (.agg #[J6 1,J6 n,J8])/\Below w.heap.size w w':=by
 go_enter Tryz.func162,Tryz.ntmps162
 go_wp2
 exact bodyPost_ret (v:=.agg #[J6 1,J6 n,J8]) (by simp[results,Tryz.results162,go_sem]) rfl ⟨rfl,(bR _ _).alloc (nR _) _⟩
theorem q37 (s:ByteArray)(w:World):Calls Tryz.prog 160 #[.string s] w fun e w'=>e=.returned (.agg #[J6 3,J6 0,.string s])/\Below w.heap.size w w':=by
 go_enter Tryz.func160,Tryz.ntmps160
 go_wp2
 exact bodyPost_ret (v:=.agg #[J6 3,J6 0,.string s]) (by simp[results,Tryz.results160,go_sem]) rfl ⟨rfl,(bR _ _).alloc (nR _) _⟩
theorem q4w (kind num:Int)(s:ByteArray)(w:World)(hs:s.size<=9223372036854775807)(h0:-9223372036854775808<=num)(h1:num<=9223372036854775807) :
 Calls Tryz.prog 69 #[.agg (Jk kind num s)] w fun e w'=>e=.returned (.string (showB kind num s))/\Below w.heap.size w w':=by
 have HX:=h_ (And.intro h0 h1);clear h0 h1
 have H0:=h_ (Blk.new w 50 (Jk kind num s))
 have HW:Hi (Below w.heap.size w (w.alloc (.cells (Jk kind num s) 50))):=(bR _ _).alloc (nR _) _
 go_enter Tryz.func69,Tryz.ntmps69
 go_wp2_with fail
 refine(q25 kind num s _ hs).mono ?_
 rintro e w1 ⟨rfl,hb1⟩
 replace H0:=mB H0 hb1;replace HW:=mT HW hb1;clear hb1
 obtain⟨z0,z1,z2⟩:=three H0.u
 cases hok:okVal kind num s
 . go_wp2
   go_ret;exact⟨qnh (by simp[showB,hok]),HW.u⟩
 . rcases kinds kind with rfl | rfl | rfl | rfl | rfl | ⟨k0,k1,k2,k3,k4⟩
   . go_wp2
     go_ret;exact⟨qnh (by simp[showB,hok]),HW.u⟩
   . go_wp2_with fail
     refine(q2j num _ HX.u.1 HX.u.2).mono ?_;rintro e w2 ⟨rfl,hb2⟩;replace HW:=mT HW hb2;clear hb2;go_wp2;go_ret;exact⟨qnh (by simp[showB,hok]),HW.u⟩
   . by_cases n1:num=1
     all_goals
      go_wp2;go_ret;exact⟨qnh (by first | (subst n1;simp[showB,hok];done) | (simp[showB,hok,n1])),HW.u⟩
   . have hsz:s.size<=1000:=by simp[okVal]at hok;exact(q9w.1 hok.2).1
     go_wp2;go_ret;exact⟨qnh (by simp[showB,hok]),HW.u⟩
   . go_wp2_with fail
     refine(q2j num _ HX.u.1 HX.u.2).mono ?_;rintro e w2 ⟨rfl,hb2⟩;replace HW:=mT HW hb2;clear hb2;have hl:=qd0 num HX.u.1 HX.u.2;obtain⟨S,hS⟩:∃S:ByteArray,S=⟨(Lib.itoa num).toArray⟩:=⟨_,rfl⟩;rw[<- hS]at hl⊢;have HS:=h_ hS;clear hS;go_wp2;go_ret;exact⟨qnh (by have:=HS.u;simp[showB,hok,this]),HW.u⟩
   . simp[okVal,k0,k1,k2,k3,k4]at hok
theorem q3v (kind num:Int)(s:ByteArray)(w:World)(hs:s.size<=9223372036854775807)(h0:-9223372036854775808<=num)(h1:num<=9223372036854775807)(ht:Pow w) :
 Calls Tryz.prog 125 #[.agg (Jk kind num s)] w fun e w'=>e=.returned (.string (showB kind num s))/\Below w.heap.size w w':=by
 have HX:=h_ (And.intro h0 h1);clear h0 h1
 have H0:=h_ (Blk.new w 50 (Jk kind num s))
 have HW:Hi (Below w.heap.size w (w.alloc (.cells (Jk kind num s) 50))):=(bR _ _).alloc (nR _) _
 go_enter Tryz.func125,Tryz.ntmps125
 go_wp2_with fail
 refine(q1m kind num s _ hs).mono ?_
 rintro e w1 ⟨rfl,hb1⟩
 replace H0:=mB H0 hb1;replace HW:=mT HW hb1;clear hb1
 obtain⟨z0,z1,z2⟩:=three H0.u
 have HT:=h_ (ht.mono HW.u)
 cases hok:okVal kind num s
 . go_wp2
   go_ret;exact⟨qnh (by simp[showB,hok]),HW.u⟩
 . rcases kinds kind with rfl | rfl | rfl | rfl | rfl | ⟨k0,k1,k2,k3,k4⟩
   . go_wp2
     go_ret;exact⟨qnh (by simp[showB,hok]),HW.u⟩
   . go_wp2_with fail
     refine(q2y 1 num s _ HX.u.1 HX.u.2 HT.u).mono ?_;rintro e w2 ⟨rfl,hb2⟩;replace HW:=mT HW hb2;clear hb2;go_wp2;go_ret;exact⟨qnh (by simp[showB,plainB,hok]),HW.u⟩
   . go_wp2_with fail
     refine(q2y 2 num s _ HX.u.1 HX.u.2 HT.u).mono ?_;rintro e w2 ⟨rfl,hb2⟩;replace HW:=mT HW hb2;clear hb2;go_wp2;go_ret;exact⟨qnh (by simp[showB,plainB,hok]),HW.u⟩
   . have hsz:s.size<=1000:=by simp[okVal]at hok;exact(q9w.1 hok.2).1
     go_wp2;go_ret;exact⟨qnh (by simp[showB,hok]),HW.u⟩
   . go_wp2_with fail
     refine(q5i num _ HX.u.1 HX.u.2 HT.u).mono ?_;rintro e w2 ⟨rfl,hb2⟩;replace HW:=mT HW hb2;clear hb2;have hl:=qd0 num HX.u.1 HX.u.2;obtain⟨S,hS⟩:∃S:ByteArray,S=⟨(Lib.itoa num).toArray⟩:=⟨_,rfl⟩;rw[<- hS]at hl⊢;have HS:=h_ hS;clear hS;go_wp2;go_ret;exact⟨qnh (by have:=HS.u;simp[showB,hok,this]),HW.u⟩
   . simp[okVal,k0,k1,k2,k3,k4]at hok
end Go.Proofs.YtgojgjlninakjaaGreatDoor
