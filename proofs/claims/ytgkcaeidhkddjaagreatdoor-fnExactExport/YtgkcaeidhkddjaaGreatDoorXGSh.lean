import Derived.Test.YtgkcaeidhkddjaaGreatDoorXGDi
import Derived.Test.YtgkcaeidhkddjaaGreatDoorXShowM
import Derived.Test.YtgkcaeidhkddjaaGreatDoorShelf
import Derived.Lib.AppendIntMem
set_option maxRecDepth 100000
set_option maxHeartbeats 20000000
namespace Go.Proofs.YtgkcaeidhkddjaaGreatDoor
open Go Go.RowKit
theorem qka {a b:ByteArray} (h:a=b):Ending.returned (.string a)=.returned (.string b):=by rw [h]
def Pow (w:World):Prop:=Lib.TabIs Tryz.prog w "internal/strconv.uint64pow10" .u64 Lib.pow10Tab
theorem Pow.mono {w w':World} (h:Pow w) (hb:Below w.heap.size w w'):Pow w':=Lib.tabBelow_of_tabIs h w' hb
theorem q4x (x:Int) (w:World) (h0:-9223372036854775808<=x) (h1:x<=9223372036854775807) (ht:Pow w) :
 Calls Tryz.prog 54 #[.int .i64 x] w fun e w'=>e=.returned (.string ⟨(Lib.itoa x).toArray⟩)/\Below w.heap.size w w':=by
 have HX:=h_ (And.intro h0 h1);clear h0 h1
 go_enter Tryz.func54,Tryz.ntmps54
 go_wp2_with fail
 refine (Tryz.strconv_FormatInt_10 x (u_ HX).1 (u_ HX).2 _ ht).mono ?_
 rintro e w1 ⟨rfl,k,os,rfl⟩
 have hb:=h_ (Lib.below_grow w.heap.size w (nR _) k os)
 go_wp2
 go_ret
 exact ⟨rfl,u_ hb⟩
theorem qi4:(⟨(Lib.formatBool true).toArray⟩:ByteArray)=⟨#[116,114,117,101]⟩:=by decide +kernel
theorem qe2:(⟨(Lib.formatBool false).toArray⟩:ByteArray)=⟨#[102,97,108,115,101]⟩:=by decide +kernel
def plainB (kind num:Int) (s:ByteArray):ByteArray :=
 if kind=1 then ⟨(Lib.itoa num).toArray⟩ else if kind=2 then (if num=1 then ⟨#[116,114,117,101]⟩ else ⟨#[102,97,108,115,101]⟩) else s
theorem q2r (kind num:Int) (s:ByteArray) (w:World) (h0:-9223372036854775808<=num) (h1:num<=9223372036854775807) (ht:Pow w) :
 Calls Tryz.prog 90 #[.agg #[.int .i64 kind,.int .i64 num,.string s]] w fun e w'=>e=.returned (.string (plainB kind num s))/\Below w.heap.size w w':=by
 have HX:=h_ (And.intro h0 h1);clear h0 h1
 have HW:Hid (Below w.heap.size w (w.alloc (.cells #[.int .i64 kind,.int .i64 num,.string s] 54))):=(bR _ _).alloc (nR _) _
 by_cases k1:kind=1
 . subst k1
   go_enter Tryz.func90,Tryz.ntmps90
   go_wp2_with fail
   refine (q4x num _ (u_ HX).1 (u_ HX).2 (ht.mono (u_ HW))).mono ?_
   rintro e w2 ⟨rfl,hb2⟩
   replace HW:=mT HW hb2;clear hb2
   go_wp2
   go_ret
   exact ⟨qka (by simp [plainB]),u_ HW⟩
 . by_cases k2:kind=2
   . subst k2
     by_cases n1:num=1
     . subst n1
       go_enter Tryz.func90,Tryz.ntmps90
       go_wp2_with fail
       refine (Tryz.strconv_FormatBool true _).mono ?_
       rintro e w2 ⟨rfl,rfl⟩
       rw [qi4]
       go_wp2
       go_ret
       exact ⟨qka (by simp [plainB]),u_ HW⟩
     . have hf:(num == 1)=false:=by simpa using n1
       go_enter Tryz.func90,Tryz.ntmps90
       go_wp2_with fail
       refine (Tryz.strconv_FormatBool false _).mono ?_
       rintro e w2 ⟨rfl,rfl⟩
       rw [qe2]
       go_wp2
       go_ret
       exact ⟨qka (by simp [plainB,n1]),u_ HW⟩
   . go_enter Tryz.func90,Tryz.ntmps90
     go_wp2
     go_ret
     exact ⟨qka (by simp [plainB,k1,k2]),u_ HW⟩
theorem q4d (kind num:Int) (s:ByteArray) (w:World) (hs:s.size<=9223372036854775807) (h0:-9223372036854775808<=num) (h1:num<=9223372036854775807) :
 Calls Tryz.prog 72 #[.agg #[.int .i64 kind,.int .i64 num,.string s]] w fun e w'=>e=.returned (.string (showB kind num s))/\Below w.heap.size w w':=by
 have HX:=h_ (And.intro h0 h1);clear h0 h1
 have H0:=h_ (Blk.new w 54 #[.int .i64 kind,.int .i64 num,.string s])
 have HW:Hid (Below w.heap.size w (w.alloc (.cells #[.int .i64 kind,.int .i64 num,.string s] 54))):=(bR _ _).alloc (nR _) _
 go_enter Tryz.func72,Tryz.ntmps72
 go_wp2_with fail
 refine (q22 kind num s _ hs).mono ?_
 rintro e w1 ⟨rfl,hb1⟩
 replace H0:=mB H0 hb1;replace HW:=mT HW hb1;clear hb1
 obtain ⟨z0,z1,z2⟩:=three (u_ H0)
 cases hok:okVal kind num s
 . go_wp2
   go_ret
   exact ⟨qka (by simp [showB,hok]),u_ HW⟩
 . rcases kinds kind with rfl | rfl | rfl | rfl | rfl | ⟨k0,k1,k2,k3,k4⟩
   . go_wp2
     go_ret
     exact ⟨qka (by simp [showB,hok]),u_ HW⟩
   . go_wp2_with fail
     refine (q2g num _ (u_ HX).1 (u_ HX).2).mono ?_
     rintro e w2 ⟨rfl,hb2⟩
     replace HW:=mT HW hb2;clear hb2
     go_wp2
     go_ret
     exact ⟨qka (by simp [showB,hok]),u_ HW⟩
   . by_cases n1:num=1
     all_goals
      go_wp2
      go_ret
      exact ⟨qka (by first | (subst n1;simp [showB,hok];done) | (simp [showB,hok,n1])),u_ HW⟩
   . have hsz:s.size<=1000:=by simp [okVal] at hok;exact (q8u.1 hok.2).1
     go_wp2
     go_ret
     exact ⟨qka (by simp [showB,hok]),u_ HW⟩
   . go_wp2_with fail
     refine (q2g num _ (u_ HX).1 (u_ HX).2).mono ?_
     rintro e w2 ⟨rfl,hb2⟩
     replace HW:=mT HW hb2;clear hb2
     have hl:=qbj num (u_ HX).1 (u_ HX).2
     obtain ⟨S,hS⟩:∃ S:ByteArray,S=⟨(Lib.itoa num).toArray⟩:=⟨_,rfl⟩
     rw [<- hS] at hl ⊢
     have HS:=h_ hS;clear hS
     go_wp2
     go_ret
     exact ⟨qka (by have:=u_ HS;simp [showB,hok,this]),u_ HW⟩
   . simp [okVal,k0,k1,k2,k3,k4] at hok
theorem q3q (kind num:Int) (s:ByteArray) (w:World) (hs:s.size<=9223372036854775807) (h0:-9223372036854775808<=num) (h1:num<=9223372036854775807) (ht:Pow w) :
 Calls Tryz.prog 55 #[.agg #[.int .i64 kind,.int .i64 num,.string s]] w fun e w'=>e=.returned (.string (showB kind num s))/\Below w.heap.size w w':=by
 have HX:=h_ (And.intro h0 h1);clear h0 h1
 have H0:=h_ (Blk.new w 54 #[.int .i64 kind,.int .i64 num,.string s])
 have HW:Hid (Below w.heap.size w (w.alloc (.cells #[.int .i64 kind,.int .i64 num,.string s] 54))):=(bR _ _).alloc (nR _) _
 go_enter Tryz.func55,Tryz.ntmps55
 go_wp2_with fail
 refine (q1k kind num s _ hs).mono ?_
 rintro e w1 ⟨rfl,hb1⟩
 replace H0:=mB H0 hb1;replace HW:=mT HW hb1;clear hb1
 obtain ⟨z0,z1,z2⟩:=three (u_ H0)
 have HT:=h_ (ht.mono (u_ HW))
 cases hok:okVal kind num s
 . go_wp2
   go_ret
   exact ⟨qka (by simp [showB,hok]),u_ HW⟩
 . rcases kinds kind with rfl | rfl | rfl | rfl | rfl | ⟨k0,k1,k2,k3,k4⟩
   . go_wp2
     go_ret
     exact ⟨qka (by simp [showB,hok]),u_ HW⟩
   . go_wp2_with fail
     refine (q2r 1 num s _ (u_ HX).1 (u_ HX).2 (u_ HT)).mono ?_
     rintro e w2 ⟨rfl,hb2⟩
     replace HW:=mT HW hb2;clear hb2
     go_wp2
     go_ret
     exact ⟨qka (by simp [showB,plainB,hok]),u_ HW⟩
   . go_wp2_with fail
     refine (q2r 2 num s _ (u_ HX).1 (u_ HX).2 (u_ HT)).mono ?_
     rintro e w2 ⟨rfl,hb2⟩
     replace HW:=mT HW hb2;clear hb2
     go_wp2
     go_ret
     exact ⟨qka (by simp [showB,plainB,hok]),u_ HW⟩
   . have hsz:s.size<=1000:=by simp [okVal] at hok;exact (q8u.1 hok.2).1
     go_wp2
     go_ret
     exact ⟨qka (by simp [showB,hok]),u_ HW⟩
   . go_wp2_with fail
     refine (q4x num _ (u_ HX).1 (u_ HX).2 (u_ HT)).mono ?_
     rintro e w2 ⟨rfl,hb2⟩
     replace HW:=mT HW hb2;clear hb2
     have hl:=qbj num (u_ HX).1 (u_ HX).2
     obtain ⟨S,hS⟩:∃ S:ByteArray,S=⟨(Lib.itoa num).toArray⟩:=⟨_,rfl⟩
     rw [<- hS] at hl ⊢
     have HS:=h_ hS;clear hS
     go_wp2
     go_ret
     exact ⟨qka (by have:=u_ HS;simp [showB,hok,this]),u_ HW⟩
   . simp [okVal,k0,k1,k2,k3,k4] at hok
end Go.Proofs.YtgkcaeidhkddjaaGreatDoor
