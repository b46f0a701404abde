import Derived.Test.YtebbgodlijlioaaGreatDoorW00
import Derived.Lib.ItoaLen
set_option maxRecDepth 100000
set_option maxHeartbeats 64000000
namespace Go.Proofs.YtebbgodlijlioaaGreatDoor
open Go Go.RowKit
def tb (b:Nat):Bool:=decide (32<=b/\b<=126/\b≠34)
theorem q1r (b:Nat)(w:World) :
 Calls Tryz.prog 90 #[.int .u8 b] w fun e w'=>e=.returned (.bool (tb b))/\w'=w:=by
 by_cases h1:32<=b
 . by_cases h2:b<=126
   . by_cases h3:b=34
     all_goals
      go_enter Tryz.func90,Tryz.ntmps90;go_wp2;go_ret;exact⟨qe9 (by first | (subst h3;decide) | (simp[tb,h1,h2,h3] <;> omega)),rfl⟩
   . go_enter Tryz.func90,Tryz.ntmps90
     go_wp2;go_ret;exact⟨qe9 (by simp[tb] <;> omega),rfl⟩
 . go_enter Tryz.func90,Tryz.ntmps90
   go_wp2;go_ret;exact⟨qe9 (by simp[tb] <;> omega),rfl⟩
theorem q1p (b:Nat)(w:World) :
 Calls Tryz.prog 182 #[.int .u8 b] w fun e w'=>e=.returned (.bool (tb b))/\w'=w:=by
 by_cases h1:32<=b
 . by_cases h2:b<=126
   . by_cases h3:b=34
     all_goals
      go_enter Tryz.func182,Tryz.ntmps182;go_wp2;go_ret;exact⟨qe9 (by first | (subst h3;decide) | (simp[tb,h1,h2,h3] <;> omega)),rfl⟩
   . go_enter Tryz.func182,Tryz.ntmps182
     go_wp2;go_ret;exact⟨qe9 (by simp[tb] <;> omega),rfl⟩
 . go_enter Tryz.func182,Tryz.ntmps182
   go_wp2;go_ret;exact⟨qe9 (by simp[tb] <;> omega),rfl⟩
def okText (s:ByteArray):Bool:=decide (s.size<=1000)&&s.data.toList.all fun c=>tb c.toNat
theorem q85 {s:ByteArray}:okText s=true ↔ s.size<=1000/\∀j (hj:j<s.size),tb s[j].toNat=true:=by
 simp only[okText,Yp,Yq,Y4]
 refine and_congr_right fun _=>⟨fun h j hj=>h _ (by simp[ByteArray.getElem_eq_getElem_data]),fun h c hc=>?_⟩
 obtain⟨j,hj,rfl⟩:=Y2.1 hc
 exact h j (by simpa using hj)
theorem q86 {s:ByteArray}(h1:s.size<=1000)(h:∀j (hj:j<s.size),tb s[j].toNat=true):okText s=true:=q85.2 ⟨h1,h⟩
theorem qaj {s:ByteArray}{k:Nat}(hk:k<s.size)(h:tb s[k].toNat=false):okText s=false:=by
 cases e:okText s with
 | false=>rfl
 | true=>have:=(q85.1 e).2 k hk;rw[h]at this;cases this
theorem q1q (s:ByteArray)(w:World)(hs:s.size<=9223372036854775807) :
 Calls Tryz.prog 51 #[.string s] w fun e w'=>e=.returned (.bool (okText s))/\w'=w:=by
 by_cases h1:s.size<=1000
 . go_enter Tryz.func51,Tryz.ntmps51
   go_wp2;go_loopw [3] (fun i wr=>∃k:Nat,k<=s.size/\i=J9 k/\(∀j (hj:j<s.size),j<k->tb (s[j]).toNat=true)/\wr=w) (fun i _=>s.size - (intOf i).toNat)
   case atStart=>exact⟨0,nZ _,rfl,fun j h h'=>absurd h' (nL _),rfl⟩
   case round =>
    obtain⟨k,hk,rfl,heq,rfl⟩:=hrel;have HE:=h_ heq;clear heq;by_cases hlt:k<s.size
    . cases ht:tb s[k].toNat
      . go_wp2_with (go_at_call 90;refine(q1r _ _).mono ?_;rintro e w' ⟨rfl,rfl⟩;rw[ht])
        go_ret;exact⟨qe9 (qaj hlt ht).symm,rfl⟩
      . go_wp2_with (go_at_call 90;refine(q1r _ _).mono ?_;rintro e w' ⟨rfl,rfl⟩;rw[ht])
        go_roundw
        case rel=>exact⟨k+1,by omega,by go_num,fun j hj hk=>by
         by_cases e:j=k
         . subst e;exact ht
         . exact HE.u j hj (by omega),trivial⟩
        case measure=>simp[intOf];omega
    . go_wp2
      go_ret;exact⟨qe9 (q86 h1 fun j hj=>HE.u j hj (by omega)).symm,rfl⟩
 . go_enter Tryz.func51,Tryz.ntmps51
   go_wp2;go_ret;exact⟨qe9 (by simp[okText,h1]),rfl⟩
theorem q78 (s:ByteArray)(w:World)(hs:s.size<=9223372036854775807) :
 Calls Tryz.prog 169 #[.string s] w fun e w'=>e=.returned (.bool (okText s))/\w'=w:=by
 by_cases h1:s.size<=1000
 . go_enter Tryz.func169,Tryz.ntmps169
   go_wp2;go_loopw [9] (fun i wr=>∃k:Nat,k<=s.size/\i=J9 k/\(∀j (hj:j<s.size),j<k->tb (s[j]).toNat=true)/\wr=w) (fun i _=>s.size - (intOf i).toNat)
   case atStart=>exact⟨0,nZ _,rfl,fun j h h'=>absurd h' (nL _),rfl⟩
   case round =>
    obtain⟨k,hk,rfl,heq,rfl⟩:=hrel;have HE:=h_ heq;clear heq;by_cases hlt:k<s.size
    . cases ht:tb s[k].toNat
      . go_wp2_with (go_at_call 182;refine(q1p _ _).mono ?_;rintro e w' ⟨rfl,rfl⟩;rw[ht])
        go_ret;exact⟨qe9 (qaj hlt ht).symm,rfl⟩
      . go_wp2_with (go_at_call 182;refine(q1p _ _).mono ?_;rintro e w' ⟨rfl,rfl⟩;rw[ht])
        go_roundw
        case rel=>exact⟨k+1,by omega,by go_num,fun j hj hk=>by
         by_cases e:j=k
         . subst e;exact ht
         . exact HE.u j hj (by omega),trivial⟩
        case measure=>simp[intOf];omega
    . go_wp2
      go_ret;exact⟨qe9 (q86 h1 fun j hj=>HE.u j hj (by omega)).symm,rfl⟩
 . go_enter Tryz.func169,Tryz.ntmps169
   go_wp2;go_ret;exact⟨qe9 (by simp[okText,h1]),rfl⟩
theorem three {w:World}{b:Nat}{t:TypeId}{v0 v1 v2:Value}(h:Blk w b t [v0,v1,v2]) :
 w.cell? ⟨b,0,none⟩=some v0/\w.cell? ⟨b,1,none⟩=some v1/\w.cell? ⟨b,2,none⟩=some v2:=⟨h.cell 0,h.cell 1,h.cell 2⟩
theorem size0 (s:ByteArray):((s.size:Int)==0)=decide (s.size=0):=by rw[Zn];simp
theorem empty0 (s:ByteArray):s.toList.isEmpty=decide (s.size=0):=by
 rw[Ou]
 obtain⟨⟨l⟩⟩:=s
 cases l <;> simp[ByteArray.size]
def okVal (kind num:Int)(s:ByteArray):Bool :=
 if kind=0 then decide (num=0)&&decide (s.size=0)
 else if kind=1 then decide (s.size=0)
 else if kind=2 then decide (num=0∨num=1)&&decide (s.size=0)
 else if kind=3 then decide (num=0)&&okText s
 else if kind=4 then decide (1<=num/\num<=5)&&decide (s.size=0)
 else false
theorem kinds (k:Int):k=0∨k=1∨k=2∨k=3∨k=4∨(¬ k=0/\¬ k=1/\¬ k=2/\¬ k=3/\¬ k=4):=by omega
theorem nums2 (n:Int):n=0∨n=1∨(¬ n=0/\¬ n=1):=by omega
theorem nums5 (n:Int):n<1∨(1<=n/\5<n)∨(1<=n/\n<=5):=by omega
theorem q24 (kind num:Int)(s:ByteArray)(w:World)(hs:s.size<=9223372036854775807) :
 Calls Tryz.prog 158 #[.agg (J5 kind num s)] w fun e w'=>e=.returned (.bool (okVal kind num s))/\Below w.heap.size w w':=by
 have e0:=size0 s
 have E0:=h_ e0;clear e0
 rcases kinds kind with rfl | rfl | rfl | rfl | rfl | ⟨k0,k1,k2,k3,k4⟩
 . by_cases n0:num=0
   all_goals
    go_enter Tryz.func158,Tryz.ntmps158;go_wp2;go_ret;exact⟨qe9 (by simp[okVal,n0,E0.u]),(bR _ _).alloc (nR _) _⟩
 . go_enter Tryz.func158,Tryz.ntmps158
   go_wp2;go_ret;exact⟨qe9 (by simp[okVal,E0.u]),(bR _ _).alloc (nR _) _⟩
 . rcases nums2 num with rfl | rfl | ⟨n0,n1⟩
   . go_enter Tryz.func158,Tryz.ntmps158
     go_wp2;go_ret;exact⟨qe9 (by simp[okVal,E0.u]),(bR _ _).alloc (nR _) _⟩
   . go_enter Tryz.func158,Tryz.ntmps158
     go_wp2;go_ret;exact⟨qe9 (by simp[okVal,E0.u]),(bR _ _).alloc (nR _) _⟩
   . go_enter Tryz.func158,Tryz.ntmps158
     go_wp2;go_ret;exact⟨qe9 (by simp[okVal,n0,n1]),(bR _ _).alloc (nR _) _⟩
 . by_cases n0:num=0
   . go_enter Tryz.func158,Tryz.ntmps158
     go_wp2_with (go_at_call 51;refine(q1q s _ hs).mono ?_;rintro e w' ⟨rfl,rfl⟩);go_ret;exact⟨qe9 (by simp[okVal,n0]),(bR _ _).alloc (nR _) _⟩
   . go_enter Tryz.func158,Tryz.ntmps158
     go_wp2;go_ret;exact⟨qe9 (by simp[okVal,n0]),(bR _ _).alloc (nR _) _⟩
 . rcases nums5 num with n1 | ⟨n1,n2⟩ | ⟨n1,n2⟩
   . go_enter Tryz.func158,Tryz.ntmps158
     go_wp2;go_ret;exact⟨qe9 (by simp[okVal,show ¬ 1<=num by omega]),(bR _ _).alloc (nR _) _⟩
   . go_enter Tryz.func158,Tryz.ntmps158
     go_wp2;go_ret;exact⟨qe9 (by simp[okVal,show ¬ num<=5 by omega]),(bR _ _).alloc (nR _) _⟩
   . go_enter Tryz.func158,Tryz.ntmps158
     go_wp2;go_ret;exact⟨qe9 (by simp[okVal,n1,n2,E0.u]),(bR _ _).alloc (nR _) _⟩
 . go_enter Tryz.func158,Tryz.ntmps158
   go_wp2;go_ret;exact⟨qe9 (by simp[okVal,k0,k1,k2,k3,k4]),(bR _ _).alloc (nR _) _⟩
theorem q1j (kind num:Int)(s:ByteArray)(w:World)(hs:s.size<=9223372036854775807) :
 Calls Tryz.prog 187 #[.agg (J5 kind num s)] w fun e w'=>e=.returned (.bool (okVal kind num s))/\Below w.heap.size w w':=by
 have e0:=empty0 s
 have E0:=h_ e0;clear e0
 rcases kinds kind with rfl | rfl | rfl | rfl | rfl | ⟨k0,k1,k2,k3,k4⟩
 . by_cases n0:num=0
   all_goals
    go_enter Tryz.func187,Tryz.ntmps187;go_wp2;go_ret;exact⟨qe9 (by simp only[okVal];simp[n0,E0.u]),(bR _ _).alloc (nR _) _⟩
 . go_enter Tryz.func187,Tryz.ntmps187
   go_wp2;go_ret;exact⟨qe9 (by simp[okVal,E0.u]),(bR _ _).alloc (nR _) _⟩
 . rcases nums2 num with rfl | rfl | ⟨n0,n1⟩
   . go_enter Tryz.func187,Tryz.ntmps187
     go_wp2;go_ret;exact⟨qe9 (by simp[okVal,E0.u]),(bR _ _).alloc (nR _) _⟩
   . go_enter Tryz.func187,Tryz.ntmps187
     go_wp2;go_ret;exact⟨qe9 (by simp[okVal,E0.u]),(bR _ _).alloc (nR _) _⟩
   . go_enter Tryz.func187,Tryz.ntmps187
     go_wp2;go_ret;exact⟨qe9 (by simp[okVal,n0,n1]),(bR _ _).alloc (nR _) _⟩
 . by_cases n0:num=0
   . go_enter Tryz.func187,Tryz.ntmps187
     go_wp2_with (go_at_call 169;refine(q78 s _ hs).mono ?_;rintro e w' ⟨rfl,rfl⟩);go_ret;exact⟨qe9 (by simp[okVal,n0]),(bR _ _).alloc (nR _) _⟩
   . go_enter Tryz.func187,Tryz.ntmps187
     go_wp2;go_ret;exact⟨qe9 (by simp[okVal,n0]),(bR _ _).alloc (nR _) _⟩
 . rcases nums5 num with n1 | ⟨n1,n2⟩ | ⟨n1,n2⟩
   . go_enter Tryz.func187,Tryz.ntmps187
     go_wp2;go_ret;exact⟨qe9 (by simp[okVal,show ¬ 1<=num by omega]),(bR _ _).alloc (nR _) _⟩
   . go_enter Tryz.func187,Tryz.ntmps187
     go_wp2;go_ret;exact⟨qe9 (by simp[okVal,show ¬ num<=5 by omega]),(bR _ _).alloc (nR _) _⟩
   . go_enter Tryz.func187,Tryz.ntmps187
     go_wp2;go_ret;exact⟨qe9 (by simp[okVal,n1,n2,E0.u]),(bR _ _).alloc (nR _) _⟩
 . go_enter Tryz.func187,Tryz.ntmps187
   go_wp2;go_ret;exact⟨qe9 (by simp[okVal,k0,k1,k2,k3,k4]),(bR _ _).alloc (nR _) _⟩
end Go.Proofs.YtebbgodlijlioaaGreatDoor
namespace Go.Proofs.YtebbgodlijlioaaGreatDoor
open Go
def showB (kind num:Int)(s:ByteArray):ByteArray :=
 if okVal kind num s then
  if kind=0 then ⟨#[98,108,97,110,107]⟩
  else if kind=1 then ⟨(Lib.itoa num).toArray⟩
  else if kind=2 then (if num=1 then ⟨#[116,114,117,101]⟩ else ⟨#[102,97,108,115,101]⟩)
  else if kind=3 then ⟨#[34]⟩++s++⟨#[34]⟩
  else ⟨#[33]⟩++⟨(Lib.itoa num).toArray⟩
 else ⟨#[63]⟩
theorem bsz (a:Array UInt8):(⟨a⟩:ByteArray).size=a.size:=rfl
theorem qa1 (x:Int)(h0:-9223372036854775808<=x)(h1:x<=9223372036854775807):(⟨(Lib.itoa x).toArray⟩:ByteArray).size<=21:=Lib.itoa_length_le x h0 h1
theorem qh8 (x:Int):1<=(Lib.itoa x).length:=by
 unfold Lib.itoa
 split
 . simp
 . rw[Lib.decDigits_length];exact Lib.nDigits_pos _
theorem q8g (kind num:Int)(s:ByteArray)(h:okVal kind num s=true)(h0:0<=num)(h1:num<=9223372036854775807):1+s.size<=(showB kind num s).size/\(showB kind num s).size<=1050:=by
 have hi:=qa1 num (by omega) h1
 have hj:1<=(⟨(Lib.itoa num).toArray⟩:ByteArray).size:=qh8 num
 unfold showB
 rw[Yy h]
 unfold okVal at h
 by_cases k0:kind=0
 . rw[Yy k0]at h⊢;simp only[Yp,Yq]at h;simp only[bsz,Zj,Yw,Y5];omega
 rw[Yu k0]at h⊢
 by_cases k1:kind=1
 . rw[Yy k1]at h⊢;simp only[Yq]at h;omega
 rw[Yu k1]at h⊢
 by_cases k2:kind=2
 . rw[Yy k2]at h⊢;simp only[Yp,Yq]at h;split <;> simp only[bsz,Zj,Yw,Y5] <;> omega
 rw[Yu k2]at h⊢
 by_cases k3:kind=3
 . rw[Yy k3]at h⊢;simp only[Yp,Yq]at h
   have:=(q85.1 h.2).1;simp only[Yn,bsz,Zj,Yw,Y5];omega
 rw[Yu k3]at h⊢
 by_cases k4:kind=4
 . rw[Yy k4]at h;simp only[Yp,Yq]at h
   simp only[Yn];have e:(⟨#[33]⟩:ByteArray).size=1:=rfl;omega
 . rw[Yu k4]at h;cases h
end Go.Proofs.YtebbgodlijlioaaGreatDoor
