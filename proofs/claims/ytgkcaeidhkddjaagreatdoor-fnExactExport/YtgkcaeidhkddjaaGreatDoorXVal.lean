import Derived.Test.YtgkcaeidhkddjaaGreatDoorXBase
set_option maxRecDepth 100000
set_option maxHeartbeats 20000000
namespace Go.Proofs.YtgkcaeidhkddjaaGreatDoor
open Go Go.RowKit
def tb (b:Nat):Bool:=decide (32<=b/\b<=126/\b ≠ 34)
theorem q1s (b:Nat) (w:World) :
 Calls Tryz.prog 135 #[.int .u8 b] w fun e w'=>e=.returned (.bool (tb b))/\w'=w:=by
 by_cases h1:32<=b
 . by_cases h2:b<=126
   . by_cases h3:b=34
     all_goals
      go_enter Tryz.func135,Tryz.ntmps135
      go_wp2
      go_ret
      exact ⟨qfz (by first | (subst h3;decide) | (simp [tb,h1,h2,h3] <;> omega)),rfl⟩
   . go_enter Tryz.func135,Tryz.ntmps135
     go_wp2
     go_ret
     exact ⟨qfz (by simp [tb] <;> omega),rfl⟩
 . go_enter Tryz.func135,Tryz.ntmps135
   go_wp2
   go_ret
   exact ⟨qfz (by simp [tb] <;> omega),rfl⟩
theorem q1q (b:Nat) (w:World) :
 Calls Tryz.prog 154 #[.int .u8 b] w fun e w'=>e=.returned (.bool (tb b))/\w'=w:=by
 by_cases h1:32<=b
 . by_cases h2:b<=126
   . by_cases h3:b=34
     all_goals
      go_enter Tryz.func154,Tryz.ntmps154
      go_wp2
      go_ret
      exact ⟨qfz (by first | (subst h3;decide) | (simp [tb,h1,h2,h3] <;> omega)),rfl⟩
   . go_enter Tryz.func154,Tryz.ntmps154
     go_wp2
     go_ret
     exact ⟨qfz (by simp [tb] <;> omega),rfl⟩
 . go_enter Tryz.func154,Tryz.ntmps154
   go_wp2
   go_ret
   exact ⟨qfz (by simp [tb] <;> omega),rfl⟩
def okText (s:ByteArray):Bool:=decide (s.size<=1000)&&s.data.toList.all fun c=>tb c.toNat
theorem q8u {s:ByteArray}:okText s=true ↔ s.size<=1000/\∀ j (hj:j<s.size),tb s[j].toNat=true:=by
 simp only [okText,Bool.and_eq_true,decide_eq_true_eq,List.all_eq_true]
 refine and_congr_right fun _=>⟨fun h j hj=>h _ (by simp [ByteArray.getElem_eq_getElem_data]),fun h c hc=>?_⟩
 obtain ⟨j,hj,rfl⟩:=List.mem_iff_getElem.1 hc
 exact h j (by simpa using hj)
theorem q8v {s:ByteArray} (h1:s.size<=1000) (h:∀ j (hj:j<s.size),tb s[j].toNat=true):okText s=true:=q8u.2 ⟨h1,h⟩
theorem qc3 {s:ByteArray} {k:Nat} (hk:k<s.size) (h:tb s[k].toNat=false):okText s=false:=by
 cases e:okText s with
 | false=>rfl
 | true=>have:=(q8u.1 e).2 k hk;rw [h] at this;cases this
theorem q1r (s:ByteArray) (w:World) (hs:s.size<=9223372036854775807) :
 Calls Tryz.prog 108 #[.string s] w fun e w'=>e=.returned (.bool (okText s))/\w'=w:=by
 by_cases h1:s.size<=1000
 . go_enter Tryz.func108,Tryz.ntmps108
   go_wp2
   go_loopw [3] (fun i wr=>∃ k:Nat,k<=s.size/\i=.int .i64 k/\(∀ j (hj:j<s.size),j<k->tb (s[j]).toNat=true)/\wr=w) (fun i _=>s.size - (intOf i).toNat)
   case atStart=>exact ⟨0,nZ _,rfl,fun j h h'=>absurd h' (nL _),rfl⟩
   case round =>
    obtain ⟨k,hk,rfl,heq,rfl⟩:=hrel
    have HE:=h_ heq;clear heq
    by_cases hlt:k<s.size
    . cases ht:tb s[k].toNat
      . go_wp2_with (go_at_call 135;refine (q1s _ _).mono ?_;rintro e w' ⟨rfl,rfl⟩;rw [ht])
        go_ret
        exact ⟨qfz (qc3 hlt ht).symm,rfl⟩
      . go_wp2_with (go_at_call 135;refine (q1s _ _).mono ?_;rintro e w' ⟨rfl,rfl⟩;rw [ht])
        go_roundw
        case rel=>exact ⟨k+1,by omega,by go_num,fun j hj hk=>by
         by_cases e:j=k
         . subst e;exact ht
         . exact u_ HE j hj (by omega),trivial⟩
        case measure=>simp [intOf];omega
    . go_wp2
      go_ret
      exact ⟨qfz (q8v h1 fun j hj=>u_ HE j hj (by omega)).symm,rfl⟩
 . go_enter Tryz.func108,Tryz.ntmps108
   go_wp2
   go_ret
   exact ⟨qfz (by simp [okText,h1]),rfl⟩
theorem q87 (s:ByteArray) (w:World) (hs:s.size<=9223372036854775807) :
 Calls Tryz.prog 123 #[.string s] w fun e w'=>e=.returned (.bool (okText s))/\w'=w:=by
 by_cases h1:s.size<=1000
 . go_enter Tryz.func123,Tryz.ntmps123
   go_wp2
   go_loopw [9] (fun i wr=>∃ k:Nat,k<=s.size/\i=.int .i64 k/\(∀ j (hj:j<s.size),j<k->tb (s[j]).toNat=true)/\wr=w) (fun i _=>s.size - (intOf i).toNat)
   case atStart=>exact ⟨0,nZ _,rfl,fun j h h'=>absurd h' (nL _),rfl⟩
   case round =>
    obtain ⟨k,hk,rfl,heq,rfl⟩:=hrel
    have HE:=h_ heq;clear heq
    by_cases hlt:k<s.size
    . cases ht:tb s[k].toNat
      . go_wp2_with (go_at_call 154;refine (q1q _ _).mono ?_;rintro e w' ⟨rfl,rfl⟩;rw [ht])
        go_ret
        exact ⟨qfz (qc3 hlt ht).symm,rfl⟩
      . go_wp2_with (go_at_call 154;refine (q1q _ _).mono ?_;rintro e w' ⟨rfl,rfl⟩;rw [ht])
        go_roundw
        case rel=>exact ⟨k+1,by omega,by go_num,fun j hj hk=>by
         by_cases e:j=k
         . subst e;exact ht
         . exact u_ HE j hj (by omega),trivial⟩
        case measure=>simp [intOf];omega
    . go_wp2
      go_ret
      exact ⟨qfz (q8v h1 fun j hj=>u_ HE j hj (by omega)).symm,rfl⟩
 . go_enter Tryz.func123,Tryz.ntmps123
   go_wp2
   go_ret
   exact ⟨qfz (by simp [okText,h1]),rfl⟩
theorem three {w:World} {b:Nat} {t:TypeId} {v0 v1 v2:Value} (h:Blk w b t [v0,v1,v2]) :
 w.cell? ⟨b,0,none⟩=some v0/\w.cell? ⟨b,1,none⟩=some v1/\w.cell? ⟨b,2,none⟩=some v2:=⟨h.cell 0,h.cell 1,h.cell 2⟩
theorem size0 (s:ByteArray):((s.size:Int) == 0)=decide (s.size=0):=by rw [Bool.eq_iff_iff];simp
theorem empty0 (s:ByteArray):s.toList.isEmpty=decide (s.size=0):=by
 rw [ByteArray.toList_eq]
 obtain ⟨⟨l⟩⟩:=s
 cases l <;> simp [ByteArray.size]
def okVal (kind num:Int) (s:ByteArray):Bool :=
 if kind=0 then decide (num=0)&&decide (s.size=0)
 else if kind=1 then decide (s.size=0)
 else if kind=2 then decide (num=0 ∨ num=1)&&decide (s.size=0)
 else if kind=3 then decide (num=0)&&okText s
 else if kind=4 then decide (1<=num/\num<=5)&&decide (s.size=0)
 else false
theorem kinds (k:Int):k=0 ∨ k=1 ∨ k=2 ∨ k=3 ∨ k=4 ∨ (¬ k=0/\¬ k=1/\¬ k=2/\¬ k=3/\¬ k=4):=by omega
theorem nums2 (n:Int):n=0 ∨ n=1 ∨ (¬ n=0/\¬ n=1):=by omega
theorem nums5 (n:Int):n<1 ∨ (1<=n/\5<n) ∨ (1<=n/\n<=5):=by omega
theorem q22 (kind num:Int) (s:ByteArray) (w:World) (hs:s.size<=9223372036854775807) :
 Calls Tryz.prog 70 #[.agg #[.int .i64 kind,.int .i64 num,.string s]] w fun e w'=>e=.returned (.bool (okVal kind num s))/\Below w.heap.size w w':=by
 have e0:=size0 s
 have E0:=h_ e0;clear e0
 rcases kinds kind with rfl | rfl | rfl | rfl | rfl | ⟨k0,k1,k2,k3,k4⟩
 . by_cases n0:num=0
   all_goals
    go_enter Tryz.func70,Tryz.ntmps70
    go_wp2
    go_ret
    exact ⟨qfz (by simp [okVal,n0,u_ E0]),(bR _ _).alloc (nR _) _⟩
 . go_enter Tryz.func70,Tryz.ntmps70
   go_wp2
   go_ret
   exact ⟨qfz (by simp [okVal,u_ E0]),(bR _ _).alloc (nR _) _⟩
 . rcases nums2 num with rfl | rfl | ⟨n0,n1⟩
   . go_enter Tryz.func70,Tryz.ntmps70
     go_wp2
     go_ret
     exact ⟨qfz (by simp [okVal,u_ E0]),(bR _ _).alloc (nR _) _⟩
   . go_enter Tryz.func70,Tryz.ntmps70
     go_wp2
     go_ret
     exact ⟨qfz (by simp [okVal,u_ E0]),(bR _ _).alloc (nR _) _⟩
   . go_enter Tryz.func70,Tryz.ntmps70
     go_wp2
     go_ret
     exact ⟨qfz (by simp [okVal,n0,n1]),(bR _ _).alloc (nR _) _⟩
 . by_cases n0:num=0
   . go_enter Tryz.func70,Tryz.ntmps70
     go_wp2_with (go_at_call 108;refine (q1r s _ hs).mono ?_;rintro e w' ⟨rfl,rfl⟩)
     go_ret
     exact ⟨qfz (by simp [okVal,n0]),(bR _ _).alloc (nR _) _⟩
   . go_enter Tryz.func70,Tryz.ntmps70
     go_wp2
     go_ret
     exact ⟨qfz (by simp [okVal,n0]),(bR _ _).alloc (nR _) _⟩
 . rcases nums5 num with n1 | ⟨n1,n2⟩ | ⟨n1,n2⟩
   . go_enter Tryz.func70,Tryz.ntmps70
     go_wp2
     go_ret
     exact ⟨qfz (by simp [okVal,show ¬ 1<=num by omega]),(bR _ _).alloc (nR _) _⟩
   . go_enter Tryz.func70,Tryz.ntmps70
     go_wp2
     go_ret
     exact ⟨qfz (by simp [okVal,show ¬ num<=5 by omega]),(bR _ _).alloc (nR _) _⟩
   . go_enter Tryz.func70,Tryz.ntmps70
     go_wp2
     go_ret
     exact ⟨qfz (by simp [okVal,n1,n2,u_ E0]),(bR _ _).alloc (nR _) _⟩
 . go_enter Tryz.func70,Tryz.ntmps70
   go_wp2
   go_ret
   exact ⟨qfz (by simp [okVal,k0,k1,k2,k3,k4]),(bR _ _).alloc (nR _) _⟩
theorem q1k (kind num:Int) (s:ByteArray) (w:World) (hs:s.size<=9223372036854775807) :
 Calls Tryz.prog 89 #[.agg #[.int .i64 kind,.int .i64 num,.string s]] w fun e w'=>e=.returned (.bool (okVal kind num s))/\Below w.heap.size w w':=by
 have e0:=empty0 s
 have E0:=h_ e0;clear e0
 rcases kinds kind with rfl | rfl | rfl | rfl | rfl | ⟨k0,k1,k2,k3,k4⟩
 . by_cases n0:num=0
   all_goals
    go_enter Tryz.func89,Tryz.ntmps89
    go_wp2
    go_ret
    exact ⟨qfz (by simp only [okVal];simp [n0,u_ E0]),(bR _ _).alloc (nR _) _⟩
 . go_enter Tryz.func89,Tryz.ntmps89
   go_wp2
   go_ret
   exact ⟨qfz (by simp [okVal,u_ E0]),(bR _ _).alloc (nR _) _⟩
 . rcases nums2 num with rfl | rfl | ⟨n0,n1⟩
   . go_enter Tryz.func89,Tryz.ntmps89
     go_wp2
     go_ret
     exact ⟨qfz (by simp [okVal,u_ E0]),(bR _ _).alloc (nR _) _⟩
   . go_enter Tryz.func89,Tryz.ntmps89
     go_wp2
     go_ret
     exact ⟨qfz (by simp [okVal,u_ E0]),(bR _ _).alloc (nR _) _⟩
   . go_enter Tryz.func89,Tryz.ntmps89
     go_wp2
     go_ret
     exact ⟨qfz (by simp [okVal,n0,n1]),(bR _ _).alloc (nR _) _⟩
 . by_cases n0:num=0
   . go_enter Tryz.func89,Tryz.ntmps89
     go_wp2_with (go_at_call 123;refine (q87 s _ hs).mono ?_;rintro e w' ⟨rfl,rfl⟩)
     go_ret
     exact ⟨qfz (by simp [okVal,n0]),(bR _ _).alloc (nR _) _⟩
   . go_enter Tryz.func89,Tryz.ntmps89
     go_wp2
     go_ret
     exact ⟨qfz (by simp [okVal,n0]),(bR _ _).alloc (nR _) _⟩
 . rcases nums5 num with n1 | ⟨n1,n2⟩ | ⟨n1,n2⟩
   . go_enter Tryz.func89,Tryz.ntmps89
     go_wp2
     go_ret
     exact ⟨qfz (by simp [okVal,show ¬ 1<=num by omega]),(bR _ _).alloc (nR _) _⟩
   . go_enter Tryz.func89,Tryz.ntmps89
     go_wp2
     go_ret
     exact ⟨qfz (by simp [okVal,show ¬ num<=5 by omega]),(bR _ _).alloc (nR _) _⟩
   . go_enter Tryz.func89,Tryz.ntmps89
     go_wp2
     go_ret
     exact ⟨qfz (by simp [okVal,n1,n2,u_ E0]),(bR _ _).alloc (nR _) _⟩
 . go_enter Tryz.func89,Tryz.ntmps89
   go_wp2
   go_ret
   exact ⟨qfz (by simp [okVal,k0,k1,k2,k3,k4]),(bR _ _).alloc (nR _) _⟩
end Go.Proofs.YtgkcaeidhkddjaaGreatDoor
