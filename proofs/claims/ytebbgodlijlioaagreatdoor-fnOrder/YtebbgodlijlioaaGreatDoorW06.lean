import Derived.Test.YtebbgodlijlioaaGreatDoorW04
set_option maxRecDepth 100000
set_option maxHeartbeats 64000000
namespace Go.Proofs.YtebbgodlijlioaaGreatDoor
open Go Go.RowKit
theorem q5f (b:Nat)(w:World):Calls Tryz.prog 87 #[.int .u8 b] w fun e w'=>e=.returned (.bool (small b))/\w'=w:=by
 by_cases h1:97<=b
 . by_cases h2:b<=122
   . rw[show small b=true by simp[small];omega]
     go_enter Tryz.func87,Tryz.ntmps87;go_wp2;go_ret;exact⟨qg2 (by simp;omega),rfl⟩
   . rw[show small b=false by simp[small];omega]
     go_enter Tryz.func87,Tryz.ntmps87;go_wp2;go_ret;exact⟨qg2 (by simp;omega),rfl⟩
 . rw[show small b=false by simp[small];omega]
   go_enter Tryz.func87,Tryz.ntmps87;go_wp2;go_ret;exact⟨by rfl,rfl⟩
theorem q0w (b:Nat)(w:World):Calls Tryz.prog 157 #[.int .u8 b] w fun e w'=>e=.returned (.bool (digitB b))/\w'=w:=by
 by_cases h1:48<=b
 . by_cases h2:b<=57
   . rw[show digitB b=true by simp[digitB];omega]
     go_enter Tryz.func157,Tryz.ntmps157;go_wp2;go_ret;exact⟨qg2 (by simp;omega),rfl⟩
   . rw[show digitB b=false by simp[digitB];omega]
     go_enter Tryz.func157,Tryz.ntmps157;go_wp2;go_ret;exact⟨qg2 (by simp;omega),rfl⟩
 . rw[show digitB b=false by simp[digitB];omega]
   go_enter Tryz.func157,Tryz.ntmps157;go_wp2;go_ret;exact⟨by rfl,rfl⟩
theorem q3j (b:Nat)(w:World):Calls Tryz.prog 178 #[.int .u8 b] w fun e w'=>e=.returned (.bool (small b))/\w'=w:=by
 by_cases h1:97<=b
 . by_cases h2:b<=122
   . rw[show small b=true by simp[small];omega]
     go_enter Tryz.func178,Tryz.ntmps178;go_wp2;go_ret;exact⟨qg2 (by simp;omega),rfl⟩
   . rw[show small b=false by simp[small];omega]
     go_enter Tryz.func178,Tryz.ntmps178;go_wp2;go_ret;exact⟨qg2 (by simp;omega),rfl⟩
 . rw[show small b=false by simp[small];omega]
   go_enter Tryz.func178,Tryz.ntmps178;go_wp2;go_ret;exact⟨by rfl,rfl⟩
theorem q53 (b:Nat)(w:World):Calls Tryz.prog 190 #[.int .u8 b] w fun e w'=>e=.returned (.bool (digitB b))/\w'=w:=by
 by_cases h1:48<=b
 . by_cases h2:b<=57
   . rw[show digitB b=true by simp[digitB];omega]
     go_enter Tryz.func190,Tryz.ntmps190;go_wp2;go_ret;exact⟨qg2 (by simp;omega),rfl⟩
   . rw[show digitB b=false by simp[digitB];omega]
     go_enter Tryz.func190,Tryz.ntmps190;go_wp2;go_ret;exact⟨qg2 (by simp;omega),rfl⟩
 . rw[show digitB b=false by simp[digitB];omega]
   go_enter Tryz.func190,Tryz.ntmps190;go_wp2;go_ret;exact⟨by rfl,rfl⟩
theorem q1s (b:Nat)(w:World):Calls Tryz.prog 125 #[.int .u8 b] w fun e w'=>e=.returned (.bool (nameB b))/\w'=w:=by
 have e:nameB b=(small b||digitB b||decide (b=95)):=rfl
 cases h1:small b
 . cases h2:digitB b
   . by_cases h3:b=95
     . subst h3
       rw[show nameB 95=true from rfl];clear e;go_enter Tryz.func125,Tryz.ntmps125;go_wp2_with (first | (go_at_call 87;refine(q5f _ _).mono ?_;rintro e w' ⟨rfl,rfl⟩;rw[h1]) | (go_at_call 157;refine(q0w _ _).mono ?_;rintro e w' ⟨rfl,rfl⟩;rw[h2]));go_ret;exact⟨by simp,rfl⟩
     . rw[show nameB b=false by rw[e,h1,h2];simpa using h3]
       have h4:((b:Int)==95)=false:=Yf.2 (by omega);clear e h3;go_enter Tryz.func125,Tryz.ntmps125;go_wp2_with (first | (go_at_call 87;refine(q5f _ _).mono ?_;rintro e w' ⟨rfl,rfl⟩;rw[h1]) | (go_at_call 157;refine(q0w _ _).mono ?_;rintro e w' ⟨rfl,rfl⟩;rw[h2]));go_ret;exact⟨by simp,rfl⟩
   . rw[show nameB b=true by rw[e,h1,h2];rfl]
     clear e;go_enter Tryz.func125,Tryz.ntmps125;go_wp2_with (first | (go_at_call 87;refine(q5f _ _).mono ?_;rintro e w' ⟨rfl,rfl⟩;rw[h1]) | (go_at_call 157;refine(q0w _ _).mono ?_;rintro e w' ⟨rfl,rfl⟩;rw[h2]));go_ret;exact⟨by rfl,rfl⟩
 . rw[show nameB b=true by rw[e,h1];rfl]
   clear e;go_enter Tryz.func125,Tryz.ntmps125;go_wp2_with (go_at_call 87;refine(q5f _ _).mono ?_;rintro e w' ⟨rfl,rfl⟩;rw[h1]);go_ret;exact⟨by rfl,rfl⟩
theorem q1i (b:Nat)(w:World):Calls Tryz.prog 180 #[.int .u8 b] w fun e w'=>e=.returned (.bool (nameB b))/\w'=w:=by
 have e:nameB b=(small b||digitB b||decide (b=95)):=rfl
 cases h1:small b
 . cases h2:digitB b
   . by_cases h3:b=95
     . subst h3
       rw[show nameB 95=true from rfl];clear e;go_enter Tryz.func180,Tryz.ntmps180;go_wp2_with (first | (go_at_call 178;refine(q3j _ _).mono ?_;rintro e w' ⟨rfl,rfl⟩;rw[h1]) | (go_at_call 190;refine(q53 _ _).mono ?_;rintro e w' ⟨rfl,rfl⟩;rw[h2]));go_ret;exact⟨by simp,rfl⟩
     . rw[show nameB b=false by rw[e,h1,h2];simpa using h3]
       have h4:((b:Int)==95)=false:=Yf.2 (by omega);clear e h3;go_enter Tryz.func180,Tryz.ntmps180;go_wp2_with (first | (go_at_call 178;refine(q3j _ _).mono ?_;rintro e w' ⟨rfl,rfl⟩;rw[h1]) | (go_at_call 190;refine(q53 _ _).mono ?_;rintro e w' ⟨rfl,rfl⟩;rw[h2]));go_ret;exact⟨by simp,rfl⟩
   . rw[show nameB b=true by rw[e,h1,h2];rfl]
     clear e;go_enter Tryz.func180,Tryz.ntmps180;go_wp2_with (first | (go_at_call 178;refine(q3j _ _).mono ?_;rintro e w' ⟨rfl,rfl⟩;rw[h1]) | (go_at_call 190;refine(q53 _ _).mono ?_;rintro e w' ⟨rfl,rfl⟩;rw[h2]));go_ret;exact⟨by rfl,rfl⟩
 . rw[show nameB b=true by rw[e,h1];rfl]
   clear e;go_enter Tryz.func180,Tryz.ntmps180;go_wp2_with (go_at_call 178;refine(q3j _ _).mono ?_;rintro e w' ⟨rfl,rfl⟩;rw[h1]);go_ret;exact⟨by rfl,rfl⟩
theorem q6d {s:ByteArray}{l:List UInt8}(h:(s.toList==l)=true):s=⟨l.toArray⟩:=by
 have h:s.toList=l:=by simpa using h
 rw[<- h,Ga]
theorem qcc (s:ByteArray)(P:Prop)(hy:∀x,x∈rsvT->s=⟨x.toArray⟩->P)(hn:(∀x,x∈rsvT->(s.toList==x)=false)->P):P:=by
 by_cases h:∃x,x∈rsvT/\(s.toList==x)=true
 . obtain⟨x,hx,he⟩:=h
   exact hy x hx (q6d he)
 . exact hn fun x hx=>by
    cases e:(s.toList==x)
    . rfl
    . exact absurd ⟨x,hx,e⟩ h
theorem qli {x:List UInt8}(h:x∈rsvT):rsv ⟨x.toArray⟩=true:=by
 unfold rsv
 rw[Ol]
 exact⟨x,h,by rw[Ga];simp⟩
theorem rsv_no {s:ByteArray}(h:∀x,x∈rsvT->(s.toList==x)=false):rsv s=false:=by
 unfold rsv
 rw[List.any_eq_false]
 intro x hx;rw[h x hx];simp
theorem q1t (s:ByteArray)(w:World):Calls Tryz.prog 89 #[.string s] w fun e w'=>e=.returned (.bool (rsv s))/\w'=w:=by
 refine qcc s _ (fun x hx hs=>?_) (fun h=>?_)
 . subst hs
   rw[qli hx];unfold rsvT at hx;simp only[Zy,Oi,or_false]at hx;rcases hx with rfl | rfl | rfl | rfl | rfl | rfl | rfl | rfl | rfl | rfl | rfl | rfl | rfl | rfl | rfl | rfl | rfl | rfl | rfl | rfl | rfl
   all_goals
    go_enter Tryz.func89,Tryz.ntmps89;go_wp2;go_ret;exact⟨rfl,rfl⟩
 . rw[rsv_no h]
   unfold rsvT at h;simp only[List.forall_mem_cons,Oi,false_imp_iff,implies_true,and_true]at h;obtain⟨h1,h2,h3,h4,h5,h6,h7,h8,h9,h10,h11,h12,h13,h14,h15,h16,h17,h18,h19,h20,h21⟩:=h;go_enter Tryz.func89,Tryz.ntmps89;go_wp2;go_ret;exact⟨rfl,rfl⟩
theorem q1k (s:ByteArray)(w:World):Calls Tryz.prog 179 #[.string s] w fun e w'=>e=.returned (.bool (rsv s))/\w'=w:=by
 refine qcc s _ (fun x hx hs=>?_) (fun h=>?_)
 . subst hs
   rw[qli hx];unfold rsvT at hx;simp only[Zy,Oi,or_false]at hx;rcases hx with rfl | rfl | rfl | rfl | rfl | rfl | rfl | rfl | rfl | rfl | rfl | rfl | rfl | rfl | rfl | rfl | rfl | rfl | rfl | rfl | rfl
   all_goals
    go_enter Tryz.func179,Tryz.ntmps179;go_wp2;go_ret;exact⟨rfl,rfl⟩
 . rw[rsv_no h]
   unfold rsvT at h;simp only[List.forall_mem_cons,Oi,false_imp_iff,implies_true,and_true]at h;obtain⟨h1,h2,h3,h4,h5,h6,h7,h8,h9,h10,h11,h12,h13,h14,h15,h16,h17,h18,h19,h20,h21⟩:=h;go_enter Tryz.func179,Tryz.ntmps179;go_wp2;go_ret;exact⟨rfl,rfl⟩
def runN (p:Nat->Bool)(s:ByteArray)(i:Nat):Nat:=((s.data.toList.drop i).takeWhile fun c=>p c.toNat).length
theorem run_eq (p:Nat->Bool)(l:List UInt8)(k:Nat)(hk:k<=l.length)(h:∀j (hj:j<l.length),j<k->p l[j].toNat=true)(he:∀hj:k<l.length,p l[k].toNat=false):(l.takeWhile fun c=>p c.toNat).length=k:=by
 induction l generalizing k with
 | nil=>simp at hk;simp[hk]
 | cons c r ih =>
  cases k with
  | zero=>have:=he (by simp);simp at this;simp[this]
  | succ k =>
   have h0:=h 0 (by simp) (by omega);simp only[Vz]at h0;rw[List.takeWhile_cons_of_pos (by simpa using h0),Ys,ih k (by simpa using hk) (fun j hj hjk=>h (j+1) (by simpa using hj) (by omega)) (fun hj=>he (by simpa using hj))]
theorem qlj {p:Nat->Bool}{s:ByteArray}{i k:Nat}(hk:i+k<=s.size)(h:∀j (hj:i+j<s.size),j<k->p (s[i+j]).toNat=true)(he:∀hj:i+k<s.size,p (s[i+k]).toNat=false):runN p s i=k:=by
 have hl:(s.data.toList.drop i).length=s.size - i:=by simp
 refine run_eq p _ k (by omega) (fun j hj hjk=>?_) (fun hj=>?_)
 . rw[List.getElem_drop];exact h j (by omega) hjk
 . rw[List.getElem_drop];exact he (by omega)
theorem qlk (p:Nat->Bool)(s:ByteArray)(i:Nat):runN p s i<=s.size - i:=by
 have:=(List.takeWhile_sublist (fun c:UInt8=>p c.toNat) (l:=s.data.toList.drop i)).length_le
 unfold runN;simpa using this
theorem qg9 (p:Nat->Bool)(s:ByteArray):runN p s 0=s.size ↔ (s.data.toList.all fun c=>p c.toNat)=true:=by
 have e:s.size=s.data.toList.length:=by simp
 unfold runN
 rw[List.drop_zero,e]
 generalize s.data.toList=l
 induction l with
 | nil=>simp
 | cons c r ih =>
  by_cases hc:p c.toNat=true
  . rw[List.takeWhile_cons_of_pos (by simpa using hc),List.all_cons,hc,Ys,Ys,Ze];exact⟨fun h=>ih.1 (by omega),fun h=>by rw[ih.2 h]⟩
  . rw[List.takeWhile_cons_of_neg (by simpa using hc)];simp[hc]
theorem q2i (s:ByteArray)(i:Nat)(w:World)(hs:s.size<=9223372036854775807)(hi:i<=s.size) :
 Calls Tryz.prog 88 #[.string s,J9 i] w fun e w'=>e=.returned (J9 (runN nameB s i))/\w'=w:=by
 go_enter Tryz.func88,Tryz.ntmps88
 go_wp2_with fail
 go_loopw [5] (fun n wr=>∃k:Nat,i+k<=s.size/\n=J9 k/\(∀j (hj:i+j<s.size),j<k->nameB (s[i+j]).toNat=true)/\wr=w) (fun n _=>s.size - (intOf n).toNat)
 case atStart=>exact⟨0,by omega,rfl,fun j _ hj=>absurd hj (nL _),rfl⟩
 case round =>
  obtain⟨k,hk,rfl,hall,rfl⟩:=hrel;have HA:=h_ hall;clear hall;have hw1:wrap64 ((i:Int)+(k:Int))=((i+k:Nat):Int):=by rw[q4h (by omega) (by omega)];omega
  by_cases hlt:i+k<s.size
  . have hlt':((i:Int)+k)<s.size:=by omega
    cases ht:nameB (s[i+k]).toNat
    . go_wp2_with (go_at_call 125;refine(q1s _ _).mono ?_;rintro e w' ⟨rfl,rfl⟩;rw[ht])
      go_ret;exact⟨ql9 (by rw[qlj (by omega) HA.u (fun _=>ht)]),rfl⟩
    . go_wp2_with (go_at_call 125;refine(q1s _ _).mono ?_;rintro e w' ⟨rfl,rfl⟩;rw[ht])
      go_roundw
      case rel=>exact⟨k+1,by omega,by go_num,fun j hj hjk=>by
       by_cases e:j=k
       . subst e;exact ht
       . exact HA.u j hj (by omega),trivial⟩
      case measure=>simp[intOf];omega
  . have hlt':¬ ((i:Int)+k)<s.size:=by omega
    go_wp2_with fail;go_ret;exact⟨ql9 (by rw[qlj (by omega) HA.u (fun h=>absurd h hlt)]),rfl⟩
end Go.Proofs.YtebbgodlijlioaaGreatDoor
