import Derived.Test.YtenckgnkjkijnaaGreatDoorW03
set_option maxRecDepth 100000
set_option maxHeartbeats 64000000
namespace Go.Proofs.YtenckgnkjkijnaaGreatDoor
open Go Go.RowKit Go.Proofs.Tryz
variable {k i:Nat}{s:Tb}
theorem q8b (b:Nat)(w:Tw):Calls prog 186 #[.int .u8 b] w fun a c=>a=.returned (.bool (kbh b))/\c=w:=by
 by_cases a:97<=b
 . by_cases c:b<=122
   . rw[show kbh b=true by simp[kbh];omega]
     go_enter func186,ntmps186;go_wp2;go_ret;exact⟨qln (by simp;omega),rfl⟩
   . rw[show kbh b=false by simp[kbh];omega]
     go_enter func186,ntmps186;go_wp2;go_ret;exact⟨qln (by simp;omega),rfl⟩
 . rw[show kbh b=false by simp[kbh];omega]
   go_enter func186,ntmps186;go_wp2;go_ret;exact⟨by rfl,rfl⟩
theorem q1h (b:Nat)(w:Tw):Calls prog 293 #[.int .u8 b] w fun a c=>a=.returned (.bool (kaY b))/\c=w:=by
 by_cases a:48<=b
 . by_cases c:b<=57
   . rw[show kaY b=true by simp[kaY];omega]
     go_enter func293,ntmps293;go_wp2;go_ret;exact⟨qln (by simp;omega),rfl⟩
   . rw[show kaY b=false by simp[kaY];omega]
     go_enter func293,ntmps293;go_wp2;go_ret;exact⟨qln (by simp;omega),rfl⟩
 . rw[show kaY b=false by simp[kaY];omega]
   go_enter func293,ntmps293;go_wp2;go_ret;exact⟨by rfl,rfl⟩
theorem q5h (b:Nat)(w:Tw):Calls prog 318 #[.int .u8 b] w fun a c=>a=.returned (.bool (kbh b))/\c=w:=by
 by_cases a:97<=b
 . by_cases c:b<=122
   . rw[show kbh b=true by simp[kbh];omega]
     go_enter func318,ntmps318;go_wp2;go_ret;exact⟨qln (by simp;omega),rfl⟩
   . rw[show kbh b=false by simp[kbh];omega]
     go_enter func318,ntmps318;go_wp2;go_ret;exact⟨qln (by simp;omega),rfl⟩
 . rw[show kbh b=false by simp[kbh];omega]
   go_enter func318,ntmps318;go_wp2;go_ret;exact⟨by rfl,rfl⟩
theorem q7x (b:Nat)(w:Tw):Calls prog 333 #[.int .u8 b] w fun a c=>a=.returned (.bool (kaY b))/\c=w:=by
 by_cases a:48<=b
 . by_cases c:b<=57
   . rw[show kaY b=true by simp[kaY];omega]
     go_enter func333,ntmps333;go_wp2;go_ret;exact⟨qln (by simp;omega),rfl⟩
   . rw[show kaY b=false by simp[kaY];omega]
     go_enter func333,ntmps333;go_wp2;go_ret;exact⟨qln (by simp;omega),rfl⟩
 . rw[show kaY b=false by simp[kaY];omega]
   go_enter func333,ntmps333;go_wp2;go_ret;exact⟨by rfl,rfl⟩
theorem q2r (b:Nat)(w:Tw):Calls prog 225 #[.int .u8 b] w fun a c=>a=.returned (.bool (kaZ b))/\c=w:=by
 have a:kaZ b=(kbh b||kaY b||decide (b=95)):=rfl;cases d:kbh b
 . cases e:kaY b
   . by_cases f:b=95
     . subst f
       rw[show kaZ 95=true from rfl];go_enter func225,ntmps225;go_wp2_with (first | (go_at_call 186;refine(q8b _ _).mono ?_;rintro a c ⟨rfl,rfl⟩;rw[d]) | (go_at_call 293;refine(q1h _ _).mono ?_;rintro a c ⟨rfl,rfl⟩;rw[e]));go_ret;exact⟨by simp,rfl⟩
     . rw[show kaZ b=false by rw[a,d,e];simpa using f]
       have g:((b:Int)==95)=false:=Yc.2 (by omega);go_enter func225,ntmps225;go_wp2_with (first | (go_at_call 186;refine(q8b _ _).mono ?_;rintro a c ⟨rfl,rfl⟩;rw[d]) | (go_at_call 293;refine(q1h _ _).mono ?_;rintro a c ⟨rfl,rfl⟩;rw[e]));go_ret;exact⟨by simp,rfl⟩
   . rw[show kaZ b=true by rw[a,d,e];rfl]
     go_enter func225,ntmps225;go_wp2_with (first | (go_at_call 186;refine(q8b _ _).mono ?_;rintro a c ⟨rfl,rfl⟩;rw[d]) | (go_at_call 293;refine(q1h _ _).mono ?_;rintro a c ⟨rfl,rfl⟩;rw[e]));go_ret;exact⟨by rfl,rfl⟩
 . rw[show kaZ b=true by rw[a,d];rfl]
   go_enter func225,ntmps225;go_wp2_with (go_at_call 186;refine(q8b _ _).mono ?_;rintro a c ⟨rfl,rfl⟩;rw[d]);go_ret;exact⟨by rfl,rfl⟩
theorem q2g (b:Nat)(w:Tw):Calls prog 320 #[.int .u8 b] w fun a c=>a=.returned (.bool (kaZ b))/\c=w:=by
 have a:kaZ b=(kbh b||kaY b||decide (b=95)):=rfl;cases d:kbh b
 . cases e:kaY b
   . by_cases f:b=95
     . subst f
       rw[show kaZ 95=true from rfl];go_enter func320,ntmps320;go_wp2_with (first | (go_at_call 318;refine(q5h _ _).mono ?_;rintro a c ⟨rfl,rfl⟩;rw[d]) | (go_at_call 333;refine(q7x _ _).mono ?_;rintro a c ⟨rfl,rfl⟩;rw[e]));go_ret;exact⟨by simp,rfl⟩
     . rw[show kaZ b=false by rw[a,d,e];simpa using f]
       have g:((b:Int)==95)=false:=Yc.2 (by omega);go_enter func320,ntmps320;go_wp2_with (first | (go_at_call 318;refine(q5h _ _).mono ?_;rintro a c ⟨rfl,rfl⟩;rw[d]) | (go_at_call 333;refine(q7x _ _).mono ?_;rintro a c ⟨rfl,rfl⟩;rw[e]));go_ret;exact⟨by simp,rfl⟩
   . rw[show kaZ b=true by rw[a,d,e];rfl]
     go_enter func320,ntmps320;go_wp2_with (first | (go_at_call 318;refine(q5h _ _).mono ?_;rintro a c ⟨rfl,rfl⟩;rw[d]) | (go_at_call 333;refine(q7x _ _).mono ?_;rintro a c ⟨rfl,rfl⟩;rw[e]));go_ret;exact⟨by rfl,rfl⟩
 . rw[show kaZ b=true by rw[a,d];rfl]
   go_enter func320,ntmps320;go_wp2_with (go_at_call 318;refine(q5h _ _).mono ?_;rintro a c ⟨rfl,rfl⟩;rw[d]);go_ret;exact⟨by rfl,rfl⟩
theorem q9m {l:List UInt8}(a:(s.toList==l)=true):s=⟨l.toArray⟩:=by
 have a:s.toList=l:=by simpa using a
 rw[<- a,Y7]
theorem qgs (s:Tb)(P:Prop)(hy:∀a,a∈keO->s=⟨a.toArray⟩->P)(e:(∀a,a∈keO->(s.toList==a)=false)->P):P:=by
 by_cases c:∃a,a∈keO/\(s.toList==a)=true
 . obtain⟨a,b,d⟩:=c
   exact hy a b (q9m d)
 . exact e fun a b=>by
    cases d:(s.toList==a)
    . rfl
    . exact absurd ⟨a,b,d⟩ c
theorem qrv {x:List UInt8}(a:x∈keO):rsv ⟨x.toArray⟩=true:=by
 unfold rsv;rw[Z8];exact⟨x,a,by rw[Y7];simp⟩
theorem kfs (b:∀a,a∈keO->(s.toList==a)=false):rsv s=false:=by
 unfold rsv;rw[Vp];intro a c;rw[b a c];simp
theorem q2s (s:Tb)(w:Tw):Calls prog 188 #[.string s] w fun a b=>a=.returned (.bool (rsv s))/\b=w:=by
 refine qgs s _ (fun A b c=>?_) (fun a=>?_)
 . subst c
   rw[qrv b];unfold keO at b;simp only[Z7,O4,or_false]at b;rcases b with rfl | rfl | rfl | rfl | rfl | rfl | rfl | rfl | rfl | rfl | rfl | rfl | rfl | rfl | rfl | rfl | rfl | rfl | rfl | rfl | rfl
   all_goals
    go_enter func188,ntmps188;go_wp2;go_ret;exact⟨rfl,rfl⟩
 . rw[kfs a]
   unfold keO at a;simp only[List.forall_mem_cons,O4,false_imp_iff,implies_true,and_true]at a;obtain⟨d,o,r,t,u,v,x,y,z,e,f,g,h,i,j,k,l,m,n,p,q⟩:=a;go_enter func188,ntmps188;go_wp2;go_ret;exact⟨rfl,rfl⟩
theorem q2i (s:Tb)(w:Tw):Calls prog 319 #[.string s] w fun a b=>a=.returned (.bool (rsv s))/\b=w:=by
 refine qgs s _ (fun A b c=>?_) (fun a=>?_)
 . subst c
   rw[qrv b];unfold keO at b;simp only[Z7,O4,or_false]at b;rcases b with rfl | rfl | rfl | rfl | rfl | rfl | rfl | rfl | rfl | rfl | rfl | rfl | rfl | rfl | rfl | rfl | rfl | rfl | rfl | rfl | rfl
   all_goals
    go_enter func319,ntmps319;go_wp2;go_ret;exact⟨rfl,rfl⟩
 . rw[kfs a]
   unfold keO at a;simp only[List.forall_mem_cons,O4,false_imp_iff,implies_true,and_true]at a;obtain⟨d,o,r,t,u,v,x,y,z,e,f,g,h,i,j,k,l,m,n,p,q⟩:=a;go_enter func319,ntmps319;go_wp2;go_ret;exact⟨rfl,rfl⟩
def kfQ (p:Nat->Bool)(s:Tb)(i:Nat):Nat:=((s.data.toList.drop i).takeWhile fun c=>p c.toNat).length
theorem kgZ (p:Nat->Bool)(l:List UInt8)(k:Nat)(c:k<=l.length)(e:∀b (a:b<l.length),b<k->p l[b].toNat=true)(g:∀a:k<l.length,p l[k].toNat=false):(l.takeWhile fun d=>p d.toNat).length=k:=by
 induction l generalizing k with
 | nil=>simp at c;simp[c]
 | cons d j h =>
  cases k with
  | zero=>have:=g (by simp);simp at this;simp[this]
  | succ k =>
   have f:=e 0 (by simp) (by omega);simp only[Vs]at f;rw[List.takeWhile_cons_of_pos (by simpa using f),Yt,h k (by simpa using c) (fun b a i=>e (b+1) (by simpa using a) (by omega)) (fun a=>g (by simpa using a))]
theorem qrw {p:Nat->Bool}(f:i+k<=s.size)(c:∀a (b:i+a<s.size),a<k->p (s[i+a]).toNat=true)(d:∀b:i+k<s.size,p (s[i+k]).toNat=false):kfQ p s i=k:=by
 have g:(s.data.toList.drop i).length=s.size - i:=by simp
 refine kgZ p _ k (by omega) (fun a b e=>?_) (fun b=>?_)
 . rw[List.getElem_drop];exact c a (by omega) e
 . rw[List.getElem_drop];exact d (by omega)
theorem qrx (p:Nat->Bool)(s:Tb)(i:Nat):kfQ p s i<=s.size - i:=by
 have:=(List.takeWhile_sublist (fun a:UInt8=>p a.toNat) (l:=s.data.toList.drop i)).length_le;unfold kfQ;simpa using this
theorem qlt (p:Nat->Bool)(s:Tb):kfQ p s 0=s.size ↔ (s.data.toList.all fun b=>p b.toNat)=true:=by
 have e:s.size=s.data.toList.length:=by simp
 unfold kfQ;rw[List.drop_zero,e];generalize s.data.toList=f
 induction f with
 | nil=>simp
 | cons b g d =>
  by_cases a:p b.toNat=true
  . rw[List.takeWhile_cons_of_pos (by simpa using a),List.all_cons,a,Yt,Yt,Y9];exact⟨fun c=>d.1 (by omega),fun c=>by rw[d.2 c]⟩
  . rw[List.takeWhile_cons_of_neg (by simpa using a)];simp[a]
theorem q3r (s:Tb)(i:Nat)(w:Tw)(n:s.size<=9223372036854775807)(hi:i<=s.size) :
 Calls prog 187 #[.string s,J6 i] w fun c g=>c=.returned (J6 (kfQ kaZ s i))/\g=w:=by
 go_enter func187,ntmps187;go_wp2_with fail;go_loopw [5] (fun e wr=>∃a:Nat,i+a<=s.size/\e=J6 a/\(∀b (d:i+b<s.size),b<a->kaZ (s[i+b]).toNat=true)/\wr=w) (fun e _=>s.size - (intOf e).toNat)
 case atStart=>exact⟨0,by omega,rfl,fun b _ d=>absurd d (nL _),rfl⟩
 case round =>
  obtain⟨a,m,rfl,h,rfl⟩:=hrel;have f:=h_ h;have o:wrap64 ((i:Int)+(a:Int))=((i+a:Nat):Int):=by rw[q6w (by omega) (by omega)];omega
  by_cases j:i+a<s.size
  . have k:((i:Int)+a)<s.size:=by omega
    cases e:kaZ (s[i+a]).toNat
    . go_wp2_with (go_at_call 225;refine(q2r _ _).mono ?_;rintro c g ⟨rfl,rfl⟩;rw[e])
      go_ret;exact⟨qrs (by rw[qrw (by omega) f.u (fun _=>e)]),rfl⟩
    . go_wp2_with (go_at_call 225;refine(q2r _ _).mono ?_;rintro c g ⟨rfl,rfl⟩;rw[e])
      go_roundw
      case rel=>exact⟨a+1,by omega,by go_num,fun b d l=>by
       by_cases c:b=a
       . subst c;exact e
       . exact f b d (by omega),trivial⟩
      case measure=>simp[intOf];omega
  . have k:¬ ((i:Int)+a)<s.size:=by omega
    go_wp2_with fail;go_ret;exact⟨qrs (by rw[qrw (by omega) f.u (fun b=>absurd b j)]),rfl⟩
