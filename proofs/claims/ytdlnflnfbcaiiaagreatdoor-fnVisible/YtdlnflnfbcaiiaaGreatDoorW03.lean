import Derived.Test.YtdlnflnfbcaiiaaGreatDoorW00
import Derived.Lib.ItoaLen
set_option linter.all false
set_option maxRecDepth 100000
set_option maxHeartbeats 0
namespace Go.Proofs.YtdlnflnfbcaiiaaGreatDoor
section
open Go Go.RowKit Go.Proofs.Tryz
def tb (b:Nat):Bool:=decide (32<=b/\b<=126/\b≠34)
variable {p:Prop}
def ig(h:p:=by go_wp2;go_ret;exact⟨L2 hE,rfl⟩):p:=h
def WZ (b:Nat)(w):Calls prog 145 #[.int .u8 b] w λe j=>e=.returned (.bool (tb b))/\j=w:=by by_cases m:32<=b;{by_cases r:b<=126;{by_cases Z:b=34;all_goals go_enter func145,ntmps145;exact Uw};go_enter func145,ntmps145;exact ig};go_enter func145,ntmps145;exact ig
def TZ (b:Nat)(w):Calls prog 150 #[.int .u8 b] w λe j=>e=.returned (.bool (tb b))/\j=w:=by by_cases m:32<=b;{by_cases r:b<=126;{by_cases Z:b=34;all_goals go_enter func150,ntmps150;exact Uw};go_enter func150,ntmps150;exact ig};go_enter func150,ntmps150;exact ig
def T7 (s:Tb):Bool:=decide (s.size<=1000)&&s.data.toList.all λc=>tb c.toNat
def KN {s}:T7 s=true ↔ s.size<=1000/\∀j (a:j<s.size),tb s[j].toNat=true:=by simp only[T7,Yx,Y3,Zd];refine and_congr_right λ_=>⟨λh j a=>h _ (by simp[ByteArray.getElem_eq_getElem_data]),λh c N=>?_⟩;obtain⟨j,a,rfl⟩:=Y8.1 N;exact h j gt
def qc6 {s}(h1:s.size<=1000)(h:∀j (a:j<s.size),tb s[j].toNat=true):T7 s=true:=KN.2 ⟨h1,h⟩
def Ed {s k}(a:k<s.size)(h:tb s[k].toNat=false):T7 s=false:=by cases e:T7 s with|false=>rfl|true=>have:=(KN.1 e).2 k a;rw[h]at this;cases this
def VZ (s w)(B:s.size<=9223372036854775807):Calls prog 104 #[.string s] w λe b=>e=.returned (.bool (T7 s))/\b=w:=by by_cases m:s.size<=1000;{go_enter func104,ntmps104;go_wp2;go_loopw [3] (λi wr=>∃k:Nat,k<=s.size/\i=Ye k/\(∀j (a:j<s.size),j<k->tb (s[j]).toNat=true)/\wr=w) (λi _=>s.size - (intOf i).toNat);exact⟨0,nZ _,rfl,λj h W=>absurd W (nL _),rfl⟩;obtain⟨k,c,rfl,n,rfl⟩:=hrel;have i:=h_ n;by_cases S:k<s.size;{cases r:tb s[k].toNat;{go_wp2_with (go_at_call 145;refine(WZ _ _).mono ?_;rintro e b ⟨rfl,rfl⟩;rw[r]);go_ret;exact⟨L2 (Ed S r).symm,rfl⟩};go_wp2_with (go_at_call 145;refine(WZ _ _).mono ?_;rintro e b ⟨rfl,rfl⟩;rw[r]);go_roundw;exact⟨k+1,fP,fU,λj a c=>by by_cases e:j=k;{subst e;exact r};exact i j a fP,trivial⟩;exact kZ};exact D2};go_enter func104,ntmps104;go_wp2;go_ret;exact⟨L2 (by simp[T7,m]),rfl⟩
def Ra (s w)(B:s.size<=9223372036854775807):Calls prog 111 #[.string s] w λe b=>e=.returned (.bool (T7 s))/\b=w:=by by_cases m:s.size<=1000;{go_enter func111,ntmps111;go_wp2;go_loopw [9] (λi wr=>∃k:Nat,k<=s.size/\i=Ye k/\(∀j (a:j<s.size),j<k->tb (s[j]).toNat=true)/\wr=w) (λi _=>s.size - (intOf i).toNat);exact⟨0,nZ _,rfl,λj h W=>absurd W (nL _),rfl⟩;obtain⟨k,c,rfl,n,rfl⟩:=hrel;have i:=h_ n;by_cases S:k<s.size;{cases r:tb s[k].toNat;{go_wp2_with (go_at_call 150;refine(TZ _ _).mono ?_;rintro e b ⟨rfl,rfl⟩;rw[r]);go_ret;exact⟨L2 (Ed S r).symm,rfl⟩};go_wp2_with (go_at_call 150;refine(TZ _ _).mono ?_;rintro e b ⟨rfl,rfl⟩;rw[r]);go_roundw;exact⟨k+1,fP,fU,λj a c=>by by_cases e:j=k;{subst e;exact r};exact i j a fP,trivial⟩;exact kZ};exact D2};go_enter func111,ntmps111;go_wp2;go_ret;exact⟨L2 (by simp[T7,m]),rfl⟩
def T0 {w b t v u V}(h:m0 w b t [v,u,V]) :
 w.cell? (Aq b 0)=some v/\w.cell? (Aq b 1)=some u/\w.cell? (Aq b 2)=some V:=⟨h.cell 0,h.cell 1,h.cell 2⟩
def oL (s:Tb):((s.size:Int)==0)=decide (s.size=0):=by grind
def OM (s:Tb):s.toList.isEmpty=decide (s.size=0):=by rw[Zo];obtain⟨⟨l⟩⟩:=s;cases l <;> simp[ByteArray.size]
def Z1 (kind num:Int)(s:Tb):Bool :=
 if kind=0 then decide (num=0)&&decide (s.size=0)
 else if kind=1 then decide (s.size=0)
 else if kind=2 then decide (num=0\/num=1)&&decide (s.size=0)
 else if kind=3 then decide (num=0)&&T7 s
 else if kind=4 then decide (1<=num/\num<=5)&&decide (s.size=0)
 else false
def XM (k:Int):k=0\/k=1\/k=2\/k=3\/k=4\/(¬ k=0/\¬ k=1/\¬ k=2/\¬ k=3/\¬ k=4):=by omega
def UY (n:Int):n=0\/n=1\/(¬ n=0/\¬ n=1):=by omega
def VY (n:Int):n<1\/(1<=n/\5<n)\/(1<=n/\n<=5):=by omega
def ia(h:p:=by go_wp2;go_ret;exact⟨L2 gR,Bq⟩):p:=h
def ie(h:p:=by go_ret;exact⟨L2 (by simp[Z1,t]),Bq⟩):p:=h
def ii(h:p:=by go_wp2;go_ret;exact⟨L2 (by simp[Z1,show ¬ F<=5 by omega]),Bq⟩):p:=h
def ij(h:p:=by go_wp2;go_ret;exact⟨L2 (by simp[Z1,show ¬ 1<=F by omega]),Bq⟩):p:=h
def ik(h:p:=by go_wp2;go_ret;exact⟨L2 (by simp[Z1,f,b,v,T,c]),Bq⟩):p:=h
def ip(h:p:=by go_wp2;go_ret;exact⟨L2 (by simp[Z1,S,Z,R.u]),Bq⟩):p:=h
def iq(h:p:=by go_wp2;go_ret;exact⟨L2 (by simp[Z1,t,S]),Bq⟩):p:=h
def YP (a F s w)(B:s.size<=9223372036854775807):Gv 73 #[.agg (Jc a F s)] w (.bool (Z1 a F s)):=by have M:=oL s;have R:=h_ M;clear M;rcases XM a with rfl|rfl|rfl|rfl|rfl|⟨f,b,v,T,c⟩;{by_cases t:F=0;all_goals go_enter func73,ntmps73;go_wp2;go_ret;exact⟨L2 (by simp[Z1,t,R.u]),Bq⟩};{go_enter func73,ntmps73;exact ia};{rcases UY F with rfl|rfl|⟨t,S⟩;{go_enter func73,ntmps73;exact ia};{go_enter func73,ntmps73;exact ia};go_enter func73,ntmps73;exact iq};{by_cases t:F=0;{go_enter func73,ntmps73;go_wp2_with (go_at_call 104;refine(VZ s _ B).mono ?_;rintro e j ⟨rfl,rfl⟩);exact ie};go_enter func73,ntmps73;go_wp2;exact ie};{rcases VY F with S|⟨S,Z⟩|⟨S,Z⟩;{go_enter func73,ntmps73;exact ij};{go_enter func73,ntmps73;exact ii};go_enter func73,ntmps73;exact ip};go_enter func73,ntmps73;exact ik
def WP (a F s w)(B:s.size<=9223372036854775807):Gv 68 #[.agg (Jc a F s)] w (.bool (Z1 a F s)):=by have M:=OM s;have R:=h_ M;clear M;rcases XM a with rfl|rfl|rfl|rfl|rfl|⟨f,b,v,T,c⟩;{by_cases t:F=0;all_goals go_enter func68,ntmps68;go_wp2;go_ret;exact⟨L2 (by simp only[Z1];simp[t,R.u]),Bq⟩};{go_enter func68,ntmps68;exact ia};{rcases UY F with rfl|rfl|⟨t,S⟩;{go_enter func68,ntmps68;exact ia};{go_enter func68,ntmps68;exact ia};go_enter func68,ntmps68;exact iq};{by_cases t:F=0;{go_enter func68,ntmps68;go_wp2_with (go_at_call 111;refine(Ra s _ B).mono ?_;rintro e j ⟨rfl,rfl⟩);exact ie};go_enter func68,ntmps68;go_wp2;exact ie};{rcases VY F with S|⟨S,Z⟩|⟨S,Z⟩;{go_enter func68,ntmps68;exact ij};{go_enter func68,ntmps68;exact ii};go_enter func68,ntmps68;exact ip};go_enter func68,ntmps68;exact ik
end
section
open Go Go.Proofs.Tryz
def XC (kind num:Int)(s:Tb):Tb :=
 if Z1 kind num s then
  if kind=0 then ⟨#[98,108,97,110,107]⟩
  else if kind=1 then ⟨(Lib.itoa num).toArray⟩
  else if kind=2 then (if num=1 then ⟨#[116,114,117,101]⟩ else ⟨#[102,97,108,115,101]⟩)
  else if kind=3 then ⟨#[34]⟩++s++⟨#[34]⟩
  else ⟨#[33]⟩++⟨(Lib.itoa num).toArray⟩
 else ⟨#[63]⟩
theorem nH (a):(⟨a⟩:Tb).size=a.size:=rfl
def MQ (x)(D:-9223372036854775808<=x)(h1:x<=9223372036854775807):(⟨(Lib.itoa x).toArray⟩:Tb).size<=21:=Lib.itoa_length_le x D h1
def qrt (x):1<=(Lib.itoa x).length:=by unfold Lib.itoa;split;{simp};rw[Lib.decDigits_length];exact Lib.nDigits_pos _
def qcz (F a s)(h:Z1 F a s=true)(D:0<=a)(h1:a<=9223372036854775807):1+s.size<=(XC F a s).size/\(XC F a s).size<=1050:=by have C:=MQ a fP h1;have c:1<=(⟨(Lib.itoa a).toArray⟩:Tb).size:=qrt a;unfold XC;rw[Yz h];unfold Z1 at h;by_cases f:F=0;{rw[Yz f]at h|-;simp only[Yx,Y3]at h;simp only[nH,Zr,Y5,Ze];omega};rw[Ys f]at h|-;by_cases b:F=1;{rw[Yz b]at h|-;simp only[Y3]at h;omega};rw[Ys b]at h|-;by_cases v:F=2;{rw[Yz v]at h|-;simp only[Yx,Y3]at h;split <;> simp only[nH,Zr,Y5,Ze] <;> omega};rw[Ys v]at h|-;by_cases T:F=3;{rw[Yz T]at h|-;simp only[Yx,Y3]at h;have:=(KN.1 h.2).1;simp only[Yy,nH,Zr,Y5,Ze];omega};rw[Ys T]at h|-;by_cases S:F=4;{rw[Yz S]at h;simp only[Yx,Y3]at h;simp only[Yy];have e:(⟨#[33]⟩:Tb).size=1:=rfl;omega};rw[Ys S]at h;cases h
