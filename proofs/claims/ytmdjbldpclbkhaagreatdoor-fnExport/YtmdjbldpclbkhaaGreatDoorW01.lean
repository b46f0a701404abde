import Derived.Test.YtmdjbldpclbkhaaGreatDoorW00
import Derived.Lib.ItoaLen
set_option linter.all false
set_option maxRecDepth 100000
set_option maxHeartbeats 0
namespace Go.Proofs.YtmdjbldpclbkhaaGreatDoor
open Value renaming slice->Sl,string->St,bool->Bo
open Obj renaming cells->Cl
open Ending renaming returned->Rt
section
open Go Go.RowKit Go.Proofs.Tryz
def tb (b:Nat):Bool:=decide (32<=b/\b<=126/\b≠34)
def ie {p:Prop}(h:p:=by go_wp2;go_ret;exact⟨qkd hH,rfl⟩):p:=h
def q21 (b:Nat)(w:Tw):Calls prog 101 #[.int .u8 b] w λa c=>a=Rt (Bo (tb b))/\c=w:=by by_cases c:32<=b;{by_cases d:b<=126;{by_cases a:b=34;all_goals go_enter func101,ntmps101;go_wp2;go_ret;exact⟨qkd (by first | (subst a;decide) | (simp[tb,c,d,a] <;> omega)),rfl⟩};go_enter func101,ntmps101;exact ie};go_enter func101,ntmps101;exact ie
def q1z (b:Nat)(w:Tw):Calls prog 195 #[.int .u8 b] w λa c=>a=Rt (Bo (tb b))/\c=w:=by by_cases c:32<=b;{by_cases d:b<=126;{by_cases a:b=34;all_goals go_enter func195,ntmps195;go_wp2;go_ret;exact⟨qkd (by first | (subst a;decide) | (simp[tb,c,d,a] <;> omega)),rfl⟩};go_enter func195,ntmps195;exact ie};go_enter func195,ntmps195;exact ie
def kaL (s:Tb):Bool:=decide (s.size<=1000)&&s.data.toList.all λc=>tb c.toNat
def qak {s:Tb}:kaL s=true ↔ s.size<=1000/\∀a (c:a<s.size),tb s[a].toNat=true:=by simp only[kaL,Yw,Yu,Zg];refine and_congr_right λ_=>⟨λb a c=>b _ (by simp[ByteArray.getElem_eq_getElem_data]),λb e d=>?_⟩;obtain⟨a,c,rfl⟩:=Zj.1 d;exact b a gM
def qal {s:Tb}(c:s.size<=1000)(b:∀a (d:a<s.size),tb s[a].toNat=true):kaL s=true:=qak.2 ⟨c,b⟩
def qee {s:Tb}{k:Nat}(c:k<s.size)(b:tb s[k].toNat=false):kaL s=false:=by cases a:kaL s with|false=>rfl|true=>have:=(qak.1 a).2 k c;rw[b]at this;cases this
def q20 (s:Tb)(w:Tw)(l:s.size<=9223372036854775807):Calls prog 65 #[St s] w λc f=>c=Rt (Bo (kaL s))/\f=w:=by by_cases h:s.size<=1000;{go_enter func65,ntmps65;go_wp2;go_loopw [3] (λe wr=>∃b:Nat,b<=s.size/\e=Yf b/\(∀a (d:a<s.size),a<b->tb (s[a]).toNat=true)/\wr=w) (λe _=>s.size - (intOf e).toNat);exact⟨0,nZ _,rfl,λa e e=>absurd e (nL _),rfl⟩;obtain⟨b,j,rfl,i,rfl⟩:=hrel;have g:=h_ i;by_cases k:b<s.size;{cases e:tb s[b].toNat;{go_wp2_with (go_at_call 101;refine(q21 _ _).mono ?_;rintro c f ⟨rfl,rfl⟩;rw[e]);go_ret;exact⟨qkd (qee k e).symm,rfl⟩};go_wp2_with (go_at_call 101;refine(q21 _ _).mono ?_;rintro c f ⟨rfl,rfl⟩;rw[e]);go_roundw;exact⟨b+1,fP,fX,λa d j=>by by_cases c:a=b;{subst c;exact e};exact g a d fP,trivial⟩;simp[intOf];omega};go_wp2;go_ret;exact⟨qkd (qal h λa d=>g a d fP).symm,rfl⟩};go_enter func65,ntmps65;go_wp2;go_ret;exact⟨qkd (by simp[kaL,h]),rfl⟩
def q9i (s:Tb)(w:Tw)(l:s.size<=9223372036854775807):Calls prog 154 #[St s] w λc f=>c=Rt (Bo (kaL s))/\f=w:=by by_cases h:s.size<=1000;{go_enter func154,ntmps154;go_wp2;go_loopw [9] (λe wr=>∃b:Nat,b<=s.size/\e=Yf b/\(∀a (d:a<s.size),a<b->tb (s[a]).toNat=true)/\wr=w) (λe _=>s.size - (intOf e).toNat);exact⟨0,nZ _,rfl,λa e e=>absurd e (nL _),rfl⟩;obtain⟨b,j,rfl,i,rfl⟩:=hrel;have g:=h_ i;by_cases k:b<s.size;{cases e:tb s[b].toNat;{go_wp2_with (go_at_call 195;refine(q1z _ _).mono ?_;rintro c f ⟨rfl,rfl⟩;rw[e]);go_ret;exact⟨qkd (qee k e).symm,rfl⟩};go_wp2_with (go_at_call 195;refine(q1z _ _).mono ?_;rintro c f ⟨rfl,rfl⟩;rw[e]);go_roundw;exact⟨b+1,fP,fX,λa d j=>by by_cases c:a=b;{subst c;exact e};exact g a d fP,trivial⟩;simp[intOf];omega};go_wp2;go_ret;exact⟨qkd (qal h λa d=>g a d fP).symm,rfl⟩};go_enter func154,ntmps154;go_wp2;go_ret;exact⟨qkd (by simp[kaL,h]),rfl⟩
def kaE {w:Tw}{b:Nat}{t:TypeId}{v u c:Value}(a:Blk w b t [v,u,c]) :
 w.cell? ⟨b,0,none⟩=some v/\w.cell? ⟨b,1,none⟩=some u/\w.cell? ⟨b,2,none⟩=some c:=⟨a.cell 0,a.cell 1,a.cell 2⟩
def kdC (s:Tb):((s.size:Int)==0)=decide (s.size=0):=by grind
def kdl (s:Tb):s.toList.isEmpty=decide (s.size=0):=by rw[Y8];obtain⟨⟨a⟩⟩:=s;cases a <;> simp[ByteArray.size]
def kai (kind num:Int)(s:Tb):Bool :=
 if kind=0 then decide (num=0)&&decide (s.size=0)
 else if kind=1 then decide (s.size=0)
 else if kind=2 then decide (num=0∨num=1)&&decide (s.size=0)
 else if kind=3 then decide (num=0)&&kaL s
 else if kind=4 then decide (1<=num/\num<=5)&&decide (s.size=0)
 else false
def ke7 (k:Int):k=0∨k=1∨k=2∨k=3∨k=4∨(¬ k=0/\¬ k=1/\¬ k=2/\¬ k=3/\¬ k=4):=by omega
def khH (n:Int):n=0∨n=1∨(¬ n=0/\¬ n=1):=by omega
def khI (n:Int):n<1∨(1<=n/\5<n)∨(1<=n/\n<=5):=by omega
def h8 {p:Prop}(h:p:=by go_wp2;go_ret;exact⟨qkd gN,(bR _ _).alloc (nR _) _⟩):p:=h
def ia {p:Prop}(h:p:=by go_ret;exact⟨qkd (by simp[kai,b]),(bR _ _).alloc (nR _) _⟩):p:=h
def ig {p:Prop}(h:p:=by go_wp2;go_ret;exact⟨qkd (by simp[kai,show ¬ a<=5 by omega]),(bR _ _).alloc (nR _) _⟩):p:=h
def ii {p:Prop}(h:p:=by go_wp2;go_ret;exact⟨qkd (by simp[kai,show ¬ 1<=a by omega]),(bR _ _).alloc (nR _) _⟩):p:=h
def ij {p:Prop}(h:p:=by go_wp2;go_ret;exact⟨qkd (by simp[kai,g,h,i,j,k]),(bR _ _).alloc (nR _) _⟩):p:=h
def ik {p:Prop}(h:p:=by go_wp2;go_ret;exact⟨qkd (by simp[kai,d,b,c.u]),(bR _ _).alloc (nR _) _⟩):p:=h
def io {p:Prop}(h:p:=by go_wp2;go_ret;exact⟨qkd (by simp[kai,b,d]),(bR _ _).alloc (nR _) _⟩):p:=h
def q2e (e a:Int)(s:Tb)(w:Tw)(f:s.size<=9223372036854775807):Gv 24 #[.agg (Jm e a s)] w (Bo (kai e a s)):=by have b:=kdC s;have c:=h_ b;clear b;rcases ke7 e with rfl | rfl | rfl | rfl | rfl | ⟨g,h,i,j,k⟩;{by_cases b:a=0;all_goals go_enter func24,ntmps24;go_wp2;go_ret;exact⟨qkd (by simp[kai,b,c.u]),(bR _ _).alloc (nR _) _⟩};{go_enter func24,ntmps24;exact h8};{rcases khH a with rfl | rfl | ⟨b,d⟩;{go_enter func24,ntmps24;exact h8};{go_enter func24,ntmps24;exact h8};go_enter func24,ntmps24;exact io};{by_cases b:a=0;{go_enter func24,ntmps24;go_wp2_with (go_at_call 65;refine(q20 s _ f).mono ?_;rintro l m ⟨rfl,rfl⟩);exact ia};go_enter func24,ntmps24;go_wp2;exact ia};{rcases khI a with d | ⟨d,b⟩ | ⟨d,b⟩;{go_enter func24,ntmps24;exact ii};{go_enter func24,ntmps24;exact ig};go_enter func24,ntmps24;exact ik};go_enter func24,ntmps24;exact ij
def q1t (e a:Int)(s:Tb)(w:Tw)(f:s.size<=9223372036854775807):Gv 121 #[.agg (Jm e a s)] w (Bo (kai e a s)):=by have b:=kdl s;have c:=h_ b;clear b;rcases ke7 e with rfl | rfl | rfl | rfl | rfl | ⟨g,h,i,j,k⟩;{by_cases b:a=0;all_goals go_enter func121,ntmps121;go_wp2;go_ret;exact⟨qkd (by simp only[kai];simp[b,c.u]),(bR _ _).alloc (nR _) _⟩};{go_enter func121,ntmps121;exact h8};{rcases khH a with rfl | rfl | ⟨b,d⟩;{go_enter func121,ntmps121;exact h8};{go_enter func121,ntmps121;exact h8};go_enter func121,ntmps121;exact io};{by_cases b:a=0;{go_enter func121,ntmps121;go_wp2_with (go_at_call 154;refine(q9i s _ f).mono ?_;rintro l m ⟨rfl,rfl⟩);exact ia};go_enter func121,ntmps121;go_wp2;exact ia};{rcases khI a with d | ⟨d,b⟩ | ⟨d,b⟩;{go_enter func121,ntmps121;exact ii};{go_enter func121,ntmps121;exact ig};go_enter func121,ntmps121;exact ik};go_enter func121,ntmps121;exact ij
end
section
open Go Go.Proofs.Tryz
def kaj (kind num:Int)(s:Tb):Tb :=
 if kai kind num s then
  if kind=0 then ⟨#[98,108,97,110,107]⟩
  else if kind=1 then ⟨(Lib.itoa num).toArray⟩
  else if kind=2 then (if num=1 then ⟨#[116,114,117,101]⟩ else ⟨#[102,97,108,115,101]⟩)
  else if kind=3 then ⟨#[34]⟩++s++⟨#[34]⟩
  else ⟨#[33]⟩++⟨(Lib.itoa num).toArray⟩
 else ⟨#[63]⟩
theorem bsz (a:Array UInt8):(⟨a⟩:Tb).size=a.size:=rfl
def qdr (x:Int)(a:-9223372036854775808<=x)(b:x<=9223372036854775807):(⟨(Lib.itoa x).toArray⟩:Tb).size<=21:=Lib.itoa_length_le x a b
def qou (x:Int):1<=(Lib.itoa x).length:=by unfold Lib.itoa;split;{simp};rw[Lib.decDigits_length];exact Lib.nDigits_pos _
def qb4 (b c:Int)(s:Tb)(a:kai b c s=true)(k:0<=c)(i:c<=9223372036854775807):1+s.size<=(kaj b c s).size/\(kaj b c s).size<=1050:=by have l:=qdr c fP i;have m:1<=(⟨(Lib.itoa c).toArray⟩:Tb).size:=qou c;unfold kaj;rw[Y6 a];unfold kai at a;by_cases d:b=0;{rw[Y6 d]at a⊢;simp only[Yw,Yu]at a;simp only[bsz,Zh,Yy,Za];omega};rw[Y2 d]at a⊢;by_cases e:b=1;{rw[Y6 e]at a⊢;simp only[Yu]at a;omega};rw[Y2 e]at a⊢;by_cases f:b=2;{rw[Y6 f]at a⊢;simp only[Yw,Yu]at a;split <;> simp only[bsz,Zh,Yy,Za] <;> omega};rw[Y2 f]at a⊢;by_cases g:b=3;{rw[Y6 g]at a⊢;simp only[Yw,Yu]at a;have:=(qak.1 a.2).1;simp only[Yt,bsz,Zh,Yy,Za];omega};rw[Y2 g]at a⊢;by_cases h:b=4;{rw[Y6 h]at a;simp only[Yw,Yu]at a;simp only[Yt];have j:(⟨#[33]⟩:Tb).size=1:=rfl;omega};rw[Y2 h]at a;cases a
