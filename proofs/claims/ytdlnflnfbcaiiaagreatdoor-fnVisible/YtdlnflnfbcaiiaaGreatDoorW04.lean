import Derived.Test.YtdlnflnfbcaiiaaGreatDoorW00
set_option linter.all false
set_option maxRecDepth 100000
set_option maxHeartbeats 0
namespace Go.Proofs.YtdlnflnfbcaiiaaGreatDoor
open Bool renaming true->Tt,false->Ff
open Go Go.RowKit Go.Proofs.Tryz
variable {w:Tw}{n k:Nat}{t:TypeId}{x:Tl}{a:To}
structure Vx where
 k:Int
 n:Int
 s:Tb
def vv (u:Vx):Value:=.agg #[.int .i64 u.k,.int .i64 u.n,.string u.s]
def C1 (c:Int):Vx:=⟨4,c,⟨#[]⟩⟩
def T4 (n:Int):Vx:=⟨1,n,⟨#[]⟩⟩
def C2 (b:Bool):Vx:=⟨2,if b then 1 else 0,⟨#[]⟩⟩
def RB (s:Tb):Vx:=⟨3,0,s⟩
def N4:Vx:=⟨0,0,⟨#[]⟩⟩
def P2 (w:Tw)(b o:Nat)(u:Vx):Prop:=b<w.1.size/\w.cell? (Aq b o)=some (.int .i64 u.k)/\w.cell? (Aq b (o+1))=some (.int .i64 u.n)/\w.cell? (Aq b (o+2))=some (.string u.s)
def P2.mono {w' b o u}(h:P2 w b o u)(c:Bw w w'):P2 w' b o u :=
 ⟨Yw h.1 c.size,(c.cell h.1).trans h.2.1,(c.cell h.1).trans h.2.2.1,(c.cell h.1).trans h.2.2.2⟩
def E4 (p q:Vx):Bool:=if p.k=q.k then if p.n=q.n then decide (p.s.toList=q.s.toList) else Ff else Ff
def N2 (w:Tw)(a:To)(m:Nat)(f:Nat->Vx):Prop:=∀k,k<m->∃b o,a=some (Aq b o)/\P2 w b (o+k*3) (f k)
def N2.mono {w' m f}(h:N2 w a m f)(c:Bw w w'):N2 w' a m f:=λd k=>by obtain⟨b,o,e,N⟩:=h d k;exact⟨b,o,e,N.mono c⟩
def ar (op:Int):Int:=if op=2\/op=3\/op=21\/op=22\/op=23\/op=24\/op=25 then 1 else if op=16 then 3 else if 4<=op/\op<=20 then 2 else 0
def Fe (op:Int):(op=2\/op=3\/op=21\/op=22\/op=23\/op=24\/op=25\/op=16)\/((¬ op=2/\¬ op=3/\¬ op=21/\¬ op=22)/\(¬ op=23/\¬ op=24/\¬ op=25/\¬ op=16)/\(op<4\/(4<=op/\op<=20)\/(4<=op/\20<op))):=by omega
def it {p:Prop}(h:p:=by rw[e];go_enter func155,ntmps155;go_wp2;go_ret;exact kV):p:=h
def wQ (op w):Calls prog 155 #[Ye op] w λe j=>e=.returned (Ye (ar op))/\j=w:=by rcases Fe op with (rfl|rfl|rfl|rfl|rfl|rfl|rfl|rfl)|⟨⟨S,Z,a,t⟩,⟨b,c,y,C⟩,h⟩;(case inr=>have M:¬ (op=2\/op=3\/op=21\/op=22\/op=23\/op=24\/op=25):=fP;have R:=C;replace S:(op==2)=Ff:=Yk.2 S;replace Z:(op==3)=Ff:=Yk.2 Z;replace a:(op==21)=Ff:=Yk.2 a;replace t:(op==22)=Ff:=Yk.2 t;replace b:(op==23)=Ff:=Yk.2 b;replace c:(op==24)=Ff:=Yk.2 c;replace y:(op==25)=Ff:=Yk.2 y;replace C:(op==16)=Ff:=Yk.2 C;rcases h with h|⟨h,W⟩|⟨h,W⟩;{have e:ar op=0:=(by rw[ar,Ys M,Ys R,Ys fP]);exact it};{have e:ar op=2:=(by rw[ar,Ys M,Ys R,Yz ⟨h,W⟩]);exact it};have e:ar op=0:=(by rw[ar,Ys M,Ys R,Ys fP]);exact it);all_goals ( go_enter func155,ntmps155;go_wp2;go_ret;exact⟨rfl,rfl⟩)
def qih {H:Type}{f g:Nat->H}(h:∀j,j<k->f j=g j)(W:f k=g k):∀j,j<k+1->f j=g j:=λj s=>by by_cases e:j=k;{rw[e];exact W};exact h j fP
def bs (n:Nat)(f:Nat->Bool):Tl:=(List.range n).map λk=>.bool (f k)
def is (n:Nat)(f:Nat->Int):Tl:=(List.range n).map λk=>.int .i64 (f k)
def Ib {g}(e:x.length=n)(h:∀j,j<n->x[j]? = some (g j)):x=(List.range n).map g:=by apply Gq;intro j;by_cases s:j<n;{rw[h j s];simp[s]};rw[Vp fP,Vp fX]
def m0.bools {g f}(h:m0 w g t (bs n f)):C8 w (some (Aq g 0)) n f:=λk k =>
 ⟨g,0,rfl,h.lt,by rw[Zk,h.cell];simp[bs,k]⟩
def m0.ints {g f}(h:m0 w g t (is n f)):G5 w (some (Aq g 0)) n f:=λk k =>
 ⟨g,0,rfl,h.lt,by rw[Zk,h.cell];simp[is,k]⟩
def Xc:(prog.info? 4).map (λi=>(i.zero,i.size,i.bytes))=some (some (.bool Ff),1,1):=by kernel_rfl
def pR:(prog.info? 3).map (λi=>(i.zero,i.size,i.bytes))=some (some (Ye 0),1,8):=by kernel_rfl
def pF {x y}(u:x<n)(hy:y<n):x*n+y<n*n:=by have:(x+1)*n<=n*n:=Zx _ u;rw[Z5]at this;omega
def JJ (P:n<=32):n*n<=1024:=Ok P P
def SH (a)(m c n x y:Nat)(f w)(g:n*n<=m)(u:x<n)(hy:y<n)(P:n<=32)(K:C8 w a m f):Calls prog 29 #[.slice a m c,Ye n,Ye x,Ye y] w λe j=>e=.returned (.bool (f (x*n+y)))/\j=w:=by have d:=pF u hy;have r:=JJ P;obtain⟨b,o,rfl,-,N⟩:=K (x*n+y) fP;have Z:0<=(x:Int)*n:=(by rw[<- Zp];omega);have e:(x:Int)*n+y<m:=(by rw[<- Zp];omega);have h:(x:Int)*n<=1024:=(by rw[<- Zp];omega);go_enter func29,ntmps29;go_wp2;go_ret;exact kV
def lC (f:Nat->Bool)(n a b c:Nat):Prop:=f (a*n+c)=Tt/\f (b*n+c)=Tt/\∀d,d<n->f (a*n+d)=Tt->f (b*n+d)=Tt->f (c*n+d)=Tt
def CC (f:Nat->Bool)(n a b c:Nat):Bool:=f (a*n+c)&&f (b*n+c)&&(List.range n).all λd=>!f (a*n+d)||!f (b*n+d)||f (c*n+d)
def UU {f a b c}:CC f n a b c=Tt ↔ lC f n a b c:=by grind[CC,lC]
def O_ {f a b c}(h:lC f n a b c):CC f n a b c=Tt:=UU.2 h
def nQ {f a b c}(h:¬ lC f n a b c):CC f n a b c=Ff:=by grind[CC,lC]
def ir {p:Prop}(h:p:=by go_wp2_with (go_at_call 29;refine(SH _ _ _ _ _ _ f _ V gg gg P r).mono ?_;rintro e j ⟨rfl,rfl⟩);exact H6):p:=h
def o_ (t)(m N n a b c:Nat)(f w)(s:n*n<=m)(P:n<=32)(x:a<n)(y:b<n)(z:c<n)(r:C8 w t m f):Calls prog 59 #[.slice t m N,Ye n,Ye a,Ye b,Ye c] w λe j=>e=.returned (.bool (CC f n a b c))/\j=w:=by have V:=h_ s;cases l:f (a*n+c);{have v:Hi (CC f n a b c=Ff):=nQ λh=>Vr (l.symm.trans h.1);go_enter func59,ntmps59;exact ir};cases o:f (b*n+c);{have v:Hi (CC f n a b c=Ff):=nQ λh=>Vr (o.symm.trans h.2.1);go_enter func59,ntmps59;exact ir};go_enter func59,ntmps59;go_wp2_with (go_at_call 29;refine(SH _ _ _ _ _ _ f _ V gg gg P r).mono ?_;rintro e j ⟨rfl,rfl⟩);go_loop [11] (λi=>∃k:Nat,k<=n/\i=Ye k/\∀d,d<k->f (a*n+d)=Tt->f (b*n+d)=Tt->f (c*n+d)=Tt) (λi=>n - (intOf i).toNat);exact⟨0,nZ _,rfl,λd h=>absurd h (nL _)⟩;obtain⟨k,C,rfl,p⟩:=hrel;have B:=h_ p;by_cases S:k<n;{by_cases i:f (a*n+k)=Tt/\f (b*n+k)=Tt/\f (c*n+k)=Ff;{obtain⟨Z,K,g⟩:=i;have v:=h_ (nQ λh=>Vr (g.symm.trans (h.2.2 k S Z K)));exact ir};have R:Hi (f (a*n+k)=Tt->f (b*n+k)=Tt->f (c*n+k)=Tt):=λZ K=>(by cases g:f (c*n+k);{exact absurd ⟨Z,K,g⟩ i};rfl);have A:Hi (∀d,d<k+1->f (a*n+d)=Tt->f (b*n+d)=Tt->f (c*n+d)=Tt):=λd q=>(by by_cases e:d=k;{rw[e];exact R};exact B d fP);have J:f (a*n+k)=Ff\/(f (a*n+k)=Tt/\f (b*n+k)=Ff)\/(f (a*n+k)=Tt/\f (b*n+k)=Tt/\f (c*n+k)=Tt):=(by cases Z:f (a*n+k);{exact .inl rfl};cases K:f (b*n+k);{exact .inr (.inl ⟨rfl,rfl⟩)};exact .inr (.inr ⟨rfl,rfl,R Z K⟩));rcases J with Z|⟨Z,K⟩|⟨Z,K,g⟩;all_goals go_wp2_with (go_at_call 29;refine(SH _ _ _ _ _ _ f _ V gg gg P r).mono ?_;rintro e j ⟨rfl,rfl⟩);go_round;exact⟨k+1,fP,fU,A⟩;exact kZ};have v:Hi (CC f n a b c=Tt):=O_ ⟨l,o,λd q=>B d fP⟩;go_wp2;exact H6
def mC (f:Nat->Bool)(n a b c:Nat):Prop:=f (c*n+a)=Tt/\f (c*n+b)=Tt/\∀d,d<n->f (d*n+a)=Tt->f (d*n+b)=Tt->f (d*n+c)=Tt
def DC (f:Nat->Bool)(n a b c:Nat):Bool:=f (c*n+a)&&f (c*n+b)&&(List.range n).all λd=>!f (d*n+a)||!f (d*n+b)||f (d*n+c)
def WU {f a b c}:DC f n a b c=Tt ↔ mC f n a b c:=by grind[DC,mC]
def P_ {f a b c}(h:mC f n a b c):DC f n a b c=Tt:=WU.2 h
def oQ {f a b c}(h:¬ mC f n a b c):DC f n a b c=Ff:=by grind[DC,mC]
def p_ (t)(m N n a b c:Nat)(f w)(s:n*n<=m)(P:n<=32)(x:a<n)(y:b<n)(z:c<n)(r:C8 w t m f):Calls prog 60 #[.slice t m N,Ye n,Ye a,Ye b,Ye c] w λe j=>e=.returned (.bool (DC f n a b c))/\j=w:=by have V:=h_ s;cases l:f (c*n+a);{have v:Hi (DC f n a b c=Ff):=oQ λh=>Vr (l.symm.trans h.1);go_enter func60,ntmps60;exact ir};cases o:f (c*n+b);{have v:Hi (DC f n a b c=Ff):=oQ λh=>Vr (o.symm.trans h.2.1);go_enter func60,ntmps60;exact ir};go_enter func60,ntmps60;go_wp2_with (go_at_call 29;refine(SH _ _ _ _ _ _ f _ V gg gg P r).mono ?_;rintro e j ⟨rfl,rfl⟩);go_loop [11] (λi=>∃k:Nat,k<=n/\i=Ye k/\∀d,d<k->f (d*n+a)=Tt->f (d*n+b)=Tt->f (d*n+c)=Tt) (λi=>n - (intOf i).toNat);exact⟨0,nZ _,rfl,λd h=>absurd h (nL _)⟩;obtain⟨k,C,rfl,p⟩:=hrel;have B:=h_ p;by_cases S:k<n;{by_cases i:f (k*n+a)=Tt/\f (k*n+b)=Tt/\f (k*n+c)=Ff;{obtain⟨Z,K,g⟩:=i;have v:=h_ (oQ λh=>Vr (g.symm.trans (h.2.2 k S Z K)));exact ir};have R:Hi (f (k*n+a)=Tt->f (k*n+b)=Tt->f (k*n+c)=Tt):=λZ K=>(by cases g:f (k*n+c);{exact absurd ⟨Z,K,g⟩ i};rfl);have A:Hi (∀d,d<k+1->f (d*n+a)=Tt->f (d*n+b)=Tt->f (d*n+c)=Tt):=λd q=>(by by_cases e:d=k;{rw[e];exact R};exact B d fP);have J:f (k*n+a)=Ff\/(f (k*n+a)=Tt/\f (k*n+b)=Ff)\/(f (k*n+a)=Tt/\f (k*n+b)=Tt/\f (k*n+c)=Tt):=(by cases Z:f (k*n+a);{exact .inl rfl};cases K:f (k*n+b);{exact .inr (.inl ⟨rfl,rfl⟩)};exact .inr (.inr ⟨rfl,rfl,R Z K⟩));rcases J with Z|⟨Z,K⟩|⟨Z,K,g⟩;all_goals go_wp2_with (go_at_call 29;refine(SH _ _ _ _ _ _ f _ V gg gg P r).mono ?_;rintro e j ⟨rfl,rfl⟩);go_round;exact⟨k+1,fP,fU,A⟩;exact kZ};have v:Hi (DC f n a b c=Tt):=P_ ⟨l,o,λd q=>B d fP⟩;go_wp2;exact H6
