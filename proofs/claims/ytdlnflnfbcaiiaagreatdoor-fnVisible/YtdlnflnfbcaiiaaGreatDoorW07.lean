import Derived.Test.YtdlnflnfbcaiiaaGreatDoorW03
import Derived.Test.YtdlnflnfbcaiiaaGreatDoorW04
set_option linter.all false
namespace Go.Proofs.YtdlnflnfbcaiiaaGreatDoor
open Go Go.Proofs.Tryz
structure Nx where
 op:Int
 v:Vx
 nm:Tb
structure Ph where
 t:Tb
 lv:Int
 d:Nat
def TF:Ph:=⟨⟨#[]⟩,7,1⟩
def M0 (n:Nx):Nat:=(ar n.op).toNat
def E5 (op:Int):Int:=if op=15 then 1 else if op=14 then 2 else if 10<=op/\op<=13 then 3 else if 7<=op/\op<=9 then 4 else if 4<=op/\op<=6 then 5 else if op=2\/op=3 then 6 else 7
def IH:List Tb:=[⟨#[]⟩,⟨#[]⟩,⟨#[45]⟩,⟨#[110,111,116]⟩,⟨#[42]⟩,⟨#[47]⟩,⟨#[37]⟩,⟨#[43]⟩,⟨#[45]⟩,⟨#[38]⟩,⟨#[61]⟩,⟨#[60,62]⟩,⟨#[60]⟩,⟨#[60,61]⟩,⟨#[97,110,100]⟩,⟨#[111,114]⟩,
 ⟨#[105,102]⟩,⟨#[109,105,110]⟩,⟨#[109,97,120]⟩,⟨#[111,114,101,108,115,101]⟩,⟨#[104,97,115]⟩,⟨#[108,101,110]⟩,⟨#[110,117,109]⟩,⟨#[115,116,114]⟩,⟨#[105,115,98,108,97,110,107]⟩,⟨#[105,115,101,114,114]⟩]
def P9 (op:Int):Tb:=IH.getD op.toNat ⟨#[]⟩
def wrap (l:Int)(p:Ph):Tb:=if p.lv<l then ⟨#[40]⟩++p.t++⟨#[41]⟩ else p.t
def jt:List Tb->Tb
 | []=>⟨#[]⟩
 | x :: r=>⟨#[44,32]⟩++x++jt r
def jn:List Tb->Tb
 | []=>⟨#[]⟩
 | x :: r=>x++jt r
def XF (op:Int):Int:=if E5 op=3 then 4 else E5 op
def DB (n:Nx)(a:List Ph):Tb :=
 if n.op=0 then XC n.v.k n.v.n n.v.s
 else if n.op=1 then n.nm
 else if n.op=2 then ⟨#[45]⟩++wrap 6 (a.getD 0 TF)
 else if n.op=3 then ⟨#[110,111,116,32]⟩++wrap 6 (a.getD 0 TF)
 else if E5 n.op=7 then P9 n.op++⟨#[40]⟩++jn (a.map (·.t))++⟨#[41]⟩
 else wrap (XF n.op) (a.getD 0 TF)++⟨#[32]⟩++P9 n.op++⟨#[32]⟩++wrap (E5 n.op+1) (a.getD 1 TF)
def mx:List Ph->Nat
 | []=>0
 | p :: r=>max p.d (mx r)
def ZJ (n:Nx)(a:List Ph):Ph:=⟨DB n a,E5 n.op,mx a+1⟩
def T1 (e:Nat->Nx):Nat->List Nat
 | 0=>[]
 | n+1=>(n+1) :: (T1 e n).drop (M0 (e n))
def I2 (e:Nat->Nx):Nat->List Ph
 | 0=>[]
 | n+1=>ZJ (e n) ((I2 e n).take (M0 (e n))).reverse :: (I2 e n).drop (M0 (e n))
def top (e:Nat->Nx)(n:Nat):Ph:=(I2 e n).headD TF
def CF (e n):(I2 e n).length=(T1 e n).length:=by induction n <;> grind[I2,T1]
def Ti (e n):I2 e n=(T1 e n).map (top e):=by induction n with|zero=>rfl|succ n q=>simp only[I2,T1,Z3,List.map_drop,<- q];rfl
def Fp (e n):∀(i a:Nat) (r:List Nat),(T1 e n).drop i=a :: r->T1 e a=a :: r/\1<=a/\a<=n:=by induction n with|zero=>intro i a r h;simp[T1]at h|succ n q=>intro i a r h;cases i with|zero=>simp only[T1,List.drop_zero,List.cons.injEq]at h;obtain⟨rfl,rfl⟩:=h;exact⟨rfl,fP,fP⟩|succ i=>simp only[T1,List.drop_succ_cons,List.drop_drop]at h;obtain⟨m,b,Z⟩:=q _ a r h;exact⟨m,b,fP⟩
def zJ (e:Nat->Nx)(n:Nat):Nat:=(T1 e n).tail.headD 0
def oM (e n i)(h:i<(T1 e n).length):T1 e ((T1 e n)[i])=(T1 e n).drop i/\1<=(T1 e n)[i]/\(T1 e n)[i]<=n:=by have:=Fp e n i _ _ (Om h);rw[Om h];exact this
def xB (e:Nat->Nx)(n:Nat):Prop:=∀k,k<n->M0 (e k)<=(T1 e k).length
def xB.le {e n m}(h:xB e n)(w:m<=n):xB e m:=λk a=>h k fP
def vW (e n):top e (n+1)=ZJ (e n) ((I2 e n).take (M0 (e n))).reverse:=rfl
def ZR (e n):(T1 e n).length<=n:=by induction n <;> grind[T1]
def mF (n):M0 n<=3:=by grind[M0,ar]
def qds (e)(p:Ph->Prop)(b:∀n a x,x∈a->p x->a.length=M0 n->p (ZJ n a)){n m}(G:n<=m)(t:xB e m)(h:∃x,x∈I2 e n/\p x):∃x,x∈I2 e m/\p x:=by induction m with|zero=>obtain rfl:n=0:=fP;exact h|succ m q=>by_cases w:n=m+1;{subst w;exact h};obtain⟨x,u,s⟩:=q fP (t.le fP);rw[<- Vi (M0 (e m)) (I2 e m)]at u;rcases Zf.1 u with u|u;{refine⟨_,Zl,b _ _ x (Of.2 u) s ?_⟩;rw[Zh,Za,CF];have:=t m fP;omega};exact⟨x,Z6 _ u,s⟩
def Is {a x}(h:x∈a):x.d<=mx a:=by induction a <;> grind[mx]
theorem PQ (a b):mx (a++b)=max (mx a) (mx b):=by induction a <;> grind[mx]
def Lb (a):mx a.reverse=mx a:=by induction a <;> grind[mx,PQ]
def tot:List Ph->Nat
 | []=>0
 | p :: r=>p.t.size+tot r
theorem qV (a b):tot (a++b)=tot a+tot b:=by induction a <;> grind[tot]
def LU (a):tot a.reverse=tot a:=by induction a <;> grind[tot,qV]
def Nj {a x}(h:x∈a):x.t.size<=tot a:=by induction a <;> grind[tot]
def tA (b:Nat):Bool:=decide (97<=b/\b<=122)
def NB (b:Nat):Bool:=decide (48<=b/\b<=57)
def E8 (b:Nat):Bool:=tA b||NB b||decide (b=95)
def PG:List (List UInt8):=[[108,97,98,101,108],[98,101,108,111,119],[114,111,108,101],[102,105,101,108,100],[105,110,116],[98,111,111,108],[116,101,120,116],[97,116],[97,117,116,111],[98,121],[105,115],[119,104,101,110],[118,97,108,105,100],[115,97,121,115],[109,117,115,116],[97,110,100],[111,114],[110,111,116],[116,114,117,101],[102,97,108,115,101],[98,108,97,110,107]]
def YG (s:Tb):Bool:=PG.any λx=>s.toList==x
def N7 (s:Tb):Bool:=decide (1<=s.size/\s.size<=16)&&tA (s.data.getD 0 0).toNat&&(s.data.toList.all λc=>E8 c.toNat)&&!YG s
def t7 (n:Nx):Bool :=
 if n.op=0 then decide (n.nm.size=0)&&Z1 n.v.k n.v.n n.v.s&&decide (n.v.k≠4)&&decide (0<=n.v.n)
 else if n.op=1 then decide (n.v.k=0/\n.v.n=0/\n.v.s.size=0)&&N7 n.nm
 else decide (2<=n.op/\n.op<=25)&&decide (n.v.k=0/\n.v.n=0/\n.v.s.size=0)&&decide (n.nm.size=0)
def BF (l p):p.t.size<=(wrap l p).size/\(wrap l p).size<=p.t.size+2:=by grind[wrap,nH]
def qir:∀k:Fin 26,2<=k.val->1<=(IH.getD k.val ⟨#[]⟩).size/\(IH.getD k.val ⟨#[]⟩).size<=7:=by decide +kernel
def pO {op}(D:2<=op)(h1:op<=25):1<=(P9 op).size/\(P9 op).size<=7:=qir ⟨op.toNat,fP⟩ (by show 2<=op.toNat;omega)
def qs2 (a):(jt (a.map (·.t))).size=tot a+2*a.length:=by induction a with|nil=>rfl|cons p r q=>simp only[Z3,jt,Yy,q,tot,Y5,nH,Zr,Ze];omega
def LR (a):tot a<=(jn (a.map (·.t))).size/\(jn (a.map (·.t))).size<=tot a+2*a.length:=by cases a with|nil=>exact⟨nR 0,nR 0⟩|cons p r=>simp only[Z3,jn,Yy,qs2,tot,Y5];omega
def JS {op}(D:2<=op)(h1:op<=25)(h:E5 op≠7)(r:op≠2)(Z:op≠3):ar op=2:=by grind[E5,ar]
def WK {op}(h:op=2\/op=3):ar op=1:=by grind[ar]
def LJ {H:Type}{a:List H}(h:a.length=1):∃x,a=[x]:=by match a,h with|[x],_=>exact⟨x,rfl⟩
def rT {H:Type}{a:List H}(h:a.length=2):∃x y,a=[x,y]:=by match a,h with|[x,y],_=>exact⟨x,y,rfl⟩
def iA {p:Prop}(h:p:=by obtain⟨x,rfl⟩:=LJ (K.trans e);have:=BF 6 x;simp only[Vh,Yy,tot,nH,Zr,Y5,Ze];omega):p:=h
def Sf (n a)(P:t7 n=true)(K:a.length=M0 n)(h1:n.v.n<=9223372036854775807):tot a+1+n.v.s.size<=(DB n a).size/\(DB n a).size<=tot a+1100:=by unfold t7 at P;unfold DB;by_cases D:n.op=0;{rw[Yz D]at P|-;simp only[Yx,Y3]at P;have:a=[]:=(by have e:M0 n=0:=(by unfold M0;rw[D];rfl);rw[e]at K;exact Zj.1 K);subst this;have:=qcz n.v.k n.v.n n.v.s P.1.1.2 P.2 h1;simp only[tot];omega};rw[Ys D]at P|-;by_cases m:n.op=1;{rw[Yz m]at P|-;simp only[Yx,Y3,N7]at P;have:a=[]:=(by have e:M0 n=0:=(by unfold M0;rw[m];rfl);rw[e]at K;exact Zj.1 K);subst this;simp only[tot];omega};rw[Ys m]at P|-;simp only[Yx,Y3]at P;obtain⟨⟨⟨F,q⟩,⟨-,-,p⟩⟩,-⟩:=P;have W:=pO F q;by_cases r:n.op=2;{rw[Yz r];have e:M0 n=1:=(by unfold M0;rw[WK (.inl r)];rfl);exact iA};rw[Ys r];by_cases Z:n.op=3;{rw[Yz Z];have e:M0 n=1:=(by unfold M0;rw[WK (.inr Z)];rfl);exact iA};rw[Ys Z];by_cases G:E5 n.op=7;{rw[Yz G];have:=LR a;have Z:=mF n;simp only[Yy,nH,Zr,Y5,Ze];omega};rw[Ys G];have e:M0 n=2:=(by unfold M0;rw[JS F q G r Z];rfl);obtain⟨x,y,rfl⟩:=rT (K.trans e);have b:=BF (XF n.op) x;have H:=BF (E5 n.op+1) y;simp only[Vh,Ov,Yy,tot,nH,Zr,Y5,Ze];omega
def DD (e:Nat->Nx):Nat->Nat
 | 0=>0
 | n+1=>DD e n+1+(e n).v.s.size
def DE (e:Nat->Nx)(n:Nat):Prop:=∀k,k<n->t7 (e k)=true
def DE.le {e n m}(h:DE e n)(w:m<=n):DE e m:=λk a=>h k fP
theorem lX (e n)(t:xB e n)(P:DE e n)(c:∀k,k<n->(e k).v.n<=9223372036854775807):DD e n<=tot (I2 e n)/\tot (I2 e n)<=1100*n:=by induction n with|zero=>simp[DD,I2,tot]|succ n q=>have:=q (t.le fP) (P.le fP) (λk a=>c k fP);have a:((I2 e n).take (M0 (e n))).reverse.length=M0 (e n):=(by rw[Zh,Za,CF];have:=t n fP;omega);have h:=Sf (e n) _ (P n fP) a (c n fP);have B:tot (I2 e n)=tot ((I2 e n).take (M0 (e n))).reverse+tot ((I2 e n).drop (M0 (e n))):=(by rw[LU,<- qV,Vi]);simp only[I2,tot,ZJ,DD];omega
def FF (e:Nat->Nx)(m:Nat):Prop:=1<=m/\m<=1000/\DE e m/\xB e m/\(T1 e m).length=1/\(top e m).d<=64/\(top e m).t.size<=4000
theorem XW {e m}(h:(T1 e m).length=1):I2 e m=[top e m]:=by rw[<- CF]at h;obtain⟨x,u⟩:=LJ h;rw[top,u];rfl
def FF.part {e m n}(b:FF e m)(f:∀k,k<m->(e k).v.n<=9223372036854775807)(h1:1<=n)(P:n<=m):(top e n).d<=64/\(top e n).t.size<=4000:=by obtain⟨-,-,K,B,a,i,l⟩:=b;have h:=XW a;obtain⟨n,rfl⟩:∃k,n=k+1:=⟨n - 1,fP⟩;constructor;{refine Decidable.byContradiction λN=>?_;obtain⟨x,u,Y⟩:=qds e (λp=>64<p.d) (λn c x u h _=>by have:=Is u;show 64<mx c+1;have h:64<x.d:=h;omega) P B ⟨_,Zl,by show 64<(top e (n+1)).d;omega⟩;rw[h]at u;obtain rfl:=Y7.1 u;have Y:=Y;omega};refine Decidable.byContradiction λN=>?_;have g:∀j,n+1<=j->j<=m->∃x,x∈I2 e j/\4000<x.t.size:=(by intro j;induction j with|zero=>intro b;omega|succ j q=>intro h1 r;by_cases s:n=j;{subst s;exact⟨_,Zl,by show 4000<(top e (n+1)).t.size;omega⟩};obtain⟨x,u,c⟩:=q fP fP;rw[<- Vi (M0 (e j)) (I2 e j)]at u;rcases Zf.1 u with u|u;{refine⟨_,Zl,?_⟩;have a:((I2 e j).take (M0 (e j))).reverse.length=M0 (e j):=(by rw[Zh,Za,CF];have:=B j fP;omega);have h:=(Sf (e j) _ (K j fP) a (f j fP)).1;have:=Nj (Of.2 u);show 4000<(DB _ _).size;omega};exact⟨x,Z6 _ u,c⟩);obtain⟨x,u,Y⟩:=g m P (nR _);rw[h]at u;obtain rfl:=Y7.1 u;omega
def FF.sum {e m}(h:FF e m)(c:∀k,k<m->(e k).v.n<=9223372036854775807):DD e m<=4000:=by grind[tot,FF,DD,lX,XW]
