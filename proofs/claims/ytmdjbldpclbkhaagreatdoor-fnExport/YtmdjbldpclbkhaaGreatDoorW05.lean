import Derived.Test.YtmdjbldpclbkhaaGreatDoorW01
import Derived.Test.YtmdjbldpclbkhaaGreatDoorW02
set_option linter.all false
namespace Go.Proofs.YtmdjbldpclbkhaaGreatDoor
open Value renaming slice->Sl,string->St,bool->Bo
open Obj renaming cells->Cl
open Ending renaming returned->Rt
open Go Go.Proofs.Tryz
structure Nx where
 op:Int
 v:Vx
 nm:Tb
abbrev Jk(x0:Nx):Ta:=#[Yf x0.op,Yf x0.v.k,Yf x0.v.n,St x0.v.s,St x0.nm]
structure Ph where
 t:Tb
 lv:Int
 d:Nat
def ken:Ph:=⟨⟨#[]⟩,7,1⟩
def arn (n:Nx):Nat:=(ar n.op).toNat
def lvl (op:Int):Int:=if op=15 then 1 else if op=14 then 2 else if 10<=op/\op<=13 then 3 else if 7<=op/\op<=9 then 4 else if 4<=op/\op<=6 then 5 else if op=2∨op=3 then 6 else 7
def keZ:List Tb:=[⟨#[]⟩,⟨#[]⟩,⟨#[45]⟩,⟨#[110,111,116]⟩,⟨#[42]⟩,⟨#[47]⟩,⟨#[37]⟩,⟨#[43]⟩,⟨#[45]⟩,⟨#[38]⟩,⟨#[61]⟩,⟨#[60,62]⟩,⟨#[60]⟩,⟨#[60,61]⟩,⟨#[97,110,100]⟩,⟨#[111,114]⟩,
 ⟨#[105,102]⟩,⟨#[109,105,110]⟩,⟨#[109,97,120]⟩,⟨#[111,114,101,108,115,101]⟩,⟨#[104,97,115]⟩,⟨#[108,101,110]⟩,⟨#[110,117,109]⟩,⟨#[115,116,114]⟩,⟨#[105,115,98,108,97,110,107]⟩,⟨#[105,115,101,114,114]⟩]
def wrd (op:Int):Tb:=keZ.getD op.toNat ⟨#[]⟩
def wrap (l:Int)(p:Ph):Tb:=if p.lv<l then ⟨#[40]⟩++p.t++⟨#[41]⟩ else p.t
def jt:List Tb->Tb
 | []=>⟨#[]⟩
 | x :: r=>⟨#[44,32]⟩++x++jt r
def jn:List Tb->Tb
 | []=>⟨#[]⟩
 | x :: r=>x++jt r
def lft (op:Int):Int:=if lvl op=3 then 4 else lvl op
def phT (n:Nx)(a:List Ph):Tb :=
 if n.op=0 then kaj n.v.k n.v.n n.v.s
 else if n.op=1 then n.nm
 else if n.op=2 then ⟨#[45]⟩++wrap 6 (a.getD 0 ken)
 else if n.op=3 then ⟨#[110,111,116,32]⟩++wrap 6 (a.getD 0 ken)
 else if lvl n.op=7 then wrd n.op++⟨#[40]⟩++jn (a.map (·.t))++⟨#[41]⟩
 else wrap (lft n.op) (a.getD 0 ken)++⟨#[32]⟩++wrd n.op++⟨#[32]⟩++wrap (lvl n.op+1) (a.getD 1 ken)
def mx:List Ph->Nat
 | []=>0
 | p :: r=>max p.d (mx r)
def phr (n:Nx)(a:List Ph):Ph:=⟨phT n a,lvl n.op,mx a+1⟩
def stk (e:Nat->Nx):Nat->List Nat
 | 0=>[]
 | n+1=>(n+1) :: (stk e n).drop (arn (e n))
def pst (e:Nat->Nx):Nat->List Ph
 | 0=>[]
 | n+1=>phr (e n) ((pst e n).take (arn (e n))).reverse :: (pst e n).drop (arn (e n))
def top (e:Nat->Nx)(n:Nat):Ph:=(pst e n).headD ken
def qqy (e:Nat->Nx)(n:Nat):(pst e n).length=(stk e n).length:=by induction n <;> grind[pst,stk]
def qqz (e:Nat->Nx)(n:Nat):pst e n=(stk e n).map (top e):=by induction n with|zero=>rfl|succ n a=>simp only[pst,stk,Zz,List.map_drop,<- a];rfl
def kg1 (e:Nat->Nx)(n:Nat):∀(c a:Nat) (d:List Nat),(stk e n).drop c=a :: d->stk e a=a :: d/\1<=a/\a<=n:=by induction n with|zero=>intro c a d b;simp[stk]at b|succ n h=>intro c a d b;cases c with|zero=>simp only[stk,Gd,Oz]at b;obtain⟨rfl,rfl⟩:=b;exact⟨rfl,fP,fP⟩|succ c=>simp only[stk,List.drop_succ_cons,G5]at b;obtain⟨f,g,i⟩:=h _ a d b;exact⟨f,g,fP⟩
def beg (e:Nat->Nx)(n:Nat):Nat:=(stk e n).tail.headD 0
def qmb (e:Nat->Nx)(n i:Nat)(a:i<(stk e n).length):stk e ((stk e n)[i])=(stk e n).drop i/\1<=(stk e n)[i]/\(stk e n)[i]<=n:=by have:=kg1 e n i _ _ (Vk a);rw[Vk a];exact this
def kbG (e:Nat->Nx)(n:Nat):Prop:=∀k,k<n->arn (e k)<=(stk e k).length
def kbG.le {e:Nat->Nx}{n m:Nat}(a:kbG e n)(d:m<=n):kbG e m:=λb c=>a b fP
def qlq (e:Nat->Nx)(n:Nat):top e (n+1)=phr (e n) ((pst e n).take (arn (e n))).reverse:=rfl
def qs4 (e:Nat->Nx)(n:Nat):(stk e n).length<=n:=by induction n <;> grind[stk]
def kbU (n:Nx):arn n<=3:=by grind[arn,ar]
def qby (e:Nat->Nx)(p:Ph->Prop)(h:∀n b a,a∈b->p a->b.length=arn n->p (phr n b)){n m:Nat}(j:n<=m)(d:kbG e m)(c:∃a,a∈pst e n/\p a):∃a,a∈pst e m/\p a:=by induction m with|zero=>obtain rfl:n=0:=fP;exact c|succ m i=>by_cases g:n=m+1;{subst g;exact c};obtain⟨a,b,f⟩:=i fP (d.le fP);rw[<- Vt (arn (e m)) (pst e m)]at b;rcases Zd.1 b with b | b;{refine⟨_,Y7,h _ _ a (Gs.2 b) f ?_⟩;rw[Zo,Zb,qqy];have:=d m fP;omega};exact⟨a,Zc _ b,f⟩
def kh1 {a:List Ph}{x:Ph}(b:x∈a):x.d<=mx a:=by induction a <;> grind[mx]
theorem qec (a b:List Ph):mx (a++b)=max (mx a) (mx b):=by induction a <;> grind[mx]
def qah (a:List Ph):mx a.reverse=mx a:=by induction a <;> grind[mx,qec]
def tot:List Ph->Nat
 | []=>0
 | p :: r=>p.t.size+tot r
theorem qbi (a b:List Ph):tot (a++b)=tot a+tot b:=by induction a <;> grind[tot]
def q81 (a:List Ph):tot a.reverse=tot a:=by induction a <;> grind[tot,qbi]
def qsg {a:List Ph}{x:Ph}(b:x∈a):x.t.size<=tot a:=by induction a <;> grind[tot]
def kba (b:Nat):Bool:=decide (97<=b/\b<=122)
def kaW (b:Nat):Bool:=decide (48<=b/\b<=57)
def kaX (b:Nat):Bool:=kba b||kaW b||decide (b=95)
def keI:List (List UInt8):=[[108,97,98,101,108],[98,101,108,111,119],[114,111,108,101],[102,105,101,108,100],[105,110,116],[98,111,111,108],[116,101,120,116],[97,116],[97,117,116,111],[98,121],[105,115],[119,104,101,110],[118,97,108,105,100],[115,97,121,115],[109,117,115,116],[97,110,100],[111,114],[110,111,116],[116,114,117,101],[102,97,108,115,101],[98,108,97,110,107]]
def rsv (s:Tb):Bool:=keI.any λx=>s.toList==x
def kaJ (s:Tb):Bool:=decide (1<=s.size/\s.size<=16)&&kba (s.data.getD 0 0).toNat&&(s.data.toList.all λc=>kaX c.toNat)&&!rsv s
def kas (n:Nx):Bool :=
 if n.op=0 then decide (n.nm.size=0)&&kai n.v.k n.v.n n.v.s&&decide (n.v.k≠4)&&decide (0<=n.v.n)
 else if n.op=1 then decide (n.v.k=0/\n.v.n=0/\n.v.s.size=0)&&kaJ n.nm
 else decide (2<=n.op/\n.op<=25)&&decide (n.v.k=0/\n.v.n=0/\n.v.s.size=0)&&decide (n.nm.size=0)
def qgf (l:Int)(p:Ph):p.t.size<=(wrap l p).size/\(wrap l p).size<=p.t.size+2:=by grind[wrap,bsz]
def qgg:∀a:Fin 26,2<=a.val->1<=(keZ.getD a.val ⟨#[]⟩).size/\(keZ.getD a.val ⟨#[]⟩).size<=7:=by decide +kernel
def qm4 {op:Int}(a:2<=op)(b:op<=25):1<=(wrd op).size/\(wrd op).size<=7:=qgg ⟨op.toNat,fP⟩ (by show 2<=op.toNat;omega)
def qp3 (a:List Ph):(jt (a.map (·.t))).size=tot a+2*a.length:=by induction a with|nil=>rfl|cons c d b=>simp only[Zz,jt,Yt,b,tot,Yy,bsz,Zh,Za];omega
def qp0 (a:List Ph):tot a<=(jn (a.map (·.t))).size/\(jn (a.map (·.t))).size<=tot a+2*a.length:=by cases a with|nil=>exact⟨nR 0,nR 0⟩|cons b c=>simp only[Zz,jn,Yt,qp3,tot,Yy];omega
def keo {op:Int}(b:2<=op)(c:op<=25)(a:lvl op≠7)(d:op≠2)(e:op≠3):ar op=2:=by grind[lvl,ar]
def kcM {op:Int}(a:op=2∨op=3):ar op=1:=by grind[ar]
def kdt {d:Type}{a:List d}(c:a.length=1):∃b,a=[b]:=by match a,c with|[b],_=>exact⟨b,rfl⟩
def kfN {e:Type}{a:List e}(d:a.length=2):∃b c,a=[b,c]:=by match a,d with|[b,c],_=>exact⟨b,c,rfl⟩
def iu {p:Prop}(h:p:=by obtain⟨f,rfl⟩:=kdt (d.trans c);have:=qgf 6 f;simp only[Vl,Yt,tot,bsz,Zh,Yy,Za];omega):p:=h
def qjz (n:Nx)(a:List Ph)(b:kas n=true)(d:a.length=arn n)(o:n.v.n<=9223372036854775807):tot a+1+n.v.s.size<=(phT n a).size/\(phT n a).size<=tot a+1100:=by unfold kas at b;unfold phT;by_cases h:n.op=0;{rw[Y6 h]at b⊢;simp only[Yw,Yu]at b;have:a=[]:=(by have c:arn n=0:=(by unfold arn;rw[h];rfl);rw[c]at d;exact Z2.1 d);subst this;have:=qb4 n.v.k n.v.n n.v.s b.1.1.2 b.2 o;simp only[tot];omega};rw[Y2 h]at b⊢;by_cases i:n.op=1;{rw[Y6 i]at b⊢;simp only[Yw,Yu,kaJ]at b;have:a=[]:=(by have c:arn n=0:=(by unfold arn;rw[i];rfl);rw[c]at d;exact Z2.1 d);subst this;simp only[tot];omega};rw[Y2 i]at b⊢;simp only[Yw,Yu]at b;obtain⟨⟨⟨l,m⟩,⟨-,-,q⟩⟩,-⟩:=b;have r:=qm4 l m;by_cases g:n.op=2;{rw[Y6 g];have c:arn n=1:=(by unfold arn;rw[kcM (.inl g)];rfl);exact iu};rw[Y2 g];by_cases e:n.op=3;{rw[Y6 e];have c:arn n=1:=(by unfold arn;rw[kcM (.inr e)];rfl);exact iu};rw[Y2 e];by_cases j:lvl n.op=7;{rw[Y6 j];have:=qp0 a;have e:=kbU n;simp only[Yt,bsz,Zh,Yy,Za];omega};rw[Y2 j];have c:arn n=2:=(by unfold arn;rw[keo l m j g e];rfl);obtain⟨f,p,rfl⟩:=kfN (d.trans c);have t:=qgf (lft n.op) f;have u:=qgf (lvl n.op+1) p;simp only[Vl,O8,Yt,tot,bsz,Zh,Yy,Za];omega
def ka7 (e:Nat->Nx):Nat->Nat
 | 0=>0
 | n+1=>ka7 e n+1+(e n).v.s.size
def kcv (e:Nat->Nx)(n:Nat):Prop:=∀k,k<n->kas (e k)=true
def kcv.le {e:Nat->Nx}{n m:Nat}(a:kcv e n)(d:m<=n):kcv e m:=λb c=>a b fP
theorem qsh (e:Nat->Nx)(n:Nat)(d:kbG e n)(c:kcv e n)(b:∀a,a<n->(e a).v.n<=9223372036854775807):ka7 e n<=tot (pst e n)/\tot (pst e n)<=1100*n:=by induction n with|zero=>simp[ka7,pst,tot]|succ n f=>have:=f (d.le fP) (c.le fP) (λa g=>b a fP);have a:((pst e n).take (arn (e n))).reverse.length=arn (e n):=(by rw[Zo,Zb,qqy];have:=d n fP;omega);have g:=qjz (e n) _ (c n fP) a (b n fP);have h:tot (pst e n)=tot ((pst e n).take (arn (e n))).reverse+tot ((pst e n).drop (arn (e n))):=(by rw[q81,<- qbi,Vt]);simp only[pst,tot,phr,ka7];omega
def vEx (e:Nat->Nx)(m:Nat):Prop:=1<=m/\m<=1000/\kcv e m/\kbG e m/\(stk e m).length=1/\(top e m).d<=64/\(top e m).t.size<=4000
theorem qr0 {e:Nat->Nx}{m:Nat}(a:(stk e m).length=1):pst e m=[top e m]:=by rw[<- qqy]at a;obtain⟨c,b⟩:=kdt a;rw[top,b];rfl
def vEx.part {e:Nat->Nx}{m n:Nat}(i:vEx e m)(p:∀a,a<m->(e a).v.n<=9223372036854775807)(l:1<=n)(j:n<=m):(top e n).d<=64/\(top e n).t.size<=4000:=by obtain⟨-,-,o,k,g,y,z⟩:=i;have f:=qr0 g;obtain⟨n,rfl⟩:∃a,n=a+1:=⟨n - 1,fP⟩;constructor;{refine Decidable.byContradiction λq=>?_;obtain⟨c,b,h⟩:=qby e (λa=>64<a.d) (λn a c b f _=>by have:=kh1 b;show 64<mx a+1;have f:64<c.d:=f;omega) j k ⟨_,Y7,by show 64<(top e (n+1)).d;omega⟩;rw[f]at b;obtain rfl:=Y9.1 b;have h:64<(top e m).d:=h;omega};refine Decidable.byContradiction λq=>?_;have w:∀a,n+1<=a->a<=m->∃c,c∈pst e a/\4000<c.t.size:=(by intro a;induction a with|zero=>intro i;omega|succ a u=>intro l x;by_cases r:n=a;{subst r;exact⟨_,Y7,by show 4000<(top e (n+1)).t.size;omega⟩};obtain⟨c,b,s⟩:=u fP fP;rw[<- Vt (arn (e a)) (pst e a)]at b;rcases Zd.1 b with b | b;{refine⟨_,Y7,?_⟩;have g:((pst e a).take (arn (e a))).reverse.length=arn (e a):=(by rw[Zo,Zb,qqy];have:=k a fP;omega);have f:=(qjz (e a) _ (o a fP) g (p a fP)).1;have:=qsg (Gs.2 b);show 4000<(phT _ _).size;omega};exact⟨c,Zc _ b,s⟩);obtain⟨c,b,h⟩:=w m j (nR _);rw[f]at b;obtain rfl:=Y9.1 b;omega
def vEx.sum {e:Nat->Nx}{m:Nat}(b:vEx e m)(c:∀a,a<m->(e a).v.n<=9223372036854775807):ka7 e m<=4000:=by grind[tot,vEx,ka7,qsh,qr0]
