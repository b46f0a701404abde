import Derived.Test.YtenckgnkjkijnaaGreatDoorW01
import Derived.Test.YtenckgnkjkijnaaGreatDoorW02
namespace Go.Proofs.YtenckgnkjkijnaaGreatDoor
open Go Go.Proofs.Tryz
structure Nx where
 op:Int
 v:Vx
 nm:Tb
abbrev Je(x0:Nx):Ta:=#[J6 x0.op,J6 x0.v.k,J6 x0.v.n,.string x0.v.s,.string x0.nm]
structure Ph where
 t:Tb
 lv:Int
 d:Nat
def kem:Ph:=⟨⟨#[]⟩,7,1⟩
def arn (n:Nx):Nat:=(ar n.op).toNat
def lvl (op:Int):Int:=if op=15 then 1 else if op=14 then 2 else if 10<=op/\op<=13 then 3 else if 7<=op/\op<=9 then 4 else if 4<=op/\op<=6 then 5 else if op=2∨op=3 then 6 else 7
def ke7:List Tb:=[⟨#[]⟩,⟨#[]⟩,⟨#[45]⟩,⟨#[110,111,116]⟩,⟨#[42]⟩,⟨#[47]⟩,⟨#[37]⟩,⟨#[43]⟩,⟨#[45]⟩,⟨#[38]⟩,⟨#[61]⟩,⟨#[60,62]⟩,⟨#[60]⟩,⟨#[60,61]⟩,⟨#[97,110,100]⟩,⟨#[111,114]⟩,
 ⟨#[105,102]⟩,⟨#[109,105,110]⟩,⟨#[109,97,120]⟩,⟨#[111,114,101,108,115,101]⟩,⟨#[104,97,115]⟩,⟨#[108,101,110]⟩,⟨#[110,117,109]⟩,⟨#[115,116,114]⟩,⟨#[105,115,98,108,97,110,107]⟩,⟨#[105,115,101,114,114]⟩]
def wrd (op:Int):Tb:=ke7.getD op.toNat ⟨#[]⟩
def wrap (l:Int)(p:Ph):Tb:=if p.lv<l then ⟨#[40]⟩++p.t++⟨#[41]⟩ else p.t
def jt:List Tb->Tb
 | []=>⟨#[]⟩
 | x :: r=>⟨#[44,32]⟩++x++jt r
def jn:List Tb->Tb
 | []=>⟨#[]⟩
 | x :: r=>x++jt r
def lft (op:Int):Int:=if lvl op=3 then 4 else lvl op
def phT (n:Nx)(a:List Ph):Tb :=
 if n.op=0 then kbm n.v.k n.v.n n.v.s
 else if n.op=1 then n.nm
 else if n.op=2 then ⟨#[45]⟩++wrap 6 (a.getD 0 kem)
 else if n.op=3 then ⟨#[110,111,116,32]⟩++wrap 6 (a.getD 0 kem)
 else if lvl n.op=7 then wrd n.op++⟨#[40]⟩++jn (a.map (·.t))++⟨#[41]⟩
 else wrap (lft n.op) (a.getD 0 kem)++⟨#[32]⟩++wrd n.op++⟨#[32]⟩++wrap (lvl n.op+1) (a.getD 1 kem)
def mx:List Ph->Nat
 | []=>0
 | p :: r=>max p.d (mx r)
def phr (n:Nx)(a:List Ph):Ph:=⟨phT n a,lvl n.op,mx a+1⟩
def stk (e:Nat->Nx):Nat->List Nat
 | 0=>[]
 | n+1=>(n+1) :: (stk e n).drop (arn (e n))
def pst (e:Nat->Nx):Nat->List Ph
 | 0=>[]
 | n+1=>phr (e n) ((pst e n).take (arn (e n))).reverse :: (pst e n).drop (arn (e n))
def top (e:Nat->Nx)(n:Nat):Ph:=(pst e n).headD kem
theorem qrh (a:Nat->Nx)(n:Nat):(pst a n).length=(stk a n).length:=by
 induction n with
 | zero=>rfl
 | succ n b=>simp[pst,stk,b]
theorem qri (a:Nat->Nx)(n:Nat):pst a n=(stk a n).map (top a):=by
 induction n with
 | zero=>rfl
 | succ n b =>
  simp only[pst,stk,Z5,List.map_drop,<- b];rfl
theorem kgI (e:Nat->Nx)(n:Nat):∀(c a:Nat) (d:List Nat),(stk e n).drop c=a :: d->stk e a=a :: d/\1<=a/\a<=n:=by
 induction n with
 | zero=>intro c a d b;simp[stk]at b
 | succ n h =>
  intro c a d b;cases c with
  | zero=>simp only[stk,List.drop_zero,List.cons.injEq]at b;obtain⟨rfl,rfl⟩:=b;exact⟨rfl,by omega,by omega⟩
  | succ c =>
   simp only[stk,List.drop_succ_cons,List.drop_drop]at b;obtain⟨f,g,i⟩:=h _ a d b;exact⟨f,g,by omega⟩
def beg (e:Nat->Nx)(n:Nat):Nat:=(stk e n).tail.headD 0
theorem qn9 (a:Nat->Nx)(n i:Nat)(b:i<(stk a n).length):stk a ((stk a n)[i])=(stk a n).drop i/\1<=(stk a n)[i]/\(stk a n)[i]<=n:=by
 have:=kgI a n i _ _ (Vn b);rw[Vn b];exact this
def kbN (e:Nat->Nx)(n:Nat):Prop:=∀k,k<n->arn (e k)<=(stk e k).length
theorem kbN.le {a:Nat->Nx}{n m:Nat}(b:kbN a n)(e:m<=n):kbN a m:=fun c d=>b c (by omega)
theorem qml (a:Nat->Nx)(n:Nat):top a (n+1)=phr (a n) ((pst a n).take (arn (a n))).reverse:=rfl
theorem qs8 (a:Nat->Nx)(n:Nat):(stk a n).length<=n:=by
 induction n with
 | zero=>simp[stk]
 | succ n b=>simp[stk];omega
theorem kbQ (n:Nx):arn n<=3:=by
 unfold arn ar;split
 . simp
 . split
   . simp
   . split <;> simp
theorem qdt (c:Nat->Nx)(p:Ph->Prop)(h:∀n b a,a∈b->p a->b.length=arn n->p (phr n b)){n m:Nat}(j:n<=m)(e:kbN c m)(d:∃a,a∈pst c n/\p a):∃a,a∈pst c m/\p a:=by
 induction m with
 | zero=>obtain rfl:n=0:=(by omega);exact d
 | succ m i =>
  by_cases g:n=m+1
  . subst g;exact d
  . obtain⟨a,b,f⟩:=i (by omega) (e.le (by omega))
    rw[<- Vc (arn (c m)) (pst c m)]at b;rcases Zk.1 b with b | b
    . refine⟨_,Y8,h _ _ a (Ol.2 b) f ?_⟩
      rw[Zf,Zb,qrh];have:=e m (by omega);omega
    . exact⟨a,Zi _ b,f⟩
theorem khE {a:List Ph}{x:Ph}(b:x∈a):x.d<=mx a:=by
 induction a with
 | nil=>cases b
 | cons e f c =>
  rcases Z7.1 b with rfl | b
  . simp[mx];omega
  . have:=c b;simp[mx];omega
theorem qg5 (a b:List Ph):mx (a++b)=max (mx a) (mx b):=by
 induction a with
 | nil=>simp[mx]
 | cons d e c=>simp only[Zw,mx,c];omega
theorem qbz (a:List Ph):mx a.reverse=mx a:=by
 induction a with
 | nil=>rfl
 | cons c d b=>simp only[Oi,qg5,b,mx];omega
def tot:List Ph->Nat
 | []=>0
 | p :: r=>p.t.size+tot r
theorem qdb (a b:List Ph):tot (a++b)=tot a+tot b:=by
 induction a with
 | nil=>simp[tot]
 | cons d e c=>simp only[Zw,tot,c];omega
theorem q9v (a:List Ph):tot a.reverse=tot a:=by
 induction a with
 | nil=>rfl
 | cons c d b=>simp only[Oi,qdb,b,tot];omega
theorem qsj {a:List Ph}{x:Ph}(b:x∈a):x.t.size<=tot a:=by
 induction a with
 | nil=>cases b
 | cons d e c =>
  rcases Z7.1 b with rfl | b
  . simp[tot]
  . have:=c b;simp[tot];omega
def kbh (b:Nat):Bool:=decide (97<=b/\b<=122)
def kaY (b:Nat):Bool:=decide (48<=b/\b<=57)
def kaZ (b:Nat):Bool:=kbh b||kaY b||decide (b=95)
def keO:List (List UInt8):=[[108,97,98,101,108],[98,101,108,111,119],[114,111,108,101],[102,105,101,108,100],[105,110,116],[98,111,111,108],[116,101,120,116],[97,116],[97,117,116,111],[98,121],[105,115],[119,104,101,110],[118,97,108,105,100],[115,97,121,115],[109,117,115,116],[97,110,100],[111,114],[110,111,116],[116,114,117,101],[102,97,108,115,101],[98,108,97,110,107]]
def rsv (s:Tb):Bool:=keO.any fun x=>s.toList==x
def kaQ (s:Tb):Bool:=decide (1<=s.size/\s.size<=16)&&kbh (s.data.getD 0 0).toNat&&(s.data.toList.all fun c=>kaZ c.toNat)&&!rsv s
def kao (n:Nx):Bool :=
 if n.op=0 then decide (n.nm.size=0)&&kah n.v.k n.v.n n.v.s&&decide (n.v.k≠4)&&decide (0<=n.v.n)
 else if n.op=1 then decide (n.v.k=0/\n.v.n=0/\n.v.s.size=0)&&kaQ n.nm
 else decide (2<=n.op/\n.op<=25)&&decide (n.v.k=0/\n.v.n=0/\n.v.s.size=0)&&decide (n.nm.size=0)
theorem qi5 (l:Int)(p:Ph):p.t.size<=(wrap l p).size/\(wrap l p).size<=p.t.size+2:=by
 unfold wrap;split
 . simp only[Ym,bsz,Zg,Yt,Y2];omega
 . omega
theorem qi6:∀a:Fin 26,2<=a.val->1<=(ke7.getD a.val ⟨#[]⟩).size/\(ke7.getD a.val ⟨#[]⟩).size<=7:=by decide +kernel
theorem qmx {a:Int}(b:2<=a)(c:a<=25):1<=(wrd a).size/\(wrd a).size<=7:=qi6 ⟨a.toNat,by omega⟩ (by show 2<=a.toNat;omega)
theorem qpr (a:List Ph):(jt (a.map (·.t))).size=tot a+2*a.length:=by
 induction a with
 | nil=>rfl
 | cons c d b=>simp only[Z5,jt,Ym,b,tot,Yt,bsz,Zg,Y2];omega
theorem qpo (a:List Ph):tot a<=(jn (a.map (·.t))).size/\(jn (a.map (·.t))).size<=tot a+2*a.length:=by
 cases a with
 | nil=>exact⟨nR 0,nR 0⟩
 | cons b c=>simp only[Z5,jn,Ym,qpr,tot,Yt];omega
theorem ken {a:Int}(c:2<=a)(d:a<=25)(b:lvl a≠7)(e:a≠2)(f:a≠3):ar a=2:=by
 unfold lvl at b;unfold ar;by_cases g:4<=a/\a<=15
 . rw[Yl (by omega),Yl (by omega),Yr (by omega)]
 . rw[Yl (by omega),Yl (by omega),Yl (by omega),Yl (by omega),Yl (by omega),Yl (by omega)]at b
   exact absurd rfl b
theorem kcM {a:Int}(b:a=2∨a=3):ar a=1:=by rcases b with rfl | rfl <;> rfl
theorem kdb {d:Type}{a:List d}(c:a.length=1):∃b,a=[b]:=by
 match a,c with
 | [b],_=>exact⟨b,rfl⟩
theorem kfM {e:Type}{a:List e}(d:a.length=2):∃b c,a=[b,c]:=by
 match a,d with
 | [b,c],_=>exact⟨b,c,rfl⟩
theorem ql4 (n:Nx)(a:List Ph)(b:kao n=true)(d:a.length=arn n)(o:n.v.n<=9223372036854775807):tot a+1+n.v.s.size<=(phT n a).size/\(phT n a).size<=tot a+1100:=by
 unfold kao at b;unfold phT;by_cases h:n.op=0
 . rw[Yr h]at b⊢
   simp only[Yh,Yk]at b;have:a=[]:=by
    have c:arn n=0:=(by unfold arn;rw[h];rfl);rw[c]at d;exact Za.1 d
   subst this;have:=qct n.v.k n.v.n n.v.s b.1.1.2 b.2 o;simp only[tot];omega
 rw[Yl h]at b⊢;by_cases i:n.op=1
 . rw[Yr i]at b⊢
   simp only[Yh,Yk,kaQ]at b;have:a=[]:=by
    have c:arn n=0:=(by unfold arn;rw[i];rfl);rw[c]at d;exact Za.1 d
   subst this;simp only[tot];omega
 rw[Yl i]at b⊢;simp only[Yh,Yk]at b;obtain⟨⟨⟨l,m⟩,⟨-,-,q⟩⟩,-⟩:=b;have r:=qmx l m;by_cases g:n.op=2
 . rw[Yr g]
   have c:arn n=1:=by unfold arn;rw[kcM (.inl g)];rfl
   obtain⟨f,rfl⟩:=kdb (d.trans c);have:=qi5 6 f;simp only[Z4,Ym,tot,bsz,Zg,Yt,Y2];omega
 rw[Yl g];by_cases e:n.op=3
 . rw[Yr e]
   have c:arn n=1:=by unfold arn;rw[kcM (.inr e)];rfl
   obtain⟨f,rfl⟩:=kdb (d.trans c);have:=qi5 6 f;simp only[Z4,Ym,tot,bsz,Zg,Yt,Y2];omega
 rw[Yl e];by_cases j:lvl n.op=7
 . rw[Yr j]
   have:=qpo a;have e:=kbQ n;simp only[Ym,bsz,Zg,Yt,Y2];omega
 . rw[Yl j]
   have c:arn n=2:=by unfold arn;rw[ken l m j g e];rfl
   obtain⟨f,p,rfl⟩:=kfM (d.trans c);have t:=qi5 (lft n.op) f;have u:=qi5 (lvl n.op+1) p;simp only[Z4,Vz,Ym,tot,bsz,Zg,Yt,Y2];omega
def kbi (e:Nat->Nx):Nat->Nat
 | 0=>0
 | n+1=>kbi e n+1+(e n).v.s.size
def kcf (e:Nat->Nx)(n:Nat):Prop:=∀k,k<n->kao (e k)=true
theorem kcf.le {a:Nat->Nx}{n m:Nat}(b:kcf a n)(e:m<=n):kcf a m:=fun c d=>b c (by omega)
theorem qsk (a:Nat->Nx)(n:Nat)(e:kbN a n)(d:kcf a n)(c:∀b,b<n->(a b).v.n<=9223372036854775807):kbi a n<=tot (pst a n)/\tot (pst a n)<=1100*n:=by
 induction n with
 | zero=>simp[kbi,pst,tot]
 | succ n f =>
  have:=f (e.le (by omega)) (d.le (by omega)) (fun b g=>c b (by omega));have b:((pst a n).take (arn (a n))).reverse.length=arn (a n):=by
   rw[Zf,Zb,qrh];have:=e n (by omega);omega
  have g:=ql4 (a n) _ (d n (by omega)) b (c n (by omega));have h:tot (pst a n)=tot ((pst a n).take (arn (a n))).reverse+tot ((pst a n).drop (arn (a n))):=by
   rw[q9v,<- qdb,Vc]
  simp only[pst,tot,phr,kbi];omega
def vEx (e:Nat->Nx)(m:Nat):Prop:=1<=m/\m<=1000/\kcf e m/\kbN e m/\(stk e m).length=1/\(top e m).d<=64/\(top e m).t.size<=4000
theorem qrj {a:Nat->Nx}{m:Nat}(b:(stk a m).length=1):pst a m=[top a m]:=by
 rw[<- qrh]at b;obtain⟨d,c⟩:=kdb b;rw[top,c];rfl
theorem vEx.part {b:Nat->Nx}{m n:Nat}(i:vEx b m)(p:∀a,a<m->(b a).v.n<=9223372036854775807)(l:1<=n)(j:n<=m):(top b n).d<=64/\(top b n).t.size<=4000:=by
 obtain⟨-,-,o,k,g,y,z⟩:=i;have f:=qrj g;obtain⟨n,rfl⟩:∃a,n=a+1:=⟨n - 1,by omega⟩;constructor
 . refine Ok fun q=>?_
   obtain⟨e,c,h⟩:=qdt b (fun a=>64<a.d) (fun n a e c f _=>by have:=khE c;show 64<mx a+1;have f:64<e.d:=f;omega) j k ⟨_,Y8,by show 64<(top b (n+1)).d;omega⟩;rw[f]at c;obtain rfl:=Zz.1 c;have h:64<(top b m).d:=h;omega
 . refine Ok fun q=>?_
   have w:∀a,n+1<=a->a<=m->∃e,e∈pst b a/\4000<e.t.size:=by
    intro a
    induction a with
    | zero=>intro i;omega
    | succ a u =>
     intro l x;by_cases r:n=a
     . subst r;exact⟨_,Y8,by show 4000<(top b (n+1)).t.size;omega⟩
     . obtain⟨e,c,s⟩:=u (by omega) (by omega)
       rw[<- Vc (arn (b a)) (pst b a)]at c;rcases Zk.1 c with c | c
       . refine⟨_,Y8,?_⟩
         have g:((pst b a).take (arn (b a))).reverse.length=arn (b a):=by
          rw[Zf,Zb,qrh];have:=k a (by omega);omega
         have f:=(ql4 (b a) _ (o a (by omega)) g (p a (by omega))).1;have:=qsj (Ol.2 c);show 4000<(phT _ _).size;omega
       . exact⟨e,Zi _ c,s⟩
   obtain⟨e,c,h⟩:=w m j (nR _);rw[f]at c;obtain rfl:=Zz.1 c;omega
theorem vEx.sum {a:Nat->Nx}{m:Nat}(c:vEx a m)(d:∀b,b<m->(a b).v.n<=9223372036854775807):kbi a m<=4000:=by
 obtain⟨-,-,b,f,e,g,h⟩:=c;have:=(qsk a m f b d).1;rw[qrj e]at this;simp only[tot]at this;omega
