import Derived.Test.YtebbgodlijlioaaGreatDoorW01
import Derived.Test.YtebbgodlijlioaaGreatDoorW02
namespace Go.Proofs.YtebbgodlijlioaaGreatDoor
open Go
structure Nx where
 op:Int
 v:Vx
 nm:ByteArray
abbrev Jd(x0:Nx):Array Value:=#[J9 x0.op,J9 x0.v.k,J9 x0.v.n,.string x0.v.s,.string x0.nm]
structure Ph where
 t:ByteArray
 lv:Int
 d:Nat
def noPh:Ph:=⟨⟨#[]⟩,7,1⟩
def arn (n:Nx):Nat:=(ar n.op).toNat
def lvl (op:Int):Int:=if op=15 then 1 else if op=14 then 2 else if 10<=op/\op<=13 then 3 else if 7<=op/\op<=9 then 4 else if 4<=op/\op<=6 then 5 else if op=2∨op=3 then 6 else 7
def wrdT:List ByteArray:=[⟨#[]⟩,⟨#[]⟩,⟨#[45]⟩,⟨#[110,111,116]⟩,⟨#[42]⟩,⟨#[47]⟩,⟨#[37]⟩,⟨#[43]⟩,⟨#[45]⟩,⟨#[38]⟩,⟨#[61]⟩,⟨#[60,62]⟩,⟨#[60]⟩,⟨#[60,61]⟩,⟨#[97,110,100]⟩,⟨#[111,114]⟩,
 ⟨#[105,102]⟩,⟨#[109,105,110]⟩,⟨#[109,97,120]⟩,⟨#[111,114,101,108,115,101]⟩,⟨#[104,97,115]⟩,⟨#[108,101,110]⟩,⟨#[110,117,109]⟩,⟨#[115,116,114]⟩,⟨#[105,115,98,108,97,110,107]⟩,⟨#[105,115,101,114,114]⟩]
def wrd (op:Int):ByteArray:=wrdT.getD op.toNat ⟨#[]⟩
def wrap (l:Int)(p:Ph):ByteArray:=if p.lv<l then ⟨#[40]⟩++p.t++⟨#[41]⟩ else p.t
def jt:List ByteArray->ByteArray
 | []=>⟨#[]⟩
 | x :: r=>⟨#[44,32]⟩++x++jt r
def jn:List ByteArray->ByteArray
 | []=>⟨#[]⟩
 | x :: r=>x++jt r
def lft (op:Int):Int:=if lvl op=3 then 4 else lvl op
def phT (n:Nx)(a:List Ph):ByteArray :=
 if n.op=0 then showB n.v.k n.v.n n.v.s
 else if n.op=1 then n.nm
 else if n.op=2 then ⟨#[45]⟩++wrap 6 (a.getD 0 noPh)
 else if n.op=3 then ⟨#[110,111,116,32]⟩++wrap 6 (a.getD 0 noPh)
 else if lvl n.op=7 then wrd n.op++⟨#[40]⟩++jn (a.map (·.t))++⟨#[41]⟩
 else wrap (lft n.op) (a.getD 0 noPh)++⟨#[32]⟩++wrd n.op++⟨#[32]⟩++wrap (lvl n.op+1) (a.getD 1 noPh)
def mx:List Ph->Nat
 | []=>0
 | p :: r=>max p.d (mx r)
def phr (n:Nx)(a:List Ph):Ph:=⟨phT n a,lvl n.op,mx a+1⟩
def stk (e:Nat->Nx):Nat->List Nat
 | 0=>[]
 | n+1=>(n+1) :: (stk e n).drop (arn (e n))
def pst (e:Nat->Nx):Nat->List Ph
 | 0=>[]
 | n+1=>phr (e n) ((pst e n).take (arn (e n))).reverse :: (pst e n).drop (arn (e n))
def top (e:Nat->Nx)(n:Nat):Ph:=(pst e n).headD noPh
theorem ql1 (e:Nat->Nx)(n:Nat):(pst e n).length=(stk e n).length:=by
 induction n with
 | zero=>rfl
 | succ n ih=>simp[pst,stk,ih]
theorem ql2 (e:Nat->Nx)(n:Nat):pst e n=(stk e n).map (top e):=by
 induction n with
 | zero=>rfl
 | succ n ih =>
  simp only[pst,stk,Zo,List.map_drop,<- ih];rfl
theorem stk_at (e:Nat->Nx)(n:Nat):∀(i a:Nat) (r:List Nat),(stk e n).drop i=a :: r->stk e a=a :: r/\1<=a/\a<=n:=by
 induction n with
 | zero=>intro i a r h;simp[stk]at h
 | succ n ih =>
  intro i a r h;cases i with
  | zero=>simp only[stk,List.drop_zero,List.cons.injEq]at h;obtain⟨rfl,rfl⟩:=h;exact⟨rfl,by omega,by omega⟩
  | succ i =>
   simp only[stk,List.drop_succ_cons,List.drop_drop]at h;obtain⟨h1,h2,h3⟩:=ih _ a r h;exact⟨h1,h2,by omega⟩
def beg (e:Nat->Nx)(n:Nat):Nat:=(stk e n).tail.headD 0
theorem qhj (e:Nat->Nx)(n i:Nat)(h:i<(stk e n).length):stk e ((stk e n)[i])=(stk e n).drop i/\1<=(stk e n)[i]/\(stk e n)[i]<=n:=by
 have:=stk_at e n i _ _ (Of h)
 rw[Of h];exact this
def stkOk (e:Nat->Nx)(n:Nat):Prop:=∀k,k<n->arn (e k)<=(stk e k).length
theorem stkOk.le {e:Nat->Nx}{n m:Nat}(h:stkOk e n)(hm:m<=n):stkOk e m:=fun k hk=>h k (by omega)
theorem qh0 (e:Nat->Nx)(n:Nat):top e (n+1)=phr (e n) ((pst e n).take (arn (e n))).reverse:=rfl
theorem qls (e:Nat->Nx)(n:Nat):(stk e n).length<=n:=by
 induction n with
 | zero=>simp[stk]
 | succ n ih=>simp[stk];omega
theorem arn_le (n:Nx):arn n<=3:=by
 unfold arn ar;split
 . simp
 . split
   . simp
   . split <;> simp
theorem q9m (e:Nat->Nx)(p:Ph->Prop)(hp:∀n a x,x∈a->p x->a.length=arn n->p (phr n a)){n m:Nat}(hnm:n<=m)(hok:stkOk e m)(h:∃x,x∈pst e n/\p x):∃x,x∈pst e m/\p x:=by
 induction m with
 | zero=>obtain rfl:n=0:=(by omega);exact h
 | succ m ih =>
  by_cases hm:n=m+1
  . subst hm;exact h
  . obtain⟨x,hx,hpx⟩:=ih (by omega) (hok.le (by omega))
    rw[<- Vk (arn (e m)) (pst e m)]at hx;rcases Zb.1 hx with hx | hx
    . refine⟨_,Zd,hp _ _ x (Oj.2 hx) hpx ?_⟩
      rw[Y8,Y6,ql1];have:=hok m (by omega);omega
    . exact⟨x,Zl _ hx,hpx⟩
theorem mx_le {a:List Ph}{x:Ph}(h:x∈a):x.d<=mx a:=by
 induction a with
 | nil=>cases h
 | cons p r ih =>
  rcases Zy.1 h with rfl | h
  . simp[mx];omega
  . have:=ih h;simp[mx];omega
theorem qbj (a b:List Ph):mx (a++b)=max (mx a) (mx b):=by
 induction a with
 | nil=>simp[mx]
 | cons p r ih=>simp only[Zn,mx,ih];omega
theorem q8h (a:List Ph):mx a.reverse=mx a:=by
 induction a with
 | nil=>rfl
 | cons p r ih=>simp only[List.reverse_cons,qbj,ih,mx];omega
def tot:List Ph->Nat
 | []=>0
 | p :: r=>p.t.size+tot r
theorem q97 (a b:List Ph):tot (a++b)=tot a+tot b:=by
 induction a with
 | nil=>simp[tot]
 | cons p r ih=>simp only[Zn,tot,ih];omega
theorem q6e (a:List Ph):tot a.reverse=tot a:=by
 induction a with
 | nil=>rfl
 | cons p r ih=>simp only[List.reverse_cons,q97,ih,tot];omega
theorem qm3 {a:List Ph}{x:Ph}(h:x∈a):x.t.size<=tot a:=by
 induction a with
 | nil=>cases h
 | cons p r ih =>
  rcases Zy.1 h with rfl | h
  . simp[tot]
  . have:=ih h;simp[tot];omega
def small (b:Nat):Bool:=decide (97<=b/\b<=122)
def digitB (b:Nat):Bool:=decide (48<=b/\b<=57)
def nameB (b:Nat):Bool:=small b||digitB b||decide (b=95)
def rsvT:List (List UInt8):=[[108,97,98,101,108],[98,101,108,111,119],[114,111,108,101],[102,105,101,108,100],[105,110,116],[98,111,111,108],[116,101,120,116],[97,116],[97,117,116,111],[98,121],[105,115],[119,104,101,110],[118,97,108,105,100],[115,97,121,115],[109,117,115,116],[97,110,100],[111,114],[110,111,116],[116,114,117,101],[102,97,108,115,101],[98,108,97,110,107]]
def rsv (s:ByteArray):Bool:=rsvT.any fun x=>s.toList==x
def goodN (s:ByteArray):Bool:=decide (1<=s.size/\s.size<=16)&&small (s.data.getD 0 0).toNat&&(s.data.toList.all fun c=>nameB c.toNat)&&!rsv s
def okNode (n:Nx):Bool :=
 if n.op=0 then decide (n.nm.size=0)&&okVal n.v.k n.v.n n.v.s&&decide (n.v.k≠4)&&decide (0<=n.v.n)
 else if n.op=1 then decide (n.v.k=0/\n.v.n=0/\n.v.s.size=0)&&goodN n.nm
 else decide (2<=n.op/\n.op<=25)&&decide (n.v.k=0/\n.v.n=0/\n.v.s.size=0)&&decide (n.nm.size=0)
theorem qd8 (l:Int)(p:Ph):p.t.size<=(wrap l p).size/\(wrap l p).size<=p.t.size+2:=by
 unfold wrap;split
 . simp only[Yo,bsz,Zh,Ys,Y4];omega
 . omega
theorem qd9:∀k:Fin 26,2<=k.val->1<=(wrdT.getD k.val ⟨#[]⟩).size/\(wrdT.getD k.val ⟨#[]⟩).size<=7:=by decide +kernel
theorem qhb {op:Int}(h0:2<=op)(h1:op<=25):1<=(wrd op).size/\(wrd op).size<=7:=qd9 ⟨op.toNat,by omega⟩ (by show 2<=op.toNat;omega)
theorem qjh (a:List Ph):(jt (a.map (·.t))).size=tot a+2*a.length:=by
 induction a with
 | nil=>rfl
 | cons p r ih=>simp only[Zo,jt,Yo,ih,tot,Ys,bsz,Zh,Y4];omega
theorem qje (a:List Ph):tot a<=(jn (a.map (·.t))).size/\(jn (a.map (·.t))).size<=tot a+2*a.length:=by
 cases a with
 | nil=>exact⟨nR 0,nR 0⟩
 | cons p r=>simp only[Zo,jn,Yo,qjh,tot,Ys];omega
theorem ar_two {op:Int}(h0:2<=op)(h1:op<=25)(h:lvl op≠7)(h2:op≠2)(h3:op≠3):ar op=2:=by
 unfold lvl at h;unfold ar
 by_cases h4:4<=op/\op<=15
 . rw[Yt (by omega),Yt (by omega),Yz (by omega)]
 . rw[Yt (by omega),Yt (by omega),Yt (by omega),Yt (by omega),Yt (by omega),Yt (by omega)]at h
   exact absurd rfl h
theorem ar_one {op:Int}(h:op=2∨op=3):ar op=1:=by rcases h with rfl | rfl <;> rfl
theorem list1 {α:Type}{a:List α}(h:a.length=1):∃x,a=[x]:=by
 match a,h with
 | [x],_=>exact⟨x,rfl⟩
theorem list2 {α:Type}{a:List α}(h:a.length=2):∃x y,a=[x,y]:=by
 match a,h with
 | [x,y],_=>exact⟨x,y,rfl⟩
theorem qft (n:Nx)(a:List Ph)(hn:okNode n=true)(ha:a.length=arn n)(h1:n.v.n<=9223372036854775807):tot a+1+n.v.s.size<=(phT n a).size/\(phT n a).size<=tot a+1100:=by
 unfold okNode at hn
 unfold phT
 by_cases h0:n.op=0
 . rw[Yz h0]at hn⊢
   simp only[Yn,Yp]at hn;have:a=[]:=by
    have e:arn n=0:=(by unfold arn;rw[h0];rfl);rw[e]at ha;exact Z7.1 ha
   subst this;have:=q91 n.v.k n.v.n n.v.s hn.1.1.2 hn.2 h1;simp only[tot];omega
 rw[Yt h0]at hn⊢
 by_cases h1':n.op=1
 . rw[Yz h1']at hn⊢
   simp only[Yn,Yp,goodN]at hn;have:a=[]:=by
    have e:arn n=0:=(by unfold arn;rw[h1'];rfl);rw[e]at ha;exact Z7.1 ha
   subst this;simp only[tot];omega
 rw[Yt h1']at hn⊢
 simp only[Yn,Yp]at hn
 obtain⟨⟨⟨g0,g1⟩,⟨-,-,g4⟩⟩,-⟩:=hn
 have hw:=qhb g0 g1
 by_cases h2:n.op=2
 . rw[Yz h2]
   have e:arn n=1:=by unfold arn;rw[ar_one (.inl h2)];rfl
   obtain⟨x,rfl⟩:=list1 (ha.trans e);have:=qd8 6 x;simp only[Z3,Yo,tot,bsz,Zh,Ys,Y4];omega
 rw[Yt h2]
 by_cases h3:n.op=3
 . rw[Yz h3]
   have e:arn n=1:=by unfold arn;rw[ar_one (.inr h3)];rfl
   obtain⟨x,rfl⟩:=list1 (ha.trans e);have:=qd8 6 x;simp only[Z3,Yo,tot,bsz,Zh,Ys,Y4];omega
 rw[Yt h3]
 by_cases h7:lvl n.op=7
 . rw[Yz h7]
   have:=qje a;have h3:=arn_le n;simp only[Yo,bsz,Zh,Ys,Y4];omega
 . rw[Yt h7]
   have e:arn n=2:=by unfold arn;rw[ar_two g0 g1 h7 h2 h3];rfl
   obtain⟨x,y,rfl⟩:=list2 (ha.trans e);have w1:=qd8 (lft n.op) x;have w2:=qd8 (lvl n.op+1) y;simp only[Z3,Vy,Yo,tot,bsz,Zh,Ys,Y4];omega
def txtSum (e:Nat->Nx):Nat->Nat
 | 0=>0
 | n+1=>txtSum e n+1+(e n).v.s.size
def okAll (e:Nat->Nx)(n:Nat):Prop:=∀k,k<n->okNode (e k)=true
theorem okAll.le {e:Nat->Nx}{n m:Nat}(h:okAll e n)(hm:m<=n):okAll e m:=fun k hk=>h k (by omega)
theorem qm4 (e:Nat->Nx)(n:Nat)(hok:stkOk e n)(hn:okAll e n)(hb:∀k,k<n->(e k).v.n<=9223372036854775807):txtSum e n<=tot (pst e n)/\tot (pst e n)<=1100*n:=by
 induction n with
 | zero=>simp[txtSum,pst,tot]
 | succ n ih =>
  have:=ih (hok.le (by omega)) (hn.le (by omega)) (fun k hk=>hb k (by omega));have hl:((pst e n).take (arn (e n))).reverse.length=arn (e n):=by
   rw[Y8,Y6,ql1];have:=hok n (by omega);omega
  have hp:=qft (e n) _ (hn n (by omega)) hl (hb n (by omega));have hs:tot (pst e n)=tot ((pst e n).take (arn (e n))).reverse+tot ((pst e n).drop (arn (e n))):=by
   rw[q6e,<- q97,Vk]
  simp only[pst,tot,phr,txtSum];omega
def vEx (e:Nat->Nx)(m:Nat):Prop:=1<=m/\m<=1000/\okAll e m/\stkOk e m/\(stk e m).length=1/\(top e m).d<=64/\(top e m).t.size<=4000
theorem ql3 {e:Nat->Nx}{m:Nat}(h:(stk e m).length=1):pst e m=[top e m]:=by
 rw[<- ql1]at h
 obtain⟨x,hx⟩:=list1 h
 rw[top,hx];rfl
theorem vEx.part {e:Nat->Nx}{m:Nat}(h:vEx e m)(hb:∀k,k<m->(e k).v.n<=9223372036854775807){n:Nat}(h1:1<=n)(hn:n<=m):(top e n).d<=64/\(top e n).t.size<=4000:=by
 obtain⟨-,-,ha,hs,hl,hd,ht⟩:=h
 have hp:=ql3 hl
 obtain⟨n,rfl⟩:∃k,n=k+1:=⟨n - 1,by omega⟩
 constructor
 . refine Og fun hc=>?_
   obtain⟨x,hx,hx'⟩:=q9m e (fun p=>64<p.d) (fun n a x hx hp _=>by have:=mx_le hx;show 64<mx a+1;have hp:64<x.d:=hp;omega) hn hs ⟨_,Zd,by show 64<(top e (n+1)).d;omega⟩;rw[hp]at hx;obtain rfl:=Yw.1 hx;have hx':64<(top e m).d:=hx';omega
 . refine Og fun hc=>?_
   have key:∀j,n+1<=j->j<=m->∃x,x∈pst e j/\4000<x.t.size:=by
    intro j
    induction j with
    | zero=>intro h;omega
    | succ j ih =>
     intro h1 h2;by_cases hj:n=j
     . subst hj;exact⟨_,Zd,by show 4000<(top e (n+1)).t.size;omega⟩
     . obtain⟨x,hx,hpx⟩:=ih (by omega) (by omega)
       rw[<- Vk (arn (e j)) (pst e j)]at hx;rcases Zb.1 hx with hx | hx
       . refine⟨_,Zd,?_⟩
         have hl:((pst e j).take (arn (e j))).reverse.length=arn (e j):=by
          rw[Y8,Y6,ql1];have:=hs j (by omega);omega
         have hp:=(qft (e j) _ (ha j (by omega)) hl (hb j (by omega))).1;have:=qm3 (Oj.2 hx);show 4000<(phT _ _).size;omega
       . exact⟨x,Zl _ hx,hpx⟩
   obtain⟨x,hx,hx'⟩:=key m hn (nR _);rw[hp]at hx;obtain rfl:=Yw.1 hx;omega
theorem vEx.sum {e:Nat->Nx}{m:Nat}(h:vEx e m)(hb:∀k,k<m->(e k).v.n<=9223372036854775807):txtSum e m<=4000:=by
 obtain⟨-,-,ha,hs,hl,hd,ht⟩:=h
 have:=(qm4 e m hs ha hb).1
 rw[ql3 hl]at this
 simp only[tot]at this
 omega
end Go.Proofs.YtebbgodlijlioaaGreatDoor
