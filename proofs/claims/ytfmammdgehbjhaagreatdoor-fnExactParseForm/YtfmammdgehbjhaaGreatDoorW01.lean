import Derived.Test.YtfmammdgehbjhaaGreatDoorW00
set_option maxRecDepth 100000
set_option maxHeartbeats 64000000
namespace Go.Proofs.YtfmammdgehbjhaaGreatDoor
open Go
structure Nx where
 op:Int
 v:Vx
 nm:ByteArray
abbrev Jh(x0:Nx):Array Value:=#[Ya x0.op,Ya x0.v.k,Ya x0.v.n,.string x0.v.s,.string x0.nm]
structure Ph where
 t:ByteArray
 lv:Int
 d:Nat
def noPh:Ph:=⟨⟨#[]⟩,7,1⟩
def arn (n:Nx):Nat:=(ar n.op).toNat
def lvl (op:Int):Int:=if op=15 then 1 else if op=14 then 2 else if 10<=op/\op<=13 then 3 else if 7<=op/\op<=9 then 4 else if 4<=op/\op<=6 then 5 else if op=2∨op=3 then 6 else 7
def wrdT:List ByteArray:=[⟨#[]⟩,⟨#[]⟩,⟨#[45]⟩,⟨#[110,111,116]⟩,⟨#[42]⟩,⟨#[47]⟩,⟨#[37]⟩,⟨#[43]⟩,⟨#[45]⟩,⟨#[38]⟩,⟨#[61]⟩,⟨#[60,62]⟩,⟨#[60]⟩,⟨#[60,61]⟩,⟨#[97,110,100]⟩,⟨#[111,114]⟩,
 ⟨#[105,102]⟩,⟨#[109,105,110]⟩,⟨#[109,97,120]⟩,⟨#[111,114,101,108,115,101]⟩,⟨#[104,97,115]⟩,⟨#[108,101,110]⟩,⟨#[110,117,109]⟩,⟨#[115,116,114]⟩,⟨#[105,115,98,108,97,110,107]⟩,⟨#[105,115,101,114,114]⟩]
def wrd (op:Int):ByteArray:=wrdT.getD op.toNat ⟨#[]⟩
def wrap (l:Int)(p:Ph):ByteArray:=if p.lv<l then ⟨#[40]⟩++p.t++⟨#[41]⟩ else p.t
def jt:List ByteArray->ByteArray
 | []=>⟨#[]⟩
 | x :: r=>⟨#[44,32]⟩++x++jt r
def jn:List ByteArray->ByteArray
 | []=>⟨#[]⟩
 | x :: r=>x++jt r
def lft (op:Int):Int:=if lvl op=3 then 4 else lvl op
def phT (n:Nx)(a:List Ph):ByteArray :=
 if n.op=0 then showB n.v.k n.v.n n.v.s
 else if n.op=1 then n.nm
 else if n.op=2 then ⟨#[45]⟩++wrap 6 (a.getD 0 noPh)
 else if n.op=3 then ⟨#[110,111,116,32]⟩++wrap 6 (a.getD 0 noPh)
 else if lvl n.op=7 then wrd n.op++⟨#[40]⟩++jn (a.map (·.t))++⟨#[41]⟩
 else wrap (lft n.op) (a.getD 0 noPh)++⟨#[32]⟩++wrd n.op++⟨#[32]⟩++wrap (lvl n.op+1) (a.getD 1 noPh)
def mx:List Ph->Nat
 | []=>0
 | p :: r=>max p.d (mx r)
def phr (n:Nx)(a:List Ph):Ph:=⟨phT n a,lvl n.op,mx a+1⟩
def stk (e:Nat->Nx):Nat->List Nat
 | 0=>[]
 | n+1=>(n+1) :: (stk e n).drop (arn (e n))
def pst (e:Nat->Nx):Nat->List Ph
 | 0=>[]
 | n+1=>phr (e n) ((pst e n).take (arn (e n))).reverse :: (pst e n).drop (arn (e n))
def top (e:Nat->Nx)(n:Nat):Ph:=(pst e n).headD noPh
theorem qie (e:Nat->Nx)(n:Nat):(pst e n).length=(stk e n).length:=by
 induction n with
 | zero=>rfl
 | succ n ih=>simp[pst,stk,ih]
theorem qif (e:Nat->Nx)(n:Nat):pst e n=(stk e n).map (top e):=by
 induction n with
 | zero=>rfl
 | succ n ih =>
  simp only[pst,stk,Vr,List.map_drop,<- ih];rfl
theorem stk_at (e:Nat->Nx)(n:Nat):∀(i a:Nat) (r:List Nat),(stk e n).drop i=a :: r->stk e a=a :: r/\1<=a/\a<=n:=by
 induction n with
 | zero=>intro i a r h;simp[stk]at h
 | succ n ih =>
  intro i a r h;cases i with
  | zero=>simp only[stk,Z5,Vp]at h;obtain⟨rfl,rfl⟩:=h;exact⟨rfl,by omega,by omega⟩
  | succ i =>
   simp only[stk,List.drop_succ_cons,Vv]at h;obtain⟨h1,h2,h3⟩:=ih _ a r h;exact⟨h1,h2,by omega⟩
def beg (e:Nat->Nx)(n:Nat):Nat:=(stk e n).tail.headD 0
theorem qfb (e:Nat->Nx)(n i:Nat)(h:i<(stk e n).length):stk e ((stk e n)[i])=(stk e n).drop i/\1<=(stk e n)[i]/\(stk e n)[i]<=n:=by
 have:=stk_at e n i _ _ (Y8 h)
 rw[Y8 h];exact this
def stkOk (e:Nat->Nx)(n:Nat):Prop:=∀k,k<n->arn (e k)<=(stk e k).length
theorem stkOk.le {e:Nat->Nx}{n m:Nat}(h:stkOk e n)(hm:m<=n):stkOk e m:=fun k hk=>h k (by omega)
theorem qev (e:Nat->Nx)(n:Nat):top e (n+1)=phr (e n) ((pst e n).take (arn (e n))).reverse:=rfl
theorem qj3 (e:Nat->Nx)(n:Nat):(stk e n).length<=n:=by
 induction n with
 | zero=>simp[stk]
 | succ n ih=>simp[stk];omega
theorem arn_le (n:Nx):arn n<=3:=by
 unfold arn ar;split
 . simp
 . split
   . simp
   . split <;> simp
theorem q8e (e:Nat->Nx)(p:Ph->Prop)(hp:∀n a x,x∈a->p x->a.length=arn n->p (phr n a)){n m:Nat}(hnm:n<=m)(hok:stkOk e m)(h:∃x,x∈pst e n/\p x):∃x,x∈pst e m/\p x:=by
 induction m with
 | zero=>obtain rfl:n=0:=(by omega);exact h
 | succ m ih =>
  by_cases hm:n=m+1
  . subst hm;exact h
  . obtain⟨x,hx,hpx⟩:=ih (by omega) (hok.le (by omega))
    rw[<- Z9 (arn (e m)) (pst e m)]at hx;rcases Zg.1 hx with hx | hx
    . refine⟨_,Zd,hp _ _ x (List.mem_reverse.2 hx) hpx ?_⟩
      rw[Zm,Yu,qie];have:=hok m (by omega);omega
    . exact⟨x,Zp _ hx,hpx⟩
theorem mx_le {a:List Ph}{x:Ph}(h:x∈a):x.d<=mx a:=by
 induction a with
 | nil=>cases h
 | cons p r ih =>
  rcases Y9.1 h with rfl | h
  . simp[mx];omega
  . have:=ih h;simp[mx];omega
theorem q9r (a b:List Ph):mx (a++b)=max (mx a) (mx b):=by
 induction a with
 | nil=>simp[mx]
 | cons p r ih=>simp only[Vj,mx,ih];omega
theorem q7f (a:List Ph):mx a.reverse=mx a:=by
 induction a with
 | nil=>rfl
 | cons p r ih=>simp only[Vy,q9r,ih,mx];omega
def tot:List Ph->Nat
 | []=>0
 | p :: r=>p.t.size+tot r
theorem q8a (a b:List Ph):tot (a++b)=tot a+tot b:=by
 induction a with
 | nil=>simp[tot]
 | cons p r ih=>simp only[Vj,tot,ih];omega
theorem q5r (a:List Ph):tot a.reverse=tot a:=by
 induction a with
 | nil=>rfl
 | cons p r ih=>simp only[Vy,q8a,ih,tot];omega
theorem qjh {a:List Ph}{x:Ph}(h:x∈a):x.t.size<=tot a:=by
 induction a with
 | nil=>cases h
 | cons p r ih =>
  rcases Y9.1 h with rfl | h
  . simp[tot]
  . have:=ih h;simp[tot];omega
def small (b:Nat):Bool:=decide (97<=b/\b<=122)
def digitB (b:Nat):Bool:=decide (48<=b/\b<=57)
def nameB (b:Nat):Bool:=small b||digitB b||decide (b=95)
def rsvT:List (List UInt8):=[[108,97,98,101,108],[98,101,108,111,119],[114,111,108,101],[102,105,101,108,100],[105,110,116],[98,111,111,108],[116,101,120,116],[97,116],[97,117,116,111],[98,121],[105,115],[119,104,101,110],[118,97,108,105,100],[115,97,121,115],[109,117,115,116],[97,110,100],[111,114],[110,111,116],[116,114,117,101],[102,97,108,115,101],[98,108,97,110,107]]
def rsv (s:ByteArray):Bool:=rsvT.any fun x=>s.toList==x
def goodN (s:ByteArray):Bool:=decide (1<=s.size/\s.size<=16)&&small (s.data.getD 0 0).toNat&&(s.data.toList.all fun c=>nameB c.toNat)&&!rsv s
def okNode (n:Nx):Bool :=
 if n.op=0 then decide (n.nm.size=0)&&okVal n.v.k n.v.n n.v.s&&decide (n.v.k≠4)&&decide (0<=n.v.n)
 else if n.op=1 then decide (n.v.k=0/\n.v.n=0/\n.v.s.size=0)&&goodN n.nm
 else decide (2<=n.op/\n.op<=25)&&decide (n.v.k=0/\n.v.n=0/\n.v.s.size=0)&&decide (n.nm.size=0)
theorem qaz (l:Int)(p:Ph):p.t.size<=(wrap l p).size/\(wrap l p).size<=p.t.size+2:=by
 unfold wrap;split
 . simp only[Ym,bsz,Zz,Yl,Yw];omega
 . omega
theorem qb0:∀k:Fin 26,2<=k.val->1<=(wrdT.getD k.val ⟨#[]⟩).size/\(wrdT.getD k.val ⟨#[]⟩).size<=7:=by decide +kernel
theorem qf7 {op:Int}(h0:2<=op)(h1:op<=25):1<=(wrd op).size/\(wrd op).size<=7:=qb0 ⟨op.toNat,by omega⟩ (by show 2<=op.toNat;omega)
theorem qh1 (a:List Ph):(jt (a.map (·.t))).size=tot a+2*a.length:=by
 induction a with
 | nil=>rfl
 | cons p r ih=>simp only[Vr,jt,Ym,ih,tot,Yl,bsz,Zz,Yw];omega
theorem qgy (a:List Ph):tot a<=(jn (a.map (·.t))).size/\(jn (a.map (·.t))).size<=tot a+2*a.length:=by
 cases a with
 | nil=>exact⟨nR 0,nR 0⟩
 | cons p r=>simp only[Vr,jn,Ym,qh1,tot,Yl];omega
theorem ar_two {op:Int}(h0:2<=op)(h1:op<=25)(h:lvl op≠7)(h2:op≠2)(h3:op≠3):ar op=2:=by
 unfold lvl at h;unfold ar
 by_cases h4:4<=op/\op<=15
 . rw[Yi (by omega),Yi (by omega),Yn (by omega)]
 . rw[Yi (by omega),Yi (by omega),Yi (by omega),Yi (by omega),Yi (by omega),Yi (by omega)]at h
   exact absurd rfl h
theorem ar_one {op:Int}(h:op=2∨op=3):ar op=1:=by rcases h with rfl | rfl <;> rfl
theorem list1 {α:Type}{a:List α}(h:a.length=1):∃x,a=[x]:=by
 match a,h with
 | [x],_=>exact⟨x,rfl⟩
theorem list2 {α:Type}{a:List α}(h:a.length=2):∃x y,a=[x,y]:=by
 match a,h with
 | [x,y],_=>exact⟨x,y,rfl⟩
theorem qdo (n:Nx)(a:List Ph)(hn:okNode n=true)(ha:a.length=arn n)(h1:n.v.n<=9223372036854775807):tot a+1+n.v.s.size<=(phT n a).size/\(phT n a).size<=tot a+1100:=by
 unfold okNode at hn
 unfold phT
 by_cases h0:n.op=0
 . rw[Yn h0]at hn⊢
   simp only[Yo,Yj]at hn;have:a=[]:=by
    have e:arn n=0:=(by unfold arn;rw[h0];rfl);rw[e]at ha;exact Z2.1 ha
   subst this;have:=q80 n.v.k n.v.n n.v.s hn.1.1.2 hn.2 h1;simp only[tot];omega
 rw[Yi h0]at hn⊢
 by_cases h1':n.op=1
 . rw[Yn h1']at hn⊢
   simp only[Yo,Yj,goodN]at hn;have:a=[]:=by
    have e:arn n=0:=(by unfold arn;rw[h1'];rfl);rw[e]at ha;exact Z2.1 ha
   subst this;simp only[tot];omega
 rw[Yi h1']at hn⊢
 simp only[Yo,Yj]at hn
 obtain⟨⟨⟨g0,g1⟩,⟨-,-,g4⟩⟩,-⟩:=hn
 have hw:=qf7 g0 g1
 by_cases h2:n.op=2
 . rw[Yn h2]
   have e:arn n=1:=by unfold arn;rw[ar_one (.inl h2)];rfl
   obtain⟨x,rfl⟩:=list1 (ha.trans e);have:=qaz 6 x;simp only[Z0,Ym,tot,bsz,Zz,Yl,Yw];omega
 rw[Yi h2]
 by_cases h3:n.op=3
 . rw[Yn h3]
   have e:arn n=1:=by unfold arn;rw[ar_one (.inr h3)];rfl
   obtain⟨x,rfl⟩:=list1 (ha.trans e);have:=qaz 6 x;simp only[Z0,Ym,tot,bsz,Zz,Yl,Yw];omega
 rw[Yi h3]
 by_cases h7:lvl n.op=7
 . rw[Yn h7]
   have:=qgy a;have h3:=arn_le n;simp only[Ym,bsz,Zz,Yl,Yw];omega
 . rw[Yi h7]
   have e:arn n=2:=by unfold arn;rw[ar_two g0 g1 h7 h2 h3];rfl
   obtain⟨x,y,rfl⟩:=list2 (ha.trans e);have w1:=qaz (lft n.op) x;have w2:=qaz (lvl n.op+1) y;simp only[Z0,Vt,Ym,tot,bsz,Zz,Yl,Yw];omega
def txtSum (e:Nat->Nx):Nat->Nat
 | 0=>0
 | n+1=>txtSum e n+1+(e n).v.s.size
def okAll (e:Nat->Nx)(n:Nat):Prop:=∀k,k<n->okNode (e k)=true
theorem okAll.le {e:Nat->Nx}{n m:Nat}(h:okAll e n)(hm:m<=n):okAll e m:=fun k hk=>h k (by omega)
theorem qji (e:Nat->Nx)(n:Nat)(hok:stkOk e n)(hn:okAll e n)(hb:∀k,k<n->(e k).v.n<=9223372036854775807):txtSum e n<=tot (pst e n)/\tot (pst e n)<=1100*n:=by
 induction n with
 | zero=>simp[txtSum,pst,tot]
 | succ n ih =>
  have:=ih (hok.le (by omega)) (hn.le (by omega)) (fun k hk=>hb k (by omega));have hl:((pst e n).take (arn (e n))).reverse.length=arn (e n):=by
   rw[Zm,Yu,qie];have:=hok n (by omega);omega
  have hp:=qdo (e n) _ (hn n (by omega)) hl (hb n (by omega));have hs:tot (pst e n)=tot ((pst e n).take (arn (e n))).reverse+tot ((pst e n).drop (arn (e n))):=by
   rw[q5r,<- q8a,Z9]
  simp only[pst,tot,phr,txtSum];omega
def vEx (e:Nat->Nx)(m:Nat):Prop:=1<=m/\m<=1000/\okAll e m/\stkOk e m/\(stk e m).length=1/\(top e m).d<=64/\(top e m).t.size<=4000
theorem qig {e:Nat->Nx}{m:Nat}(h:(stk e m).length=1):pst e m=[top e m]:=by
 rw[<- qie]at h
 obtain⟨x,hx⟩:=list1 h
 rw[top,hx];rfl
theorem vEx.part {e:Nat->Nx}{m:Nat}(h:vEx e m)(hb:∀k,k<m->(e k).v.n<=9223372036854775807){n:Nat}(h1:1<=n)(hn:n<=m):(top e n).d<=64/\(top e n).t.size<=4000:=by
 obtain⟨-,-,ha,hs,hl,hd,ht⟩:=h
 have hp:=qig hl
 obtain⟨n,rfl⟩:∃k,n=k+1:=⟨n - 1,by omega⟩
 constructor
 . refine Yv fun hc=>?_
   obtain⟨x,hx,hx'⟩:=q8e e (fun p=>64<p.d) (fun n a x hx hp _=>by have:=mx_le hx;show 64<mx a+1;have hp:64<x.d:=hp;omega) hn hs ⟨_,Zd,by show 64<(top e (n+1)).d;omega⟩;rw[hp]at hx;obtain rfl:=Y7.1 hx;have hx':64<(top e m).d:=hx';omega
 . refine Yv fun hc=>?_
   have key:∀j,n+1<=j->j<=m->∃x,x∈pst e j/\4000<x.t.size:=by
    intro j
    induction j with
    | zero=>intro h;omega
    | succ j ih =>
     intro h1 h2;by_cases hj:n=j
     . subst hj;exact⟨_,Zd,by show 4000<(top e (n+1)).t.size;omega⟩
     . obtain⟨x,hx,hpx⟩:=ih (by omega) (by omega)
       rw[<- Z9 (arn (e j)) (pst e j)]at hx;rcases Zg.1 hx with hx | hx
       . refine⟨_,Zd,?_⟩
         have hl:((pst e j).take (arn (e j))).reverse.length=arn (e j):=by
          rw[Zm,Yu,qie];have:=hs j (by omega);omega
         have hp:=(qdo (e j) _ (ha j (by omega)) hl (hb j (by omega))).1;have:=qjh (List.mem_reverse.2 hx);show 4000<(phT _ _).size;omega
       . exact⟨x,Zp _ hx,hpx⟩
   obtain⟨x,hx,hx'⟩:=key m hn (nR _);rw[hp]at hx;obtain rfl:=Y7.1 hx;omega
theorem vEx.sum {e:Nat->Nx}{m:Nat}(h:vEx e m)(hb:∀k,k<m->(e k).v.n<=9223372036854775807):txtSum e m<=4000:=by
 obtain⟨-,-,ha,hs,hl,hd,ht⟩:=h
 have:=(qji e m hs ha hb).1
 rw[qig hl]at this
 simp only[tot]at this
 omega
end Go.Proofs.YtfmammdgehbjhaaGreatDoor
namespace Go.Proofs.YtfmammdgehbjhaaGreatDoor
open Go Go.RowKit
theorem q55 (b:Nat)(w:World):Calls Tryz.prog 37 #[.int .u8 b] w fun e w'=>e=.returned (.bool (small b))/\w'=w:=by
 by_cases h1:97<=b
 . by_cases h2:b<=122
   . rw[show small b=true by simp[small];omega]
     go_enter Tryz.func37,Tryz.ntmps37;go_wp2;go_ret;exact⟨qdx (by simp;omega),rfl⟩
   . rw[show small b=false by simp[small];omega]
     go_enter Tryz.func37,Tryz.ntmps37;go_wp2;go_ret;exact⟨qdx (by simp;omega),rfl⟩
 . rw[show small b=false by simp[small];omega]
   go_enter Tryz.func37,Tryz.ntmps37;go_wp2;go_ret;exact⟨by rfl,rfl⟩
theorem q0s (b:Nat)(w:World):Calls Tryz.prog 39 #[.int .u8 b] w fun e w'=>e=.returned (.bool (digitB b))/\w'=w:=by
 by_cases h1:48<=b
 . by_cases h2:b<=57
   . rw[show digitB b=true by simp[digitB];omega]
     go_enter Tryz.func39,Tryz.ntmps39;go_wp2;go_ret;exact⟨qdx (by simp;omega),rfl⟩
   . rw[show digitB b=false by simp[digitB];omega]
     go_enter Tryz.func39,Tryz.ntmps39;go_wp2;go_ret;exact⟨qdx (by simp;omega),rfl⟩
 . rw[show digitB b=false by simp[digitB];omega]
   go_enter Tryz.func39,Tryz.ntmps39;go_wp2;go_ret;exact⟨by rfl,rfl⟩
theorem q34 (b:Nat)(w:World):Calls Tryz.prog 94 #[.int .u8 b] w fun e w'=>e=.returned (.bool (small b))/\w'=w:=by
 by_cases h1:97<=b
 . by_cases h2:b<=122
   . rw[show small b=true by simp[small];omega]
     go_enter Tryz.func94,Tryz.ntmps94;go_wp2;go_ret;exact⟨qdx (by simp;omega),rfl⟩
   . rw[show small b=false by simp[small];omega]
     go_enter Tryz.func94,Tryz.ntmps94;go_wp2;go_ret;exact⟨qdx (by simp;omega),rfl⟩
 . rw[show small b=false by simp[small];omega]
   go_enter Tryz.func94,Tryz.ntmps94;go_wp2;go_ret;exact⟨by rfl,rfl⟩
theorem q4r (b:Nat)(w:World):Calls Tryz.prog 95 #[.int .u8 b] w fun e w'=>e=.returned (.bool (digitB b))/\w'=w:=by
 by_cases h1:48<=b
 . by_cases h2:b<=57
   . rw[show digitB b=true by simp[digitB];omega]
     go_enter Tryz.func95,Tryz.ntmps95;go_wp2;go_ret;exact⟨qdx (by simp;omega),rfl⟩
   . rw[show digitB b=false by simp[digitB];omega]
     go_enter Tryz.func95,Tryz.ntmps95;go_wp2;go_ret;exact⟨qdx (by simp;omega),rfl⟩
 . rw[show digitB b=false by simp[digitB];omega]
   go_enter Tryz.func95,Tryz.ntmps95;go_wp2;go_ret;exact⟨by rfl,rfl⟩
theorem q1w (b:Nat)(w:World):Calls Tryz.prog 83 #[.int .u8 b] w fun e w'=>e=.returned (.bool (nameB b))/\w'=w:=by
 have e:nameB b=(small b||digitB b||decide (b=95)):=rfl
 cases h1:small b
 . cases h2:digitB b
   . by_cases h3:b=95
     . subst h3
       rw[show nameB 95=true from rfl];clear e;go_enter Tryz.func83,Tryz.ntmps83;go_wp2_with (first | (go_at_call 37;refine(q55 _ _).mono ?_;rintro e w' ⟨rfl,rfl⟩;rw[h1]) | (go_at_call 39;refine(q0s _ _).mono ?_;rintro e w' ⟨rfl,rfl⟩;rw[h2]));go_ret;exact⟨by simp,rfl⟩
     . rw[show nameB b=false by rw[e,h1,h2];simpa using h3]
       have h4:((b:Int)==95)=false:=Ye.2 (by omega);clear e h3;go_enter Tryz.func83,Tryz.ntmps83;go_wp2_with (first | (go_at_call 37;refine(q55 _ _).mono ?_;rintro e w' ⟨rfl,rfl⟩;rw[h1]) | (go_at_call 39;refine(q0s _ _).mono ?_;rintro e w' ⟨rfl,rfl⟩;rw[h2]));go_ret;exact⟨by simp,rfl⟩
   . rw[show nameB b=true by rw[e,h1,h2];rfl]
     clear e;go_enter Tryz.func83,Tryz.ntmps83;go_wp2_with (first | (go_at_call 37;refine(q55 _ _).mono ?_;rintro e w' ⟨rfl,rfl⟩;rw[h1]) | (go_at_call 39;refine(q0s _ _).mono ?_;rintro e w' ⟨rfl,rfl⟩;rw[h2]));go_ret;exact⟨by rfl,rfl⟩
 . rw[show nameB b=true by rw[e,h1];rfl]
   clear e;go_enter Tryz.func83,Tryz.ntmps83;go_wp2_with (go_at_call 37;refine(q55 _ _).mono ?_;rintro e w' ⟨rfl,rfl⟩;rw[h1]);go_ret;exact⟨by rfl,rfl⟩
theorem q1j (b:Nat)(w:World):Calls Tryz.prog 97 #[.int .u8 b] w fun e w'=>e=.returned (.bool (nameB b))/\w'=w:=by
 have e:nameB b=(small b||digitB b||decide (b=95)):=rfl
 cases h1:small b
 . cases h2:digitB b
   . by_cases h3:b=95
     . subst h3
       rw[show nameB 95=true from rfl];clear e;go_enter Tryz.func97,Tryz.ntmps97;go_wp2_with (first | (go_at_call 94;refine(q34 _ _).mono ?_;rintro e w' ⟨rfl,rfl⟩;rw[h1]) | (go_at_call 95;refine(q4r _ _).mono ?_;rintro e w' ⟨rfl,rfl⟩;rw[h2]));go_ret;exact⟨by simp,rfl⟩
     . rw[show nameB b=false by rw[e,h1,h2];simpa using h3]
       have h4:((b:Int)==95)=false:=Ye.2 (by omega);clear e h3;go_enter Tryz.func97,Tryz.ntmps97;go_wp2_with (first | (go_at_call 94;refine(q34 _ _).mono ?_;rintro e w' ⟨rfl,rfl⟩;rw[h1]) | (go_at_call 95;refine(q4r _ _).mono ?_;rintro e w' ⟨rfl,rfl⟩;rw[h2]));go_ret;exact⟨by simp,rfl⟩
   . rw[show nameB b=true by rw[e,h1,h2];rfl]
     clear e;go_enter Tryz.func97,Tryz.ntmps97;go_wp2_with (first | (go_at_call 94;refine(q34 _ _).mono ?_;rintro e w' ⟨rfl,rfl⟩;rw[h1]) | (go_at_call 95;refine(q4r _ _).mono ?_;rintro e w' ⟨rfl,rfl⟩;rw[h2]));go_ret;exact⟨by rfl,rfl⟩
 . rw[show nameB b=true by rw[e,h1];rfl]
   clear e;go_enter Tryz.func97,Tryz.ntmps97;go_wp2_with (go_at_call 94;refine(q34 _ _).mono ?_;rintro e w' ⟨rfl,rfl⟩;rw[h1]);go_ret;exact⟨by rfl,rfl⟩
theorem q5o {s:ByteArray}{l:List UInt8}(h:(s.toList==l)=true):s=⟨l.toArray⟩:=by
 have h:s.toList=l:=by simpa using h
 rw[<- h,Y4]
theorem qad (s:ByteArray)(P:Prop)(hy:∀x,x∈rsvT->s=⟨x.toArray⟩->P)(hn:(∀x,x∈rsvT->(s.toList==x)=false)->P):P:=by
 by_cases h:∃x,x∈rsvT/\(s.toList==x)=true
 . obtain⟨x,hx,he⟩:=h
   exact hy x hx (q5o he)
 . exact hn fun x hx=>by
    cases e:(s.toList==x)
    . rfl
    . exact absurd ⟨x,hx,e⟩ h
theorem qim {x:List UInt8}(h:x∈rsvT):rsv ⟨x.toArray⟩=true:=by
 unfold rsv
 rw[List.any_eq_true]
 exact⟨x,h,by rw[Y4];simp⟩
theorem rsv_no {s:ByteArray}(h:∀x,x∈rsvT->(s.toList==x)=false):rsv s=false:=by
 unfold rsv
 rw[List.any_eq_false]
 intro x hx;rw[h x hx];simp
theorem q1x (s:ByteArray)(w:World):Calls Tryz.prog 115 #[.string s] w fun e w'=>e=.returned (.bool (rsv s))/\w'=w:=by
 refine qad s _ (fun x hx hs=>?_) (fun h=>?_)
 . subst hs
   rw[qim hx];unfold rsvT at hx;simp only[Y9,Z1,or_false]at hx;rcases hx with rfl | rfl | rfl | rfl | rfl | rfl | rfl | rfl | rfl | rfl | rfl | rfl | rfl | rfl | rfl | rfl | rfl | rfl | rfl | rfl | rfl
   all_goals
    go_enter Tryz.func115,Tryz.ntmps115;go_wp2;go_ret;exact⟨rfl,rfl⟩
 . rw[rsv_no h]
   unfold rsvT at h;simp only[List.forall_mem_cons,Z1,false_imp_iff,implies_true,and_true]at h;obtain⟨h1,h2,h3,h4,h5,h6,h7,h8,h9,h10,h11,h12,h13,h14,h15,h16,h17,h18,h19,h20,h21⟩:=h;go_enter Tryz.func115,Tryz.ntmps115;go_wp2;go_ret;exact⟨rfl,rfl⟩
theorem q1l (s:ByteArray)(w:World):Calls Tryz.prog 166 #[.string s] w fun e w'=>e=.returned (.bool (rsv s))/\w'=w:=by
 refine qad s _ (fun x hx hs=>?_) (fun h=>?_)
 . subst hs
   rw[qim hx];unfold rsvT at hx;simp only[Y9,Z1,or_false]at hx;rcases hx with rfl | rfl | rfl | rfl | rfl | rfl | rfl | rfl | rfl | rfl | rfl | rfl | rfl | rfl | rfl | rfl | rfl | rfl | rfl | rfl | rfl
   all_goals
    go_enter Tryz.func166,Tryz.ntmps166;go_wp2;go_ret;exact⟨rfl,rfl⟩
 . rw[rsv_no h]
   unfold rsvT at h;simp only[List.forall_mem_cons,Z1,false_imp_iff,implies_true,and_true]at h;obtain⟨h1,h2,h3,h4,h5,h6,h7,h8,h9,h10,h11,h12,h13,h14,h15,h16,h17,h18,h19,h20,h21⟩:=h;go_enter Tryz.func166,Tryz.ntmps166;go_wp2;go_ret;exact⟨rfl,rfl⟩
def runN (p:Nat->Bool)(s:ByteArray)(i:Nat):Nat:=((s.data.toList.drop i).takeWhile fun c=>p c.toNat).length
theorem run_eq (p:Nat->Bool)(l:List UInt8)(k:Nat)(hk:k<=l.length)(h:∀j (hj:j<l.length),j<k->p l[j].toNat=true)(he:∀hj:k<l.length,p l[k].toNat=false):(l.takeWhile fun c=>p c.toNat).length=k:=by
 induction l generalizing k with
 | nil=>simp at hk;simp[hk]
 | cons c r ih =>
  cases k with
  | zero=>have:=he (by simp);simp at this;simp[this]
  | succ k =>
   have h0:=h 0 (by simp) (by omega);simp only[Vd]at h0;rw[List.takeWhile_cons_of_pos (by simpa using h0),Yl,ih k (by simpa using hk) (fun j hj hjk=>h (j+1) (by simpa using hj) (by omega)) (fun hj=>he (by simpa using hj))]
theorem qin {p:Nat->Bool}{s:ByteArray}{i k:Nat}(hk:i+k<=s.size)(h:∀j (hj:i+j<s.size),j<k->p (s[i+j]).toNat=true)(he:∀hj:i+k<s.size,p (s[i+k]).toNat=false):runN p s i=k:=by
 have hl:(s.data.toList.drop i).length=s.size - i:=by simp
 refine run_eq p _ k (by omega) (fun j hj hjk=>?_) (fun hj=>?_)
 . rw[Vf];exact h j (by omega) hjk
 . rw[Vf];exact he (by omega)
theorem qio (p:Nat->Bool)(s:ByteArray)(i:Nat):runN p s i<=s.size - i:=by
 have:=(List.takeWhile_sublist (fun c:UInt8=>p c.toNat) (l:=s.data.toList.drop i)).length_le
 unfold runN;simpa using this
theorem qdz (p:Nat->Bool)(s:ByteArray):runN p s 0=s.size ↔ (s.data.toList.all fun c=>p c.toNat)=true:=by
 have e:s.size=s.data.toList.length:=by simp
 unfold runN
 rw[Z5,e]
 generalize s.data.toList=l
 induction l with
 | nil=>simp
 | cons c r ih =>
  by_cases hc:p c.toNat=true
  . rw[List.takeWhile_cons_of_pos (by simpa using hc),List.all_cons,hc,Yl,Yl,Zs];exact⟨fun h=>ih.1 (by omega),fun h=>by rw[ih.2 h]⟩
  . rw[List.takeWhile_cons_of_neg (by simpa using hc)];simp[hc]
theorem q2f (s:ByteArray)(i:Nat)(w:World)(hs:s.size<=9223372036854775807)(hi:i<=s.size) :
 Calls Tryz.prog 38 #[.string s,Ya i] w fun e w'=>e=.returned (Ya (runN nameB s i))/\w'=w:=by
 go_enter Tryz.func38,Tryz.ntmps38
 go_wp2_with fail
 go_loopw [5] (fun n wr=>∃k:Nat,i+k<=s.size/\n=Ya k/\(∀j (hj:i+j<s.size),j<k->nameB (s[i+j]).toNat=true)/\wr=w) (fun n _=>s.size - (intOf n).toNat)
 case atStart=>exact⟨0,by omega,rfl,fun j _ hj=>absurd hj (nL _),rfl⟩
 case round =>
  obtain⟨k,hk,rfl,hall,rfl⟩:=hrel;have HA:=h_ hall;clear hall;have hw1:wrap64 ((i:Int)+(k:Int))=((i+k:Nat):Int):=by rw[q40 (by omega) (by omega)];omega
  by_cases hlt:i+k<s.size
  . have hlt':((i:Int)+k)<s.size:=by omega
    cases ht:nameB (s[i+k]).toNat
    . go_wp2_with (go_at_call 83;refine(q1w _ _).mono ?_;rintro e w' ⟨rfl,rfl⟩;rw[ht])
      go_ret;exact⟨qij (by rw[qin (by omega) HA.u (fun _=>ht)]),rfl⟩
    . go_wp2_with (go_at_call 83;refine(q1w _ _).mono ?_;rintro e w' ⟨rfl,rfl⟩;rw[ht])
      go_roundw
      case rel=>exact⟨k+1,by omega,by go_num,fun j hj hjk=>by
       by_cases e:j=k
       . subst e;exact ht
       . exact HA.u j hj (by omega),trivial⟩
      case measure=>simp[intOf];omega
  . have hlt':¬ ((i:Int)+k)<s.size:=by omega
    go_wp2_with fail;go_ret;exact⟨qij (by rw[qin (by omega) HA.u (fun h=>absurd h hlt)]),rfl⟩
theorem getD0 {s:ByteArray}(h:0<s.size):s.data.getD 0 0=s[0]:=by
 rw[Array.getD_eq_getD_getElem?,Array.getElem?_eq_getElem (by simpa using h)];rfl
theorem qcf (s:ByteArray):goodN s=(decide (1<=s.size/\s.size<=16)&&small (s.data.getD 0 0).toNat&&(s.data.toList.all fun c=>nameB c.toNat)&&!rsv s):=rfl
theorem q1s (s:ByteArray)(w:World)(hs:s.size<=9223372036854775807):Calls Tryz.prog 89 #[.string s] w fun e w'=>e=.returned (.bool (goodN s))/\w'=w:=by
 have hg:=qcf s
 have hall:=qdz nameB s
 have hle:=qio nameB s 0
 by_cases h0:s.size=0
 . rw[show goodN s=false by rw[hg,Yg (by omega)];rfl]
   have h0':((s.size:Int)==0)=true:=by simp[h0]
   clear hg hall hle;go_enter Tryz.func89,Tryz.ntmps89;go_wp2_with fail;go_ret;exact⟨rfl,rfl⟩
 have h0':((s.size:Int)==0)=false:=Ye.2 (by omega)
 by_cases h16:16<s.size
 . rw[show goodN s=false by rw[hg,Yg (by omega)];rfl]
   clear hg hall hle;go_enter Tryz.func89,Tryz.ntmps89;go_wp2_with fail;go_ret;exact⟨rfl,rfl⟩
 have h1:0<s.size:=by omega
 rw[Yh (by omega),getD0 h1,Zs]at hg
 cases hsm:small (s[0]).toNat
 . rw[show goodN s=false by rw[hg,hsm];rfl]
   clear hg hall hle;go_enter Tryz.func89,Tryz.ntmps89;go_wp2_with (go_at_call 37;refine(q55 _ _).mono ?_;rintro e w' ⟨rfl,rfl⟩;rw[hsm]);go_ret;exact⟨rfl,rfl⟩
 rw[hsm,Zs]at hg
 obtain⟨r,hr⟩:=Nq (runN nameB s 0)
 rw[hr]at hall hle
 by_cases ha:r=s.size
 . rw[hall.1 ha,Zs]at hg
   have hq:((r:Int)==(s.size:Int))=true:=by simp[ha]
   cases hrs:rsv s
   all_goals
    rw[hrs]at hg;rw[hg];clear hg hall hle ha;go_enter Tryz.func89,Tryz.ntmps89;go_wp2_with (first | (go_at_call 37;refine(q55 _ _).mono ?_;rintro e w' ⟨rfl,rfl⟩;rw[hsm]) | (go_at_call 38;refine(q2f s 0 _ hs (nZ _)).mono ?_;rintro e w' ⟨rfl,rfl⟩;rw[hr]) | (go_at_call 115;refine(q1x _ _).mono ?_;rintro e w' ⟨rfl,rfl⟩;rw[hrs]));go_ret;exact⟨rfl,rfl⟩
 . have hall':(s.data.toList.all fun c=>nameB c.toNat)=false:=by
    cases e:(s.data.toList.all fun c=>nameB c.toNat)
    . rfl
    . exact absurd (hall.2 e) ha
   rw[hall',Bool.false_and]at hg;rw[hg];have hq:((r:Int)==(s.size:Int))=false:=Ye.2 (by omega);clear hg hall hle ha hall';go_enter Tryz.func89,Tryz.ntmps89;go_wp2_with (first | (go_at_call 37;refine(q55 _ _).mono ?_;rintro e w' ⟨rfl,rfl⟩;rw[hsm]) | (go_at_call 38;refine(q2f s 0 _ hs (nZ _)).mono ?_;rintro e w' ⟨rfl,rfl⟩;rw[hr]));go_ret;exact⟨rfl,rfl⟩
theorem q1i (s:ByteArray)(w:World)(hs:s.size<=9223372036854775807):Calls Tryz.prog 135 #[.string s] w fun e w'=>e=.returned (.bool (goodN s))/\w'=w:=by
 have hg:=qcf s
 have e0:=empty0 s
 by_cases h0:s.size=0
 . rw[show goodN s=false by rw[hg,Yg (by omega)];rfl]
   rw[Yh h0]at e0;clear hg;go_enter Tryz.func135,Tryz.ntmps135;go_wp2_with fail;go_ret;exact⟨rfl,rfl⟩
 rw[Yg h0]at e0
 by_cases h16:16<s.size
 . rw[show goodN s=false by rw[hg,Yg (by omega)];rfl]
   clear hg;go_enter Tryz.func135,Tryz.ntmps135;go_wp2_with fail;go_ret;exact⟨rfl,rfl⟩
 have h1:0<s.size:=by omega
 rw[Yh (by omega),getD0 h1,Zs]at hg
 cases hsm:small (s[0]).toNat
 . rw[show goodN s=false by rw[hg,hsm];rfl]
   clear hg;go_enter Tryz.func135,Tryz.ntmps135;go_wp2_with (go_at_call 94;refine(q34 _ _).mono ?_;rintro e w' ⟨rfl,rfl⟩;rw[hsm]);go_ret;exact⟨rfl,rfl⟩
 rw[hsm,Zs]at hg
 cases hrs:rsv s
 case true =>
  rw[hrs,show(!true)=false from rfl,Bool.and_false]at hg;rw[hg];clear hg;go_enter Tryz.func135,Tryz.ntmps135;go_wp2_with (first | (go_at_call 94;refine(q34 _ _).mono ?_;rintro e w' ⟨rfl,rfl⟩;rw[hsm]) | (go_at_call 166;refine(q1l _ _).mono ?_;rintro e w' ⟨rfl,rfl⟩;rw[hrs]));go_ret;exact⟨rfl,rfl⟩
 rw[hrs,show(!false)=true from rfl,Bool.and_true]at hg
 rw[hg]
 have HG:Hi ((∀j (hj:j<s.size),nameB (s[j]).toNat=true)->(s.data.toList.all fun c=>nameB c.toNat)=true):=by
  refine h_ fun h=>?_;rw[Zh];intro c hc;obtain⟨j,hj,rfl⟩:=Zo.1 hc;exact h j (by simpa using hj)
 have HN:Hi (∀j (hj:j<s.size),nameB (s[j]).toNat=false->(s.data.toList.all fun c=>nameB c.toNat)=false):=by
  refine h_ fun j hj h=>?_;rw[List.all_eq_false];exact⟨s[j],by simp[ByteArray.getElem_eq_getElem_data],by simp[h]⟩
 clear hg
 generalize (s.data.toList.all fun c=>nameB c.toNat)=A at *
 go_enter Tryz.func135,Tryz.ntmps135
 go_wp2_with (first | (go_at_call 94;refine(q34 _ _).mono ?_;rintro e w' ⟨rfl,hw⟩;replace hw:=hw.symm;subst hw;rw[hsm]) | (go_at_call 166;refine(q1l _ _).mono ?_;rintro e w' ⟨rfl,hw⟩;replace hw:=hw.symm;subst hw;rw[hrs]))
 go_loopw [23] (fun i wr=>∃k:Nat,k<=s.size/\i=Ya k/\(∀j (hj:j<s.size),j<k->nameB (s[j]).toNat=true)/\wr=w) (fun i _=>s.size - (intOf i).toNat)
 case atStart=>exact⟨0,nZ _,rfl,fun j _ hj=>absurd hj (nL _),rfl⟩
 case round =>
  obtain⟨k,hk,rfl,hall,rfl⟩:=hrel;have HA:=h_ hall;clear hall;by_cases hlt:k<s.size
  . cases ht:nameB (s[k]).toNat
    . go_wp2_with (go_at_call 97;refine(q1j _ _).mono ?_;rintro e w' ⟨rfl,rfl⟩;rw[ht])
      go_ret;exact⟨qdx (HN.u k hlt ht).symm,rfl⟩
    . go_wp2_with (go_at_call 97;refine(q1j _ _).mono ?_;rintro e w' ⟨rfl,rfl⟩;rw[ht])
      go_roundw
      case rel=>exact⟨k+1,by omega,by go_num,fun j hj hjk=>by
       by_cases e:j=k
       . subst e;exact ht
       . exact HA.u j hj (by omega),trivial⟩
      case measure=>simp[intOf];omega
  . go_wp2_with fail
    go_ret;exact⟨qdx (HG.u fun j hj=>HA.u j hj (by omega)).symm,rfl⟩
theorem q1k (op:Int)(w:World):Calls Tryz.prog 186 #[Ya op] w fun e w'=>e=.returned (.bool (decide (2<=op/\op<=25)))/\w'=w:=by
 by_cases h2:2<=op
 . by_cases h25:op<=25
   . rw[Yh ⟨h2,h25⟩]
     go_enter Tryz.func186,Tryz.ntmps186;go_wp2;go_ret;exact⟨by simp,rfl⟩
   . have e:decide (2<=op/\op<=25)=false:=Yg (fun h=>h25 h.2)
     rw[e];clear e;go_enter Tryz.func186,Tryz.ntmps186;go_wp2;go_ret;exact⟨by simp,rfl⟩
 . have e:decide (2<=op/\op<=25)=false:=Yg (fun h=>h2 h.1)
   rw[e];clear e;go_enter Tryz.func186,Tryz.ntmps186;go_wp2;go_ret;exact⟨by rfl,rfl⟩
def opn (op:Int):Int:=if op=2∨op=3∨op=21∨op=22∨op=23∨op=24∨op=25 then 1 else if op=16 then 3 else 2
theorem ar_opn (op:Int):ar op=if 2<=op/\op<=25 then opn op else 0:=by
 unfold ar opn
 by_cases h1:op=2∨op=3∨op=21∨op=22∨op=23∨op=24∨op=25
 . rw[Yn h1,Yn h1,Yn (by omega)]
 . rw[Yi h1,Yi h1]
   by_cases h2:op=16
   . rw[Yn h2,Yn h2,Yn (by omega)]
   . rw[Yi h2,Yi h2]
     by_cases h3:4<=op/\op<=20
     . rw[Yn h3,Yn (by omega)]
     . rw[Yi h3,Yi (by omega)]
theorem q20 (op:Int)(w:World):Calls Tryz.prog 187 #[Ya op] w fun e w'=>e=.returned (Ya (opn op))/\w'=w:=by
 rcases qb9 op with (rfl | rfl | rfl | rfl | rfl | rfl | rfl | rfl) | ⟨⟨n1,n2,n3,n4⟩,⟨n5,n6,n7,n8⟩,-⟩
 case inr =>
  have e:opn op=2:=by rw[opn,Yi (by omega),Yi n8]
  rw[e];clear e;go_enter Tryz.func187,Tryz.ntmps187;go_wp2;go_ret;exact⟨rfl,rfl⟩
 all_goals (
  go_enter Tryz.func187,Tryz.ntmps187;go_wp2;go_ret;exact⟨rfl,rfl⟩)
theorem q4t (w:World):Calls Tryz.prog 155 #[] w fun e w'=>e=.returned (.agg J9)/\Below w.heap.size w w':=by
 go_enter Tryz.func155,Tryz.ntmps155
 go_wp2
 exact bodyPost_ret (v:=.agg J9) (by simp[results,Tryz.results155,go_sem]) rfl ⟨rfl,(bR _ _).alloc (nR _) _⟩
theorem q6u (b:Bool)(w:World):Calls Tryz.prog 154 #[.bool b] w fun e w'=>e=.returned (.agg #[Ya 2,Ya (if b then 1 else 0),Yc])/\Below w.heap.size w w':=by
 cases b
 . go_enter Tryz.func154,Tryz.ntmps154
   go_wp2;exact bodyPost_ret (v:=.agg #[Ya 2,Ya 0,Yc]) (by simp[results,Tryz.results154,go_sem]) rfl ⟨rfl,(bR _ _).alloc (nR _) _⟩
 . go_enter Tryz.func154,Tryz.ntmps154
   go_wp2;exact bodyPost_ret (v:=.agg #[Ya 2,Ya 1,Yc]) (by simp[results,Tryz.results154,go_sem]) rfl ⟨rfl,(bR _ _).alloc (nR _) _⟩
theorem q9f (n:Int)(w:World):Calls Tryz.prog 152 #[Ya n] w fun e w'=>e=.returned (.agg #[Ya 1,Ya n,Yc])/\Below w.heap.size w w':=by
 go_enter Tryz.func152,Tryz.ntmps152
 go_wp2
 exact bodyPost_ret (v:=.agg #[Ya 1,Ya n,Yc]) (by simp[results,Tryz.results152,go_sem]) rfl ⟨rfl,(bR _ _).alloc (nR _) _⟩
theorem q6w (s:ByteArray)(w:World):Calls Tryz.prog 153 #[.string s] w fun e w'=>e=.returned (.agg #[Ya 3,Ya 0,.string s])/\Below w.heap.size w w':=by
 go_enter Tryz.func153,Tryz.ntmps153
 go_wp2
 exact bodyPost_ret (v:=.agg #[Ya 3,Ya 0,.string s]) (by simp[results,Tryz.results153,go_sem]) rfl ⟨rfl,(bR _ _).alloc (nR _) _⟩
theorem q19 (w:World):Calls Tryz.prog 133 #[] w fun e w'=>e=.returned (.agg J9)/\Below w.heap.size w w':=by
 go_enter Tryz.func133,Tryz.ntmps133
 go_wp2
 exact bodyPost_ret (v:=.agg J9) (by simp[results,Tryz.results133,go_sem]) rfl ⟨rfl,(bR _ _).alloc (nR _) _⟩
theorem q24 (b:Bool)(w:World):Calls Tryz.prog 163 #[.bool b] w fun e w'=>e=.returned (.agg #[Ya 2,Ya (if b then 1 else 0),Yc])/\Below w.heap.size w w':=by
 cases b
 . go_enter Tryz.func163,Tryz.ntmps163
   go_wp2;exact bodyPost_ret (v:=.agg #[Ya 2,Ya 0,Yc]) (by simp[results,Tryz.results163,go_sem]) rfl ⟨rfl,(bR _ _).alloc (nR _) _⟩
 . go_enter Tryz.func163,Tryz.ntmps163
   go_wp2;exact bodyPost_ret (v:=.agg #[Ya 2,Ya 1,Yc]) (by simp[results,Tryz.results163,go_sem]) rfl ⟨rfl,(bR _ _).alloc (nR _) _⟩
theorem q32 (n:Int)(w:World):Calls Tryz.prog 165 #[Ya n] w fun e w'=>e=.returned (.agg #[Ya 1,Ya n,Yc])/\Below w.heap.size w w':=by
 go_enter Tryz.func165,Tryz.ntmps165
 go_wp2
 exact bodyPost_ret (v:=.agg #[Ya 1,Ya n,Yc]) (by simp[results,Tryz.results165,go_sem]) rfl ⟨rfl,(bR _ _).alloc (nR _) _⟩
theorem q2n (s:ByteArray)(w:World):Calls Tryz.prog 110 #[.string s] w fun e w'=>e=.returned (.agg #[Ya 3,Ya 0,.string s])/\Below w.heap.size w w':=by
 go_enter Tryz.func110,Tryz.ntmps110
 go_wp2
 exact bodyPost_ret (v:=.agg #[Ya 3,Ya 0,.string s]) (by simp[results,Tryz.results110,go_sem]) rfl ⟨rfl,(bR _ _).alloc (nR _) _⟩
end Go.Proofs.YtfmammdgehbjhaaGreatDoor
