import Derived.Test.YtebbgodlijlioaaGreatDoorW02
import Derived.Test.YtebbgodlijlioaaGreatDoorW03
set_option maxRecDepth 100000
set_option maxHeartbeats 64000000
namespace Go.Proofs.YtebbgodlijlioaaGreatDoor
open Go
structure Nx where
 op:Int
 v:Vx
 nm:ByteArray
abbrev Jf(x0:Nx):Array Value:=#[J9 x0.op,J9 x0.v.k,J9 x0.v.n,.string x0.v.s,.string x0.nm]
structure Ph where
 t:ByteArray
 lv:Int
 d:Nat
def noPh:Ph:=⟨⟨#[]⟩,7,1⟩
def arn (n:Nx):Nat:=(ar n.op).toNat
def lvl (op:Int):Int:=if op=15 then 1 else if op=14 then 2 else if 10<=op/\op<=13 then 3 else if 7<=op/\op<=9 then 4 else if 4<=op/\op<=6 then 5 else if op=2∨op=3 then 6 else 7
def wrdT:List ByteArray:=[⟨#[]⟩,⟨#[]⟩,⟨#[45]⟩,⟨#[110,111,116]⟩,⟨#[42]⟩,⟨#[47]⟩,⟨#[37]⟩,⟨#[43]⟩,⟨#[45]⟩,⟨#[38]⟩,⟨#[61]⟩,⟨#[60,62]⟩,⟨#[60]⟩,⟨#[60,61]⟩,⟨#[97,110,100]⟩,⟨#[111,114]⟩,
 ⟨#[105,102]⟩,⟨#[109,105,110]⟩,⟨#[109,97,120]⟩,⟨#[111,114,101,108,115,101]⟩,⟨#[104,97,115]⟩,⟨#[108,101,110]⟩,⟨#[110,117,109]⟩,⟨#[115,116,114]⟩,⟨#[105,115,98,108,97,110,107]⟩,⟨#[105,115,101,114,114]⟩]
def wrd (op:Int):ByteArray:=wrdT.getD op.toNat ⟨#[]⟩
def wrap (l:Int)(p:Ph):ByteArray:=if p.lv<l then ⟨#[40]⟩++p.t++⟨#[41]⟩ else p.t
def jt:List ByteArray->ByteArray
 | []=>⟨#[]⟩
 | x :: r=>⟨#[44,32]⟩++x++jt r
def jn:List ByteArray->ByteArray
 | []=>⟨#[]⟩
 | x :: r=>x++jt r
def lft (op:Int):Int:=if lvl op=3 then 4 else lvl op
def phT (n:Nx)(a:List Ph):ByteArray :=
 if n.op=0 then showB n.v.k n.v.n n.v.s
 else if n.op=1 then n.nm
 else if n.op=2 then ⟨#[45]⟩++wrap 6 (a.getD 0 noPh)
 else if n.op=3 then ⟨#[110,111,116,32]⟩++wrap 6 (a.getD 0 noPh)
 else if lvl n.op=7 then wrd n.op++⟨#[40]⟩++jn (a.map (·.t))++⟨#[41]⟩
 else wrap (lft n.op) (a.getD 0 noPh)++⟨#[32]⟩++wrd n.op++⟨#[32]⟩++wrap (lvl n.op+1) (a.getD 1 noPh)
def mx:List Ph->Nat
 | []=>0
 | p :: r=>max p.d (mx r)
def phr (n:Nx)(a:List Ph):Ph:=⟨phT n a,lvl n.op,mx a+1⟩
def stk (e:Nat->Nx):Nat->List Nat
 | 0=>[]
 | n+1=>(n+1) :: (stk e n).drop (arn (e n))
def pst (e:Nat->Nx):Nat->List Ph
 | 0=>[]
 | n+1=>phr (e n) ((pst e n).take (arn (e n))).reverse :: (pst e n).drop (arn (e n))
def top (e:Nat->Nx)(n:Nat):Ph:=(pst e n).headD noPh
theorem qiw (e:Nat->Nx)(n:Nat):(pst e n).length=(stk e n).length:=by
 induction n with
 | zero=>rfl
 | succ n ih=>simp[pst,stk,ih]
theorem qix (e:Nat->Nx)(n:Nat):pst e n=(stk e n).map (top e):=by
 induction n with
 | zero=>rfl
 | succ n ih =>
  simp only[pst,stk,Zx,List.map_drop,<- ih];rfl
theorem stk_at (e:Nat->Nx)(n:Nat):∀(i a:Nat) (r:List Nat),(stk e n).drop i=a :: r->stk e a=a :: r/\1<=a/\a<=n:=by
 induction n with
 | zero=>intro i a r h;simp[stk]at h
 | succ n ih =>
  intro i a r h;cases i with
  | zero=>simp only[stk,List.drop_zero,List.cons.injEq]at h;obtain⟨rfl,rfl⟩:=h;exact⟨rfl,by omega,by omega⟩
  | succ i =>
   simp only[stk,List.drop_succ_cons,List.drop_drop]at h;obtain⟨h1,h2,h3⟩:=ih _ a r h;exact⟨h1,h2,by omega⟩
def beg (e:Nat->Nx)(n:Nat):Nat:=(stk e n).tail.headD 0
theorem qfn (e:Nat->Nx)(n i:Nat)(h:i<(stk e n).length):stk e ((stk e n)[i])=(stk e n).drop i/\1<=(stk e n)[i]/\(stk e n)[i]<=n:=by
 have:=stk_at e n i _ _ (Vy h)
 rw[Vy h];exact this
def stkOk (e:Nat->Nx)(n:Nat):Prop:=∀k,k<n->arn (e k)<=(stk e k).length
theorem stkOk.le {e:Nat->Nx}{n m:Nat}(h:stkOk e n)(hm:m<=n):stkOk e m:=fun k hk=>h k (by omega)
theorem qf8 (e:Nat->Nx)(n:Nat):top e (n+1)=phr (e n) ((pst e n).take (arn (e n))).reverse:=rfl
theorem qjm (e:Nat->Nx)(n:Nat):(stk e n).length<=n:=by
 induction n with
 | zero=>simp[stk]
 | succ n ih=>simp[stk];omega
theorem arn_le (n:Nx):arn n<=3:=by
 unfold arn ar;split
 . simp
 . split
   . simp
   . split <;> simp
theorem q8y (e:Nat->Nx)(p:Ph->Prop)(hp:∀n a x,x∈a->p x->a.length=arn n->p (phr n a)){n m:Nat}(hnm:n<=m)(hok:stkOk e m)(h:∃x,x∈pst e n/\p x):∃x,x∈pst e m/\p x:=by
 induction m with
 | zero=>obtain rfl:n=0:=(by omega);exact h
 | succ m ih =>
  by_cases hm:n=m+1
  . subst hm;exact h
  . obtain⟨x,hx,hpx⟩:=ih (by omega) (hok.le (by omega))
    rw[<- Vf (arn (e m)) (pst e m)]at hx;rcases Y9.1 hx with hx | hx
    . refine⟨_,Zd,hp _ _ x (Oa.2 hx) hpx ?_⟩
      rw[Y6,Y3,qiw];have:=hok m (by omega);omega
    . exact⟨x,Zu _ hx,hpx⟩
theorem mx_le {a:List Ph}{x:Ph}(h:x∈a):x.d<=mx a:=by
 induction a with
 | nil=>cases h
 | cons p r ih =>
  rcases Z2.1 h with rfl | h
  . simp[mx];omega
  . have:=ih h;simp[mx];omega
theorem qag (a b:List Ph):mx (a++b)=max (mx a) (mx b):=by
 induction a with
 | nil=>simp[mx]
 | cons p r ih=>simp only[Z3,mx,ih];omega
theorem q82 (a:List Ph):mx a.reverse=mx a:=by
 induction a with
 | nil=>rfl
 | cons p r ih=>simp only[List.reverse_cons,qag,ih,mx];omega
def tot:List Ph->Nat
 | []=>0
 | p :: r=>p.t.size+tot r
theorem q8m (a b:List Ph):tot (a++b)=tot a+tot b:=by
 induction a with
 | nil=>simp[tot]
 | cons p r ih=>simp only[Z3,tot,ih];omega
theorem q63 (a:List Ph):tot a.reverse=tot a:=by
 induction a with
 | nil=>rfl
 | cons p r ih=>simp only[List.reverse_cons,q8m,ih,tot];omega
theorem qjx {a:List Ph}{x:Ph}(h:x∈a):x.t.size<=tot a:=by
 induction a with
 | nil=>cases h
 | cons p r ih =>
  rcases Z2.1 h with rfl | h
  . simp[tot]
  . have:=ih h;simp[tot];omega
def small (b:Nat):Bool:=decide (97<=b/\b<=122)
def digitB (b:Nat):Bool:=decide (48<=b/\b<=57)
def nameB (b:Nat):Bool:=small b||digitB b||decide (b=95)
def rsvT:List (List UInt8):=[[108,97,98,101,108],[98,101,108,111,119],[114,111,108,101],[102,105,101,108,100],[105,110,116],[98,111,111,108],[116,101,120,116],[97,116],[97,117,116,111],[98,121],[105,115],[119,104,101,110],[118,97,108,105,100],[115,97,121,115],[109,117,115,116],[97,110,100],[111,114],[110,111,116],[116,114,117,101],[102,97,108,115,101],[98,108,97,110,107]]
def rsv (s:ByteArray):Bool:=rsvT.any fun x=>s.toList==x
def goodN (s:ByteArray):Bool:=decide (1<=s.size/\s.size<=16)&&small (s.data.getD 0 0).toNat&&(s.data.toList.all fun c=>nameB c.toNat)&&!rsv s
def okNode (n:Nx):Bool :=
 if n.op=0 then decide (n.nm.size=0)&&okVal n.v.k n.v.n n.v.s&&decide (n.v.k≠4)&&decide (0<=n.v.n)
 else if n.op=1 then decide (n.v.k=0/\n.v.n=0/\n.v.s.size=0)&&goodN n.nm
 else decide (2<=n.op/\n.op<=25)&&decide (n.v.k=0/\n.v.n=0/\n.v.s.size=0)&&decide (n.nm.size=0)
theorem qbx (l:Int)(p:Ph):p.t.size<=(wrap l p).size/\(wrap l p).size<=p.t.size+2:=by
 unfold wrap;split
 . simp only[Yn,bsz,Zj,Yw,Y5];omega
 . omega
theorem qby:∀k:Fin 26,2<=k.val->1<=(wrdT.getD k.val ⟨#[]⟩).size/\(wrdT.getD k.val ⟨#[]⟩).size<=7:=by decide +kernel
theorem qfg {op:Int}(h0:2<=op)(h1:op<=25):1<=(wrd op).size/\(wrd op).size<=7:=qby ⟨op.toNat,by omega⟩ (by show 2<=op.toNat;omega)
theorem qhg (a:List Ph):(jt (a.map (·.t))).size=tot a+2*a.length:=by
 induction a with
 | nil=>rfl
 | cons p r ih=>simp only[Zx,jt,Yn,ih,tot,Yw,bsz,Zj,Y5];omega
theorem qhd (a:List Ph):tot a<=(jn (a.map (·.t))).size/\(jn (a.map (·.t))).size<=tot a+2*a.length:=by
 cases a with
 | nil=>exact⟨nR 0,nR 0⟩
 | cons p r=>simp only[Zx,jn,Yn,qhg,tot,Yw];omega
theorem ar_two {op:Int}(h0:2<=op)(h1:op<=25)(h:lvl op≠7)(h2:op≠2)(h3:op≠3):ar op=2:=by
 unfold lvl at h;unfold ar
 by_cases h4:4<=op/\op<=15
 . rw[Yu (by omega),Yu (by omega),Yy (by omega)]
 . rw[Yu (by omega),Yu (by omega),Yu (by omega),Yu (by omega),Yu (by omega),Yu (by omega)]at h
   exact absurd rfl h
theorem ar_one {op:Int}(h:op=2∨op=3):ar op=1:=by rcases h with rfl | rfl <;> rfl
theorem list1 {α:Type}{a:List α}(h:a.length=1):∃x,a=[x]:=by
 match a,h with
 | [x],_=>exact⟨x,rfl⟩
theorem list2 {α:Type}{a:List α}(h:a.length=2):∃x y,a=[x,y]:=by
 match a,h with
 | [x,y],_=>exact⟨x,y,rfl⟩
theorem qe0 (n:Nx)(a:List Ph)(hn:okNode n=true)(ha:a.length=arn n)(h1:n.v.n<=9223372036854775807):tot a+1+n.v.s.size<=(phT n a).size/\(phT n a).size<=tot a+1100:=by
 unfold okNode at hn
 unfold phT
 by_cases h0:n.op=0
 . rw[Yy h0]at hn⊢
   simp only[Yp,Yq]at hn;have:a=[]:=by
    have e:arn n=0:=(by unfold arn;rw[h0];rfl);rw[e]at ha;exact Z8.1 ha
   subst this;have:=q8g n.v.k n.v.n n.v.s hn.1.1.2 hn.2 h1;simp only[tot];omega
 rw[Yu h0]at hn⊢
 by_cases h1':n.op=1
 . rw[Yy h1']at hn⊢
   simp only[Yp,Yq,goodN]at hn;have:a=[]:=by
    have e:arn n=0:=(by unfold arn;rw[h1'];rfl);rw[e]at ha;exact Z8.1 ha
   subst this;simp only[tot];omega
 rw[Yu h1']at hn⊢
 simp only[Yp,Yq]at hn
 obtain⟨⟨⟨g0,g1⟩,⟨-,-,g4⟩⟩,-⟩:=hn
 have hw:=qfg g0 g1
 by_cases h2:n.op=2
 . rw[Yy h2]
   have e:arn n=1:=by unfold arn;rw[ar_one (.inl h2)];rfl
   obtain⟨x,rfl⟩:=list1 (ha.trans e);have:=qbx 6 x;simp only[Zv,Yn,tot,bsz,Zj,Yw,Y5];omega
 rw[Yu h2]
 by_cases h3:n.op=3
 . rw[Yy h3]
   have e:arn n=1:=by unfold arn;rw[ar_one (.inr h3)];rfl
   obtain⟨x,rfl⟩:=list1 (ha.trans e);have:=qbx 6 x;simp only[Zv,Yn,tot,bsz,Zj,Yw,Y5];omega
 rw[Yu h3]
 by_cases h7:lvl n.op=7
 . rw[Yy h7]
   have:=qhd a;have h3:=arn_le n;simp only[Yn,bsz,Zj,Yw,Y5];omega
 . rw[Yu h7]
   have e:arn n=2:=by unfold arn;rw[ar_two g0 g1 h7 h2 h3];rfl
   obtain⟨x,y,rfl⟩:=list2 (ha.trans e);have w1:=qbx (lft n.op) x;have w2:=qbx (lvl n.op+1) y;simp only[Zv,Vp,Yn,tot,bsz,Zj,Yw,Y5];omega
def txtSum (e:Nat->Nx):Nat->Nat
 | 0=>0
 | n+1=>txtSum e n+1+(e n).v.s.size
def okAll (e:Nat->Nx)(n:Nat):Prop:=∀k,k<n->okNode (e k)=true
theorem okAll.le {e:Nat->Nx}{n m:Nat}(h:okAll e n)(hm:m<=n):okAll e m:=fun k hk=>h k (by omega)
theorem qjy (e:Nat->Nx)(n:Nat)(hok:stkOk e n)(hn:okAll e n)(hb:∀k,k<n->(e k).v.n<=9223372036854775807):txtSum e n<=tot (pst e n)/\tot (pst e n)<=1100*n:=by
 induction n with
 | zero=>simp[txtSum,pst,tot]
 | succ n ih =>
  have:=ih (hok.le (by omega)) (hn.le (by omega)) (fun k hk=>hb k (by omega));have hl:((pst e n).take (arn (e n))).reverse.length=arn (e n):=by
   rw[Y6,Y3,qiw];have:=hok n (by omega);omega
  have hp:=qe0 (e n) _ (hn n (by omega)) hl (hb n (by omega));have hs:tot (pst e n)=tot ((pst e n).take (arn (e n))).reverse+tot ((pst e n).drop (arn (e n))):=by
   rw[q63,<- q8m,Vf]
  simp only[pst,tot,phr,txtSum];omega
def vEx (e:Nat->Nx)(m:Nat):Prop:=1<=m/\m<=1000/\okAll e m/\stkOk e m/\(stk e m).length=1/\(top e m).d<=64/\(top e m).t.size<=4000
theorem qiy {e:Nat->Nx}{m:Nat}(h:(stk e m).length=1):pst e m=[top e m]:=by
 rw[<- qiw]at h
 obtain⟨x,hx⟩:=list1 h
 rw[top,hx];rfl
theorem vEx.part {e:Nat->Nx}{m:Nat}(h:vEx e m)(hb:∀k,k<m->(e k).v.n<=9223372036854775807){n:Nat}(h1:1<=n)(hn:n<=m):(top e n).d<=64/\(top e n).t.size<=4000:=by
 obtain⟨-,-,ha,hs,hl,hd,ht⟩:=h
 have hp:=qiy hl
 obtain⟨n,rfl⟩:∃k,n=k+1:=⟨n - 1,by omega⟩
 constructor
 . refine Vz fun hc=>?_
   obtain⟨x,hx,hx'⟩:=q8y e (fun p=>64<p.d) (fun n a x hx hp _=>by have:=mx_le hx;show 64<mx a+1;have hp:64<x.d:=hp;omega) hn hs ⟨_,Zd,by show 64<(top e (n+1)).d;omega⟩;rw[hp]at hx;obtain rfl:=Yx.1 hx;have hx':64<(top e m).d:=hx';omega
 . refine Vz fun hc=>?_
   have key:∀j,n+1<=j->j<=m->∃x,x∈pst e j/\4000<x.t.size:=by
    intro j
    induction j with
    | zero=>intro h;omega
    | succ j ih =>
     intro h1 h2;by_cases hj:n=j
     . subst hj;exact⟨_,Zd,by show 4000<(top e (n+1)).t.size;omega⟩
     . obtain⟨x,hx,hpx⟩:=ih (by omega) (by omega)
       rw[<- Vf (arn (e j)) (pst e j)]at hx;rcases Y9.1 hx with hx | hx
       . refine⟨_,Zd,?_⟩
         have hl:((pst e j).take (arn (e j))).reverse.length=arn (e j):=by
          rw[Y6,Y3,qiw];have:=hs j (by omega);omega
         have hp:=(qe0 (e j) _ (ha j (by omega)) hl (hb j (by omega))).1;have:=qjx (Oa.2 hx);show 4000<(phT _ _).size;omega
       . exact⟨x,Zu _ hx,hpx⟩
   obtain⟨x,hx,hx'⟩:=key m hn (nR _);rw[hp]at hx;obtain rfl:=Yx.1 hx;omega
theorem vEx.sum {e:Nat->Nx}{m:Nat}(h:vEx e m)(hb:∀k,k<m->(e k).v.n<=9223372036854775807):txtSum e m<=4000:=by
 obtain⟨-,-,ha,hs,hl,hd,ht⟩:=h
 have:=(qjy e m hs ha hb).1
 rw[qiy hl]at this
 simp only[tot]at this
 omega
end Go.Proofs.YtebbgodlijlioaaGreatDoor
namespace Go.Proofs.YtebbgodlijlioaaGreatDoor
open Go Go.RowKit
theorem q58 (b:Nat)(w:World):Calls Tryz.prog 87 #[.int .u8 b] w fun e w'=>e=.returned (.bool (small b))/\w'=w:=by
 by_cases h1:97<=b
 . by_cases h2:b<=122
   . rw[show small b=true by simp[small];omega]
     go_enter Tryz.func87,Tryz.ntmps87;go_wp2;go_ret;exact⟨qe9 (by simp;omega),rfl⟩
   . rw[show small b=false by simp[small];omega]
     go_enter Tryz.func87,Tryz.ntmps87;go_wp2;go_ret;exact⟨qe9 (by simp;omega),rfl⟩
 . rw[show small b=false by simp[small];omega]
   go_enter Tryz.func87,Tryz.ntmps87;go_wp2;go_ret;exact⟨by rfl,rfl⟩
theorem q0y (b:Nat)(w:World):Calls Tryz.prog 157 #[.int .u8 b] w fun e w'=>e=.returned (.bool (digitB b))/\w'=w:=by
 by_cases h1:48<=b
 . by_cases h2:b<=57
   . rw[show digitB b=true by simp[digitB];omega]
     go_enter Tryz.func157,Tryz.ntmps157;go_wp2;go_ret;exact⟨qe9 (by simp;omega),rfl⟩
   . rw[show digitB b=false by simp[digitB];omega]
     go_enter Tryz.func157,Tryz.ntmps157;go_wp2;go_ret;exact⟨qe9 (by simp;omega),rfl⟩
 . rw[show digitB b=false by simp[digitB];omega]
   go_enter Tryz.func157,Tryz.ntmps157;go_wp2;go_ret;exact⟨by rfl,rfl⟩
theorem q3h (b:Nat)(w:World):Calls Tryz.prog 178 #[.int .u8 b] w fun e w'=>e=.returned (.bool (small b))/\w'=w:=by
 by_cases h1:97<=b
 . by_cases h2:b<=122
   . rw[show small b=true by simp[small];omega]
     go_enter Tryz.func178,Tryz.ntmps178;go_wp2;go_ret;exact⟨qe9 (by simp;omega),rfl⟩
   . rw[show small b=false by simp[small];omega]
     go_enter Tryz.func178,Tryz.ntmps178;go_wp2;go_ret;exact⟨qe9 (by simp;omega),rfl⟩
 . rw[show small b=false by simp[small];omega]
   go_enter Tryz.func178,Tryz.ntmps178;go_wp2;go_ret;exact⟨by rfl,rfl⟩
theorem q4w (b:Nat)(w:World):Calls Tryz.prog 190 #[.int .u8 b] w fun e w'=>e=.returned (.bool (digitB b))/\w'=w:=by
 by_cases h1:48<=b
 . by_cases h2:b<=57
   . rw[show digitB b=true by simp[digitB];omega]
     go_enter Tryz.func190,Tryz.ntmps190;go_wp2;go_ret;exact⟨qe9 (by simp;omega),rfl⟩
   . rw[show digitB b=false by simp[digitB];omega]
     go_enter Tryz.func190,Tryz.ntmps190;go_wp2;go_ret;exact⟨qe9 (by simp;omega),rfl⟩
 . rw[show digitB b=false by simp[digitB];omega]
   go_enter Tryz.func190,Tryz.ntmps190;go_wp2;go_ret;exact⟨by rfl,rfl⟩
theorem q1w (b:Nat)(w:World):Calls Tryz.prog 125 #[.int .u8 b] w fun e w'=>e=.returned (.bool (nameB b))/\w'=w:=by
 have e:nameB b=(small b||digitB b||decide (b=95)):=rfl
 cases h1:small b
 . cases h2:digitB b
   . by_cases h3:b=95
     . subst h3
       rw[show nameB 95=true from rfl];clear e;go_enter Tryz.func125,Tryz.ntmps125;go_wp2_with (first | (go_at_call 87;refine(q58 _ _).mono ?_;rintro e w' ⟨rfl,rfl⟩;rw[h1]) | (go_at_call 157;refine(q0y _ _).mono ?_;rintro e w' ⟨rfl,rfl⟩;rw[h2]));go_ret;exact⟨by simp,rfl⟩
     . rw[show nameB b=false by rw[e,h1,h2];simpa using h3]
       have h4:((b:Int)==95)=false:=Yf.2 (by omega);clear e h3;go_enter Tryz.func125,Tryz.ntmps125;go_wp2_with (first | (go_at_call 87;refine(q58 _ _).mono ?_;rintro e w' ⟨rfl,rfl⟩;rw[h1]) | (go_at_call 157;refine(q0y _ _).mono ?_;rintro e w' ⟨rfl,rfl⟩;rw[h2]));go_ret;exact⟨by simp,rfl⟩
   . rw[show nameB b=true by rw[e,h1,h2];rfl]
     clear e;go_enter Tryz.func125,Tryz.ntmps125;go_wp2_with (first | (go_at_call 87;refine(q58 _ _).mono ?_;rintro e w' ⟨rfl,rfl⟩;rw[h1]) | (go_at_call 157;refine(q0y _ _).mono ?_;rintro e w' ⟨rfl,rfl⟩;rw[h2]));go_ret;exact⟨by rfl,rfl⟩
 . rw[show nameB b=true by rw[e,h1];rfl]
   clear e;go_enter Tryz.func125,Tryz.ntmps125;go_wp2_with (go_at_call 87;refine(q58 _ _).mono ?_;rintro e w' ⟨rfl,rfl⟩;rw[h1]);go_ret;exact⟨by rfl,rfl⟩
theorem q1m (b:Nat)(w:World):Calls Tryz.prog 180 #[.int .u8 b] w fun e w'=>e=.returned (.bool (nameB b))/\w'=w:=by
 have e:nameB b=(small b||digitB b||decide (b=95)):=rfl
 cases h1:small b
 . cases h2:digitB b
   . by_cases h3:b=95
     . subst h3
       rw[show nameB 95=true from rfl];clear e;go_enter Tryz.func180,Tryz.ntmps180;go_wp2_with (first | (go_at_call 178;refine(q3h _ _).mono ?_;rintro e w' ⟨rfl,rfl⟩;rw[h1]) | (go_at_call 190;refine(q4w _ _).mono ?_;rintro e w' ⟨rfl,rfl⟩;rw[h2]));go_ret;exact⟨by simp,rfl⟩
     . rw[show nameB b=false by rw[e,h1,h2];simpa using h3]
       have h4:((b:Int)==95)=false:=Yf.2 (by omega);clear e h3;go_enter Tryz.func180,Tryz.ntmps180;go_wp2_with (first | (go_at_call 178;refine(q3h _ _).mono ?_;rintro e w' ⟨rfl,rfl⟩;rw[h1]) | (go_at_call 190;refine(q4w _ _).mono ?_;rintro e w' ⟨rfl,rfl⟩;rw[h2]));go_ret;exact⟨by simp,rfl⟩
   . rw[show nameB b=true by rw[e,h1,h2];rfl]
     clear e;go_enter Tryz.func180,Tryz.ntmps180;go_wp2_with (first | (go_at_call 178;refine(q3h _ _).mono ?_;rintro e w' ⟨rfl,rfl⟩;rw[h1]) | (go_at_call 190;refine(q4w _ _).mono ?_;rintro e w' ⟨rfl,rfl⟩;rw[h2]));go_ret;exact⟨by rfl,rfl⟩
 . rw[show nameB b=true by rw[e,h1];rfl]
   clear e;go_enter Tryz.func180,Tryz.ntmps180;go_wp2_with (go_at_call 178;refine(q3h _ _).mono ?_;rintro e w' ⟨rfl,rfl⟩;rw[h1]);go_ret;exact⟨by rfl,rfl⟩
theorem q62 {s:ByteArray}{l:List UInt8}(h:(s.toList==l)=true):s=⟨l.toArray⟩:=by
 have h:s.toList=l:=by simpa using h
 rw[<- h,Ou]
theorem qb6 (s:ByteArray)(P:Prop)(hy:∀x,x∈rsvT->s=⟨x.toArray⟩->P)(hn:(∀x,x∈rsvT->(s.toList==x)=false)->P):P:=by
 by_cases h:∃x,x∈rsvT/\(s.toList==x)=true
 . obtain⟨x,hx,he⟩:=h
   exact hy x hx (q62 he)
 . exact hn fun x hx=>by
    cases e:(s.toList==x)
    . rfl
    . exact absurd ⟨x,hx,e⟩ h
theorem qjc {x:List UInt8}(h:x∈rsvT):rsv ⟨x.toArray⟩=true:=by
 unfold rsv
 rw[List.any_eq_true]
 exact⟨x,h,by rw[Ou];simp⟩
theorem rsv_no {s:ByteArray}(h:∀x,x∈rsvT->(s.toList==x)=false):rsv s=false:=by
 unfold rsv
 rw[List.any_eq_false]
 intro x hx;rw[h x hx];simp
theorem q1x (s:ByteArray)(w:World):Calls Tryz.prog 89 #[.string s] w fun e w'=>e=.returned (.bool (rsv s))/\w'=w:=by
 refine qb6 s _ (fun x hx hs=>?_) (fun h=>?_)
 . subst hs
   rw[qjc hx];unfold rsvT at hx;simp only[Z2,V9,or_false]at hx;rcases hx with rfl | rfl | rfl | rfl | rfl | rfl | rfl | rfl | rfl | rfl | rfl | rfl | rfl | rfl | rfl | rfl | rfl | rfl | rfl | rfl | rfl
   all_goals
    go_enter Tryz.func89,Tryz.ntmps89;go_wp2;go_ret;exact⟨rfl,rfl⟩
 . rw[rsv_no h]
   unfold rsvT at h;simp only[List.forall_mem_cons,V9,false_imp_iff,implies_true,and_true]at h;obtain⟨h1,h2,h3,h4,h5,h6,h7,h8,h9,h10,h11,h12,h13,h14,h15,h16,h17,h18,h19,h20,h21⟩:=h;go_enter Tryz.func89,Tryz.ntmps89;go_wp2;go_ret;exact⟨rfl,rfl⟩
theorem q1o (s:ByteArray)(w:World):Calls Tryz.prog 179 #[.string s] w fun e w'=>e=.returned (.bool (rsv s))/\w'=w:=by
 refine qb6 s _ (fun x hx hs=>?_) (fun h=>?_)
 . subst hs
   rw[qjc hx];unfold rsvT at hx;simp only[Z2,V9,or_false]at hx;rcases hx with rfl | rfl | rfl | rfl | rfl | rfl | rfl | rfl | rfl | rfl | rfl | rfl | rfl | rfl | rfl | rfl | rfl | rfl | rfl | rfl | rfl
   all_goals
    go_enter Tryz.func179,Tryz.ntmps179;go_wp2;go_ret;exact⟨rfl,rfl⟩
 . rw[rsv_no h]
   unfold rsvT at h;simp only[List.forall_mem_cons,V9,false_imp_iff,implies_true,and_true]at h;obtain⟨h1,h2,h3,h4,h5,h6,h7,h8,h9,h10,h11,h12,h13,h14,h15,h16,h17,h18,h19,h20,h21⟩:=h;go_enter Tryz.func179,Tryz.ntmps179;go_wp2;go_ret;exact⟨rfl,rfl⟩
def runN (p:Nat->Bool)(s:ByteArray)(i:Nat):Nat:=((s.data.toList.drop i).takeWhile fun c=>p c.toNat).length
theorem run_eq (p:Nat->Bool)(l:List UInt8)(k:Nat)(hk:k<=l.length)(h:∀j (hj:j<l.length),j<k->p l[j].toNat=true)(he:∀hj:k<l.length,p l[k].toNat=false):(l.takeWhile fun c=>p c.toNat).length=k:=by
 induction l generalizing k with
 | nil=>simp at hk;simp[hk]
 | cons c r ih =>
  cases k with
  | zero=>have:=he (by simp);simp at this;simp[this]
  | succ k =>
   have h0:=h 0 (by simp) (by omega);simp only[Vr]at h0;rw[List.takeWhile_cons_of_pos (by simpa using h0),Yw,ih k (by simpa using hk) (fun j hj hjk=>h (j+1) (by simpa using hj) (by omega)) (fun hj=>he (by simpa using hj))]
theorem qjd {p:Nat->Bool}{s:ByteArray}{i k:Nat}(hk:i+k<=s.size)(h:∀j (hj:i+j<s.size),j<k->p (s[i+j]).toNat=true)(he:∀hj:i+k<s.size,p (s[i+k]).toNat=false):runN p s i=k:=by
 have hl:(s.data.toList.drop i).length=s.size - i:=by simp
 refine run_eq p _ k (by omega) (fun j hj hjk=>?_) (fun hj=>?_)
 . rw[List.getElem_drop];exact h j (by omega) hjk
 . rw[List.getElem_drop];exact he (by omega)
theorem qje (p:Nat->Bool)(s:ByteArray)(i:Nat):runN p s i<=s.size - i:=by
 have:=(List.takeWhile_sublist (fun c:UInt8=>p c.toNat) (l:=s.data.toList.drop i)).length_le
 unfold runN;simpa using this
theorem qeg (p:Nat->Bool)(s:ByteArray):runN p s 0=s.size ↔ (s.data.toList.all fun c=>p c.toNat)=true:=by
 have e:s.size=s.data.toList.length:=by simp
 unfold runN
 rw[List.drop_zero,e]
 generalize s.data.toList=l
 induction l with
 | nil=>simp
 | cons c r ih =>
  by_cases hc:p c.toNat=true
  . rw[List.takeWhile_cons_of_pos (by simpa using hc),List.all_cons,hc,Yw,Yw,Zc];exact⟨fun h=>ih.1 (by omega),fun h=>by rw[ih.2 h]⟩
  . rw[List.takeWhile_cons_of_neg (by simpa using hc)];simp[hc]
theorem q2k (s:ByteArray)(i:Nat)(w:World)(hs:s.size<=9223372036854775807)(hi:i<=s.size) :
 Calls Tryz.prog 88 #[.string s,J9 i] w fun e w'=>e=.returned (J9 (runN nameB s i))/\w'=w:=by
 go_enter Tryz.func88,Tryz.ntmps88
 go_wp2_with fail
 go_loopw [5] (fun n wr=>∃k:Nat,i+k<=s.size/\n=J9 k/\(∀j (hj:i+j<s.size),j<k->nameB (s[i+j]).toNat=true)/\wr=w) (fun n _=>s.size - (intOf n).toNat)
 case atStart=>exact⟨0,by omega,rfl,fun j _ hj=>absurd hj (nL _),rfl⟩
 case round =>
  obtain⟨k,hk,rfl,hall,rfl⟩:=hrel;have HA:=h_ hall;clear hall;have hw1:wrap64 ((i:Int)+(k:Int))=((i+k:Nat):Int):=by rw[q4f (by omega) (by omega)];omega
  by_cases hlt:i+k<s.size
  . have hlt':((i:Int)+k)<s.size:=by omega
    cases ht:nameB (s[i+k]).toNat
    . go_wp2_with (go_at_call 125;refine(q1w _ _).mono ?_;rintro e w' ⟨rfl,rfl⟩;rw[ht])
      go_ret;exact⟨qj3 (by rw[qjd (by omega) HA.u (fun _=>ht)]),rfl⟩
    . go_wp2_with (go_at_call 125;refine(q1w _ _).mono ?_;rintro e w' ⟨rfl,rfl⟩;rw[ht])
      go_roundw
      case rel=>exact⟨k+1,by omega,by go_num,fun j hj hjk=>by
       by_cases e:j=k
       . subst e;exact ht
       . exact HA.u j hj (by omega),trivial⟩
      case measure=>simp[intOf];omega
  . have hlt':¬ ((i:Int)+k)<s.size:=by omega
    go_wp2_with fail;go_ret;exact⟨qj3 (by rw[qjd (by omega) HA.u (fun h=>absurd h hlt)]),rfl⟩
end Go.Proofs.YtebbgodlijlioaaGreatDoor
