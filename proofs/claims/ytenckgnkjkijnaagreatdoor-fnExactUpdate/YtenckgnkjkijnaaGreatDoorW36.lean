import Derived.Test.YtenckgnkjkijnaaGreatDoorW33
import Derived.Test.YtenckgnkjkijnaaGreatDoorW25
import Derived.Deep.CutBlock
set_option linter.all false
set_option maxRecDepth 100000
set_option maxHeartbeats 0
namespace Go.Proofs.YtenckgnkjkijnaaGreatDoor
open Go Go.RowKit Go.Proofs.Tryz
variable {w W:Tw}{n k i:Nat}{m:Fm}{t:TypeId}{v u:Value}{x:Tl}{a:To}{s:Tb}
def V1 {b o m:Nat}{f:Nat->Vx}(d:kaH W (some ⟨b,o,none⟩) m f)(e:0<m):W.cell? ⟨b,o,none⟩=some (Yb (f 0).k)/\W.cell? ⟨b,o+1,none⟩=some (Yb (f 0).n)/\W.cell? ⟨b,o+2,none⟩=some (.string (f 0).s):=by obtain⟨g,h,c,-,a⟩:=kej d e;cases c;exact a
def V2 {b o m:Nat}{f:Nat->Vx}(i:Nat)(d:kaH W (some ⟨b,o,none⟩) m f)(g:i<m)(j:Nat)(e:o+i*3=j):W.cell? ⟨b,j,none⟩=some (Yb (f i).k)/\W.cell? ⟨b,j+1,none⟩=some (Yb (f i).n)/\W.cell? ⟨b,j+2,none⟩=some (.string (f i).s):=by subst e;obtain⟨h,l,c,-,a⟩:=d i g;cases c;exact a
def qs2 {k n:Int}(a:kae k n s=true):s.size<=1000:=by by_cases b:k=3;{exact kcZ (u:=⟨k,n,s⟩) a b};have:s.size=0:=(by simp only[kae]at a;(repeat' split at a);all_goals first | (simp at a;omega) | simp_all);omega
def onK1 (d:Int)(a:To)(m c:Nat)(f:Nat->Vx)(z:Vx)(w:Tw)(o:ar d=m)(r:m=1∨m=2)(p:kaH w a m f)(i:∀b,b<m->kae (f b).k (f b).n (f b).s=true)(j:∀b,b<m->-9223372036854775808<=(f b).n/\(f b).n<=9223372036854775807)(h:kaz f m 1=true)(q:R1 d m f=z):Gv 181 (Jo d a m c) w (.agg (Jc z.k z.n z.s)):=by rcases r with rfl | rfl;{obtain⟨b,l,rfl,g⟩:=kej p cr;exact qcl d 1 c b l (f 0) (kbz 0) z w o (.inl rfl) g (λe=>absurd e cx) (j 0 cr) ⟨cx,cx⟩ (kfV (i 0 cr) (qo6 h cr)) (λe=>absurd e cx) (by simpa [R1] using q)};obtain⟨b,l,rfl,g,e⟩:=kgs p cr;exact qcl d 2 c b l (f 0) (f 1) z w o (.inr rfl) g (λ_=>e) (j 0 cr) (j 1 cr) (kfV (i 0 cr) (qo6 h cr)) (λ_=>kfV (i 1 cr) (qo6 h cr)) (by simpa [R1] using q)
def onK3 (d:Int)(a:To)(m c:Nat)(f:Nat->Vx)(z:Vx)(w:Tw)(g:ar d=m)(e:m=1∨m=2)(j:kaH w a m f)(i:∀b,b<m->kae (f b).k (f b).n (f b).s=true)(l:R3 d m f=z):Gv 182 (Jo d a m c) w (.agg (Jc z.k z.n z.s)):=by subst l;exact q9a d a m c f w g e (λb h=>qs2 (i b h)) j
def onK2 (b:Int)(a:To)(m c:Nat)(f:Nat->Vx)(z:Vx)(w:Tw)(e:ar b=m)(d:m=1∨m=2)(h:kaH w a m f)(g:kaz f m 2=true)(i:R2 b m f=z):Gv 183 (Jo b a m c) w (.agg (Jc z.k z.n z.s)):=by subst i;exact q99 b a m c f w e d (qo6 g cr) h
def gq {p:Prop}(h:p:=by go_wp2_with fail;refine(kdv j G _).mono ?_;exact exS e):p:=h
def gr {p:Prop}(h:p:=by go_wp2;exact bQ (v:=.agg (Jc (f 0).k (f 0).n (f 0).s)) ⟨dE,e.u.out _ _ _⟩):p:=h
def gt {p:Prop}(h:p:=by go_wp2;exact bQ (v:=.agg (Jc (f 1).k (f 1).n (f 1).s)) ⟨dE,e.u.out _ _ _⟩):p:=h
def q6t (p:Int)(a:To)(m c:Nat)(f:Nat->Vx)(w:Tw)(av:ar p=m)(aC:1<=m)(aD:m<=3)(hv:kaH w a m f)(ax:∀i,i<m->kae (f i).k (f i).n (f i).s=true)(hr:∀i,i<m->-9223372036854775808<=(f i).n/\(f i).n<=9223372036854775807) :
 Gv 151 (Jo p a m c) w (vv (apY p m f)):=by
 obtain⟨W0,aA,hR⟩:=RW.start w;obtain⟨j,I⟩:=Nq (apY p m f);rw[I];unfold vv;have aB:((m:Int)==0)=false:=nq cr;obtain⟨t,K,Y,ap,ao,aq⟩:=oF I av ax hr hR (hv.mono hR.B);go_enter func151,ntmps151;go_wp2_with fail;refine cQ (q8e p W0) λw1 H=>?_;rw[H,K.u];go_wp2_with fail;refine cQ (q8e p W0) λw1 H=>?_;rw[H,K.u];go_wp2;go_loopw [5] (λi wr=>∃o:Nat,o<=m/\i=Yb o/\RW w wr/\kaH wr a m f) (λi _=>m - (intOf i).toNat)
 case atStart=>exact⟨0,nZ _,rfl,ao,aq⟩
 case round =>
 obtain⟨o,F,rfl,hR,hV⟩:=hrel;obtain⟨e,b⟩:=oB hR hV;by_cases aj:o<m
 case pos =>
  have h:(o:Int)<m:=cr
  obtain⟨au,r,rfl,-,q,c1,c2⟩:=b o aj;go_wp2_with fail;refine cQ (q32 (f o).k (f o).n (f o).s wr (Y6 (qs2 (Y o aj)) cr)) λl k=>?_;rw[Y.u o aj];obtain⟨d,g⟩:=oB (e.mono k) (b.mono k);go_wp2;go_roundw
  case rel=>exact⟨o+1,cr,cy,d,g⟩
  case measure=>simp[intOf];omega
 case neg =>
 obtain rfl:o=m:=cr
 obtain⟨l,rfl⟩:∃l,l=wr:=⟨_,rfl⟩;have e1:¬ (o:Int)<o:=cr
 obtain⟨au,r,rfl,-⟩:=b 0 cr;obtain⟨q,c1,c2⟩:=V1 b cr;have Q:∀(i:Int) (d:Nat),p=i->ar i=d->o=d:=λi d h E=>by have:=K.u;rw[h]at this;omega
 by_cases W:p=25
 . obtain rfl:=Q 25 1 W cx
   subst W;go_wp2_with fail;refine(kbv j (by rw[<- t.u];simp[apY]) _).mono ?_;exact exS e
 have aI:=nq W;by_cases U:p=16
 . obtain rfl:=Q 16 3 U cx
   subst U;obtain⟨x,d1,d2⟩:=V2 1 b cr (r+3) cr;obtain⟨X,Z,g2⟩:=V2 2 b cr (r+6) cr;have n:Hi (ifX (f 0) (f 1) (f 2)=j):=h_ (by rw[<- t.u];simp[apY]);by_cases z:(f 0).k=4
   . have T:((f 0).k==4)=true:=beq_iff_eq.2 z
     have d:Hi (f 0=j):=h_ (by rw[<- n.u,ifX,Yy (.inl z)]);obtain⟨⟨M,N,O⟩,A,C,L⟩:=e.val;exact gr
   have T:=nq z;by_cases y:(f 0).k=0
   . have S:((f 0).k==0)=true:=beq_iff_eq.2 y
     have d:Hi (f 0=j):=h_ (by rw[<- n.u,ifX,Yy (.inr y)]);obtain⟨⟨M,N,O⟩,A,C,L⟩:=e.val;exact gr
   have S:=nq y;have D:Hi (¬ ((f 0).k=4∨(f 0).k=0)):=h_ cr;obtain⟨qt,az⟩:∃g,kbm (f 0)=g:=⟨_,rfl⟩;obtain⟨qf,ay⟩:∃g,kdw (f 0)=g:=⟨_,rfl⟩;obtain⟨R,P⟩:=oB az ay;go_wp2_with fail;refine cQ (q5v (f 0) _) λJ k=>?_;rw[R.u];replace e:=h_ (e.mono k);replace b:=h_ (b.mono k);obtain⟨q,c1,c2⟩:=V1 b cr;obtain⟨x,d1,d2⟩:=V2 1 b cr (r+3) cr;obtain⟨X,Z,g2⟩:=V2 2 b cr (r+6) cr;cases qt
   case true =>
    have d:Hi (f 1=j):=h_ (by have:=R.u;simp[kbm]at this;rw[<- n.u,ifX,Yu D.u,Yy this]);obtain⟨⟨M,N,O⟩,A,C,L⟩:=e.val;exact gt
   go_wp2_with fail;refine cQ (q3s (f 0) _) λJ k=>?_;rw[P.u];replace e:=h_ (e.mono k);replace b:=h_ (b.mono k);obtain⟨q,c1,c2⟩:=V1 b cr;obtain⟨x,d1,d2⟩:=V2 1 b cr (r+3) cr;obtain⟨X,Z,g2⟩:=V2 2 b cr (r+6) cr;have V:Hi (¬ ((f 0).k=2/\(f 0).n=1)):=h_ λh=>by have:=R.u;simp[kbm,h]at this
   cases qf
   case true =>
    have d:Hi (f 2=j):=h_ (by have:=P.u;simp[kdw]at this;rw[<- n.u,ifX,Yu D.u,Yu V.u,Yy this]);obtain⟨⟨M,N,O⟩,A,C,L⟩:=e.val;go_wp2;exact bQ (v:=.agg (Jc (f 2).k (f 2).n (f 2).s)) ⟨dE,e.u.out _ _ _⟩
   have G:Hi (kay 1=j):=h_ (by
    rw[<- n.u,ifX,Yu D.u,Yu V.u,Yu];intro h;have:=P.u;simp[kdw,h]at this)
   exact gq
 have aF:=nq U;by_cases V:p=19
 . obtain rfl:=Q 19 2 V cx
   subst V;obtain⟨x,d1,d2⟩:=V2 1 b cr (r+3) cr;obtain⟨⟨M,N,O⟩,A,C,L⟩:=e.val;have n:Hi (kdB (f 0) (f 1)=j):=h_ (by rw[<- t.u];simp[apY]);by_cases y:(f 0).k=0
   . have S:((f 0).k==0)=true:=beq_iff_eq.2 y
     have d:Hi (f 1=j):=h_ (by rw[<- n.u,kdB,Yy y]);exact gt
   . have S:=nq y
     have d:Hi (f 0=j):=h_ (by rw[<- n.u,kdB,Yu y]);exact gr
 have aG:=nq V;have an:Hi (∀i,i<o->(∀h,h<i->¬ (f h).k=4)->(f i).k=4->f i=j):=h_ λi D P z=>by
  have E:=q81 D P z;rw[<- t.u];simp only[apY,W,U,V,if_false,ka2,kbA,E,ite_self]
 go_wp2;go_loopw [6] (λi wr=>∃g:Nat,g<=o/\i=Yb g/\(∀h,h<g->¬ (f h).k=4)/\wr=l) (λi _=>o - (intOf i).toNat)
 case atStart=>exact⟨0,nZ _,rfl,λh D=>absurd D (nL _),rfl⟩
 case round =>
 obtain⟨g,hq,rfl,aw,rfl⟩:=hrel;have ad:=h_ aw;by_cases al:g<o
 case pos =>
  have P:(g:Int)<o:=cr
  obtain⟨q,c1,c2⟩:=V2 g b al _ rfl;by_cases z:(f g).k=4
  . have d:=h_ (an g al ad z)
    have T:((f g).k==4)=true:=beq_iff_eq.2 z;obtain⟨⟨M,N,O⟩,A,C,L⟩:=e.val;go_wp2;exact bQ (v:=.agg (Jc (f g).k (f g).n (f g).s)) ⟨dE,e.u.out _ _ _⟩
  . have T:=nq z
    have M:Hi (∀h,h<g+1->¬ (f h).k=4):=h_ λh D=>by
     by_cases E:h=g
     . rw[E];exact z
     . exact ad h cr
    go_wp2;go_roundw
    case rel=>exact⟨g+1,cr,cy,M,trivial⟩
    case measure=>simp[intOf];omega
 case neg =>
 obtain rfl:g=o:=cr
 obtain⟨l,rfl⟩:∃l,l=wr:=⟨_,rfl⟩;obtain⟨q,c1,c2⟩:=V1 b cr;have X:=h_ (q80 ad);by_cases ac:p=24
 . obtain rfl:=Q 24 1 ac cx
   subst ac;go_wp2_with fail;refine(kbv j dy _).mono ?_;exact exS e
 have aH:=nq ac;by_cases Z:p=14
 . obtain rfl:=Q 14 2 Z cx
   subst Z;have n:Hi (kei (f 0) (f 1)=j):=h_ dy;go_wp2;go_loopw [7] (λi wr=>∃d:Nat,d<=2/\i=Yb d/\(∀h,h<d->¬ (f h).k=1/\¬ (f h).k=3)/\wr=l) (λi _=>2 - (intOf i).toNat)
   case atStart=>exact⟨0,cr,rfl,λh D=>absurd D (nL _),rfl⟩
   case round =>
   obtain⟨d,hr,rfl,ak,rfl⟩:=hrel;have L:=h_ ak;by_cases R:d<2
   case pos =>
    have am:(d:Int)<2:=cr;obtain⟨q,c1,c2⟩:=V2 d b R _ rfl;by_cases F:(f d).k=1∨(f d).k=3
    . have G:Hi (kay 1=j):=h_ (by rw[<- n.u,kei,Yy (by have:d=0∨d=1:=cr;rcases this with rfl | rfl <;> (rcases F with F | F <;> simp[F]))])
      by_cases P:(f d).k=1
      . have T:((f d).k==1)=true:=beq_iff_eq.2 P
        exact gq
      . have T:=nq P
        have ae:((f d).k==3)=true:=beq_iff_eq.2 cr;exact gq
    . have T:((f d).k==1)=false:=nq cr
      have ae:((f d).k==3)=false:=nq cr;have M:Hi (∀h,h<d+1->¬ (f h).k=1/\¬ (f h).k=3):=h_ λh D=>by
       by_cases E:h=d
       . rw[E];omega
       . exact L h cr
      go_wp2;go_roundw
      case rel=>exact⟨d+1,cr,cy,M,trivial⟩
      case measure=>simp[intOf];omega
   case neg =>
   obtain rfl:d=2:=cr
   obtain⟨l,rfl⟩:∃l,l=wr:=⟨_,rfl⟩;have z:Hi (¬ ((f 0).k=1∨(f 0).k=3∨(f 1).k=1∨(f 1).k=3)):=h_ (by have:=L 0 cr;have:=L 1 cr;omega);obtain⟨q,c1,c2⟩:=V1 b cr;obtain⟨x,d1,d2⟩:=V2 1 b cr (r+3) cr;obtain⟨a0,af⟩:∃g,kdw (f 0)=g:=⟨_,rfl⟩;have A:=h_ af;obtain⟨a1,ag⟩:∃g,kdw (f 1)=g:=⟨_,rfl⟩;have C:=h_ ag;obtain⟨b0,ah⟩:∃g,kbm (f 0)=g:=⟨_,rfl⟩;have N:=h_ ah;obtain⟨b1,ai⟩:∃g,kbm (f 1)=g:=⟨_,rfl⟩;have O:=h_ ai;go_wp2_with fail;refine cQ (q3s (f 0) _) λJ k=>?_;rw[A.u];replace e:=h_ (e.mono k);replace b:=h_ (b.mono k);obtain⟨q,c1,c2⟩:=V1 b cr;obtain⟨x,d1,d2⟩:=V2 1 b cr (r+3) cr;cases a0
   case true =>
    go_wp2_with fail;refine(kbv j (by rw[<- n.u,kei,Yu z.u];simp[A.u]) _).mono ?_;exact exS e
   go_wp2_with fail;refine cQ (q3s (f 1) _) λJ k=>?_;rw[C.u];replace e:=h_ (e.mono k);replace b:=h_ (b.mono k);obtain⟨q,c1,c2⟩:=V1 b cr;obtain⟨x,d1,d2⟩:=V2 1 b cr (r+3) cr;cases a1
   case true =>
    go_wp2_with fail;refine(kbv j (by rw[<- n.u,kei,Yu z.u];simp[C.u]) _).mono ?_;exact exS e
   go_wp2_with fail;refine cQ (q5v (f 0) _) λJ k=>?_;rw[N.u];replace e:=h_ (e.mono k);replace b:=h_ (b.mono k);obtain⟨q,c1,c2⟩:=V1 b cr;obtain⟨x,d1,d2⟩:=V2 1 b cr (r+3) cr;cases b0
   case false =>
    go_wp2_with fail;refine(kcI j (by rw[<- n.u,kei,Yu z.u];simp[A.u,C.u,N.u]) _).mono ?_;exact exS e
   go_wp2_with fail;refine cQ (q5v (f 1) _) λJ k=>?_;rw[O.u];replace e:=h_ (e.mono k);replace b:=h_ (b.mono k);obtain⟨q,c1,c2⟩:=V1 b cr;obtain⟨x,d1,d2⟩:=V2 1 b cr (r+3) cr;cases b1
   case false =>
    go_wp2_with fail;refine(kcI j (by rw[<- n.u,kei,Yu z.u];simp[A.u,C.u,O.u]) _).mono ?_;exact exS e
   go_wp2_with fail;refine(kbv j (by rw[<- n.u,kei,Yu z.u];simp[A.u,C.u,N.u,O.u]) _).mono ?_;exact exS e
 have aE:=nq Z;by_cases aa:p=15
 . obtain rfl:=Q 15 2 aa cx
   subst aa;have n:Hi (orX (f 0) (f 1)=j):=h_ dy;go_wp2;go_loopw [7] (λi wr=>∃d:Nat,d<=2/\i=Yb d/\(∀h,h<d->¬ (f h).k=1/\¬ (f h).k=3)/\wr=l) (λi _=>2 - (intOf i).toNat)
   case atStart=>exact⟨0,cr,rfl,λh D=>absurd D (nL _),rfl⟩
   case round =>
   obtain⟨d,hr,rfl,ak,rfl⟩:=hrel;have L:=h_ ak;by_cases R:d<2
   case pos =>
    have am:(d:Int)<2:=cr;obtain⟨q,c1,c2⟩:=V2 d b R _ rfl;by_cases F:(f d).k=1∨(f d).k=3
    . have G:Hi (kay 1=j):=h_ (by rw[<- n.u,orX,Yy (by have:d=0∨d=1:=cr;rcases this with rfl | rfl <;> (rcases F with F | F <;> simp[F]))])
      by_cases P:(f d).k=1
      . have T:((f d).k==1)=true:=beq_iff_eq.2 P
        exact gq
      . have T:=nq P
        have ae:((f d).k==3)=true:=beq_iff_eq.2 cr;exact gq
    . have T:((f d).k==1)=false:=nq cr
      have ae:((f d).k==3)=false:=nq cr;have M:Hi (∀h,h<d+1->¬ (f h).k=1/\¬ (f h).k=3):=h_ λh D=>by
       by_cases E:h=d
       . rw[E];omega
       . exact L h cr
      go_wp2;go_roundw
      case rel=>exact⟨d+1,cr,cy,M,trivial⟩
      case measure=>simp[intOf];omega
   case neg =>
   obtain rfl:d=2:=cr
   obtain⟨l,rfl⟩:∃l,l=wr:=⟨_,rfl⟩;have z:Hi (¬ ((f 0).k=1∨(f 0).k=3∨(f 1).k=1∨(f 1).k=3)):=h_ (by have:=L 0 cr;have:=L 1 cr;omega);obtain⟨q,c1,c2⟩:=V1 b cr;obtain⟨x,d1,d2⟩:=V2 1 b cr (r+3) cr;obtain⟨a0,af⟩:∃g,kbm (f 0)=g:=⟨_,rfl⟩;have A:=h_ af;obtain⟨a1,ag⟩:∃g,kbm (f 1)=g:=⟨_,rfl⟩;have C:=h_ ag;obtain⟨b0,ah⟩:∃g,kdw (f 0)=g:=⟨_,rfl⟩;have N:=h_ ah;obtain⟨b1,ai⟩:∃g,kdw (f 1)=g:=⟨_,rfl⟩;have O:=h_ ai;go_wp2_with fail;refine cQ (q5v (f 0) _) λJ k=>?_;rw[A.u];replace e:=h_ (e.mono k);replace b:=h_ (b.mono k);obtain⟨q,c1,c2⟩:=V1 b cr;obtain⟨x,d1,d2⟩:=V2 1 b cr (r+3) cr;cases a0
   case true =>
    go_wp2_with fail;refine(kbv j (by rw[<- n.u,orX,Yu z.u];simp[A.u]) _).mono ?_;exact exS e
   go_wp2_with fail;refine cQ (q5v (f 1) _) λJ k=>?_;rw[C.u];replace e:=h_ (e.mono k);replace b:=h_ (b.mono k);obtain⟨q,c1,c2⟩:=V1 b cr;obtain⟨x,d1,d2⟩:=V2 1 b cr (r+3) cr;cases a1
   case true =>
    go_wp2_with fail;refine(kbv j (by rw[<- n.u,orX,Yu z.u];simp[C.u]) _).mono ?_;exact exS e
   go_wp2_with fail;refine cQ (q3s (f 0) _) λJ k=>?_;rw[N.u];replace e:=h_ (e.mono k);replace b:=h_ (b.mono k);obtain⟨q,c1,c2⟩:=V1 b cr;obtain⟨x,d1,d2⟩:=V2 1 b cr (r+3) cr;cases b0
   case false =>
    go_wp2_with fail;refine(kcI j (by rw[<- n.u,orX,Yu z.u];simp[A.u,C.u,N.u]) _).mono ?_;exact exS e
   go_wp2_with fail;refine cQ (q3s (f 1) _) λJ k=>?_;rw[O.u];replace e:=h_ (e.mono k);replace b:=h_ (b.mono k);obtain⟨q,c1,c2⟩:=V1 b cr;obtain⟨x,d1,d2⟩:=V2 1 b cr (r+3) cr;cases b1
   case false =>
    go_wp2_with fail;refine(kcI j (by rw[<- n.u,orX,Yu z.u];simp[A.u,C.u,O.u]) _).mono ?_;exact exS e
   go_wp2_with fail;refine(kbv j (by rw[<- n.u,orX,Yu z.u];simp[A.u,C.u,N.u,O.u]) _).mono ?_;exact exS e
 have J:=nq aa;have I:kbA f g (R1 p g f) (R3 p g f) (R2 p g f)=j:=by rw[<- t.u];simp[apY,W,U,V,ac,Z,aa]
 simp only[kbA,X.u]at I;replace t:=h_ I;have n:Hi (g=1∨g=2):=h_ (by have:=K.u;have:=kgt p;omega);go_wp2;go_loopw [8] (λi wr=>∃d:Nat,d<=g/\i=Yb d/\(∀h,h<d->¬ (f h).k=0)/\wr=l) (λi _=>g - (intOf i).toNat)
 case atStart=>exact⟨0,nZ _,rfl,λh D=>absurd D (nL _),rfl⟩
 case round =>
 obtain⟨d,hr,rfl,A,rfl⟩:=hrel;have x:=h_ A;by_cases R:d<g
 case pos =>
  have am:(d:Int)<g:=cr
  obtain⟨q,c1,c2⟩:=V2 d b R _ rfl;by_cases y:(f d).k=0
  . have G:Hi (kal=j):=h_ (by rw[<- t.u,qj5 R y];rfl)
    have S:((f d).k==0)=true:=beq_iff_eq.2 y;go_wp2_with fail;refine(kcI j G _).mono ?_;exact exS e
  . have S:=nq y
    have M:Hi (∀h,h<d+1->¬ (f h).k=0):=h_ λh D=>by
     by_cases E:h=d
     . rw[E];exact y
     . exact x h cr
    go_wp2;go_roundw
    case rel=>exact⟨d+1,cr,cy,M,trivial⟩
    case measure=>simp[intOf];omega
 case neg =>
 obtain rfl:d=g:=cr
 obtain⟨l,rfl⟩:∃l,l=wr:=⟨_,rfl⟩;have I:=t.u;rw[qod x.u]at I;simp only[Oz,if_false]at I;replace t:=h_ I;obtain⟨C,P⟩:∃h,kaz f d 1=h:=⟨_,rfl⟩;obtain⟨E,z⟩:∃h,kaz f d 3=h:=⟨_,rfl⟩;obtain⟨D,y⟩:∃h,kaz f d 2=h:=⟨_,rfl⟩;obtain⟨h,k,i⟩:=oC P z y;go_wp2_with fail;refine cQ (q3n _ d c f 1 l cr b) λw1 H=>?_;rw[H,h.u];cases C
 case true =>
  go_wp2_with fail;refine(onK1 p _ d c f j l K n b Y ap h (by rw[<- t.u];simp[h.u])).mono ?_;exact exS e
 go_wp2_with fail;refine cQ (q3n _ d c f 3 l cr b) λw1 H=>?_;rw[H,k.u];cases E
 case true =>
  go_wp2_with fail;refine(onK3 p _ d c f j l K n b Y (by rw[<- t.u];simp[h.u,k.u])).mono ?_;exact exS e
 go_wp2_with fail;refine cQ (q3n _ d c f 2 l cr b) λw1 H=>?_;rw[H,i.u];cases D
 case true =>
  go_wp2_with fail;refine(onK2 p _ d c f j l K n b i (by rw[<- t.u];simp[h.u,k.u,i.u])).mono ?_;exact exS e
 go_wp2_with fail;refine(kdv j (by rw[<- t.u];simp[h.u,k.u,i.u]) _).mono ?_;exact exS e
structure RX (b:Nat)(w W:Tw):Prop where
 R:Blk W b 55 Jl
 B:Bw w W
 le:w.1.size<=b
def RX.mono {b:Nat}{W':Tw}(a:RX b w W)(k:Bw W W'):RX b w W':=⟨a.R.mono k a.R.lt,a.B.trans (k.mono a.B.size),a.le⟩
def RX.val {b:Nat}(a:RX b w W):(W.cell? ⟨b,0,none⟩=some (Yb 0)/\W.cell? ⟨b,1,none⟩=some (Yb 0)/\W.cell? ⟨b,2,none⟩=some Yd)/\W.frozen? ⟨b,0,none⟩=false/\W.frozen? ⟨b,1,none⟩=false/\W.frozen? ⟨b,2,none⟩=false :=
 ⟨kag a.R,a.R.free 0,a.R.free 1,a.R.free 2⟩
def RX.out {b:Nat}(a:RX b w W)(x y z:Value):Bw w (((W.setCell ⟨b,0,none⟩ x).setCell ⟨b,1,none⟩ y).setCell ⟨b,2,none⟩ z) :=
 ((a.B.setCell a.le _).setCell a.le _).setCell a.le _
def qqe:(prog.info? 55).map (λa=>(a.zero,a.size,a.bytes))=some (some (.agg Jf),3,32):=by kernel_rfl
def vx3 (l:List Vx):Tl:=l.flatMap λu=>[.int .i64 u.k,.int .i64 u.n,.string u.s]
def quf (l:List Vx):(vx3 l).length=l.length*3:=by induction l <;> simp_all[vx3] <;> omega
def qud (l:List Vx)(k:Nat)(a:k<l.length):(vx3 l)[k*3]? = some (Yb l[k].k)/\(vx3 l)[k*3+1]? = some (Yb l[k].n)/\(vx3 l)[k*3+2]? = some (.string l[k].s):=by induction l generalizing k <;> simp_all[vx3] <;> grind
def qsh {base c:Nat}(e:w.ownsRow base 55 3 (.slice a n c) n x)(hi:i<n):∃b,a=some ⟨b,0,none⟩/\base<=b/\b<w.1.size:=by rcases e.2 with ⟨d,k⟩ | ⟨b,h,j,d,f,g,l⟩;{omega};cases d;exact⟨b,rfl,f,(Yo.1 g).1⟩
def kcg {base:Nat}(c:w.ownsRow base t k v n x):∃a b,v=.slice a n b:=by rcases c.2 with ⟨d,a⟩ | ⟨g,e,f,b,-⟩;{exact⟨none,0,by rw[d,a]⟩};exact⟨_,_,b⟩
def qu8 {B g:Nat}{l:List Vx}(d:w.ownsRow B 55 3 (.slice (some ⟨g,0,none⟩) n k) n (vx3 l))(m:l.length=n):kaH w (some ⟨g,0,none⟩) n λa=>l.getD a kdA:=λc b=>by subst m;obtain⟨o,f,-,j⟩:=qsh d b;cases f;have a:=λe (h:e<l.length*3)=>World.ownsRow.cellAt d e h;obtain⟨e,h,i⟩:=qud l c b;dsimp only;rw[show l.getD c kdA=l[c] by rw[Yx,Ym b];rfl];exact⟨g,0,rfl,j,by rw[Y5,a _ cr];exact e,by rw[Y5,a _ cr];exact h,by rw[Y5,a _ cr];exact i⟩
def plI (l:List Tb)(x:Tb):Int:=if l.findIdx (λy=>decide (y=x))<l.length then ((l.findIdx (λy=>decide (y=x)):Nat):Int) else -1
def qgn (a:To)(c:Nat)(l:List Tb)(s:Tb)(w:Tw)(A:l.length<=9223372036854775807)(q:kb5 w a l):Gv 148 #[.slice a l.length c,.string s] w (Yb (plI l s)):=by have o:=h_ q;obtain⟨n,e⟩:=Nq (plI l s);rw[e];have k:=h_ e;go_enter func148,ntmps148;go_wp2_with fail;go_loopw [5] (λg wr=>∃b:Nat,b<=l.length/\g=Yb b/\(∀d (f:d<l.length),d<b->l[d]≠s)/\wr=w) (λg _=>l.length - (intOf g).toNat);exact⟨0,nZ _,rfl,λd _ g=>absurd g (nL _),rfl⟩;obtain⟨b,z,rfl,r,rfl⟩:=hrel;have h:=h_ r;by_cases j:b<l.length;{have t:(b:Int)<l.length:=cr;obtain⟨x,B,rfl,-,y⟩:=o b j;have m:=eqS l[b] s;by_cases e:l[b]=s;{have i:Hi (n=(b:Int)):=h_ (by have p:l.findIdx (λv=>decide (v=s))=b:=(by rw[List.findIdx_eq j];exact⟨dp,λd g=>by simpa using h.u d cr g⟩);rw[<- k.u,plI,p,Yy j]);rw[Yk e]at m;generalize l[b]=v at *;go_wp2_with fail;go_ret;exact⟨by rw[i.u];rfl,bR _ _⟩};have p:Hi (∀d (f:d<l.length),d<b+1->l[d]≠s):=h_ λd f g=>(by by_cases g:d=b;{subst g;exact e};exact h d f cr);rw[Yj e]at m;generalize l[b]=v at *;refine rQ ?_;exact⟨b+1,cr,cy,p,by first | rfl | trivial⟩};have t:¬ (b:Int)<l.length:=cr;have i:Hi (n = -1):=h_ (by rw[<- k.u,plI,Yu];intro f;have:=List.findIdx_getElem (w:=f);exact h _ f cr (Zd this));go_wp2_with fail;go_ret;exact⟨by rw[i.u];rfl,bR _ _⟩
structure EvW (m:Fm)(A:MA)(a:To)(len:Nat)(e:Nat->Nx)(ac:To)(ce:Nat->Cx)(W:Tw):Prop where
 ms:MSl W m A
 nd:kcq W a len e
 cl:kbc W ac m.F.length ce
def EvW.mono {A:MA}{d:To}{e:Nat->Nx}{ce:Nat->Cx}{W':Tw}(b:EvW m A a n e d ce W)(c:Bw W W'):EvW m A a n e d ce W':=⟨b.ms.mono c,b.nd.mono c,b.cl.mono c⟩
def cS (ce:Nat->Cx)(j:Nat):Bool × Vx:=((ce j).rel,(ce j).v)
def gp {p:Prop}(h:p:=by obtain⟨⟨r0,r1,r2⟩,f0,f1,f2⟩:=(o.mono h).val;have u:=h_ (o.mono h);clear h;go_wp2;exact bQ ⟨rfl,u.u.out _ _ _⟩):p:=h
def qc1 (m:Fm)(A:MA)(a ac:To)(x c cc:Nat)(b:Nat->Nx)(ce:Nat->Cx)(hl:x<=1000)(aL:m.F.length<=200)(ao:kco b x)(ag:kbP b x)(aJ:∀e,e<x->I6 (b e).v.n)(hg:∀g,g<m.F.length->GVx (ce g).v)(F:Nat) :
 ∀d,d+1<=F->d+1<=x->∀k,EvW m A a x b ac ce k->Gv 110 #[mV m A,.slice ac m.F.length cc,.slice a x c,Yb ((d+1:Nat):Int)] k (vv (kcR apL (lkF m (cS ce)) b (d+1))):=by
 have HG:=h_ (kdi (lk:=lkF m (cS ce)) ao ag aJ (λj=>kg0 (λg h=>hg g h) j));have aB:=h_ λg (y:MSl g m A)=>q0y m A g aL y.f;obtain⟨U,V,W,X,O,Q,S,T,aD⟩:=A;unfold mV at *
 induction F with
 | zero=>intro d w;omega
 | succ F g =>
  intro d hF hn k y;have HI:=h_ g;clear g;obtain⟨aa,j⟩:=Nq (kcR apL (lkF m (cS ce)) b (d+1));rw[j];rw[qiu]at j;unfold kfQ at j;unfold vv;have p:=h_ j;clear j;have a2:wrap64 (((d+1:Nat):Int) - 1)=(d:Int):=by rw[q76 cr cr];omega
  have aX:(d:Int)<x:=cr
  have aW:(0:Int)<=d:=cr
  have q:=h_ y;obtain⟨aE,aP,rfl,-⟩:=y.nd d cr;obtain⟨W1,I⟩:=Nq (k.alloc (.cells (Jb U m V W X O Q S T) 37));obtain⟨W2,J⟩:=Nq (W1.alloc (.cells Jf 55));obtain⟨N,Y⟩:=Nq (W2.alloc (.cells (J5 (b d).op (b d).v.k (b d).v.n (b d).v.s (b d).nm) 190));have aN:W1.1.size=k.1.size+1:=by rw[<- I];simp
  have aO:W2.1.size=k.1.size+2:=by rw[<- J];simp;omega
  have g:=nB I;have h:=nB J;have r:=nB Y;have t:=nK I;have u:=nJ aN J;have z:=nJ aO Y;have n:=h.trans (r.mono h.size);obtain⟨b',o',e',-,z0,z1,z2,z3,z4⟩:=((y.mono g).mono h).nd d cr;cases e';obtain⟨C,D⟩:=oB (t.mono n t.lt) z;have o:Hi (RX (k.1.size+1) k N):=h_ ⟨u.mono r u.lt,g.trans (n.mono g.size),cr⟩;replace q:=h_ (q.mono o.B);have aQ:=h_ (And.intro I (And.intro J Y));obtain⟨Z,y1,y2,y3,y4⟩:=kaG z;obtain⟨x0,x1,x2,x3⟩:=kah C;clear g h r t u z n y;by_cases w:(b d).op=0
  . have j:=p.u
    rw[Yy w]at j;replace p:=h_ j;have g:((b d).op==0)=true:=beq_iff_eq.2 w;obtain⟨⟨r0,r1,r2⟩,f0,f1,f2⟩:=o.val;clear j w;go_enter func110,ntmps110;go_wp2;exact bQ (v:=.agg (Jc (b d).v.k (b d).v.n (b d).v.s)) ⟨by rw[<- p.u],o.u.out _ _ _⟩
  have n0:=nq w;by_cases H:(b d).op=1
  . have j:=p.u
    rw[Yu w,Yy H]at j;unfold lkF at j;replace p:=h_ j;have aU:((b d).op==1)=true:=beq_iff_eq.2 H;have ae:(kaa m).length=m.F.length:=(by simp[kaa]);clear j w H;go_enter func110,ntmps110;go_wp2_with fail;clear I J Y z0 z1 z2 z3 z4;have HC:Hi (∀g,Bw N g->(g.cell? ⟨k.1.size,0,none⟩=some (.slice U m.L.length V)/\g.cell? ⟨k.1.size,1,none⟩=some (.slice W m.P.length X)/\g.cell? ⟨k.1.size,2,none⟩=some (.slice O m.R.length Q)/\g.cell? ⟨k.1.size,3,none⟩=some (.slice S m.F.length T))/\g.cell? ⟨k.1.size+2,4,none⟩=some (.string (b d).nm)):=h_ λg h=>⟨kah (C.mono h C.lt),(D.mono h D.lt).cell 4⟩;clear x0 x1 x2 x3 Z y1 y2 y3 y4;refine kcG (B:=N.1.size) (W0:=N) (bR _ _) λn=>?_;have hC:=HC.u;refine tkA 0 n ?_;refine tkA 2 n ?_;refine tkA 3 n ?_;refine kdV (R:=λad W'=>∃E G,ad=.slice E m.F.length G/\kb5 W' E (kaa m)) 1 28 n n.size ((aB N.drew (q.ms.mono (bR _ _).drew)).mono λb g ⟨E,G,r,t,h⟩=>⟨_,r,⟨E,G,rfl,t⟩,h⟩) ?_;rintro ad r ⟨E,G,rfl,z⟩ K u;simp only[Yf,Yg];refine kcN 4 31 u u.size (by have:=qgn E G (kaa m) (b d).nm r cr z;rw[ae]at this;exact this) λW5 M t=>?_;replace n:=t;refine tkA 5 n ?_;refine wdQ ?_;replace o:=h_ (o.mono t);replace q:=h_ (q.mono t);clear hC n u K M t z HC;by_cases z:plF m (b d).nm<m.F.length
    . have j:=p.u
      rw[Yy z]at j;replace p:=h_ j;rw[show plI (kaa m) (b d).nm=((plF m (b d).nm:Nat):Int) by rw[plI,ae];exact Yy z];obtain⟨t,u⟩:=Nq (plF m (b d).nm);rw[u]at p z⊢;obtain⟨cb,co,rfl,-,G,c1,c2,c3,-,-⟩:=q.cl t z;have aY:(t:Int)<m.F.length:=cr;have aZ:¬ (t:Int)<0:=cr;have a1:(0:Int)<=t:=cr;unfold cS at p;clear j u;cases K:(ce t).rel
      . have M:Hi (kal=aa):=h_ (by rw[<- p.u,Yu (by simp[K])];rfl)
        rw[K]at c3;clear K;go_wp2_with fail;clear G c1 c2 c3;refine cQ (kcI aa M _) λW' h=>?_;exact gp
      . have M:Hi ((ce t).v=aa):=h_ (by rw[<- p.u,Yy K])
        rw[K]at c3;obtain⟨⟨r0,r1,r2⟩,f0,f1,f2⟩:=o.val;clear K;go_wp2;exact bQ (v:=.agg (Jc (ce t).v.k (ce t).v.n (ce t).v.s)) ⟨by rw[<- M.u],o.u.out _ _ _⟩
    . have j:=p.u
      rw[Yu z]at j;have M:Hi (kal=aa):=h_ j;rw[show plI (kaa m) (b d).nm = -1 by rw[plI,ae];exact Yu z];clear j z;go_wp2_with fail;refine cQ (kcI aa M _) λW' h=>?_;exact gp
  have n1:=nq H;have aq:=qs1 (ao d cr) w H;have j:=p.u;rw[Yu w,Yu H]at j;have K:=ag d cr;have aI:=kfA aq;have ak:ar (b d).op=(arn (b d):Int):=by unfold arn;omega
  have M:((kam b d).map (kcR apL (lkF m (cS ce)) b)).length=arn (b d):=by rw[Zw,qac K]
  rw[show((stk b d).take (arn (b d))).reverse=kam b d from rfl,apL,M]at j;replace p:=h_ j;have ai:Hi (∀t,t<arn (b d)->GVx (((kam b d).map (kcR apL (lkF m (cS ce)) b)).getD t kdA)):=h_ λt z=>by
   rw[qka _ _ _ (by rw[qac K];exact z)];have:=qae (Yl (l:=kam b d) (by rw[qac K];exact z));exact HG _ cr
  have HM:Hi (∀e (y:e<(kam b d).length),1<=(kam b d)[e]/\(kam b d)[e]<=d):=h_ λe y=>qae (Yl y);have aH:=kbV (b d);have aG:1<=arn (b d):=cr
  have ay:=h_ (qac K);have aj:=h_ M;have az:=h_ ak;clear j w H K aI ak M aq;go_enter func110,ntmps110;go_wp2_with fail;clear I J Y z0 z1 z2 z3 z4;refine(qby _ x c b d _ hl q.nd hn (ag.le hn)).mono ?_;rintro a3 r ⟨E,G,rfl,hI,h⟩;replace o:=h_ (o.mono h);replace q:=h_ (q.mono h);replace C:=mB C h;replace D:=mB D h;have M:=h_ hI;obtain⟨j,H⟩:=Nq r.1.size;obtain⟨W5,J⟩:=Nq (r.alloc (.cells #[] 55));have K:Hi (Below j r W5):=h_ (by rw[<- J,<- H];exact(bR _ _).alloc (nR _) _);have Y:Hi (W5.ownsRow j 55 3 (.slice (some ⟨j,0,none⟩) 0 0) 0 (vx3 [])):=h_ (by
   rw[<- J,<- H];exact⟨rfl,.inr ⟨r.1.size,0,#[],rfl,nR _,heap_alloc_new r (.cells #[] 55),nR _,nZ _,rfl,rfl⟩⟩)
  have I:Hi (∀g,Below j r g->RX (k.1.size+1) k g/\EvW m ⟨U,V,W,X,O,Q,S,T,aD⟩ (some ⟨aE,aP,none⟩) x b ac ce g/\Blk g k.1.size 37 (Jj U m V W X O Q S T)/\Blk g (k.1.size+2) 190 [Yb (b d).op,Yb (b d).v.k,Yb (b d).v.n,.string (b d).v.s,.string (b d).nm]/\kbG g E (arn (b d)) (λe=>(((kam b d).getD e 0:Nat):Int))):=h_ λg w=>by
   rw[<- H]at w;exact⟨o.mono w,q.mono w,C.mono w C.lt,D.mono w D.lt,M.mono w⟩
  have ah:Hi (∀g,Below j r g->j<=g.1.size):=h_ λg w=>by have:=w.size;omega
  clear x0 x1 x2 x3 Z y1 y2 y3 y4;obtain⟨Z,y1,y2,y3,y4⟩:=kaG D;have w:=h_ (And.intro J H);clear hI h H J;go_wp2_with fail;rw[w.u.1,w.u.2];clear w Z y1 y2 y3 y4 o q C D M;go_loopw [12,13] (λad t wr=>∃e:Nat,e<=arn (b d)/\t=Yb e/\wr.ownsRow j 55 3 ad e (vx3 (((kam b d).map (kcR apL (lkF m (cS ce)) b)).take e))/\Below j r wr) (λ_ t _=>arn (b d) - (intOf t).toNat)
  case atStart=>exact⟨0,nZ _,rfl,by simpa using Y.u,K⟩
  case round =>
  clear Y K;obtain⟨e,hk,rfl,w,h⟩:=hrel;obtain⟨a8,c8,rfl⟩:=kcg w;obtain⟨u,C⟩:=oB w h;clear w h;by_cases D:e<arn (b d)
  case pos =>
   have aK:(e:Int)<arn (b d):=cr
   have aV:(0:Int)<=e:=cr
   have K:e<(kam b d).length:=by rw[ay.u];exact D
   have aM:=HM e K;obtain⟨q,J⟩:∃q,(kam b d)[e]=q+1:=⟨(kam b d)[e] - 1,cr⟩;obtain⟨eb,eo,rfl,-,-⟩:=(I _ C).2.2.2.2 e D;have HC:Hi (∀g,Below j r g->(g.cell? ⟨k.1.size,0,none⟩=some (.slice U m.L.length V)/\g.cell? ⟨k.1.size,1,none⟩=some (.slice W m.P.length X)/\g.cell? ⟨k.1.size,2,none⟩=some (.slice O m.R.length Q)/\g.cell? ⟨k.1.size,3,none⟩=some (.slice S m.F.length T))/\g.cell? ⟨eb,eo+e,none⟩=some (Yb ((q+1:Nat):Int))):=h_ λg h=>by
    obtain⟨-,-,H,-,M⟩:=I g h;obtain⟨Y,aT,g,-,c2⟩:=M e D;cases g;dsimp only at c2;rw[qof K,J]at c2;exact⟨kah H,c2⟩
   have HT:Hi (vx3 (((kam b d).map (kcR apL (lkF m (cS ce)) b)).take (e+1))=vx3 (((kam b d).map (kcR apL (lkF m (cS ce)) b)).take e)++[Yb (kcR apL (lkF m (cS ce)) b (q+1)).k,Yb (kcR apL (lkF m (cS ce)) b (q+1)).n,.string (kcR apL (lkF m (cS ce)) b (q+1)).s]):=h_ (by
    rw[Ys (by rw[Zw];exact K),List.getElem_map,J];simp[vx3])
   have g:=h_ (HI q cr cr wr.drew (I _ C.drew).2.1);have au:=ah _ C;obtain⟨i0,z,av,aw,ax⟩:=info_parts qqe;obtain⟨Y,M⟩:=Nq (kcR apL (lkF m (cS ce)) b (q+1));rw[M]at HT g;unfold vv at g;clear M J aM;go_wp2_with fail;refine kcG C λn=>?_;have hC:=HC.u;refine tkA 0 n ?_;refine tkA 1 n ?_;refine tkA 2 n ?_;refine tkA 3 n ?_;refine tkA 4 n ?_;refine tkA 5 n ?_;refine tkA 6 n ?_;refine tkA 7 n ?_;refine kcN 8 66 n au g λW6 am J=>?_;refine appS (cs:=[Yb Y.k,Yb Y.n,.string Y.s]) 9 67 68 12 (.tmp 58) (.tmp 67) J (ah _ J) (qm0 (qm0 u (bR _ _).drew) am) underlying39 z av aw ax rfl cr rfl cG cE cr ?_;intro aF aS W9 M an;simp only[Yf,Yg];rw[<- HT.u]at M;obtain⟨aC,aA⟩:=oB M an;clear hC n am J M an z av aw ax au;refine rQ ?_;exact⟨e+1,cr,cy,aC,aA⟩
  case neg =>
   obtain rfl:arn (b d)=e:=cr
   have aK:¬ ((arn (b d):Nat):Int)<((arn (b d):Nat):Int):=cr
   obtain⟨aF,q,-,-⟩:=qsh u (i:=0) cr;cases q;have w:=u.u;rw[Y2 (by rw[aj.u];exact nR _)]at w;have n:=h_ (qu8 w aj);obtain⟨H,-,-,g,-⟩:=I _ C;have o:=h_ H;obtain⟨Z,y1,y2,y3,y4⟩:=kaG g;clear w H g hk D u C;go_wp2_with fail;refine(q6t (b d).op _ (arn (b d)) c8 _ wr az aG aH n (λt z=>(ai t z).1) (λt z=>(ai t z).2)).mono ?_;rw[p.u];unfold vv;rintro b W' ⟨rfl,h⟩;exact gp
def khL {e:Region.Mode}{c:Array Oper}{Q:Exit->Act->Tw->Prop}{S:Tw->Prop}{l:Tl}{lb:List Bool}{fuel:Nat}{z:Vx}{o:Oper}{x y:Operand}{C:Value}(j b:Nat)(f:Blk W b 55 [v,u,C])(q:w.1.size<=b)(h:Bw w W)(i:S (W.setRow b (Jc z.k z.n z.s)))
 (g:∀d,Blk d b 55 (J3 z.k z.n z.s)->Bw w d->Q .normal { tmps:=l.toArray,defers:=[] } d)
 (p:c[j]? = some o:=by exact rfl) (d:o.op=.store 55 x y:=by exact rfl) (m:o.dst=none:=by exact rfl) (B:Act.eval { tmps:=l.toArray,defers:=[] } x=Ye b 0:=by rfl) (hy:Act.eval { tmps:=l.toArray,defers:=[] } y=.agg (Jc z.k z.n z.s):=by rfl)
 (A:Region.wanted o (yielded c l.toArray)=true:=by rfl) (r:Region.ready e c lb.toArray=[j]:=by kernel_rfl) (t:Region.ready e c (lb.toArray.setIfInBounds j true)=[]:=by kernel_rfl) :
 wpAnyH prog e c Q S (fuel+1) lb.toArray { tmps:=l.toArray,defers:=[] } W :=
 kaV (a:={ tmps:=l.toArray,defers:=[] }) p A r m (q2a (a:={ tmps:=l.toArray,defers:=[] }) 55 x y d b (Jc z.k z.n z.s) B hy 55 _ f cu rfl cu) rfl i (wpAnyH_done t (g _ (f.row (J3 z.k z.n z.s)) (qjb h q _)) _)
structure EvF (m:Fm)(A:MA)(ac:To)(ce:Nat->Cx)(W:Tw):Prop where
 ms:MSl W m A
 cl:kbc W ac m.F.length ce
def EvF.mono {A:MA}{ce:Nat->Cx}{W':Tw}(b:EvF m A a ce W)(c:Bw W W'):EvF m A a ce W':=⟨b.ms.mono c,b.cl.mono c⟩
def qc3 (m:Fm)(A:MA)(e a:To)(c g:Nat)(ce:Nat->Cx)(l:List Nx)(p:m.F.length<=200)(k:kac l=true)(i:∀b,b<l.length->Fit (nf l b))(h:0<l.length)(o:∀d,d<m.F.length->GVx (ce d).v)(w:Tw)(d:EvF m A e ce w)(n:kb2 w a l):Gv 110 #[mV m A,.slice e m.F.length g,.slice a l.length c,Yb l.length] w (vv (evL apL (lkF m (cS ce)) l)):=by rw[kac,Zk]at k;have f:=(qug _ _).1 (k.resolve_left (by simp;intro d;rw[d]at h;exact absurd h cx));have:=qc1 m A a e l.length c g (nf l) ce f.2.1 p f.2.2.1 f.2.2.2.1 (λb j=>⟨(i b j).2.2.1,(i b j).2.2.2⟩) o l.length (l.length - 1) cr cr w ⟨d.ms,n,d.cl⟩;rw[show l.length - 1+1=l.length by omega]at this;exact this
def gu {p:Prop}(h:p:=by go_wp2;exact bQ (v:=.tuple #[.bool M,.agg (Jc c.k c.n c.s)]) ⟨rfl,N⟩):p:=h
def q65 (m:Fm)(A:MA)(ac ai:To)(cc ci:Nat)(ce:Nat->Cx)(inp:Nat->Vx)(k:Nat)(w:Tw)(K:k<m.F.length)(ax:m.F.length<=200)(g:∀a,a∈m.F->FOk m.L.length m.R.length a)(f:kbg m)(hg:∀a,a<m.F.length->GVx (ce a).v)(p:EvF m A ac ce w)(hi:kaH w ai m.F.length inp):Gv 80 #[mV m A,.slice ai m.F.length ci,.slice ac m.F.length cc,Yb k] w (.tuple #[.bool (ke2 apL kbm (kay 1) m inp (cS ce) k).1,vv (ke2 apL kbm (kay 1) m inp (cS ce) k).2]):=by have ah:=h_ λ(a:List Nx) (c:To) (d:Nat) (o:kac a=true) (l:∀k,k<a.length->Fit (nf a k)) (e:0<a.length) b (h:EvF m A ac ce b) (j:kb2 b c a)=>qc3 m A ac c d cc ce a ax o l e hg b h j;obtain⟨d,h⟩:=Nq (m.F[k]);have H:d∈m.F:=h ▸ Yl K;obtain⟨HO,HF⟩:=oB (g d H) (f.f d H);obtain⟨M,a⟩:∃b,(ke2 apL kbm (kay 1) m inp (cS ce) k).1=b:=⟨_,rfl⟩;obtain⟨c,e⟩:=Nq ((ke2 apL kbm (kay 1) m inp (cS ce) k).2);rw[a,e];simp only[ke2,qpi K,h]at a e;obtain⟨ag,s⟩:=oB a e;clear a e g f;obtain⟨r,HV⟩:=oB p hi;obtain⟨al,au,ap,av,aR,an,af,aq,ao⟩:=A;obtain⟨g,C⟩:=Nq (ao k);unfold mV at *;obtain⟨W1,aa⟩:=Nq (w.alloc (.cells (Jb al m au ap av aR an af aq) 37));obtain⟨W2,ad⟩:=Nq (W1.alloc (.cells Jf 55));obtain⟨W3,aj⟩:=Nq (W2.alloc (.cells (Ja d g.b g.bc g.i g.ic g.h g.hc g.v g.vc g.u g.uc) 92));have ay:W1.1.size=w.1.size+1:=(by rw[<- aa];simp);have az:W2.1.size=w.1.size+2:=(by rw[<- ad];simp;omega);have l:=nB aa;have f:=nB ad;have G:=nB aj;have j:=nK aa;have I:=nJ ay ad;have N:=nJ az aj;have E:=f.trans (G.mono f.size);obtain⟨fb,fo,e3,J,-⟩:=((p.mono l).mono f).ms.f k K;dsimp only at e3 J;subst e3;rw[h,C]at J;obtain⟨-,z0,z1,z2,z3,z4,z5,z6,z7,z8⟩:=J;obtain⟨q,t,u,x⟩:=kah (j.mono f j.lt);obtain⟨Z,D⟩:=oB (j.mono E j.lt) N;have o:Hi (RX (w.1.size+1) w W3):=h_ ⟨I.mono G I.lt,l.trans (E.mono l.size),cr⟩;replace r:=h_ (r.mono o.B);have Y:Hi (∀a,Bw W3 a->FSl a d g):=h_ λa b=>(by obtain⟨_,_,e3,-,y⟩:=(r.mono b).ms.f k K;dsimp only at y;rw[h,C]at y;exact y);obtain⟨O,y,P,Q,T,U,V,W,X⟩:=ka0 N;have aB:(k:Int)<m.F.length:=cr;have aC:(0:Int)<=k:=cr;clear l f G j I N E p hi C h H;go_enter func80,ntmps80;go_upto_if 21 with fail;(try rw[aa]);go_cut [11] from 21 to 30 (λf h=>f=.bool M/\Bw W3 h);(case first=>by_cases f:d.wh.length=0;{have h:Hi (M=true):=h_ (by rw[<- ag.u,Yk f];rfl);have l:¬ (0:Int)<d.wh.length:=cr;clear f;go_wp2_with fail;go_meet;exact⟨by rw[h.u],bR _ _⟩};have h:Hi (M=kbm (evL apL (lkF m (cS ce)) d.wh)):=h_ (by rw[<- ag.u,Yj f];rfl);have l:(0:Int)<d.wh.length:=cr;have C:=h_ (ah d.wh g.h g.hc HO.h HF.h cr W3 r (Y _ (bR _ _)).h);unfold vv at C;clear f q t u x;obtain⟨q,t,u,x⟩:=kah Z;go_wp2_with fail;refine cQ C λE b=>?_;have f:=h_ b;clear b q t u x O y P Q T U V W X;go_wp2_with fail;refine cQ (q5v (evL apL (lkF m (cS ce)) d.wh) E) λW5 b=>?_;have j:=mT f b;clear b;go_wp2_with fail;go_meet;exact⟨by rw[h.u],j⟩);case rest=>obtain⟨rfl,b⟩:=hcut;replace o:=h_ (o.mono b);replace r:=h_ (r.mono b);replace D:=mB D b;replace Z:=mB Z b;replace Y:Hi (∀a,Bw wc a->FSl a d g):=h_ λa f=>Y a (b.trans (f.mono b.size));clear b q t u x O y P Q T U V W X;obtain⟨O,y,P,Q,T,U,V,W,X⟩:=ka0 D;obtain⟨q,t,u,x⟩:=kah Z;by_cases h:d.is.length=0;{have e:=s.u;rw[Yy h]at e;have aw:((d.is.length:Int)==0)=true:=(by simp[h]);obtain⟨a,p,rfl,-⟩:=HV k K;have H:Hi (∀j,Bw w j->j.cell? ⟨a,p+k*3,none⟩=some (Yb c.k)/\j.cell? ⟨a,p+k*3+1,none⟩=some (Yb c.n)/\j.cell? ⟨a,p+k*3+2,none⟩=some (.string c.s)):=h_ λj b=>(by obtain⟨_,_,f,-,J⟩:=HV.mono b k K;cases f;rw[e]at J;exact J);clear e h;go_wp2_with fail;clear O y P Q T U V W X q t u x;refine kcG o.B λl=>?_;have hC:=H.u;refine tkA 0 l ?_;refine tkA 1 l ?_;refine tkA 2 l ?_;refine tkA 3 l ?_;refine tkA 4 l ?_;refine tkA 5 l ?_;have f:=o.mono (bR _ _).drew;refine khL (w:=w) (z:=c) 6 (w.1.size+1) f.R f.le f.B (qjb f.B f.le _) ?_;intro W9 G I;obtain⟨q0,q1,q2⟩:=kag G;have N:=h_ I;clear hC l f G I;exact gu};have e:=s.u;rw[Yu h]at e;have aw:((d.is.length:Int)==0)=false:=nq cr;have C:=h_ (ah d.is g.i g.ic HO.i HF.i cr wc r (Y _ (bR _ _)).i);obtain⟨a,p⟩:=Nq (evL apL (lkF m (cS ce)) d.is);rw[p]at C e;unfold vv at C;replace s:=h_ e;clear p e h;go_wp2_with fail;refine cQ C λE b=>?_;obtain⟨W5,ak⟩:=Nq (E.alloc (.cells (Jc a.k a.n a.s) 55));obtain⟨h,hX⟩:=Nq E.1.size;have am:Bw E W5:=(by rw[<- ak];exact(bR _ _).alloc (nR _) _);have H:Blk W5 h 55 (J3 a.k a.n a.s):=(by rw[<- hX,<- ak];exact Blk.new E 55 (Jc a.k a.n a.s));have ae:=b.trans (am.mono b.size);have aA:w.1.size+1<h:=(by rw[<- hX];have:=o.R.lt;have:=b.size;omega);replace o:=h_ (o.mono ae);replace D:=mB D ae;have p:=h_ H;clear b am ae q t u x O y P Q T U V W X;obtain⟨q0,q1,q2⟩:=kag H;have T:=H.free 0;have U:=H.free 1;have V:=H.free 2;have y:=D.cell 1;simp only[Yi,Yw]at y;clear H;by_cases t:a.k≠0/\a.k≠4/\a.k≠d.ty;{have e:=s.u;rw[Yy t]at e;have q:(a.k != 0)=true:=(by simp[t.1]);have c1:(a.k != 4)=true:=(by simp[t.2.1]);have c2:(a.k != d.ty)=true:=(by simp[t.2.2]);replace s:=h_ e;go_wp2_with fail;refine cQ (kdv c s _) λQ b=>?_;have u:=p.mono b p.lt;have x:=o.mono b;obtain⟨q0,q1,q2⟩:=kag u;have T:=u.free 0;have U:=u.free 1;have V:=u.free 2;obtain⟨P,H⟩:=Nq (((Q.setCell ⟨h,0,none⟩ (Yb c.k)).setCell ⟨h,1,none⟩ (Yb c.n)).setCell ⟨h,2,none⟩ (.string c.s));have O:w.1.size+1≠h:=cr;have p:Hi (Blk P h 55 (J3 c.k c.n c.s)):=h_ (by rw[<- H];exact((u.set 0 _).set 1 _).set 2 _);have o:Hi (RX (w.1.size+1) w P):=h_ ⟨by rw[<- H];exact((x.R.other _ O).other _ O).other _ O,by rw[<- H];exact((x.B.setCell dF _).setCell dF _).setCell dF _,x.le⟩;go_wp2_with fail;refine wp_region_held_drew (S:=λj=>(j.cell? ⟨h,0,none⟩=some (Yb c.k)/\j.cell? ⟨h,1,none⟩=some (Yb c.n)/\j.cell? ⟨h,2,none⟩=some (.string c.s))/\Bw w j) cu ⟨kag p,o.B.drew⟩ (λl=>?_);refine tkA 0 l ?_;refine tkA 1 l ?_;refine tkA 2 l ?_;have f:=o.mono (bR _ _).drew;refine khL (w:=w) (z:=c) 3 (w.1.size+1) f.R f.le f.B ⟨kag ((p.mono (bR _ _).drew p.lt).row_other cr _),qjb f.B f.le _⟩ ?_;intro W9 G I;obtain⟨q0,q1,q2⟩:=kag G;have N:=h_ I;exact gu};have e:=s.u;rw[Yu t]at e;subst e;have u:((a.k != 0)=false)∨((a.k != 0)=true/\(a.k != 4)=false)∨((a.k != 0)=true/\(a.k != 4)=true/\(a.k != d.ty)=false):=(by by_cases q:a.k=0;{exact .inl (by simp[q])};by_cases c1:a.k=4;{exact .inr (.inl ⟨by simp[q],by simp[c1]⟩)};exact .inr (.inr ⟨by simp[q],by simp[c1],by simp;exact Classical.byContradiction λc2=>t ⟨q,c1,c2⟩⟩));rcases u with q | ⟨q,c1⟩ | ⟨q,c1,c2⟩;all_goals go_wp2_with fail;refine wp_region_held_drew (S:=λj=>(j.cell? ⟨h,0,none⟩=some (Yb a.k)/\j.cell? ⟨h,1,none⟩=some (Yb a.n)/\j.cell? ⟨h,2,none⟩=some (.string a.s))/\Bw w j) cu ⟨kag p,o.B.drew⟩ (λl=>?_);refine tkA 0 l ?_;refine tkA 1 l ?_;refine tkA 2 l ?_;have f:=o.mono (bR _ _).drew;refine khL (w:=w) (z:=a) 3 (w.1.size+1) f.R f.le f.B ⟨kag ((p.mono (bR _ _).drew p.lt).row_other cr _),qjb f.B f.le _⟩ ?_;intro W9 G I;obtain⟨q0,q1,q2⟩:=kag G;have N:=h_ I;go_wp2;exact bQ (v:=.tuple #[.bool M,.agg (Jc a.k a.n a.s)]) ⟨rfl,N⟩
def okB (m:Fm)(ce:Nat->Cx)(f:Fl):Bool:=decide (f.va.length=0)||(kbm (evL apL (lkF m (cS ce)) f.va)||decide ((evL apL (lkF m (cS ce)) f.va).k=0))
def muB (m:Fm)(ce:Nat->Cx)(f:Fl):Bool:=!decide (f.mu.length=0)&&kbm (evL apL (lkF m (cS ce)) f.mu)
def q64 (m:Fm)(A:MA)(t:To)(W:Nat)(ce:Nat->Cx)(k:Nat)(w:Tw)(y:k<m.F.length)(ak:m.F.length<=200)(g:∀a,a∈m.F->FOk m.L.length m.R.length a)(f:kbg m)(hg:∀a,a<m.F.length->GVx (ce a).v)(o:EvF m A t ce w):Gv 79 #[mV m A,.slice t m.F.length W,Yb k] w (.tuple #[.bool (okB m ce (fAt m k)),.bool (muB m ce (fAt m k))]):=by have U:=h_ λ(a:List Nx) (c:To) (d:Nat) (p:kac a=true) (l:∀k,k<a.length->Fit (nf a k)) (e:0<a.length) b (h:EvF m A t ce b) (j:kb2 b c a)=>qc3 m A t c d W ce a ak p l e hg b h j;obtain⟨a,d⟩:=Nq (m.F[k]);have x:a∈m.F:=d ▸ Yl y;obtain⟨T,P⟩:=oB (g a x) (f.f a x);rw[qpi y,d];obtain⟨l,c⟩:∃e,okB m ce a=e:=⟨_,rfl⟩;obtain⟨O,b⟩:∃e,muB m ce a=e:=⟨_,rfl⟩;rw[c,b];unfold okB at c;unfold muB at b;obtain⟨G,S⟩:=oB c b;clear c b g f;have h:=h_ o;obtain⟨al,ai,ap,aj,aR,ae,af,ah,ag⟩:=A;obtain⟨c,p⟩:=Nq (ag k);unfold mV at *;obtain⟨V,u⟩:=Nq (w.alloc (.cells (Jb al m ai ap aj aR ae af ah) 37));obtain⟨H,X⟩:=Nq (V.alloc (.cells (Ja a c.b c.bc c.i c.ic c.h c.hc c.v c.vc c.u c.uc) 92));have am:V.1.size=w.1.size+1:=(by rw[<- u];simp);have f:=nB u;have s:=nB X;have j:=nK u;have K:=nJ am X;obtain⟨fb,fo,I,M,-⟩:=(o.mono f).ms.f k y;dsimp only at I M;subst I;rw[d,p]at M;obtain⟨-,z0,z1,z2,z3,z4,z5,z6,z7,z8⟩:=M;obtain⟨z,B,C,D⟩:=kah j;obtain⟨r,E⟩:=oB (j.mono s j.lt) K;have e:=h_ (f.trans (s.mono f.size));replace h:=h_ (h.mono e);have q:Hi (∀g,Bw H g->FSl g a c):=h_ λg b=>(by obtain⟨_,_,I,-,J⟩:=(h.mono b).ms.f k y;dsimp only at J;rw[d,p]at J;exact J);obtain⟨y0,y1,y2,y3,y4,y5,y6,y7,y8⟩:=ka0 K;have an:(k:Int)<m.F.length:=cr;have ao:(0:Int)<=k:=cr;clear f s j K o p d x;go_enter func79,ntmps79;go_upto_if 20 with fail;(try rw[u]);go_cut [9] from 20 to 35 (λd f=>d=.bool l/\Bw H f);(case first=>by_cases j:a.va.length=0;{have f:Hi (l=true):=h_ (by rw[<- G.u,Yk j];rfl);have N:¬ (0:Int)<a.va.length:=cr;clear j;go_wp2_with fail;go_meet;exact⟨by rw[f.u],bR _ _⟩};have N:(0:Int)<a.va.length:=cr;have o:=h_ (U a.va c.v c.vc T.v P.v cr H h (q _ (bR _ _)).v);obtain⟨d,p⟩:=Nq (evL apL (lkF m (cS ce)) a.va);rw[p]at o G;unfold vv at o;have f:Hi ((kbm d||decide (d.k=0))=l):=h_ (by rw[<- G.u,Yj j];rfl);clear j p z B C D;obtain⟨z,B,C,D⟩:=kah r;go_wp2_with fail;refine cQ o λp b=>?_;obtain⟨s,x⟩:=Nq (p.alloc (.cells (Jc d.k d.n d.s) 55));obtain⟨ad,K⟩:=Nq p.1.size;have Y:Bw p s:=(by rw[<- x];exact(bR _ _).alloc (nR _) _);have J:Blk s ad 55 (J3 d.k d.n d.s):=(by rw[<- K,<- x];exact Blk.new p 55 (Jc d.k d.n d.s));obtain⟨aa,Q⟩:=oB (b.trans (Y.mono b.size)) J;obtain⟨Z,q1,q2⟩:=kag J;clear b Y J z B C D y0 y1 y2 y3 y4 y5 y6 y7 y8;go_wp2_with fail;(try rw[K]);(try rw[x]);clear x K;refine cQ (q5v d s) λY b=>?_;have J:=mT aa b;have Z:=(Q.mono b Q.lt).cell 0;simp only[Yi]at Z;cases K:kbm d;{have x:Hi (l=(d.k==0)):=h_ (by rw[<- f.u,K];rfl);go_wp2_with fail;go_meet;exact⟨by rw[x.u],J⟩};have x:Hi (l=true):=h_ (by rw[<- f.u,K];rfl);go_wp2_with fail;go_meet;exact⟨by rw[x.u],J⟩);case rest=>obtain⟨rfl,b⟩:=hcut;replace e:=mT e b;replace h:=h_ (h.mono b);replace E:=mB E b;replace r:=mB r b;replace q:Hi (∀g,Bw wc g->FSl g a c):=h_ λg d=>q g (b.trans (d.mono b.size));obtain⟨y0,y1,y2,y3,y4,y5,y6,y7,y8⟩:=ka0 E;obtain⟨z,B,C,D⟩:=kah r;by_cases j:a.mu.length=0;{have f:Hi (O=false):=h_ (by rw[<- S.u,Yk j];rfl);have N:¬ (0:Int)<a.mu.length:=cr;go_wp2;exact bQ (v:=.tuple #[.bool l,.bool false]) ⟨by rw[f.u],e⟩};have f:Hi (O=kbm (evL apL (lkF m (cS ce)) a.mu)):=h_ (by rw[<- S.u,Yj j];rfl);have N:(0:Int)<a.mu.length:=cr;have o:=h_ (U a.mu c.u c.uc T.u.u P.u.u cr wc h (q _ (bR _ _)).u);unfold vv at o;go_wp2_with fail;refine cQ o λp b=>?_;replace e:=mT e b;go_wp2_with fail;refine cQ (q5v (evL apL (lkF m (cS ce)) a.mu) p) λs b=>?_;replace e:=mT e b;rw[<- f.u];go_wp2;exact bQ (v:=.tuple #[.bool l,.bool O]) ⟨rfl,e⟩
def cxC (x:Cx):Tl:=[.int .i64 x.v.k,.int .i64 x.v.n,.string x.v.s,.bool x.rel,.bool x.ok,.bool x.must]
def cx6 (g:Nat->Cx)(n:Nat):Tl:=(List.range n).flatMap λj=>cxC (g j)
def qjm (g:Nat->Cx)(n:Nat):cx6 g (n+1)=cx6 g n++cxC (g n):=by simp[cx6,List.range_succ]
def qp7 (g:Nat->Cx)(n:Nat):(cx6 g n).length=n*6:=by induction n with|zero=>rfl|succ n a=>rw[qjm,Yn,a];simp[cxC];omega
def qp6 (g:Nat->Cx)(n k i:Nat)(c:k<n)(hi:i<6):(cx6 g n)[k*6+i]? = (cxC (g k))[i]?:=by induction n with|zero=>omega|succ n b=>rw[qjm];by_cases a:k=n;{subst a;rw[List.getElem?_append_right (by rw[qp7];omega),qp7];congr 1;omega};rw[List.getElem?_append_left (by rw[qp7];omega)];exact b cr
def qow {B:Nat}{g:Nat->Cx}(d:w.ownsRow B 75 6 (.slice a n k) n (cx6 g n)):kbc w a n g:=λf j=>by rcases d.2 with ⟨e,p⟩ | ⟨l,m,o,e,-,h,-⟩;{omega};cases e;have b:=λc (i:c<6)=>(World.ownsRow.cellAt d (f*6+c) cr).trans (qp6 g n f c j i);refine⟨l,0,rfl,(Yo.1 h).1,?_,?_,?_,?_,?_,?_⟩ <;> rw[Y5];{exact b 0 cr};{exact b 1 cr};{exact b 2 cr};{exact b 3 cr};{exact b 4 cr};exact b 5 cr
def qsk {B b:Nat}(d:w.ownsRow B t k v n x)(i:v.ownBlock≠some b)(j:Nat)(u:Value):(w.setCell ⟨b,j,none⟩ u).ownsRow B t k v n x:=by refine⟨d.1,?_⟩;rcases d.2 with g | ⟨c,e,f,a,h,m,l,q,o,p⟩;{exact .inl g};refine .inr ⟨c,e,f,a,h,(heap_setCell_other w ⟨b,j,none⟩ c u ?_).trans m,l,q,o,p⟩;rintro rfl;exact i (by rw[a];rfl)
def qsi {B b:Nat}(d:w.ownsRow B t k v n x)(i:w.1.size<=b):v.ownBlock≠some b:=by rcases d.2 with ⟨a,-⟩ | ⟨c,f,g,a,-,e,-⟩;{rw[a];intro t;cases t};have:=(Yo.1 e).1;rw[a];intro t;have h:c=b:=(by simpa [Value.ownBlock] using t);omega
def ceR (ce:Nat->Cx)(s:Nat->Bool × Vx)(j:Nat):Cx:=⟨(s j).2,(s j).1,(ce j).ok,(ce j).must⟩
def mkD (n:Nat)(M:Nat->Bool):List Nat:=(List.range n).filter M
def qrn {M:Nat->Bool}(a:k<n):k∈mkD n M ↔ M k=true:=by grind[mkD]
abbrev Frv (m:Fm)(inp:Nat->Vx):=ke2 apL kbm (kay 1) m inp
def kfB {inp:Nat->Vx}{s:Nat->Bool × Vx}(g:k<m.F.length)(p:∀b,b∈m.F->FOk m.L.length m.R.length b)(n:kbg m)(hi:GVx (inp k))(q:∀a,a<m.F.length->GVx (s a).2):GVx (Frv m inp s k).2:=by have h:fAt m k∈m.F:=(by rw[qpi g];exact Yl g);have j:=(p _ h).i;have d:=(n.f _ h).i;simp only[Frv,ke2];by_cases c:(fAt m k).is.length=0;{rw[Yy c];exact hi};rw[Yu c];rw[kac,Zk]at j;have l:=(qug _ _).1 (j.resolve_left df);have o:GVx (evL apL (lkF m s) (fAt m k).is):=kdi l.2.2.1 l.2.2.2.1 (λa e=>⟨(d a e).2.2.1,(d a e).2.2.2⟩) (λb=>kg0 q b) _ (nR _);split;{exact kcm cx};exact o
def kiI {inp:Nat->Vx}{D:List Nat}{s0:Nat->Bool × Vx}(f:∀a,a∈m.F->FOk m.L.length m.R.length a)(e:kbg m)(hi:∀a,a<m.F.length->GVx (inp a))(d:∀a,a<m.F.length->GVx (s0 a).2)(r:Nat):∀a,a<m.F.length->GVx (rdS (Frv m inp) D s0 r a).2:=by induction r with|zero=>exact d|succ r c=>intro a b;show GVx (if a∈D then Frv m inp (rdS (Frv m inp) D s0 r) a else rdS (Frv m inp) D s0 r a).2;split;{exact kfB b f e (hi a b) c};exact c a b
def kgl (w:Tw)(n:Nat)(g:Nat->Cx)(r:Ending)(w':Tw):Prop:=∃a c,r=.returned (.slice a n c)/\kbc w' a n g/\Bw w w'
def qsc {w':Tw}{c:Nat}{g:Nat->Cx}(b:kbc w' a n g)(d:Bw w w'):kgl w n g (.returned (.slice a n c)) w':=⟨a,c,rfl,b,d⟩
def q66 (m:Fm)(A:MA)(x ac W:To)(ci cc cm:Nat)(ce:Nat->Cx)(inp:Nat->Vx)(M:Nat->Bool)(w:Tw)(aN:m.F.length<=200)(j:∀f,f∈m.F->FOk m.L.length m.R.length f)(i:kbg m)(t:∀d,d<m.F.length->GVx (inp d))(r:∀d,d<m.F.length->GVx (ce d).v)(u:MSl w m A)(hi:kaH w x m.F.length inp)(o:kbc w ac m.F.length ce)(q:ka3 w W m.F.length M) :
 Calls prog 56 #[mV m A,.slice x m.F.length ci,.slice ac m.F.length cc,.slice W m.F.length cm] w λe a=>kgl w m.F.length (ceR ce (rdS (Frv m inp) (mkD m.F.length M) (cS ce) (m.F.length+1))) e a:=by
 have aA:=h_ (kiI (D:=mkD m.F.length M) (s0:=cS ce) j i t r);have az:=h_ λ(c:Nat->Cx) (k:To) (y a:Nat) b (S:a<m.F.length) (l:∀d,d<m.F.length->GVx (c d).v) (g:EvF m A k c b) (h:kaH b x m.F.length inp)=>q65 m A k x y ci c inp a b S aN j i l g h;obtain⟨K,N,O,P,G,H,I,J,ao⟩:=A;unfold mV at *;obtain⟨W0,n,h,g⟩:=nV w 37 (Jb K m N O P G H I J);have aD:Hi (∀b,Bw W0 b->MSl b m ⟨K,N,O,P,G,H,I,J,ao⟩/\kaH b x m.F.length inp/\ka3 b W m.F.length M/\Blk b w.1.size 37 (Jj K m N O P G H I J)/\Bw w b):=h_ λb c=>⟨(u.mono g).mono c,(hi.mono g).mono c,(q.mono g).mono c,h.mono c h.lt,g.trans (c.mono g.size)⟩;have l:=h_ (o.mono g);have T:=(kah h).2.2.2;clear g h u hi o q j i t r;go_enter func56,ntmps56;go_wp2_with fail
 try rw[n]
 clear n T;go_loopw [2,9,10,11,12,13,14] (λcv g _ _ _ _ _ wr=>∃(e:Nat) (k:To) (y:Nat),e<=m.F.length+1/\cv=.slice k m.F.length y/\g=Yb e/\kbc wr k m.F.length (ceR ce (rdS (Frv m inp) (mkD m.F.length M) (cS ce) e))/\Bw W0 wr) (λ_ g _ _ _ _ _ _=>m.F.length+1 - (intOf g).toNat)
 case atStart=>exact⟨0,ac,cc,nZ _,rfl,rfl,l,bR _ _⟩
 case round =>
 clear l;obtain⟨e,k,y,hr,rfl,rfl,h,c⟩:=hrel;obtain⟨g,rfl⟩:∃g,g=wr:=⟨_,rfl⟩;obtain⟨n,o,l,i,r⟩:=aD g c;have T:=(kah i).2.2.2;by_cases Q:e<=m.F.length
 case neg =>
  obtain rfl:e=m.F.length+1:=cr
  have Y:¬ ((m.F.length+1:Nat):Int)<=(m.F.length:Int):=cr
  obtain⟨U,C⟩:=oB h r;clear h c n o l i r Q;go_wp2;exact bQ (v:=.slice k m.F.length y) (qsc U C)
 case pos =>
 have Y:(e:Int)<=(m.F.length:Int):=cr
 obtain⟨j,t⟩:=Nq (rdS (Frv m inp) (mkD m.F.length M) (cS ce) e);obtain⟨u,E⟩:=Nq (rdS (Frv m inp) (mkD m.F.length M) (cS ce) (e+1));rw[t]at h;have ak:Hi (∀a,a<m.F.length->u a=if M a=true then Frv m inp j a else j a):=h_ λa S=>by
  rw[<- E,<- t];show(if a∈mkD m.F.length M then _ else _)=_;by_cases z:M a=true
  . rw[Yy z,Yy ((qrn S).2 z)]
  . rw[Yu z,Yu λB=>z ((qrn S).1 B)]
 have aB:Hi (∀d,d<m.F.length->GVx (ceR ce j d).v):=h_ λd hj=>by have:=aA e d hj;rw[t]at this;exact this
 have aF:=h_ E;obtain⟨Bk,d⟩:∃B,g.1.size=B:=⟨_,rfl⟩;obtain⟨W5,B⟩:=Nq (g.alloc (.cells #[] 75));have V:Hi (Below Bk g W5):=h_ (by rw[<- B,<- d];exact(bR _ _).alloc (nR _) _);have X:Hi (W5.ownsRow Bk 75 6 (.slice (some ⟨Bk,0,none⟩) 0 0) 0 (cx6 (ceR ce u) 0)):=h_ (by
  rw[<- B,<- d];exact⟨rfl,.inr ⟨g.1.size,0,#[],rfl,nR _,heap_alloc_new g (.cells #[] 75),nR _,nZ _,rfl,rfl⟩⟩)
 have aa:Hi (∀b,Below Bk g b->MSl b m ⟨K,N,O,P,G,H,I,J,ao⟩/\kaH b x m.F.length inp/\ka3 b W m.F.length M/\Blk b w.1.size 37 (Jj K m N O P G H I J)/\kbc b k m.F.length (ceR ce j)/\Bw W0 b/\Bk<=b.1.size):=h_ λb b=>by
  rw[<- d]at b;exact⟨n.mono b,o.mono b,l.mono b,i.mono b i.lt,h.mono b,c.trans (b.mono c.size),by rw[<- d];exact b.size⟩
 obtain⟨b,aj⟩:=oB (And.intro B d) Q;clear h c n o l i r t E B d Q;go_wp2_with fail;rw[b.u.1,b.u.2];clear b T Y;go_loopw [10,11,12,13,14] (λax b _ _ _ d=>∃(a:Nat) (E:To) (Q:Nat),a<=m.F.length/\b=Yb a/\ax=.slice E a Q/\d.ownsRow Bk 75 6 (.slice E a Q) a (cx6 (ceR ce u) a)/\Below Bk g d) (λ_ b _ _ _ _=>m.F.length - (intOf b).toNat)
 case atStart=>exact⟨0,_,_,nZ _,rfl,rfl,X,V⟩
 case round =>
 clear X V;obtain⟨a,E,Q,S,rfl,rfl,b,c⟩:=hrel;obtain⟨n,o,l,i,h,r,aQ⟩:=aa wr c;have T:=(kah i).2.2.2;by_cases t:a<m.F.length
 case neg =>
  obtain rfl:a=m.F.length:=cr
  obtain⟨U,C⟩:=oB (qow b) r;clear b c n o l i r h t;go_wp2_with fail;go_roundw
  case rel=>exact⟨e+1,E,Q,by have:=aj.u;omega,rfl,cy,by rw[aF.u];exact U,C⟩
  case measure=>simp[intOf];have:=aj.u;omega
 case pos =>
 have a1:(a:Int)<m.F.length:=cr
 have a0:(0:Int)<=a:=cr
 obtain⟨cb,co,rfl,-,c0,c1,c2,c3,c4,c5⟩:=h a t;obtain⟨mb,mo,rfl,-,d0⟩:=l a t;obtain⟨f,Y⟩:=Nq (ceR ce j a);obtain⟨B,hy⟩:=Nq (ceR ce u a);rw[Y]at c0 c1 c2 c3 c4 c5;obtain⟨Wc,aw⟩:=Nq (wr.alloc (.cells (Jn f.v.k f.v.n f.v.s f.rel f.ok f.must) 75));obtain⟨d,hX⟩:=Nq wr.1.size;have X:=nB aw;have au:=nJ hX aw;obtain⟨U,C,Z,V⟩:=oD au (qm0 b X) (c.trans (X.mono aQ)) (qsi b (Ov hX));have aG:Hi (Bk<=d):=h_ cr;obtain⟨HY,HX⟩:=oB hy Y;have aq:=(X.cell (p:=⟨mb,mo+a,none⟩) (by obtain⟨_,_,ad,hl,-⟩:=l a t;cases ad;exact hl)).trans d0;clear b c n o l i h r X au Y hy d0;go_upto_if 37 with fail
 go_cut [13,14] from 37 to 49 (λ_ _ b=>Blk b d 75 (cxC B)/\b.ownsRow Bk 75 6 (.slice E a Q) a (cx6 (ceR ce u) a)/\Below Bk g b)
 case first =>
  cases q:M a
  . have b:Hi (B=f):=h_ (by rw[<- HY.u,<- HX.u];simp only[ceR,ak.u a t,q];rfl)
    rw[q]at aq;go_wp2_with fail;go_meet;exact⟨by rw[b.u];exact U,C,Z⟩
  . rw[q]at aq
    obtain⟨n,o,-,i,h,-,aS⟩:=aa _ Z;have l:=h_ (az (ceR ce j) (some ⟨cb,co,none⟩) y a Wc t aB ⟨n,h⟩ o);rw[show cS (ceR ce j)=j from rfl]at l;obtain⟨Y,ah⟩:∃b,(Frv m inp j a).1=b:=⟨_,rfl⟩;obtain⟨b,hu⟩:=Nq ((Frv m inp j a).2);simp only[Frv]at ah hu;rw[ah,hu]at l;unfold vv at l;have aT:Hi (B=⟨b,Y,f.ok,f.must⟩):=h_ (by rw[<- HY.u,<- HX.u,<- ah,<- hu];simp only[ceR,ak.u a t,q,if_true,Frv]);obtain⟨x0,x1,x2,T⟩:=kah i;go_wp2_with fail;refine cQ l λr ae=>?_;obtain⟨W7,av⟩:=Nq (r.alloc (.cells (Jc b.k b.n b.s) 55));obtain⟨an,aK⟩:=Nq r.1.size;have aL:Bw r W7:=(by rw[<- av];exact(bR _ _).alloc (nR _) _);have aI:Blk W7 an 55 (J3 b.k b.n b.s):=(by rw[<- aK,<- av];exact Blk.new r 55 (Jc b.k b.n b.s));have ag:=ae.trans (aL.mono ae.size);have c:=U.mono ag U.lt;have aJ:=qm0 C ag;have aH:=Z.trans (ag.mono aS);have aZ:an≠d:=(by have:=U.lt;have:=ae.size;omega);have X:=aG.u;obtain⟨p0,p1,p2⟩:=kag aI;have q0:=c.cell 0;have q1:=c.cell 1;have q2:=c.cell 2;have q3:=c.cell 3;have g0:=c.free 0;have g1:=c.free 1;have g2:=c.free 2;have g3:=c.free 3;simp only[Yi,Yw]at q0 q1 q2 q3;obtain⟨aC,aE,ay⟩:=oC ((((c.set 3 (.bool Y)).set 0 (Yb b.k)).set 1 (Yb b.n)).set 2 (.string b.s)) (qsk (qsk (qsk (qsk aJ V 3 (.bool Y)) V 0 (Yb b.k)) V 1 (Yb b.n)) V 2 (.string b.s)) ((((aH.setCell (p:=⟨d,3,none⟩) X (.bool Y)).setCell (p:=⟨d,0,none⟩) X (Yb b.k)).setCell (p:=⟨d,1,none⟩) X (Yb b.n)).setCell (p:=⟨d,2,none⟩) X (.string b.s));go_wp2_with fail;go_meet;exact⟨by rw[aT.u];simpa [cxC] using aC.u,aE,ay⟩
 case rest =>
  obtain⟨b,hO,l⟩:=hcut;obtain⟨i0,hi,aU,aV,aW⟩:=info_parts qg7;have aP:=(aa _ l).2.2.2.2.2.2;have hN:=Blk.new wc 75 (cxC B).toArray;have q0:=b.cell 0;have q1:=b.cell 1;have q2:=b.cell 2;have q3:=b.cell 3;have q4:=b.cell 4;have q5:=b.cell 5;simp only[cxC,Yi,Yw]at q0 q1 q2 q3 q4 q5;obtain⟨C,r,X⟩:=oC hO l hN;go_wp2_with (at_builtin;refine wpList_append_own _ rfl _ _ 31 rfl Bk 75 i0 _ 6 40 underlying31 hi aU aV aW rfl cr _ _ _ rfl (C.alloc _) ⟨wc.1.size,0,none⟩ 1 1 (cxC B) rfl rfl (λc ax hj=>by rw[show(⟨wc.1.size,0,none⟩:Addr).add c=⟨wc.1.size,c,none⟩ by simp[Addr.add];try exact λz=>z.symm];exact(X.cell c).trans (by simpa [cxC] using hj)) dH cE cr cz ?_);intro v' w3 aO aM _;have c:w3.ownsRow Bk 75 6 v' (a+1) (cx6 (ceR ce u) (a+1)):=by rw[qjm,HY.u];exact aO
  obtain⟨aX,aY,rfl⟩:=kcg c;obtain⟨Y,z⟩:=oB c ((r.alloc aP (.cells (cxC B).toArray 75)).grown aM cz (λq' ad=>qcp C ad));refine rQ ?_;exact⟨a+1,_,_,cr,cy,rfl,Y,z⟩
def ceJ (m:Fm)(ce:Nat->Cx)(M:Nat->Bool)(j:Nat):Cx:=if M j=true then ⟨(ce j).v,(ce j).rel,okB m ce (fAt m j),muB m ce (fAt m j)⟩ else ce j
def q8u (m:Fm)(A:MA)(i K:To)(Z cm:Nat)(ce:Nat->Cx)(M:Nat->Bool)(w:Tw)(aA:m.F.length<=200)(y:∀b,b∈m.F->FOk m.L.length m.R.length b)(t:kbg m)(u:∀a,a<m.F.length->GVx (ce a).v)(x:MSl w m A)(r:kbc w i m.F.length ce)(d:ka3 w K m.F.length M) :
 Calls prog 55 #[mV m A,.slice i m.F.length Z,.slice K m.F.length cm] w λa c=>kgl w m.F.length (ceJ m ce M) a c:=by
 have ak:=h_ λ(a:Nat) c (hk:a<m.F.length) (e:EvF m A i ce c)=>q64 m A i Z ce a c hk aA y t u e;obtain⟨I,J,N,O,D,E,G,H,av⟩:=A;unfold mV at *;obtain⟨e,q,k,g⟩:=nV w 37 (Jb I m J N O D E G H);obtain⟨Bk,f⟩:∃h,e.1.size=h:=⟨_,rfl⟩;obtain⟨o,j⟩:=Nq e;obtain⟨Y,h⟩:=Nq (e.alloc (.cells #[] 75));have l:Hi (Below Bk o Y):=h_ (by rw[<- j,<- h,<- f];exact(bR _ _).alloc (nR _) _);have n:Hi (Y.ownsRow Bk 75 6 (.slice (some ⟨Bk,0,none⟩) 0 0) 0 (cx6 (ceJ m ce M) 0)):=h_ (by
  rw[<- h,<- f];exact⟨rfl,.inr ⟨e.1.size,0,#[],rfl,nR _,heap_alloc_new e (.cells #[] 75),nR _,nZ _,rfl,rfl⟩⟩)
 have B:Hi (∀c,Below Bk o c->MSl c m ⟨I,J,N,O,D,E,G,H,av⟩/\True/\ka3 c K m.F.length M/\Blk c w.1.size 37 (Jj I m J N O D E G H)/\kbc c i m.F.length ce/\Bw w c/\Bk<=c.1.size):=h_ λc c=>by
  rw[<- f,<- j]at c;exact⟨(x.mono g).mono c,trivial,(d.mono g).mono c,k.mono c k.lt,(r.mono g).mono c,g.trans (c.mono g.size),by rw[<- f];exact c.size⟩
 have c:=h_ (And.intro q (And.intro h f));clear g k x r d y t u q h f j;go_enter func55,ntmps55;go_wp2_with fail;rw[c.u.1,c.u.2.1];have f:=c.2.2;have g:e.1.size=w.1.size+1:=by rw[<- c.u.1];simp
 rw[show w.1.size+1=Bk by omega];clear c f g;go_loopw [7,8,9,10,11] (λai c _ _ _ f=>∃(a:Nat) (h:To) (j:Nat),a<=m.F.length/\c=Yb a/\ai=.slice h a j/\f.ownsRow Bk 75 6 (.slice h a j) a (cx6 (ceJ m ce M) a)/\Below Bk o f) (λ_ c _ _ _ _=>m.F.length - (intOf c).toNat)
 case atStart=>exact⟨0,_,_,nZ _,rfl,rfl,n,l⟩
 case round =>
 clear n l;obtain⟨a,h,j,hk,rfl,rfl,c,r⟩:=hrel;obtain⟨x,-,u,l,k,T,aD⟩:=B wr r;have x3:=(kah l).2.2.2;by_cases n:a<m.F.length
 case neg =>
  obtain rfl:a=m.F.length:=cr
  have az:¬ (m.F.length:Int)<(m.F.length:Int):=cr
  obtain⟨g,f⟩:=oB (qow c) T;clear c r x u l T k n;go_wp2;exact bQ (v:=.slice h m.F.length j) (qsc g f)
 case pos =>
 have az:(a:Int)<m.F.length:=cr
 have aL:(0:Int)<=a:=cr
 obtain⟨cb,co,rfl,-,c0,c1,c2,c3,c4,c5⟩:=k a n;obtain⟨mb,mo,rfl,-,V⟩:=u a n;obtain⟨b,U⟩:=Nq (ce a);obtain⟨f,hy⟩:=Nq (ceJ m ce M a);rw[U]at c0 c1 c2 c3 c4 c5;obtain⟨Wc,Q⟩:=Nq (wr.alloc (.cells (Jn b.v.k b.v.n b.v.s b.rel b.ok b.must) 75));obtain⟨q,S⟩:=Nq wr.1.size;have t:=nB Q;have ad:=nJ S Q;obtain⟨z,g,y,W⟩:=oD ad (qm0 c t) (r.trans (t.mono aD)) (qsi c (Ov S));have au:Hi (Bk<=q):=h_ cr;obtain⟨C,X⟩:=oB hy U;have aa:=(t.cell (p:=⟨mb,mo+a,none⟩) (by obtain⟨_,_,P,hl,-⟩:=u a n;cases P;exact hl)).trans V;clear c r x u l k T t ad U hy V;go_upto_if 27 with fail
 try rw[S]
 try rw[Q]
 go_cut [10,11] from 27 to 38 (λ_ _ c=>Blk c q 75 (cxC f)/\c.ownsRow Bk 75 6 (.slice h a j) a (cx6 (ceJ m ce M) a)/\Below Bk o c)
 case first =>
  cases d:M a
  . have c:Hi (f=b):=h_ (by rw[<- C.u,<- X.u];simp[ceJ,d])
    rw[d]at aa;go_wp2_with fail;go_meet;exact⟨by rw[c.u];exact z,g,y⟩
  . rw[d]at aa
    obtain⟨x,-,-,l,k,-,aE⟩:=B _ y;have V:=h_ (ak a Wc n ⟨x,k⟩);obtain⟨r,ag⟩:∃c,okB m ce (fAt m a)=c:=⟨_,rfl⟩;obtain⟨t,ah⟩:∃c,muB m ce (fAt m a)=c:=⟨_,rfl⟩;rw[ag,ah]at V;have aF:Hi (f=⟨b.v,b.rel,r,t⟩):=h_ (by rw[<- C.u,<- X.u,<- ag,<- ah];simp[ceJ,d]);obtain⟨x0,x1,x2,x3⟩:=kah l;go_wp2_with fail;refine cQ V λW7 u=>?_;have c:=z.mono u z.lt;have ax:=qm0 g u;have aw:=y.trans (u.mono aE);have ae:=au.u;have T:=c.cell 4;have U:=c.cell 5;have g4:=c.free 4;have g5:=c.free 5;simp only[Yi,Yw]at T U;obtain⟨an,aq,aj⟩:=oC ((c.set 4 (.bool r)).set 5 (.bool t)) (qsk (qsk ax W 4 (.bool r)) W 5 (.bool t)) ((aw.setCell (p:=⟨q,4,none⟩) ae (.bool r)).setCell (p:=⟨q,5,none⟩) ae (.bool t));go_wp2_with fail;go_meet;exact⟨by rw[aF.u];simpa [cxC] using an.u,aq,aj⟩
 case rest =>
  obtain⟨c,hO,t⟩:=hcut;obtain⟨i0,hi,aG,aH,aI⟩:=info_parts qg7;have aC:=(B _ t).2.2.2.2.2.2;have hN:=Blk.new wc 75 (cxC f).toArray;have q0:=c.cell 0;have q1:=c.cell 1;have q2:=c.cell 2;have q3:=c.cell 3;have T:=c.cell 4;have U:=c.cell 5;simp only[cxC,Yi,Yw]at q0 q1 q2 q3 T U;obtain⟨g,u,HN⟩:=oC hO t hN;go_wp2_with (at_builtin;refine wpList_append_own _ rfl _ _ 31 rfl Bk 75 i0 _ 6 40 underlying31 hi aG aH aI rfl cr _ _ _ rfl (g.alloc _) ⟨wc.1.size,0,none⟩ 1 1 (cxC f) rfl rfl (λr ai hj=>by rw[show(⟨wc.1.size,0,none⟩:Addr).add r=⟨wc.1.size,r,none⟩ by simp[Addr.add];try exact λV=>V.symm];exact(HN.cell r).trans (by simpa [cxC] using hj)) dH cE cr cz ?_);intro v' w3 aB ay _;have r:w3.ownsRow Bk 75 6 v' (a+1) (cx6 (ceJ m ce M) (a+1)):=by rw[qjm,C.u];exact aB
  obtain⟨aJ,aK,rfl⟩:=kcg r;obtain⟨ao,V⟩:=oB r ((u.alloc aC (.cells (cxC f).toArray 75)).grown ay cz (λq' P=>qcp g P));refine rQ ?_;exact⟨a+1,_,_,cr,cy,rfl,ao,V⟩
