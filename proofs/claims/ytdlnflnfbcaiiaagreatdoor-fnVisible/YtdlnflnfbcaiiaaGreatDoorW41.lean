import Derived.Test.YtdlnflnfbcaiiaaGreatDoorW36
import Derived.Test.YtdlnflnfbcaiiaaGreatDoorW39
import Derived.Test.YtdlnflnfbcaiiaaGreatDoorW34
import Derived.Shelf.Lay
set_option linter.all false
set_option maxRecDepth 100000
set_option maxHeartbeats 0
namespace Go.Proofs.YtdlnflnfbcaiiaaGreatDoor
open Value renaming slice->Sl,string->St,bool->Bo
open Obj renaming cells->Cl
open Option renaming none->Nn,some->Sm
open Bool renaming true->Tt,false->Ff
open Go Go.RowKit Go.Proofs.Tryz
variable {n k:Nat}{e:TypeId}{v:Value}{x:Tl}{s:Tb}
def yD (x:Cx):Tl:=[.int .i64 x.v.k,.int .i64 x.v.n,St x.v.s,Bo x.rel,Bo x.ok,Bo x.must]
def Q9 (g:Nat->Cx)(n:Nat):Tl:=(List.range n).flatMap λj=>yD (g j)
def ZL (g:Nat->Cx)(n:Nat):Q9 g (n+1)=Q9 g n++yD (g n):=by simp[Q9,List.range_succ]
def CW (g:Nat->Cx)(n:Nat):(Q9 g n).length=n*6:=by induction n with|zero=>rfl|succ n q=>rw[ZL,Yn,q];simp[yD];omega
def qq4 (g:Nat->Cx)(n k i:Nat)(h:k<n)(hi:i<6):(Q9 g n)[k*6+i]? = (yD (g k))[i]?:=by induction n with|zero=>omega|succ n q=>rw[ZL];by_cases e:k=n;{subst e;rw[Oe (by rw[CW];omega),CW];congr 1;omega};rw[Ol (by rw[CW];omega)];exact q fP
def CR {w:Tw}{B:Nat}{a:To}{g:Nat->Cx}(h:w.ownsRow B 48 6 (Sl a n k) n (Q9 g n)):yA w a n g:=λb d=>by rcases h.2 with ⟨m,r⟩|⟨q,v,e,m,-,H,-⟩;{omega};cases m;have c:=λi (C:i<6)=>(World.ownsRow.cellAt h (b*6+i) fP).trans (qq4 g n b i d C);refine⟨q,0,rfl,(Yt.1 H).1,?_,?_,?_,?_,?_,?_⟩ <;> rw[Zk];{exact c 0 fP};{exact c 1 fP};{exact c 2 fP};{exact c 3 fP};{exact c 4 fP};exact c 5 fP
def uM {w:Tw}{B b:Nat}(h:w.ownsRow B e k v n x)(c:v.ownBlock≠Sm b)(j:Nat)(u:Value):(w.setCell (Aq b j) u).ownsRow B e k v n x:=by refine⟨h.1,?_⟩;rcases h.2 with W|⟨g,N,a,Q,d,H,f,m,i,l⟩;{exact .inl W};refine .inr ⟨g,N,a,Q,d,(heap_setCell_other w (Aq b j) g u ?_).trans H,f,m,i,l⟩;rintro rfl;exact c (by rw[Q];rfl)
def Pi {w:Tw}{B b:Nat}(h:w.ownsRow B e k v n x)(c:w.1.size<=b):v.ownBlock≠Sm b:=by rcases h.2 with ⟨m,-⟩|⟨g,N,a,m,-,H,-⟩;{rw[m];intro e;cases e};have:=(Yt.1 H).1;rw[m];intro e;have Z:g=b:=gB;omega
def LB (ce:Nat->Cx)(s:Nat->Bool × Vx)(j:Nat):Cx:=⟨(s j).2,(s j).1,(ce j).ok,(ce j).must⟩
def OE (n:Nat)(M:Nat->Bool):List Nat:=(List.range n).filter M
def Ei {M:Nat->Bool}(h:k<n):k∈OE n M ↔ M k=Tt:=by grind[OE]
abbrev R7 (m:Fm)(inp:Nat->Vx):=LG O2 P4 (C1 1) m inp
def lY {m:Fm}{r:Nat->Vx}{s:Nat->Bool × Vx}(b:k<m.F.length)(t:∀x,x∈m.F->WE m.L.length m.R.length x)(U:C3 m)(hi:O1 (r k))(B:∀j,j<m.F.length->O1 (s j).2):O1 (R7 m r s k).2:=by have w:A0 m k∈m.F:=(by rw[V7 b];exact Yq b);have T:=(t _ w).i;have o:=(U.f _ w).i;simp only[R7,LG];by_cases D:(A0 m k).is.length=0;{rw[Yz D];exact hi};rw[Ys D];rw[Q1,Zv]at T;have I:=(WH _ _).1 (T.resolve_left gs);have H:=KM I.2.2.1 I.2.2.2.1 (λj a=>⟨(o j a).2.2.1,(o j a).2.2.2⟩) (λx=>pN B x) _ (nR _);split;{exact BE fS};exact H
def ET {m:Fm}{a:Nat->Vx}{D:List Nat}{s0:Nat->Bool × Vx}(t:∀x,x∈m.F->WE m.L.length m.R.length x)(U:C3 m)(hi:∀j,j<m.F.length->O1 (a j))(b:∀j,j<m.F.length->O1 (s0 j).2)(r:Nat):∀j,j<m.F.length->O1 (xC (R7 m a) D s0 r j).2:=by induction r with|zero=>exact b|succ r q=>intro j s;show O1 (if j∈D then R7 m a (xC (R7 m a) D s0 r) j else xC (R7 m a) D s0 r j).2;split;{exact lY s t U (hi j s) q};exact q j s
def RJ (w:Tw)(n:Nat)(g:Nat->Cx)(r:Ending)(w':Tw):Prop:=∃a c,r=.returned (Sl a n c)/\yA w' a n g/\Bw w w'
def tM {w w':Tw}{c:Nat}{g:Nat->Cx}{a:To}(h1:yA w' a n g)(r:Bw w w'):RJ w n g (.returned (Sl a n c)) w':=⟨a,c,rfl,h1,r⟩
def Qz (m:Fm)(A:MA)(h ac Z:To)(ci cc cm:Nat)(H:Nat->Cx)(r:Nat->Vx)(M:Nat->Bool)(w:Tw)(aQ:m.F.length<=200)(d:∀x,x∈m.F->WE m.L.length m.R.length x)(b:C3 m)(z:∀j,j<m.F.length->O1 (r j))(u:∀j,j<m.F.length->O1 (H j).v)(J:I0 w m A)(hi:N2 w h m.F.length r)(o:yA w ac m.F.length H)(U:C8 w Z m.F.length M) :
 Calls prog 53 #[mV m A,Sl h m.F.length ci,Sl ac m.F.length cc,Sl Z m.F.length cm] w λa c=>RJ w m.F.length (LB H (xC (R7 m r) (OE m.F.length M) (cS H) (m.F.length+1))) a c:=by
 have aC:=h_ (ET (D:=OE m.F.length M) (s0:=cS H) d b z u);have aB:=h_ λ(g:Nat->Cx) (e:To) (G k:Nat) W (K:k<m.F.length) (f:∀j,j<m.F.length->O1 (g j).v) (t:wG m A e g W) (c:N2 W h m.F.length r)=>Pz m A e h G ci g r k W K aQ d b f t c;obtain⟨B,y,E,I,C,l,q,t,au⟩:=A;unfold mV at *;obtain⟨W0,i,f,O⟩:=nV w 28 (Jb B m y E I C l q t);have aF:Hi (∀W,Bw W0 W->I0 W m ⟨B,y,E,I,C,l,q,t,au⟩/\N2 W h m.F.length r/\C8 W Z m.F.length M/\m0 W w.1.size 28 (Jj B m y E I C l q t)/\Bw w W):=h_ λW c=>⟨(J.mono O).mono c,(hi.mono O).mono c,(U.mono O).mono c,f.mono c f.lt,O.trans (c.mono O.size)⟩;have g:=h_ (o.mono O);have N:=(E0 f).2.2.2;clear O f J hi o U d b z u;go_enter func53,ntmps53;go_wp2_with fail
 try rw[i]
 clear i N;go_loopw [2,9,10,11,12,13,14] (λcv b _ _ _ _ _ wr=>∃(a:Nat) (e:To) (G:Nat),a<=m.F.length+1/\cv=Sl e m.F.length G/\b=Ye a/\yA wr e m.F.length (LB H (xC (R7 m r) (OE m.F.length M) (cS H) a))/\Bw W0 wr) (λ_ b _ _ _ _ _ _=>m.F.length+1 - (intOf b).toNat)
 case atStart=>exact⟨0,ac,cc,nZ _,rfl,rfl,g,bR _ _⟩
 case round =>
 clear g;obtain⟨a,e,G,hr,rfl,rfl,b,c⟩:=hrel;obtain⟨Q,rfl⟩:∃Q,Q=wr:=⟨_,rfl⟩;obtain⟨z,f,g,P,i⟩:=aF Q c;have N:=(E0 P).2.2.2;by_cases X:a<=m.F.length
 case neg =>
  obtain rfl:a=m.F.length+1:=fP
  have az:¬ ((m.F.length+1:Nat):Int)<=(m.F.length:Int):=fP
  obtain⟨V,O⟩:=oB b i;clear b c z f g P i X;go_wp2;exact bQ (v:=Sl e m.F.length G) (tM V O)
 case pos =>
 have az:(a:Int)<=(m.F.length:Int):=fP
 obtain⟨S,u⟩:=Nq (xC (R7 m r) (OE m.F.length M) (cS H) a);obtain⟨o,T⟩:=Nq (xC (R7 m r) (OE m.F.length M) (cS H) (a+1));rw[u]at b;have ao:Hi (∀k,k<m.F.length->o k=if M k=Tt then R7 m r S k else S k):=h_ λk K=>by
  rw[<- T,<- u];show(if k∈OE m.F.length M then _ else _)=_;by_cases d:M k=Tt
  . rw[Yz d,Yz ((Ei K).2 d)]
  . rw[Ys d,Ys λJ=>d ((Ei K).1 J)]
 have aD:Hi (∀j,j<m.F.length->O1 (LB H S j).v):=h_ λj d=>by have:=aC a j d;rw[u]at this;exact this
 have aI:=h_ T;obtain⟨Bk,j⟩:∃d,Q.1.size=d:=⟨_,rfl⟩;obtain⟨W5,J⟩:=Nq (Q.alloc (Cl #[] 48));have Y:Hi (Below Bk Q W5):=h_ (by rw[<- J,<- j];exact(bR _ _).alloc (nR _) _);have an:Hi (W5.ownsRow Bk 48 6 (Sl (Sm (Aq Bk 0)) 0 0) 0 (Q9 (LB H o) 0)):=h_ (by
  rw[<- J,<- j];exact⟨rfl,.inr ⟨Q.1.size,0,#[],rfl,nR _,heap_alloc_new Q (Cl #[] 48),nR _,nZ _,rfl,rfl⟩⟩)
 have ad:Hi (∀W,Below Bk Q W->I0 W m ⟨B,y,E,I,C,l,q,t,au⟩/\N2 W h m.F.length r/\C8 W Z m.F.length M/\m0 W w.1.size 28 (Jj B m y E I C l q t)/\yA W e m.F.length (LB H S)/\Bw W0 W/\Bk<=W.1.size):=h_ λW d=>by
  rw[<- j]at d;exact⟨z.mono d,f.mono d,g.mono d,P.mono d P.lt,b.mono d,c.trans (d.mono c.size),by rw[<- j];exact d.size⟩
 obtain⟨d,ak⟩:=oB (And.intro J j) X;clear b c z f g P i u T J j X;go_wp2_with fail;rw[d.u.1,d.u.2];clear d N az;go_loopw [10,11,12,13,14] (λT d _ _ _ u=>∃(k:Nat) (j:To) (J:Nat),k<=m.F.length/\d=Ye k/\T=Sl j k J/\u.ownsRow Bk 48 6 (Sl j k J) k (Q9 (LB H o) k)/\Below Bk Q u) (λ_ d _ _ _ _=>m.F.length - (intOf d).toNat)
 case atStart=>exact⟨0,_,_,nZ _,rfl,rfl,an,Y⟩
 case round =>
 clear an Y;obtain⟨k,j,J,K,rfl,rfl,T,c⟩:=hrel;obtain⟨z,f,g,P,b,i,aU⟩:=ad wr c;have N:=(E0 P).2.2.2;by_cases d:k<m.F.length
 case neg =>
  obtain rfl:k=m.F.length:=fP
  obtain⟨V,O⟩:=oB (CR T) i;clear T c z f g P i b d;go_wp2;go_roundw
  case rel=>exact⟨a+1,j,J,Fq ak.u,rfl,fU,by rw[aI.u];exact V,O⟩
  case measure=>simp[intOf];have:=ak.u;omega
 case pos =>
 obtain⟨cb,co,rfl,-,c0,c1,c2,c3,c4,c5⟩:=b k d;obtain⟨mb,mo,rfl,-,d0⟩:=g k d;obtain⟨x,hx⟩:=Nq (LB H S k);obtain⟨O,hy⟩:=Nq (LB H o k);rw[hx]at c0 c1 c2 c3 c4 c5;obtain⟨Wc,ay⟩:=Nq (wr.alloc (Cl #[Ye x.v.k,Ye x.v.n,St x.v.s,Bo x.rel,Bo x.ok,Bo x.must] 48));obtain⟨X,hX⟩:=Nq wr.1.size;have u:=nB ay;have aw:=nJ hX ay;obtain⟨W,V,aa,Y⟩:=oD aw (XG T u) (c.trans (u.mono aU)) (Pi T (Ot hX));have aJ:Hi (Bk<=X):=h_ fP;obtain⟨HY,HX⟩:=oB hy hx;have av:=(u.cell (p:=(Aq mb (mo+k))) (by obtain⟨_,_,ae,hl,-⟩:=g k d;cases ae;exact hl)).trans d0;clear T c z f g P b i u aw hx hy d0;go_upto_if 37 with fail
 go_cut [13,14] from 37 to 49 (λ_ _ c=>m0 c X 48 (yD O)/\c.ownsRow Bk 48 6 (Sl j k J) k (Q9 (LB H o) k)/\Below Bk Q c)
 case first =>
  cases U:M k
  . have c:Hi (O=x):=h_ (by rw[<- HY.u,<- HX.u];simp only[LB,ao.u k d,U];rfl)
    rw[U]at av;go_wp2;go_meet;exact⟨by rw[c.u];exact W,V,aa⟩
  . rw[U]at av
    obtain⟨z,f,-,P,b,-,aV⟩:=ad _ aa;have g:=h_ (aB (LB H S) (Sm (Aq cb co)) G k Wc d aD ⟨z,b⟩ f);rw[show cS (LB H S)=S from rfl]at g;obtain⟨rb,aj⟩:∃c,(R7 m r S k).1=c:=⟨_,rfl⟩;obtain⟨u,hu⟩:=Nq ((R7 m r S k).2);simp only[R7]at aj hu;rw[aj,hu]at g;unfold vv at g;have aW:Hi (O=⟨u,rb,x.ok,x.must⟩):=h_ (by rw[<- HY.u,<- HX.u,<- aj,<- hu];simp only[LB,ao.u k d,U,if_true,R7]);obtain⟨x0,x1,x2,N⟩:=E0 P;go_wp2_with fail;refine cQ g λi ag=>?_;obtain⟨W7,ax⟩:=Nq (i.alloc (Cl (Jc u.k u.n u.s) 46));obtain⟨aq,aN⟩:=Nq i.1.size;have aO:Bw i W7:=(by rw[<- ax];exact(bR _ _).alloc (nR _) _);have aL:m0 W7 aq 46 (Ya u.k u.n u.s):=(by rw[<- aN,<- ax];exact m0.new i 46 (Jc u.k u.n u.s));have ah:=ag.trans (aO.mono ag.size);have c:=W.mono ah W.lt;have aM:=XG V ah;have aK:=aa.trans (ah.mono aV);have aZ:aq≠X:=(by have:=W.lt;have:=ag.size;omega);have T:=aJ.u;obtain⟨p0,p1,p2⟩:=T0 aL;have q0:=c.cell 0;have q1:=c.cell 1;have q2:=c.cell 2;have q3:=c.cell 3;have g0:=c.free 0;have g1:=c.free 1;have g2:=c.free 2;have g3:=c.free 3;simp only[Ym,Yv]at q0 q1 q2 q3;obtain⟨aE,aH,aA⟩:=oC ((((c.set 3 (Bo rb)).set 0 (Ye u.k)).set 1 (Ye u.n)).set 2 (St u.s)) (uM (uM (uM (uM aM Y 3 (Bo rb)) Y 0 (Ye u.k)) Y 1 (Ye u.n)) Y 2 (St u.s)) ((((aK.setCell (p:=Aq X 3) T (Bo rb)).setCell (p:=Aq X 0) T (Ye u.k)).setCell (p:=Aq X 1) T (Ye u.n)).setCell (p:=Aq X 2) T (St u.s));go_wp2;go_meet;exact⟨by rw[aW.u];simpa [yD] using aE.u,aH,aA⟩
 case rest =>
  obtain⟨c,hO,g⟩:=hcut;obtain⟨i0,hi,a0,a1,a2⟩:=info_parts VL;have aT:=(ad _ g).2.2.2.2.2.2;have hN:=m0.new wc 48 (yD O).toArray;have q0:=c.cell 0;have q1:=c.cell 1;have q2:=c.cell 2;have q3:=c.cell 3;have q4:=c.cell 4;have q5:=c.cell 5;simp only[yD,Ym,Yv]at q0 q1 q2 q3 q4 q5;obtain⟨V,u,HN⟩:=oC hO g hN;go_wp2_with (at_builtin;refine R5 VL V fP ?_);intro v' w3 aS aP _ _;have i:w3.ownsRow Bk 48 6 v' (k+1) (Q9 (LB H o) (k+1)):=by rw[ZL,HY.u];exact aS
  obtain⟨aX,aY,rfl⟩:=LF i;obtain⟨aG,T⟩:=oB i ((u.alloc aT (Cl (yD O).toArray 48)).grown aP fX (λq' ae=>M3 V ae));refine rQ ?_;exact⟨k+1,_,_,fP,fU,rfl,aG,T⟩
def ZE (m:Fm)(ce:Nat->Cx)(M:Nat->Bool)(j:Nat):Cx:=if M j=Tt then ⟨(ce j).v,(ce j).rel,IC m ce (A0 m j),GC m ce (A0 m j)⟩ else ce j
def q8i (m:Fm)(A:MA)(c G:To)(cc cm:Nat)(H:Nat->Cx)(M:Nat->Bool)(w:Tw)(ay:m.F.length<=200)(y:∀x,x∈m.F->WE m.L.length m.R.length x)(i:C3 m)(o:∀j,j<m.F.length->O1 (H j).v)(u:I0 w m A)(h:yA w c m.F.length H)(U:C8 w G m.F.length M) :
 Calls prog 52 #[mV m A,Sl c m.F.length cc,Sl G m.F.length cm] w λr j=>RJ w m.F.length (ZE m H M) r j:=by
 have aj:=h_ λ(k:Nat) W (hk:k<m.F.length) (t:wG m A c H W)=>Nz m A c cc H k W hk ay y i o t;obtain⟨B,E,I,J,C,q,r,t,au⟩:=A;unfold mV at *;obtain⟨a,g,f,O⟩:=nV w 28 (Jb B m E I J C q r t);obtain⟨Bk,b⟩:∃d,a.1.size=d:=⟨_,rfl⟩;obtain⟨Q,d⟩:=Nq a;obtain⟨W5,N⟩:=Nq (a.alloc (Cl #[] 48));have e:Hi (Below Bk Q W5):=h_ (by rw[<- d,<- N,<- b];exact(bR _ _).alloc (nR _) _);have Y:Hi (W5.ownsRow Bk 48 6 (Sl (Sm (Aq Bk 0)) 0 0) 0 (Q9 (ZE m H M) 0)):=h_ (by
  rw[<- N,<- b];exact⟨rfl,.inr ⟨a.1.size,0,#[],rfl,nR _,heap_alloc_new a (Cl #[] 48),nR _,nZ _,rfl,rfl⟩⟩)
 have l:Hi (∀W,Below Bk Q W->I0 W m ⟨B,E,I,J,C,q,r,t,au⟩/\True/\C8 W G m.F.length M/\m0 W w.1.size 28 (Jj B m E I J C q r t)/\yA W c m.F.length H/\Bw w W/\Bk<=W.1.size):=h_ λW S=>by
  rw[<- b,<- d]at S;exact⟨(u.mono O).mono S,trivial,(U.mono O).mono S,f.mono S f.lt,(h.mono O).mono S,O.trans (S.mono O.size),by rw[<- b];exact S.size⟩
 have j:=h_ (And.intro g (And.intro N b));clear O f u h U y i o g N b d;go_enter func52,ntmps52;go_wp2_with fail;rw[j.u.1,j.u.2.1];have b:=j.2.2;have d:a.1.size=w.1.size+1:=by rw[<- j.u.1];simp
 rw[show w.1.size+1=Bk by omega];clear j b d;go_loopw [7,8,9,10,11] (λf i _ _ _ b=>∃(k:Nat) (u:To) (d:Nat),k<=m.F.length/\i=Ye k/\f=Sl u k d/\b.ownsRow Bk 48 6 (Sl u k d) k (Q9 (ZE m H M) k)/\Below Bk Q b) (λ_ i _ _ _ _=>m.F.length - (intOf i).toNat)
 case atStart=>exact⟨0,_,_,nZ _,rfl,rfl,Y,e⟩
 case round =>
 clear Y e;obtain⟨k,u,d,hk,rfl,rfl,T,b⟩:=hrel;obtain⟨z,-,h,P,e,D,aB⟩:=l wr b;have x3:=(E0 P).2.2.2;by_cases f:k<m.F.length
 case neg =>
  obtain rfl:k=m.F.length:=fP
  have j:¬ (m.F.length:Int)<(m.F.length:Int):=fP
  obtain⟨i,g⟩:=oB (CR T) D;clear T b z h P D e f;go_wp2;exact bQ (v:=Sl u m.F.length d) (tM i g)
 case pos =>
 obtain⟨cb,co,rfl,-,c0,c1,c2,c3,c4,c5⟩:=e k f;obtain⟨mb,mo,rfl,-,W⟩:=h k f;obtain⟨x,S⟩:=Nq (H k);obtain⟨y,hy⟩:=Nq (ZE m H M k);rw[S]at c0 c1 c2 c3 c4 c5;obtain⟨Wc,N⟩:=Nq (wr.alloc (Cl #[Ye x.v.k,Ye x.v.n,St x.v.s,Bo x.rel,Bo x.ok,Bo x.must] 48));obtain⟨X,O⟩:=Nq wr.1.size;have g:=nB N;have ad:=nJ O N;obtain⟨j,V,i,Y⟩:=oD ad (XG T g) (b.trans (g.mono aB)) (Pi T (Ot O));have aq:Hi (Bk<=X):=h_ fP;obtain⟨o,Z⟩:=oB hy S;have aa:=(g.cell (p:=(Aq mb (mo+k))) (by obtain⟨_,_,K,hl,-⟩:=h k f;cases K;exact hl)).trans W;clear T b z h P e D g ad S hy W;go_upto_if 27 with fail
 try rw[O]
 try rw[N]
 go_cut [10,11] from 27 to 38 (λ_ _ b=>m0 b X 48 (yD y)/\b.ownsRow Bk 48 6 (Sl u k d) k (Q9 (ZE m H M) k)/\Below Bk Q b)
 case first =>
  cases U:M k
  . have b:Hi (y=x):=h_ (by rw[<- o.u,<- Z.u];simp[ZE,U])
    rw[U]at aa;go_wp2;go_meet;exact⟨by rw[b.u];exact j,V,i⟩
  . rw[U]at aa
    obtain⟨z,-,-,P,e,-,aC⟩:=l _ i;have W:=h_ (aj k Wc f ⟨z,e⟩);obtain⟨b,ag⟩:∃g,IC m H (A0 m k)=g:=⟨_,rfl⟩;obtain⟨D,ah⟩:∃g,GC m H (A0 m k)=g:=⟨_,rfl⟩;rw[ag,ah]at W;have aD:Hi (y=⟨x.v,x.rel,b,D⟩):=h_ (by rw[<- o.u,<- Z.u,<- ag,<- ah];simp[ZE,U]);obtain⟨x0,x1,x2,x3⟩:=E0 P;go_wp2_with fail;refine cQ W λW7 g=>?_;have S:=j.mono g j.lt;have aw:=XG V g;have av:=i.trans (g.mono aC);have ae:=aq.u;have h:=S.cell 4;have T:=S.cell 5;have g4:=S.free 4;have g5:=S.free 5;simp only[Ym,Yv]at h T;obtain⟨ak,ao,ai⟩:=oC ((S.set 4 (Bo b)).set 5 (Bo D)) (uM (uM aw Y 4 (Bo b)) Y 5 (Bo D)) ((av.setCell (p:=Aq X 4) ae (Bo b)).setCell (p:=Aq X 5) ae (Bo D));go_wp2;go_meet;exact⟨by rw[aD.u];simpa [yD] using ak.u,ao,ai⟩
 case rest =>
  obtain⟨b,hO,g⟩:=hcut;have aA:=(l _ g).2.2.2.2.2.2;have hN:=m0.new wc 48 (yD y).toArray;have q0:=b.cell 0;have q1:=b.cell 1;have q2:=b.cell 2;have q3:=b.cell 3;have h:=b.cell 4;have T:=b.cell 5;simp only[yD,Ym,Yv]at q0 q1 q2 q3 h T;obtain⟨V,S,HN⟩:=oC hO g hN;go_wp2_with (at_builtin;refine R5 VL V fP ?_);intro v' w3 az ax _ _;have D:w3.ownsRow Bk 48 6 v' (k+1) (Q9 (ZE m H M) (k+1)):=by rw[ZL,o.u];exact az
  obtain⟨aE,aF,rfl⟩:=LF D;obtain⟨an,W⟩:=oB D ((S.alloc aA (Cl (yD y).toArray 48)).grown ax fX (λq' K=>M3 V K));refine rQ ?_;exact⟨k+1,_,_,fP,fU,rfl,an,W⟩
theorem rI {u:Vx}(h:Z1 u.k u.n u.s=Tt):u=N4\/(∃n,u=T4 n)\/(∃b,u=C2 b)\/(∃s,u=RB s)\/∃c,u=C1 c:=by obtain⟨k,n,s⟩:=u;dsimp only at h;rcases XM k with rfl|rfl|rfl|rfl|rfl|⟨a,b,v,T,S⟩;{simp[Z1]at h;exact .inl (by rw[h.1,h.2];rfl)};{simp[Z1]at h;exact .inr (.inl ⟨n,by rw[h];rfl⟩)};{simp[Z1]at h;refine .inr (.inr (.inl ?_));rw[h.2];rcases h.1 with rfl|rfl;{exact⟨Ff,rfl⟩};exact⟨Tt,rfl⟩};{simp[Z1]at h;exact .inr (.inr (.inr (.inl ⟨s,by rw[h.1];rfl⟩)))};{simp[Z1]at h;exact .inr (.inr (.inr (.inr ⟨n,by rw[h.2];rfl⟩)))};simp[Z1,a,b,v,T,S]at h
theorem OY {u:Vx}(h:Z1 u.k u.n u.s=Tt)(a:u.k=1):∃n,u=T4 n:=by grind[N4,C2,RB,C1,Z1,T4,rI]
theorem VS {u:Vx}(h:Z1 u.k u.n u.s=Tt)(a:u.k=2):∃b,u=C2 b:=by grind[N4,T4,RB,C1,Z1,C2,rI]
theorem vY {u:Vx}(h:Z1 u.k u.n u.s=Tt)(a:u.k=3):∃s,u=RB s:=by grind[N4,T4,C2,C1,Z1,RB,rI]
def TI {f:Nat->Vx}{m:Nat}{k k':Int}(w:1<=m)(h:E1 f m k=Tt)(M:k≠k'):E1 f m k'=Ff:=yW (i:=0) w (by rw[WB h w];exact M)
section
variable {f:Nat->Vx} {m:Nat} {A:Bool} {R r1 r2 r3:Vx} {op:Int}
def wY (h:CD f m=Nn):∀j,j<m->¬ (f j).k=4:=by simp_all[CD]
def Ro (h:UF f m=Ff):∀j,j<m->¬ (f j).k=0:=by grind[UF]
theorem qmf (t:mE op=Ff)(d:YA op=Ff)(h:(∀j,j<m->¬ (f j).k=4)->(∀j,j<m->¬ (f j).k=0)->(if A then R else C1 1)=if E1 f m 1 then r1 else if E1 f m 3 then r3 else if E1 f m 2 then r2 else C1 1):X4 op m f A R=nE f m r1 r3 r2:=by unfold X4 nE;rw[t,d,Ys fS];cases a:CD f m with|some u=>rfl|none=>cases c:UF f m;{exact h (wY a) (Ro c)};rfl
def nO (t:mE op=Ff)(d:YA op=Ff)(h1:E1 f m 1=Tt->(if A then R else C1 1)=r1)(Z:E1 f m 3=Tt->(if A then R else C1 1)=r3)(r:E1 f m 2=Tt->(if A then R else C1 1)=r2)
 (D:E1 f m 1=Ff->E1 f m 3=Ff->E1 f m 2=Ff->A=Ff):X4 op m f A R=nE f m r1 r3 r2:=by grind[E1,mE,C1,X4,nE,qmf]
def XI (w:1<=m)(t:mE op=Ff)(d:YA op=Ff)(a:A=E1 f m 1)(h1:E1 f m 1=Tt->R=r1)(Z:r3=C1 1)(r:r2=C1 1):X4 op m f A R=nE f m r1 r3 r2 :=
 nO t d (λh=>by rw[a,h];exact h1 h) (λh=>by rw[a,TI w h fS,Z];rfl) (λh=>by rw[a,TI w h fS,r];rfl) (λh _ _=>by rw[a,h])
def xR (w:1<=m)(t:mE op=Ff)(d:YA op=Ff)(a:A=E1 f m 3)(Z:E1 f m 3=Tt->R=r3)(h1:r1=C1 1)(r:r2=C1 1):X4 op m f A R=nE f m r1 r3 r2 :=
 nO t d (λh=>by rw[a,TI w h fS,h1];rfl) (λh=>by rw[a,h];exact Z h) (λh=>by rw[a,TI w h fS,r];rfl) (λ_ h _=>by rw[a,h])
def qj9 (w:1<=m)(t:mE op=Ff)(d:YA op=Ff)(a:A=E1 f m 2)(r:E1 f m 2=Tt->R=r2)(h1:r1=C1 1)(Z:r3=C1 1):X4 op m f A R=nE f m r1 r3 r2 :=
 nO t d (λh=>by rw[a,TI w h fS,h1];rfl) (λh=>by rw[a,TI w h fS,Z];rfl) (λh=>by rw[a,h];exact r h) (λ_ _ h=>by rw[a,h])
def Nf (w:1<=m)(t:mE op=Ff)(d:YA op=Ff)(a:A=(E1 f m 1||E1 f m 3))(h1:E1 f m 1=Tt->R=r1)(Z:E1 f m 3=Tt->R=r3)(r:r2=C1 1):X4 op m f A R=nE f m r1 r3 r2 :=
 nO t d (λh=>by rw[a,h];exact h1 h) (λh=>by rw[a,h,Bool.or_true];exact Z h) (λh=>by rw[a,TI w h fS,TI (k':=3) w h fS,r];rfl) (λh W _=>by rw[a,h,W];rfl)
def JV (t:mE op=Ff)(d:YA op=Ff)(a:A=(E1 f m 1||E1 f m 2||E1 f m 3))(h1:E1 f m 1=Tt->R=r1)(Z:E1 f m 3=Tt->R=r3)(r:E1 f m 2=Tt->R=r2):X4 op m f A R=nE f m r1 r3 r2 :=
 nO t d (λh=>by rw[a,h];exact h1 h) (λh=>by rw[a,h,Bool.or_true];exact Z h) (λh=>by rw[a,h,Bool.or_true,Bool.true_or];exact r h) (λh W O=>by rw[a,h,W,O];rfl)
def GW {S:Vx}(t:mE op=Ff)(d:YA op=Tt)(h:(∀j,j<m->¬ (f j).k=4)->(if A then R else C1 1)=S):X4 op m f A R=qH f m S:=by unfold X4 qH;rw[t,d,Ys fS];cases a:CD f m with|some u=>rfl|none=>exact h (wY a)
def YW {S:Vx}(t:mE op=Tt)(d:YA op=Tt)(h:(if A then R else C1 1)=S):X4 op m f A R=S:=by grind[X4]
end
def qib {x y:Int}(u:-9223372036854775808<=x/\x<=9223372036854775807):T4 (x.tmod y)=Q4 (x + -(y*x.tdiv y)):=by have e:x + -(y*x.tdiv y)=x.tmod y:=(Fq (Int.tmod_add_mul_tdiv x y));rw[e];have h:(x.tmod y).natAbs<=x.natAbs:=(by rw[Int.natAbs_tmod];exact Nat.mod_le _ _);have P:¬ 0<=x->x.tmod y<=0:=λh=>(by have b:=Int.tmod_nonneg (a:=-x) y fP;rw[Int.neg_tmod]at b;omega);unfold Q4 qC;rw[Yz (Yo fP)]
def oP (b M:Bool):E4 (C2 b) (C2 M)=(b==M):=by grind[E4,C2]
def pP (b:Bool):E4 (C2 b) N4=Ff:=by simp[E4,C2,N4]
section
variable {f:Nat->Vx}
def Ih (t:ED f 2=Tt)(h:E1 f 2 1=Tt):E4 (f 0) (f 1)=decide ((f 0).n=(f 1).n):=by grind[E4,T4,ED,E1,OY,WB]
def Me (t:ED f 2=Tt)(h:E1 f 2 2=Tt):E4 (f 0) (f 1)=decide ((f 0).n=(f 1).n):=by grind[E4,C2,ED,E1,VS,WB]
theorem qe1 {t:Tb}:s.toList=t.toList ↔ s=t:=by rw[Zo,Zo];constructor;{exact λh=>ByteArray.ext (Array.toList_inj.1 h)};intro h;rw[h]
def Pe (t:ED f 2=Tt)(h:E1 f 2 3=Tt):E4 (f 0) (f 1)=decide ((f 0).s=(f 1).s):=by grind[E4,RB,ED,E1,vY,WB,qe1]
def Ie (h:E1 f 2 1=Tt):decide (FD (f 0) (f 1)<0)=decide ((f 0).n<(f 1).n)/\decide (FD (f 0) (f 1)<=0)=decide ((f 0).n<=(f 1).n):=by have a:¬ (f 0).k=3:=(by rw[WB h fS];decide);rw[FD,Ys a];unfold Lib.compareInt;constructor;all_goals apply decide_eq_decide.2;split;{omega};split <;> omega
def Hc (h:E1 f 2 3=Tt):decide (FD (f 0) (f 1)<0)=tl (f 0).s.data.toList (f 1).s.data.toList/\decide (FD (f 0) (f 1)<=0) = !tl (f 1).s.data.toList (f 0).s.data.toList:=by simp_all[FD,E1,uY]
end
def WM (p q r:Vx):Vx:=if p.k=2 then (if p.n=1 then q else r) else p
section
variable {f:Nat->Vx}
def st_2:X4 2 1 f (E1 f 1 1) (Q4 (-(f 0).n))=Q5 2 1 f:=XI fS rfl rfl rfl (λ_=>rfl) rfl rfl
def st_3:X4 3 1 f (E1 f 1 2) (C2 ((f 0).n==0))=Q5 3 1 f:=qj9 fS rfl rfl rfl (λ_=>by simp[R2,QJ];rfl) rfl rfl
def st_4:X4 4 2 f (E1 f 2 1) (Q4 ((f 0).n*(f 1).n))=Q5 4 2 f:=XI fS rfl rfl rfl (λ_=>rfl) rfl rfl
def st_5:X4 5 2 f (E1 f 2 1) (if (f 1).n=0 then C1 3 else Q4 ((f 0).n.tdiv (f 1).n))=Q5 5 2 f:=XI fS rfl rfl rfl (λ_=>rfl) rfl rfl
def st_6 (Q:-9223372036854775808<=(f 0).n/\(f 0).n<=9223372036854775807):X4 6 2 f (E1 f 2 1) (if (f 1).n=0 then C1 3 else T4 ((f 0).n.tmod (f 1).n))=Q5 6 2 f:=XI fS rfl rfl rfl (λ_=>by rw[qib Q];rfl) rfl rfl
def st_7:X4 7 2 f (E1 f 2 1) (Q4 ((f 0).n+(f 1).n))=Q5 7 2 f:=XI fS rfl rfl rfl (λ_=>rfl) rfl rfl
def st_8:X4 8 2 f (E1 f 2 1) (Q4 ((f 0).n - (f 1).n))=Q5 8 2 f:=XI fS rfl rfl rfl (λ_=>rfl) rfl rfl
def st_9:X4 9 2 f (E1 f 2 3) (if 1000<(f 0).s.size+(f 1).s.size then C1 4 else RB ((f 0).s++(f 1).s))=Q5 9 2 f:=xR fS rfl rfl rfl (λ_=>rfl) rfl rfl
def Tq (t:ED f 2=Tt):X4 10 2 f (E1 f 2 1||E1 f 2 2||E1 f 2 3) (C2 (E4 (f 0) (f 1)))=Q5 10 2 f:=JV rfl rfl rfl (λh=>by rw[Ih t h];rfl) (λh=>by rw[Pe t h];rfl) (λh=>by rw[Me t h];rfl)
def Wq (t:ED f 2=Tt):X4 11 2 f (E1 f 2 1||E1 f 2 2||E1 f 2 3) (C2 (!E4 (f 0) (f 1)))=Q5 11 2 f:=JV rfl rfl rfl (λh=>by rw[Ih t h,<- decide_not];rfl) (λh=>by rw[Pe t h];rfl) (λh=>by rw[Me t h];rfl)
def Xq:X4 12 2 f (E1 f 2 1||E1 f 2 3) (C2 (decide (FD (f 0) (f 1)<0)))=Q5 12 2 f:=Nf fS rfl rfl rfl (λh=>by rw[(Ie h).1];rfl) (λh=>by rw[(Hc h).1];rfl) rfl
def Ar:X4 13 2 f (E1 f 2 1||E1 f 2 3) (C2 (decide (FD (f 0) (f 1)<=0)))=Q5 13 2 f:=Nf fS rfl rfl rfl (λh=>by rw[(Ie h).2];rfl) (λh=>by rw[(Hc h).2];rfl) rfl
def Br:X4 17 2 f (E1 f 2 1) (T4 (if (f 0).n<(f 1).n then (f 0).n else (f 1).n))=Q5 17 2 f:=XI fS rfl rfl rfl (λ_=>rfl) rfl rfl
def Cr:X4 18 2 f (E1 f 2 1) (T4 (if (f 0).n<(f 1).n then (f 1).n else (f 0).n))=Q5 18 2 f:=XI fS rfl rfl rfl (λ_=>rfl) rfl rfl
def Dr:X4 20 2 f (E1 f 2 3) (C2 (Lib.contains (f 0).s.data.toList (f 1).s.data.toList))=Q5 20 2 f:=xR fS rfl rfl rfl (λ_=>by rw[My];rfl) rfl rfl
def Er:X4 21 1 f (E1 f 1 3) (T4 ((f 0).s.size:Int))=Q5 21 1 f:=xR fS rfl rfl rfl (λ_=>rfl) rfl rfl
def Fr:X4 22 1 f (E1 f 1 3) (if (rd (f 0).s.data.toList).2 then T4 (rd (f 0).s.data.toList).1 else C1 5)=Q5 22 1 f:=xR fS rfl rfl rfl (λ_=>rfl) rfl rfl
def Hr (t:ED f 1=Tt):X4 23 1 f (E1 f 1 1||E1 f 1 2||E1 f 1 3) (RB (FG (f 0).k (f 0).n (f 0).s))=Q5 23 1 f:=JV rfl rfl rfl
 (λh=>by
  obtain⟨x,u⟩:=OY (pG.1 t 0 fS) (WB h fS);simp only[R1,u];rfl)
 (λh=>by
  obtain⟨x,u⟩:=vY (pG.1 t 0 fS) (WB h fS);simp only[R3,u];rfl)
 (λh=>by
  obtain⟨x,u⟩:=VS (pG.1 t 0 fS) (WB h fS);simp only[R2,u];cases x <;> rfl)
def Ir:X4 24 1 f Tt (C2 ((f 0).k==0))=Q5 24 1 f:=GW rfl rfl λ_=>rfl
def Kr:X4 25 1 f Tt (C2 ((f 0).k==4))=Q5 25 1 f:=YW rfl rfl rfl
def Lr:X4 19 2 f Tt (if (f 0).k==0 then f 1 else f 0)=Q5 19 2 f:=YW rfl rfl (by
 show(if (f 0).k==0 then f 1 else f 0)=NJ (f 0) (f 1);unfold NJ;simp)
def Mr (t:ED f 3=Tt):X4 16 3 f ((f 0).k != 1&&(f 0).k != 3) (WM (f 0) (f 1) (f 2))=Q5 16 3 f:=YW rfl rfl (by
 show _=pH (f 0) (f 1) (f 2);rcases rI (pG.1 t 0 fS) with h|⟨n,h⟩|⟨b,h⟩|⟨s,h⟩|⟨n,h⟩
 all_goals rw[h]
 . rfl
 . rfl
 . cases b <;> rfl
 . rfl
 . rfl)
def OP (g:Nat->Bool):(List.range 2).any g=(g 0||g 1):=by grind
def Nr (c:ED f 2=Tt):X4 14 2 f (yI f 2) (IE f 2 (C2 Ff) (C2 Tt))=Q5 14 2 f:=GW rfl rfl λt=>by show _=VF (f 0) (f 1);have D:=t 0 fS;have a:=t 1 fS;rw[IE,OP,OP];show(if (Tt&&((f 0).k==2||(f 0).k==0))&&((f 1).k==2||(f 1).k==0) then _ else _)=_;rcases rI (pG.1 c 0 fS) with h|⟨n,h⟩|⟨b,h⟩|⟨s,h⟩|⟨n,h⟩;(all_goals rw[h]at D|-);(all_goals rcases rI (pG.1 c 1 fS) with W|⟨J,W⟩|⟨M,W⟩|⟨d,W⟩|⟨J,W⟩);(all_goals rw[W]at a|-);(all_goals try rw[oP]);(all_goals try rw[oP]);(all_goals try rw[pP]);(all_goals try rw[pP]);all_goals first|rfl|(exfalso;exact D rfl)|(exfalso;exact a rfl)|(cases b <;> rfl)|(cases M <;> rfl)|(cases b <;> cases M <;> rfl)
def Pr (c:ED f 2=Tt):X4 15 2 f (yI f 2) (IE f 2 (C2 Tt) (C2 Ff))=Q5 15 2 f:=GW rfl rfl λt=>by show _=ZF (f 0) (f 1);have D:=t 0 fS;have a:=t 1 fS;rw[IE,OP,OP];show(if (Tt&&((f 0).k==2||(f 0).k==0))&&((f 1).k==2||(f 1).k==0) then _ else _)=_;rcases rI (pG.1 c 0 fS) with h|⟨n,h⟩|⟨b,h⟩|⟨s,h⟩|⟨n,h⟩;(all_goals rw[h]at D|-);(all_goals rcases rI (pG.1 c 1 fS) with W|⟨J,W⟩|⟨M,W⟩|⟨d,W⟩|⟨J,W⟩);(all_goals rw[W]at a|-);(all_goals try rw[oP]);(all_goals try rw[oP]);(all_goals try rw[pP]);(all_goals try rw[pP]);all_goals first|rfl|(exfalso;exact D rfl)|(exfalso;exact a rfl)|(cases b <;> rfl)|(cases M <;> rfl)|(cases b <;> cases M <;> rfl)
end
structure qN (w:Tw)(a:To)(m:Nat)(f:Nat->Vx):Prop where
 v:N2 w a m f
 s:∀i,i<m->(f i).s.size<=9223372036854775807
 r:∀i,i<m->-9223372036854775808<=(f i).n/\(f i).n<=9223372036854775807
 ok:ED f m=Tt
 g:OA w
def qN.t {w:Tw}{a:To}{m:Nat}{f:Nat->Vx}(h:qN w a m f)(i:Nat)(hi:i<m)(b:(f i).k=3):(f i).s.size<=1000:=TO (pG.1 h.ok i hi) b
def NY {W:Tw}{a:To}{m:Nat}{f:Nat->Vx}(I:N2 W a m f)(e:2<m):∃b o,a=Sm (Aq b o)/\P2 W b o (f 0)/\P2 W b (o+3) (f 1)/\P2 W b (o+6) (f 2):=by obtain⟨b,o,rfl,D⟩:=I 0 fP;obtain⟨z,g,Z,d⟩:=I 1 fP;obtain⟨q,h,K,r⟩:=I 2 fP;simp only[Oo,Addr.mk.injEq,and_true]at Z K;obtain⟨rfl,rfl⟩:=Z;obtain⟨rfl,rfl⟩:=K;exact⟨b,o,rfl,gs,hP,by simpa using r⟩
section
variable {a:To} {c:Nat} {f:Nat->Vx} {w:Tw}
def oE (n d e m:Nat){A:Bool}{R:Vx}(h:qN w a m f)(B:X4 n m f A R=Q5 n m f)(Z:JO d)(K:JO e) (M:∀W,N2 W a m f->Gv d #[Sl a m c] W (Bo A)) (N:(mE n=Ff->∀j,j<m->¬ (f j).k=4)->(YA n=Ff->∀j,j<m->¬ (f j).k=0)->A=Tt->∀W,N2 W a m f->OA W->Gv e #[Sl a m c] W (vv R)) (j:m<=3:=by decide) (T:2<=n/\n<=25:=by exact⟨by decide,fS⟩) (t:YF[n*2]? = Sm (.func (.func d) #[] #[])/\YF[n*2+1]? = Sm (.func (.func e) #[] #[]):=by exact kV):Gv 172 (Jn n a m c) w (vv (Q5 n m f)):=by rw[<- B];exact q8y n d e a m c f A R w fP h.v T t Z K (λW b=>M W (h.v.mono b)) (λx y i W b=>N x y i W (h.v.mono b) (h.g.mono b))
def d1 {k:FuncId}{P:Ending->Tw->Prop}{W:Tw}(I:N2 W a 1 f)(h:∀b o,P2 W b o (f 0)->Calls prog k #[Sl (Sm (Aq b o)) 1 c] W P):Calls prog k #[Sl a 1 c] W P:=by obtain⟨b,o,rfl,D⟩:=RM I fS;exact h b o D
def d2 {k:FuncId}{P:Ending->Tw->Prop}{W:Tw}(I:N2 W a 2 f)(h:∀b o,P2 W b o (f 0)->P2 W b (o+3) (f 1)->Calls prog k #[Sl (Sm (Aq b o)) 2 c] W P):Calls prog k #[Sl a 2 c] W P:=by obtain⟨b,o,rfl,D,m⟩:=SX I fS;exact h b o D m
end
def q8x (op:Int)(a:To)(m c:Nat)(f:Nat->Vx)(w:Tw)(T:2<=op/\op<=25)(q:(m:Int)=opn op)(h:qN w a m f) :
 Gv 172 (Jn op a m c) w (vv (Q5 op m f)):=by
 obtain⟨n,rfl⟩:∃n:Nat,op=n:=⟨op.toNat,fP⟩;have X:∀(k j:Nat),n=k->opn k=j->m=j:=λk j e Q=>by subst e;omega
 by_cases e:n=2
 . obtain rfl:=X 2 1 e fS
   subst e;exact oE 2 239 240 1 h st_2 (Go.Proofs.enters_of func239 fR rfl) (Go.Proofs.enters_of func240 fR rfl) (λW I=>SG a 1 c f W fS I) λ_ _ _ W I H=>d1 I λb o D=>Wx b o 1 c (f 0) W fS (h.r 0 fS) D
 by_cases e:n=3
 . obtain rfl:=X 3 1 e fS
   subst e;exact oE 3 241 242 1 h st_3 (Go.Proofs.enters_of func241 fR rfl) (Go.Proofs.enters_of func242 fR rfl) (λW I=>m_ a 1 c f W fS I) λ_ _ _ W I H=>d1 I λb o D=>q6w b o 1 c (f 0) W fS D
 by_cases e:n=4
 . obtain rfl:=X 4 2 e fS
   subst e;exact oE 4 239 243 2 h st_4 (Go.Proofs.enters_of func239 fR rfl) (Go.Proofs.enters_of func243 fR rfl) (λW I=>SG a 2 c f W fS I) λ_ _ _ W I H=>d2 I λb o D d=>Wt b o 2 c (f 0) (f 1) W fS (h.r 0 fS) (h.r 1 fS) D d
 by_cases e:n=5
 . obtain rfl:=X 5 2 e fS
   subst e;exact oE 5 239 244 2 h st_5 (Go.Proofs.enters_of func239 fR rfl) (Go.Proofs.enters_of func244 fR rfl) (λW I=>SG a 2 c f W fS I) λ_ _ _ W I H=>d2 I λb o D d=>Iv b o 2 c (f 0) (f 1) W fS (h.r 0 fS) (h.r 1 fS) D d
 by_cases e:n=6
 . obtain rfl:=X 6 2 e fS
   subst e;exact oE 6 239 245 2 h (st_6 (h.r 0 fS)) (Go.Proofs.enters_of func239 fR rfl) (Go.Proofs.enters_of func245 fR rfl) (λW I=>SG a 2 c f W fS I) λ_ _ _ W I H=>d2 I λb o D d=>Qs b o 2 c (f 0) (f 1) W fS (h.r 0 fS) (h.r 1 fS) D d
 by_cases e:n=7
 . obtain rfl:=X 7 2 e fS
   subst e;exact oE 7 239 246 2 h st_7 (Go.Proofs.enters_of func239 fR rfl) (Go.Proofs.enters_of func246 fR rfl) (λW I=>SG a 2 c f W fS I) λ_ _ _ W I H=>d2 I λb o D d=>q71 b o 2 c (f 0) (f 1) W fS (h.r 0 fS) (h.r 1 fS) D d
 by_cases e:n=8
 . obtain rfl:=X 8 2 e fS
   subst e;exact oE 8 239 247 2 h st_8 (Go.Proofs.enters_of func239 fR rfl) (Go.Proofs.enters_of func247 fR rfl) (λW I=>SG a 2 c f W fS I) λ_ _ _ W I H=>d2 I λb o D d=>Au b o 2 c (f 0) (f 1) W fS (h.r 0 fS) (h.r 1 fS) D d
 by_cases e:n=9
 . obtain rfl:=X 9 2 e fS
   subst e;exact oE 9 248 249 2 h st_9 (Go.Proofs.enters_of func248 fR rfl) (Go.Proofs.enters_of func249 fR rfl) (λW I=>JL a 2 c f W fS I) λ_ _ j W I H=>d2 I λb o D d=>Ww b o 2 c (f 0) (f 1) W fS ⟨(h.t 0 fS (WB j fS)),(h.t 1 fS (WB j fS))⟩ D d
 by_cases e:n=10
 . obtain rfl:=X 10 2 e fS
   subst e;exact oE 10 250 251 2 h (Tq h.ok) (Go.Proofs.enters_of func250 fR rfl) (Go.Proofs.enters_of func251 fR rfl) (λW I=>wU a 2 c f W fS I) λ_ _ _ W I H=>d2 I λb o D d=>Iy b o 2 c (f 0) (f 1) W fS D d
 by_cases e:n=11
 . obtain rfl:=X 11 2 e fS
   subst e;exact oE 11 250 252 2 h (Wq h.ok) (Go.Proofs.enters_of func250 fR rfl) (Go.Proofs.enters_of func252 fR rfl) (λW I=>wU a 2 c f W fS I) λ_ _ _ W I H=>d2 I λb o D d=>It b o 2 c (f 0) (f 1) W fS D d
 by_cases e:n=12
 . obtain rfl:=X 12 2 e fS
   subst e;exact oE 12 253 254 2 h Xq (Go.Proofs.enters_of func253 fR rfl) (Go.Proofs.enters_of func254 fR rfl) (λW I=>CZ a 2 c f W fS I) λ_ _ _ W I H=>d2 I λb o D d=>qb0 b o 2 c (f 0) (f 1) W fS D d
 by_cases e:n=13
 . obtain rfl:=X 13 2 e fS
   subst e;exact oE 13 253 255 2 h Ar (Go.Proofs.enters_of func253 fR rfl) (Go.Proofs.enters_of func255 fR rfl) (λW I=>CZ a 2 c f W fS I) λ_ _ _ W I H=>d2 I λb o D d=>Et b o 2 c (f 0) (f 1) W fS D d
 by_cases e:n=14
 . obtain rfl:=X 14 2 e fS
   subst e;exact oE 14 256 257 2 h (Nr h.ok) (Go.Proofs.enters_of func256 fR rfl) (Go.Proofs.enters_of func257 fR rfl) (λW I=>BZ a 2 c f W fS I) λ_ _ _ W I H=>Cu a 2 c f W fS I
 by_cases e:n=15
 . obtain rfl:=X 15 2 e fS
   subst e;exact oE 15 256 258 2 h (Pr h.ok) (Go.Proofs.enters_of func256 fR rfl) (Go.Proofs.enters_of func258 fR rfl) (λW I=>BZ a 2 c f W fS I) λ_ _ _ W I H=>Sw a 2 c f W fS I
 by_cases e:n=16
 . obtain rfl:=X 16 3 e fS
   subst e;exact oE 16 259 260 3 h (Mr h.ok) (Go.Proofs.enters_of func259 fR rfl) (Go.Proofs.enters_of func260 fR rfl) (λW I=>by
    obtain⟨b,o,rfl,D,-⟩:=NY I fS;exact(Ps b o 3 c (f 0) W fS D).mono λ_ _ ⟨g,i⟩=>⟨g,by rw[i];exact bR _ _⟩) λ_ _ _ W I H=>by
    obtain⟨b,o,rfl,D,d,p⟩:=NY I fS;by_cases l:(f 0).k=2
    . obtain⟨y,k⟩:=VS (pG.1 h.ok 0 fS) l
      cases y
      . rw[show WM (f 0) (f 1) (f 2)=f 2 by rw[k];rfl]
        exact Xt b o 3 c (f 0) (f 2) W fS k D p
      . rw[show WM (f 0) (f 1) (f 2)=f 1 by rw[k];rfl]
        exact Xu b o 3 c (f 0) (f 1) W fS k D d
    . rw[show WM (f 0) (f 1) (f 2)=f 0 by rw[WM,Ys l]]
      exact Wu b o 3 c (f 0) W fS l D
 by_cases e:n=17
 . obtain rfl:=X 17 2 e fS
   subst e;exact oE 17 239 261 2 h Br (Go.Proofs.enters_of func239 fR rfl) (Go.Proofs.enters_of func261 fR rfl) (λW I=>SG a 2 c f W fS I) λ_ _ _ W I H=>d2 I λb o D d=>Aw b o 2 c (f 0) (f 1) W fS D d
 by_cases e:n=18
 . obtain rfl:=X 18 2 e fS
   subst e;exact oE 18 239 262 2 h Cr (Go.Proofs.enters_of func239 fR rfl) (Go.Proofs.enters_of func262 fR rfl) (λW I=>SG a 2 c f W fS I) λ_ _ _ W I H=>d2 I λb o D d=>Mx b o 2 c (f 0) (f 1) W fS D d
 by_cases e:n=19
 . obtain rfl:=X 19 2 e fS
   subst e;exact oE 19 263 264 2 h Lr (Go.Proofs.enters_of func263 fR rfl) (Go.Proofs.enters_of func264 fR rfl) (λW I=>(ST a 2 c W).mono λ_ _ ⟨g,i⟩=>⟨g,by rw[i];exact bR _ _⟩) λ_ _ _ W I H=>d2 I λb o D d=>Ms b o 2 c (f 0) (f 1) W fS D d
 by_cases e:n=20
 . obtain rfl:=X 20 2 e fS
   subst e;exact oE 20 248 265 2 h Dr (Go.Proofs.enters_of func248 fR rfl) (Go.Proofs.enters_of func265 fR rfl) (λW I=>JL a 2 c f W fS I) λ_ _ j W I H=>d2 I λb o D d=>Ty b o 2 c (f 0) (f 1) W fS (h.t 0 fS (WB j fS)) H.mx D d
 by_cases e:n=21
 . obtain rfl:=X 21 1 e fS
   subst e;exact oE 21 248 266 1 h Er (Go.Proofs.enters_of func248 fR rfl) (Go.Proofs.enters_of func266 fR rfl) (λW I=>JL a 1 c f W fS I) λ_ _ _ W I H=>d1 I λb o D=>Fv b o 1 c (f 0) W fS (h.s 0 fS) D
 by_cases e:n=22
 . obtain rfl:=X 22 1 e fS
   subst e;exact oE 22 248 267 1 h Fr (Go.Proofs.enters_of func248 fR rfl) (Go.Proofs.enters_of func267 fR rfl) (λW I=>JL a 1 c f W fS I) λ_ _ j W I H=>d1 I λb o D=>q99 b o 1 c (f 0) W fS (h.t 0 fS (WB j fS)) H D
 by_cases e:n=23
 . obtain rfl:=X 23 1 e fS
   subst e;exact oE 23 250 268 1 h (Hr h.ok) (Go.Proofs.enters_of func250 fR rfl) (Go.Proofs.enters_of func268 fR rfl) (λW I=>wU a 1 c f W fS I) λ_ _ _ W I H=>d1 I λb o D=>Fy b o 1 c (f 0) W fS (h.r 0 fS) H D
 by_cases e:n=24
 . obtain rfl:=X 24 1 e fS
   subst e;exact oE 24 263 269 1 h Ir (Go.Proofs.enters_of func263 fR rfl) (Go.Proofs.enters_of func269 fR rfl) (λW I=>(ST a 1 c W).mono λ_ _ ⟨g,i⟩=>⟨g,by rw[i];exact bR _ _⟩) λ_ _ _ W I H=>d1 I λb o D=>q7u b o 1 c (f 0) W fS D
 obtain rfl:n=25:=fP
 obtain rfl:=X 25 1 rfl fS;exact oE 25 263 270 1 h Kr (Go.Proofs.enters_of func263 fR rfl) (Go.Proofs.enters_of func270 fR rfl) (λW I=>(ST a 1 c W).mono λ_ _ ⟨g,i⟩=>⟨g,by rw[i];exact bR _ _⟩) λ_ _ _ W I H=>d1 I λb o D=>q7w b o 1 c (f 0) W fS D
section
variable {md:Region.Mode} {ops:Array Oper} {Q:Exit->Act->Tw->Prop} {l l':Tl} {lb lb':List Bool} {fuel B:Nat} {W0 W:Tw} {o o6 o7:Oper} {F:FuncId} {args:Ta}
def calV {z:Vx}{x y:Operand}(i:Nat)(I J:Tmp)(c:Below B W0 W)(e:B<=W.1.size)(C:I≠J)(N:∀b,Bw W b->Gv F args b (vv z)) (p:∀X A,m0 A X 46 (Ya z.k z.n z.s)->W.1.size<=X->Bw W A->Q .normal { tmps:=((l.set I (vv z)).set J (Yh X 0)).toArray,defers:=[] } A) (hi:ops[i]? = Sm o:=by exact rfl) (q:o.dst=Sm I:=by exact rfl) (S:Region.wanted o (yielded ops l.toArray)=Tt:=by rfl) (D:Region.ready md ops lb.toArray=[i,i+1]:=by kernel_rfl) (hrun:∀b,(execOp (Act.eval { tmps:=l.toArray,defers:=[] }) o).run prog b=.ok (.enter F args) b:=by intro _;exact KJ) (M:ops[i+1]? = Sm o6:=by exact rfl) (V:o6.dst=Sm J:=by exact rfl) (aa:∀v,Region.wanted o6 (yielded ops (l.set I v).toArray)=Tt:=by intro _;rfl) (ac:Region.wanted o6 (yielded ops l.toArray)=Tt:=by rfl) (Z:∀v,Region.wanted o (yielded ops (l.set J v).toArray)=Tt:=by intro _;rfl) (H:Region.ready md ops (lb.toArray.setIfInBounds i Tt)=[i+1]:=by kernel_rfl) (E:Region.ready md ops (lb.toArray.setIfInBounds (i+1) Tt)=[i]:=by kernel_rfl) (K:∀v b,(execOp (Act.eval { tmps:=(l.set I v).toArray,defers:=[] }) o6).run prog b=.ok (.value (Yh b.1.size 0)) (b.alloc (Cl Jd 46)):=by intro _ _;exact KJ) (O:∀b,(execOp (Act.eval { tmps:=l.toArray,defers:=[] }) o6).run prog b=.ok (.value (Yh b.1.size 0)) (b.alloc (Cl Jd 46)):=by intro _;exact KJ) (P:∀v b,(execOp (Act.eval { tmps:=(l.set J v).toArray,defers:=[] }) o).run prog b=.ok (.enter F args) b:=by intro _ _;exact KJ) (A:ops[i+2]? = Sm o7:=by exact rfl) (r:o7.op=.store 46 x y:=by exact rfl) (w:o7.dst=Nn:=by exact rfl) (hx:∀u v,Act.eval { tmps:=((l.set I u).set J v).toArray,defers:=[] } x=v:=by intro _ _;rfl) (hy:∀u v,Act.eval { tmps:=((l.set I u).set J v).toArray,defers:=[] } y=u:=by intro _ _;rfl) (ad:∀u v,Region.wanted o7 (yielded ops ((l.set I u).set J v).toArray)=Tt:=by intro _ _;rfl) (T:Region.ready md ops ((lb.toArray.setIfInBounds i Tt).setIfInBounds (i+1) Tt)=[i+2]:=by kernel_rfl) (U:Region.ready md ops (((lb.toArray.setIfInBounds i Tt).setIfInBounds (i+1) Tt).setIfInBounds (i+2) Tt)=[]:=by kernel_rfl):wpAnyH prog md ops Q (λj=>Below B W0 j) (fuel+3) lb.toArray { tmps:=l.toArray,defers:=[] } W:=by have h:∀X g,m0 g X 46 Jl->W.1.size<=X->Bw W g->wpAnyH prog md ops Q (λj=>Below B W0 j) (fuel+1) ((lb.toArray.setIfInBounds i Tt).setIfInBounds (i+1) Tt) { tmps:=((l.set I (vv z)).set J (Yh X 0)).toArray,defers:=[] } g:=λX g G d b=>(by have L:=PI b d (Jc z.k z.n z.s);refine q9 (a:={ tmps:=((l.set I (vv z)).set J (Yh X 0)).toArray,defers:=[] }) A (ad _ _) T w (QH (a:={ tmps:=((l.set I (vv z)).set J (Yh X 0)).toArray,defers:=[] }) 46 x y r X (Jc z.k z.n z.s) (hx _ _) (hy _ _) 46 _ G fR rfl fR) rfl (c.trans (L.mono e)) ?_;exact wpAnyH_done U (p X _ (G.row (Ya z.k z.n z.s)) d L) _);have t:=(bR W.1.size W).alloc (nR _) (Cl Jd 46);refine wpAnyH_ready D fT (zE (a:={ tmps:=l.toArray,defers:=[] }) (R:=λu g=>u=vv z/\Bw W g) I hi q S (hrun W) ((N W (bR _ _)).mono λm j ⟨f,c⟩=>⟨_,f,rfl,c⟩) ?_ (G8 (a:={ tmps:=l.toArray,defers:=[] }) J M V ac (O W) (c.trans (t.mono e)) ?_ AllReadyH.nil));{rintro u d ⟨rfl,Y⟩;have b:=Y.alloc Y.size (Cl Jd 46);refine⟨c.trans (Y.mono e),?_⟩;show wpAnyH _ _ _ _ _ _ _ { tmps:=l.toArray.setIfInBounds I (vv z),defers:=[] } _;rw[show l.toArray.setIfInBounds I (vv z)=(l.set I (vv z)).toArray from Y9 ..];refine wpAnyH_ready H fT (G8 (a:={ tmps:=(l.set I (vv z)).toArray,defers:=[] }) J M V (aa _) (K _ d) (c.trans (b.mono e)) ?_ AllReadyH.nil);have:=h d.1.size _ (m0.new d 46 Jd) Y.size b;rw[<- Y9]at this;exact this};show wpAnyH _ _ _ _ _ _ _ { tmps:=l.toArray.setIfInBounds J (Yh W.1.size 0),defers:=[] } _;rw[show l.toArray.setIfInBounds J (Yh W.1.size 0)=(l.set J (Yh W.1.size 0)).toArray from Y9 ..];refine DG (a:={ tmps:=(l.set J (Yh W.1.size 0)).toArray,defers:=[] }) (fuel:=fuel+1) (R:=λu g=>u=vv z/\Below (W.alloc (Cl Jd 46)).1.size (W.alloc (Cl Jd 46)) g) I hi q (Z _) E (P _ _) ((N _ t).mono λm j ⟨f,c⟩=>⟨_,f,rfl,c⟩) ?_;rintro u d ⟨rfl,Y⟩;have f:=m0.new W 46 Jd;have b:=t.trans (Y.mono t.size);refine⟨c.trans (b.mono e),?_⟩;have:=h W.1.size d (f.mono Y f.lt) (nR _) b;rw[List.set_comm _ _ C,<- Y9,Array.setIfInBounds_comm _ _ fP]at this;exact this
