import Derived.Test.YtdlnflnfbcaiiaaGreatDoorW39
import Derived.Deep.CutBlock
set_option linter.all false
set_option maxRecDepth 100000
set_option maxHeartbeats 0
namespace Go.Proofs.YtdlnflnfbcaiiaaGreatDoor
open Value renaming slice->Sl,string->St
open Obj renaming cells->Cl
open Option renaming none->Nn,some->Sm
open Bool renaming true->Tt,false->Ff
open Go Go.RowKit Go.Proofs.Tryz
variable {w:Tw}{n k j:Nat}{s:Tb}
def TN (w:Tw)(t:TypeId)(G:Nat):(w.alloc (Cl #[] t)).ownsRow w.1.size t G (Sl (Sm (Aq w.1.size 0)) 0 0) 0 [] :=
 ⟨fT,.inr ⟨w.1.size,0,#[],rfl,nR _,heap_alloc_new w (Cl #[] t),nR _,nZ _,fT,fT⟩⟩
def qpg (n k m:Int)(s x:Tb):prog.built 96 [(0,Ye n),(1,.agg (Jc k m s)),(2,St x)]=Sm (Jy n k m s x):=by kernel_rfl
def FY {Y:Array Oper}{rest:List Oper}{o:Oper}{a:Act}{Q:Exit->Act->Tw->Prop}(H:o.guard=Nn)(B d P:Operand)(T:o.op=.build 96 #[(0,B),(1,d),(2,P)]){n k m:Int}{x:Tb}(D:a.eval B=Ye n)(h1:a.eval d=.agg (Jc k m s))(r:a.eval P=St x)
 (h:wpList prog Y Q rest (a.put o.dst (.agg (Jy n k m s x))) w):wpList prog Y Q (o :: rest) a w :=
 TG H 96 _ T _ (by simp only[Ge,Z3,Vy,D,h1,r];exact qpg n k m s x) h
def Lm (n k m:Int)(s x:Tb):Instr.fill (λi=>Sm (i*5,5)) ((Array.range (1*5)).map ((Value.agg #[Ye 0,Ye 0,Ye 0,Yg,Yg]).cells[· % (Value.agg #[Ye 0,Ye 0,Ye 0,Yg,Yg]).cells.size]!)) [(0,.agg (Jy n k m s x))]=Sm (Jy n k m s x):=by kernel_rfl
def qkk:(prog.info? 96).map (λi=>(i.zero,i.size,i.bytes))=Sm (Sm (.agg #[Ye 0,Ye 0,Ye 0,Yg,Yg]),5,56):=by kernel_rfl
def AR {Y:Array Oper}{rest:List Oper}{o:Oper}{a:Act}{Q:Exit->Act->Tw->Prop}(H:o.guard=Nn)(y:Operand)(T:o.op=.buildSlice 54 1 #[(0,y)]){n k m:Int}{x:Tb}(u:a.eval y=.agg (Jy n k m s x)) (b:wpList prog Y Q rest (a.put o.dst (Sl (Sm (Aq w.1.size 0)) 1 1)) (w.alloc (Cl (Jy n k m s x) 96))):wpList prog Y Q (o :: rest) a w:=by obtain⟨c,C,F,h,d⟩:=info_parts qkk;refine wpList_buildSlice H _ 96 1 _ T _ c _ underlying54 C F gG gG ?_ b;rw[h];simp only[Ge,Z3,Vy,u];exact Lm n k m s x
def Mm (x y:Int):Instr.fill (λi=>Sm (i*2,2)) ((Array.range (1*2)).map ((Value.agg J3).cells[· % (Value.agg J3).cells.size]!)) [(0,.agg (Js x y))]=Sm (Js x y):=by kernel_rfl
def BR {Y:Array Oper}{rest:List Oper}{o:Oper}{a:Act}{Q:Exit->Act->Tw->Prop}(H:o.guard=Nn)(z:Operand)(T:o.op=.buildSlice 24 1 #[(0,z)]){x y:Int}(u:a.eval z=.agg (Js x y)) (b:wpList prog Y Q rest (a.put o.dst (Sl (Sm (Aq w.1.size 0)) 1 1)) (w.alloc (Cl (Js x y) 101))):wpList prog Y Q (o :: rest) a w:=by obtain⟨k,C,F,h,c⟩:=info_parts MW;refine wpList_buildSlice H _ 101 1 _ T _ k _ underlying24 C F gG gG ?_ b;rw[h];simp only[Ge,Z3,Vy,u];exact Mm x y
def Nm (x:Tb)(y:Int):Instr.fill (λi=>Sm (i*2,2)) ((Array.range (1*2)).map ((Value.agg #[Yg,Ye 0]).cells[· % (Value.agg #[Yg,Ye 0]).cells.size]!)) [(0,.agg #[St x,Ye y])]=Sm #[St x,Ye y]:=by kernel_rfl
def qpd {Y:Array Oper}{rest:List Oper}{o:Oper}{a:Act}{Q:Exit->Act->Tw->Prop}(H:o.guard=Nn)(z:Operand)(T:o.op=.buildSlice 25 1 #[(0,z)]){x:Tb}{y:Int}(u:a.eval z=.agg #[St x,Ye y]) (b:wpList prog Y Q rest (a.put o.dst (Sl (Sm (Aq w.1.size 0)) 1 1)) (w.alloc (Cl #[St x,Ye y] 50))):wpList prog Y Q (o :: rest) a w:=by obtain⟨k,C,F,h,c⟩:=info_parts NW;refine wpList_buildSlice H _ 50 1 _ T _ k _ underlying25 C F gG gG ?_ b;rw[h];simp only[Ge,Z3,Vy,u];exact Nm x y
def Pm {l:List Int}:∀u,u∈iV l->u.oneCell'=Tt:=λu u=>by obtain⟨y,-,h⟩:=Og.1 u;obtain rfl:=Y7.1 h;rfl
def Qm {l:List (Int × Int)}:∀u,u∈pV l->u.oneCell'=Tt:=λu u=>by obtain⟨y,-,h⟩:=Og.1 u;rcases Vf.1 h with rfl|h;{rfl};obtain rfl:=Y7.1 h;rfl
def Rm {l:List Rl}:∀u,u∈rV' l->u.oneCell'=Tt:=λu u=>by obtain⟨y,-,h⟩:=Og.1 u;rcases Vf.1 h with rfl|h;{rfl};obtain rfl:=Y7.1 h;rfl
def qd8 {H:Type}(l:List H)(s:j<l.length)(h1:1<=j):(l.take (j+1)).drop 1=(l.take j).drop 1++[l[j]]:=by rw[Oq,Yp s,List.drop_append_of_le_length (by rw[Za];omega)];rfl
def qd7 {H:Type}(x:H)(l:List H)(s:j<l.length):x :: l.take (j+1)=(x :: l.take j)++[l[j]]:=by rw[Oq,Yp s];rfl
def Rf {base g c:Nat}{P:List (Fl × FA)}(h:w.ownsRow base 56 9 (Sl (Sm (Aq g 0)) n c) P.length (P6 P))(a:k<P.length):w.cell? (Aq g (k*9))=Sm (St P[k].1.nm):=by obtain⟨N,o,e,-,J⟩:=C9 h;cases e;obtain⟨b,Q,-,-,r⟩:=J fP;cases Q;have:=r (k*9+0) fP;unfold P6 at this;rw[mO (f:=λx:Fl × FA=>L1 x.1 x.2) (s:=9) (p:=0) (λ_=>rfl) a fP]at this;exact this
variable {p:Prop}
def kF(h:p:=by subst e;go_wp2;go_meet;exact⟨A,d.u⟩):p:=h
def kG(h:p:=by go_wp2;go_meet;exact⟨_,C⟩):p:=h
def kH(h:p:=by go_wp2;go_meet;exact⟨A,C⟩):p:=h
def kI(h:p:=by go_wp2;go_meet;exact⟨congrArg Value.bool (by rw[<- aZ.u];exact(Yl fP).symm),rfl⟩):p:=h
def kJ(h:p:=by go_wp2;go_meet;exact⟨congrArg Value.bool (by rw[<- a7.u];rfl),rfl⟩):p:=h
def kK(h:p:=by first|exact Ci bn|(simp[intOf];omega)):p:=h
def qhs (aR:Nat)(f:Nat->Nat)(aX:aR<=1048576)(q:Nat)(hq:q<=200000)(m:Fm)(N U E n:Nat)(hN:m.L.length=N)(dt:N<=100)(aY:m.P.length=U)(dC:U<=200)(bL:m.R.length=E)(dD:E<=1000)(hn:m.F.length=n)(aF:n<=100)(dw:0<n)(Y:∀x,x∈m.F->x.bys.length<=1000)
 (y k x:Nat) (G:N0 aR f q 20=y) (C:N0 aR f (q+1) n=k) (I:N0 aR f (q+2) n=x) (w:Tw) (a:To) (c:Nat) (M:O7 w a aR f) (base:Nat) (cc:base<=w.1.size) (v1 v2 v3 v4:Value) (P:List (Fl × FA)) (j:T3 w base v1 v2 v3 v4 m P) :
 Calls prog 18 #[Sl a aR c,Ye q,.agg #[v1,v2,v3,v4]] w λe l=>∃J o g Z P',e=.returned (.agg #[J,o,g,Z])/\T3 l base J o g Z { m with F:=m.F.set k (EO y k N (m.F.getD x qA).nm (m.F.getD k qA)),P:=rJ y N m.P,R:=sJ y m.R } P'/\Bw w l:=by
 have dK:y<20:=by rw[<- G];exact m8 aX fP fP fP
 have du:k<n:=by rw[<- C];exact m8 aX fP fP fP
 have dL:x<n:=by rw[<- I];exact m8 aX fP fP fP
 obtain⟨t,c1,e1,-⟩:=C9 j.l;obtain⟨J,c2,e2,-⟩:=C9 j.p;obtain⟨z,c3,e3,-⟩:=C9 j.r;obtain⟨O,c4,e4,-⟩:=C9 j.f.row;have aE:P.length=n:=by rw[<- hn,j.e,Zc]
 rw[hN]at e1;rw[aY]at e2;rw[bL]at e3;rw[aE]at e4;subst e1 e2 e3 e4;have cl:Hi (∀H,H∈P->H.1.bys.length<=1000):=h_ λH X=>Y H.1 (by rw[j.e];exact List.mem_map_of_mem X);have Q:m.F.getD k qA=(P[k]).1:=by rw[j.e,<- oR,Yr,Yp fP];rfl
 have T:m.F.getD x qA=(P[x]).1:=by rw[j.e,<- oR,Yr,Yp fP];rfl
 rw[Q,T];obtain⟨F,hF⟩:=Nq w.1.size;have bP:Hi (∀W,Below F w W->O7 W a aR f):=h_ λW D=>M.mono (by rw[Bw,hF];exact D);have bS:Hi (∀W,Below F w W->T3 W base (Sl t N c1) (Sl J U c2) (Sl z E c3) (Sl O n c4) m P):=h_ λW D=>j.mono (by rw[Bw,hF];exact D);have ct:=h_ j;have d:=(m0.new w 28 (Jo t N c1 J U c2 z E c3 O n c4)).alloc (Cl Ji 28);have g:=m0.new (w.alloc (Cl (Jo t N c1 J U c2 z E c3 O n c4) 28)) 28 Ji;have r:Bw w ((w.alloc (Cl (Jo t N c1 J U c2 z E c3 O n c4) 28)).alloc (Cl Ji 28)):=((bR w.1.size w).alloc (nR _) _).alloc fT _;rw[Y4]at g;obtain⟨W0,B⟩:=Nq ((w.alloc (Cl (Jo t N c1 J U c2 z E c3 O n c4) 28)).alloc (Cl Ji 28));rw[B]at d g r;unfold Bw at r|-;rw[hF]at d g r cc|-;obtain⟨o,bC,K,HF⟩:=oD d g r hF;obtain⟨S,s,A⟩:=oC G C I;obtain⟨p1,V⟩:=Nq (q+1);obtain⟨p2,Z⟩:=Nq (q+2);rw[V]at s;rw[Z]at A;have e1:(q:Int)+1=(p1:Int):=fP
 have e2:(p1:Int)+1=(p2:Int):=fP
 have dE:p2<=200002:=fP
 have dx:((n:Int)==0)=Ff:=Yk.2 fP;have dy:¬ (n:Int)=0:=fP
 clear j M G C I d g r Y V Z Q T;obtain⟨y0,y1,y2,y3⟩:=E0 o;go_enter func18,ntmps18;go_wp2_with fail
 try rw[B]
 refine cQ (L5 (p:=q) (n:=20) aX fP fP fP c (bP W0 K) rfl rfl) λl M=>?_;rw[M,S.u];clear M l;go_wp2_with fail;refine cQ (L5 (p:=p1) (n:=n) aX fP fP fP c (bP W0 K) rfl rfl) λl M=>?_;rw[M,s.u];clear M l;go_wp2_with fail;refine cQ (L5 (p:=p2) (n:=n) aX fP fP fP c (bP W0 K) rfl rfl) λl M=>?_;rw[M,A.u];clear M l;have al:=(bR W0.1.size W0).alloc (nR _) (Cl #[] 56);have cV:F<=W0.1.size:=Oh o.lt;have I:Hi ((W0.alloc (Cl #[] 56)).ownsRow F 56 9 (Sl (Sm (Aq W0.1.size 0)) 0 0) (P.take 0).length (P6 (P.take 0))):=h_ (VB (TN W0 56 9) cV);have Q:=h_ (o.mono al o.lt);have aB:=mB bC al;have ap:=h_ (K.trans (al.mono cV));obtain⟨W1,j⟩:=Nq (W0.alloc (Cl #[] 56));obtain⟨z0,am⟩:=Nq W0.1.size;rw[j]at I Q aB ap;rw[am]at I;clear al o bC K y0 y1 y2 y3 S s A
 go_upto_block 0 with fail
 try rw[j]
 try rw[am]
 clear j am B;go_cut [10] from 18 (λak o=>∃r B,ak=(Sl (Sm (Aq r 0)) n B)/\o.ownsRow F 56 9 (Sl (Sm (Aq r 0)) n B) P.length (P6 P)/\m0 o F 28 [Sl t N c1,Sl J U c2,Sl z E c3,Sl O n c4]/\m0 o (F+1) 28 J2/\Below F w o)
 case first =>
  as_aux_lemma =>
  go_wp2;go_loopw [10,11] (λak i wr=>∃j:Nat,j<=n/\i=Ye j/\wr.ownsRow F 56 9 ak (P.take j).length (P6 (P.take j))/\m0 wr F 28 [Sl t N c1,Sl J U c2,Sl z E c3,Sl O n c4]/\m0 wr (F+1) 28 J2/\Below F w wr) (λ_ i _=>n - (intOf i).toNat)
  case atStart=>exact⟨0,nZ _,rfl,I,Q,aB,ap⟩
  case round =>
   clear I Q aB ap;obtain⟨j,hj,rfl,T,d,g,D⟩:=hrel;obtain⟨y0,y1,y2,y3⟩:=E0 d;by_cases bn:j<n
   . have bo:(j:Int)<(n:Int):=fP
     have V:j<P.length:=fP;have S:YB wr base (Sl O P.length c4) P:=(by rw[aE];exact(bS wr D).f);obtain⟨b1,o1,e4,G,-⟩:=qM S j (by rw[Zc];exact V);obtain⟨⟨u,A⟩,s⟩:∃x,P[j]=x:=⟨_,rfl⟩;rw[Oa,mM V,s]at G;have aC:=h_ G.rng;clear G;have bg:Hi (P.take (j+1)=P.take j++[(u,A)]):=h_ (by rw[Oq,Yp V,s];rfl);subst e4;have l:=(bR wr.1.size wr).alloc (nR _) (Cl (Ja u A.b A.bc A.i A.ic A.h A.hc A.v A.vc A.u A.uc) 56);have C:Hi (m0 _ _ 56 (Jm u A.b A.bc A.i A.ic A.h A.hc A.v A.vc A.u A.uc)):=h_ (m0.new wr 56 (Ja u A.b A.bc A.i A.ic A.h A.hc A.v A.vc A.u A.uc));have aq:=h_ (BA T l);have aG:F<=wr.1.size:=Oh d.lt;have Y:=h_ (d.mono l d.lt);have Z:=h_ (g.mono l g.lt);have ah:=h_ (D.trans (l.mono aG));have ax:F<=(wr.alloc (Cl (Ja u A.b A.bc A.i A.ic A.h A.hc A.v A.vc A.u A.uc) 56)).1.size:=Yu aG l.size;have cO:(P.take j).length<=1000:=(by rw[Za];omega);clear l T d g D S s;go_wp2_with (first|(at_builtin;refine WN (n:=(u,A)) rfl _ _ rfl rfl aq rfl C fP ax ?_)|refine wpList_load_mid rfl 56 (.tmp 59) rfl b1 (o1+j*9) rfl (L1 u A) _ aC underlying56 rfl fR ?_|refine zW rfl (.tmp 60) rfl rfl ?_);intro v' W4 K ad ac;have c0:=h_ (Y.grow aq fS ad);have de:=h_ (Z.grow aq fS ad);have a5:=h_ (ah.trans ac);have cP:(P.take (j+1)).length=j+1:=(by rw[Za,Gl fP]);have aa:W4.ownsRow F 56 9 v' (P.take (j+1)).length (P6 (P.take (j+1))):=(by rw[<- bg.u]at K;first|exact K|(rw[cP];exact K));have be:=h_ aa;clear aa cP;clear K ad ac C aq Y Z ah ax y0 y1 y2 y3 aC;go_wp2;go_roundw
     case rel=>exact⟨j+1,fP,fU,be,c0,de,a5⟩
     case measure=>exact kK
   . have bo:¬ (j:Int)<(n:Int):=fP
     obtain rfl:j=n:=fP;rw[show P.take j=P by rw[<- aE,Zz]]at T;obtain⟨g',c',e',-,V⟩:=C9 T;obtain⟨r,eg,-,-,-⟩:=V fP;rw[aE]at e';subst e' eg;obtain⟨dd,c8,aL,Y⟩:=oD T d g D;clear T d g D V;go_wp2;go_meet;exact⟨_,_,rfl,dd,c8,aL,Y⟩
 case rest =>
 as_aux_lemma =>
 obtain⟨r,B,rfl,T,d,g,D⟩:=hcut;clear I Q aB ap;have aW:k<P.length:=fP
 have cY:x<P.length:=fP
 have ch:=bS wc D;have S:YB wc base (Sl (Sm (Aq r 0)) P.length B) P:=⟨VB (by rw[<- aE]at T;exact T) cc,λH X=>ch.f.sub H X⟩;obtain⟨b1,o1,e4,G,-⟩:=qM S k (by rw[Zc];exact aW);cases e4;obtain⟨⟨u,A⟩,s⟩:∃x,P[k]=x:=⟨_,rfl⟩;rw[Oa,mM aW,s,Zk]at G;have aC:=h_ G.rng;have cJ:S6 wc base u A:=by have:=ch.f.sub P[k] (Yq aW);rw[s]at this;exact this
 have cX:u.bys.length<=1000:=by have:=cl P[k] (Yq aW);rw[s]at this;exact this
 obtain⟨nx,cg⟩:=Nq ((P[x]).1.nm);have cs:=h_ cg;have dg:Hi ((P[k]).1=u):=h_ (by rw[s]);have ci:=m0.new wc 56 Jh;have cB:=h_ ci;have l:=below_setRow ((bR wc.1.size wc).alloc (nR _) (Cl Jh 56)) (nR _) (L1 u A).toArray;have V:=ci.row (L1 u A);have bO:((wc.alloc (Cl Jh 56)).setRow wc.1.size (L1 u A).toArray).1.size=wc.1.size+1:=by simp[World.setRow]
 obtain⟨W2,ca⟩:=Nq ((wc.alloc (Cl Jh 56)).setRow wc.1.size (L1 u A).toArray);rw[ca]at l V bO;have zx:W2.cell? (Aq r (x*9))=Sm (St nx):=by rw[<- cg];exact Rf (BA T l) cY
 have bJ:=(bR W2.1.size W2).alloc (nR _) (Cl #[Ye 1,Ye 0,Ye 0,Yg,St nx] 96);have aw:A5 _ _ _ _:=A5.lone W2 (F9 nx);have av:=l.trans (bJ.mono l.size);have dH:=d.lt;have dI:=g.lt;have dj:r<wc.1.size:=by have:=TE T (q:=r) rfl;exact this
 obtain⟨I,H⟩:=Nq (W2.alloc (Cl #[Ye 1,Ye 0,Ye 0,Yg,St nx] 96));have cE:W2.alloc (Cl (Jy (F9 nx).op (F9 nx).v.k (F9 nx).v.n (F9 nx).v.s (F9 nx).nm) 96)=I:=H;rw[cE]at aw;rw[H]at bJ av;rw[bO]at aw;obtain⟨X,Y⟩:=Nq wc.1.size;have Q:Hi (qB (Sl t N c1) (Sl J U c2) (Sl z E c3) (Sl O n c4) (Sl (Sm (Aq r 0)) n B) P base F X (X+1) nx u A w I):=h_ ⟨d.mono av d.lt,g.mono av g.lt,BA T av,by rw[<- Y];exact V.mono bJ V.lt,cJ.mono av,by rw[<- Y];exact aw.low fP,D.trans (av.mono fP),λe=>by have e':Sm r=Sm X:=e;cases e';omega,fP⟩;obtain⟨cz,cy,cA⟩:=oC H ca Y;clear l bJ V aw av cJ ch S T d g D s cg H cE ca Y ci G;have dv:(k:Int)<(n:Int):=fP
 have dM:(x:Int)<(n:Int):=fP
 go_upto_region 13 with (first|refine wpList_load_mid rfl 56 (.tmp 65) rfl r (k*9) rfl (L1 u A) _ aC underlying56 rfl fR ?_|refine wpList_store_row rfl 56 (.tmp 12) (.tmp 66) rfl wc.1.size (L1 u A).toArray rfl rfl 56 _ cB fR rfl gA ?_)
 rw[cy.u];go_upto_region 14 with (first|refine TG rfl 46 #[] rfl Jd fR ?_|refine FY rfl (.const (Ye 1)) (.tmp 67) (.tmp 72) rfl rfl rfl rfl ?_|refine AR rfl (.tmp 73) rfl rfl ?_)
 rw[cz.u]
 try rw[bO]
 try rw[cA.u]
 clear cy cz cB aC zx dj;obtain⟨rd,d⟩:=Nq (X+1);rw[d]at Q|-;clear d bO cA;obtain⟨W,H⟩:=Nq I;rw[H]at Q|-;clear H I;obtain⟨g1,d⟩:∃I,AO y nx u=I:=⟨_,rfl⟩;have a8:=h_ d;clear d;have dn:g1.bys.length<=1000:=by rw[<- a8.u];unfold AO;split <;> exact cX
 go_upto_if 76 with fail
 go_cut [] from 18 (λo=>∃A,qB (Sl t N c1) (Sl J U c2) (Sl z E c3) (Sl O n c4) (Sl (Sm (Aq r 0)) n B) P base F X rd nx g1 A w o)
 case first =>
  as_aux_lemma =>
  have d:=Q;clear Q;by_cases g:y=0
  . subst g
    rw[show((0:Nat):Int)=0 from rfl];have e:g1 = { u with nm:=nx }:=(by rw[<- a8.u];exact Yz rfl);subst e;have zx:=Rf d.u.out cY;rw[show(P[x]).1.nm=nx from cs.u]at zx;have Y:=d.u.bx.cell 0;have qf:=d.u.bx.free 0;rw[show(L1 u A)[0]? = Sm (St u.nm) from rfl]at Y;have C:=h_ (d.u.put (g':={ u with nm:=nx }) (A':=A) 0 (St nx) rfl ⟨d.u.ow.b,d.u.ow.i,d.u.ow.h,d.u.ow.v,d.u.ow.u⟩);clear d;exact kH
  . have M:((y:Int)==0)=Ff:=Yk.2 fP
    have e:g1=u:=(by rw[<- a8.u];exact Ys g);exact kF
 case rest =>
 as_aux_lemma =>
 clear Q A W;obtain⟨A,G⟩:=hcut;have s:=h_ G;clear G;obtain⟨W,H⟩:=Nq wc;rw[H]at s|-;clear H wc;obtain⟨g2,Q⟩:∃I,BO y g1=I:=⟨_,rfl⟩;have a9:=h_ Q;clear Q;have dp:g2.bys.length<=1000:=by rw[<- a9.u];unfold BO;split <;> exact dn
 go_upto_if 84 with fail
 go_cut [] from 18 (λo=>∃A,qB (Sl t N c1) (Sl J U c2) (Sl z E c3) (Sl O n c4) (Sl (Sm (Aq r 0)) n B) P base F X rd nx g2 A w o)
 case first =>
  as_aux_lemma =>
  have d:=s;clear s;by_cases g:y=1
  . subst g
    rw[show((1:Nat):Int)=1 from rfl];have e:g2 = { g1 with nm:=tP }:=(by rw[<- a9.u];exact Yz rfl);subst e;have Y:=d.u.bx.cell 0;have qf:=d.u.bx.free 0;rw[show(L1 g1 A)[0]? = Sm (St g1.nm) from rfl]at Y;have C:=h_ (d.u.put (g':={ g1 with nm:=tP }) (A':=A) 0 (St ⟨#[109,117,115,116]⟩) rfl ⟨d.u.ow.b,d.u.ow.i,d.u.ow.h,d.u.ow.v,d.u.ow.u⟩);clear d;exact kH
  . have M:((y:Int)==1)=Ff:=Yk.2 fP
    have e:g2=g1:=(by rw[<- a9.u];exact Ys g);exact kF
 case rest =>
 as_aux_lemma =>
 clear s A W;obtain⟨A,G⟩:=hcut;have ae:=h_ G;clear G;obtain⟨W,H⟩:=Nq wc;rw[H]at ae|-;clear H wc;obtain⟨g3,Q⟩:∃I,CO y N g2=I:=⟨_,rfl⟩;have ba:=h_ Q;clear Q;have dq:g3.bys.length<=1000:=by rw[<- ba.u];unfold CO;split <;> exact dp
 go_upto_if 87 with fail
 go_cut [] from 18 (λo=>∃A,qB (Sl t N c1) (Sl J U c2) (Sl z E c3) (Sl O n c4) (Sl (Sm (Aq r 0)) n B) P base F X rd nx g3 A w o)
 case first =>
  as_aux_lemma =>
  have d:=ae;clear ae;by_cases g:y=2
  . subst g
    rw[show((2:Nat):Int)=2 from rfl];have e:g3 = { g2 with lb:=(N:Int) }:=(by rw[<- ba.u];exact Yz rfl);subst e;have Y:=d.u.bx.cell 2;have qf:=d.u.bx.free 2;rw[show(L1 g2 A)[2]? = Sm (Ye g2.lb) from rfl]at Y;obtain⟨y0,-⟩:=E0 d.u.fb;have C:=h_ (d.u.put (g':={ g2 with lb:=(N:Int) }) (A':=A) 2 (Ye N) rfl ⟨d.u.ow.b,d.u.ow.i,d.u.ow.h,d.u.ow.v,d.u.ow.u⟩);clear d;exact kH
  . have M:((y:Int)==2)=Ff:=Yk.2 fP
    have e:g3=g2:=(by rw[<- ba.u];exact Ys g);exact kF
 case rest =>
 as_aux_lemma =>
 clear ae A W;obtain⟨A,G⟩:=hcut;have aD:=h_ G;clear G;obtain⟨W,H⟩:=Nq wc;rw[H]at aD|-;clear H wc;obtain⟨S,ad⟩:∃I,DO y k g3=I:=⟨_,rfl⟩;have bb:=h_ ad;clear ad;have dJ:S.bys.length<=1000:=by rw[<- bb.u];unfold DO;split <;> exact dq
 go_upto_if 93 with fail
 go_cut [] from 18 (λo=>∃A,qB (Sl t N c1) (Sl J U c2) (Sl z E c3) (Sl O n c4) (Sl (Sm (Aq r 0)) n B) P base F X rd nx S A w o)
 case first =>
  as_aux_lemma =>
  have d:=aD;clear aD;by_cases g:y=3
  . subst g
    rw[show((3:Nat):Int)=3 from rfl];obtain⟨Q,V⟩:=Nq (k % 2);have dl:(k:Int) % 2=(Q:Int):=fP;have dF:(k:Int).tmod 2=(Q:Int):=(by rw[show(k:Int).tmod 2=(k:Int) % 2 from rfl];exact dl);have dG:Q<2:=fP;have e:S = { g3 with ty:=4 - ((Q:Int)*4) }:=(by rw[<- bb.u,<- V];exact Yz rfl);subst e;have Y:=d.u.bx.cell 1;have qf:=d.u.bx.free 1;rw[show(L1 g3 A)[1]? = Sm (Ye g3.ty) from rfl]at Y;have C:=h_ (d.u.put (g':={ g3 with ty:=4 - ((Q:Int)*4) }) (A':=A) 1 (Ye (4 - ((Q:Int)*4))) rfl ⟨d.u.ow.b,d.u.ow.i,d.u.ow.h,d.u.ow.v,d.u.ow.u⟩);clear d V;exact kH
  . have M:((y:Int)==3)=Ff:=Yk.2 fP
    have e:S=g3:=(by rw[<- bb.u];exact Ys g);exact kF
 case rest =>
 as_aux_lemma =>
 clear aD A W;obtain⟨A,G⟩:=hcut;have bD:=h_ G;clear G;obtain⟨W,H⟩:=Nq wc;rw[H]at bD|-;clear H wc;obtain⟨g5,Q⟩:∃I,oS y S=I:=⟨_,rfl⟩;have bu:=h_ Q;clear Q;go_upto_if 100 with fail
 go_cut [] from 18 (λo=>∃A,qB (Sl t N c1) (Sl J U c2) (Sl z E c3) (Sl O n c4) (Sl (Sm (Aq r 0)) n B) P base F X rd nx g5 A w o)
 case first =>
  as_aux_lemma =>
  have d:=bD;clear bD;by_cases g:y=4
  . subst g
    rw[show((4:Nat):Int)=4 from rfl];have e:g5 = { S with bys:=[0,0]++S.bys }:=(by rw[<- bu.u];exact Yz rfl);subst e;have Y:=d.u.bx.cell 3;have qf:=d.u.bx.free 3;rw[show(L1 S A)[3]? = Sm (Sl A.b S.bys.length A.bc) from rfl]at Y;have l:=(bR W.1.size W).alloc (nR _) (Cl J3 3);have Z:Hi ((W.alloc (Cl J3 3)).ownsRow W.1.size 3 1 (Sl (Sm (Aq W.1.size 0)) 2 2) 2 (iV [0,0])):=h_ ⟨rfl,.inr ⟨W.1.size,2,_,rfl,nR _,heap_alloc_new W (Cl J3 3),nR _,by unfold maxLen;omega,rfl,rfl⟩⟩;have s:=h_ (d.u.mono l);have q1:=s.bx.cell 3;rw[show(L1 S A)[3]? = Sm (Sl A.b S.bys.length A.bc) from rfl]at q1;have aH:W.1.size<=(W.alloc (Cl J3 3)).1.size:=l.size;obtain⟨i0,hi,am,aI,aJ⟩:=info_parts Uh;have HH:=h_ l;clear l;go_wp2_with (at_builtin;refine OU rfl _ _ 35 3 i0 _ 1 8 rfl underlying35 hi am aI aJ rfl fP rfl Z rfl s.ow.b Pm fP fP aH ?_);intro v' W4 K ad ac;have cH:=HH.trans ac;have V:=d.u.mono cH;obtain⟨b5,Q,rfl,-,-⟩:=C9 K;have cU:IB W4 base (Sl b5 ([0,0]++S.bys).length Q) ([0,0]++S.bys):=by
     have h:=VB K (show base<=W.1.size from Fq d.u.fb.lt);unfold IB;rw[Yn,show iV ([0,0]++S.bys)=iV [0,0]++iV S.bys by unfold iV;rw[Vb]];exact h
    have b0:=V.put (g':={ S with bys:=[0,0]++S.bys }) (A':={ A with b:=b5,bc:=Q }) 3 (Sl b5 ([0,0]++S.bys).length Q) rfl ⟨cU,V.ow.i,V.ow.h,V.ow.v,V.ow.u⟩;rw[Yn]at b0;have C:=h_ b0;have q2:=V.bx.cell 3;have dN:=V.bx.free 3;rw[show(L1 S A)[3]? = Sm (Sl A.b S.bys.length A.bc) from rfl]at q2;clear d s Z HH aH K ad ac cH V cU b0 hi am aI aJ Y qf q1;exact kG
  . have M:((y:Int)==4)=Ff:=Yk.2 fP
    have e:g5=S:=(by rw[<- bu.u];exact Ys g);exact kF
 case rest =>
 as_aux_lemma =>
 clear bD A W;obtain⟨A,G⟩:=hcut;have V:=h_ G;clear G;obtain⟨W,H⟩:=Nq wc;rw[H]at V|-;clear H wc;obtain⟨g6,s⟩:∃I,pS y g5=I:=⟨_,rfl⟩;have bv:=h_ s;clear s;go_upto_if 107 with fail
 go_cut [] from 18 (λo=>∃A,qB (Sl t N c1) (Sl J U c2) (Sl z E c3) (Sl O n c4) (Sl (Sm (Aq r 0)) n B) P base F X rd nx g6 A w o)
 case first =>
  as_aux_lemma =>
  have d:=V;clear V;by_cases g:y=5
  . subst g
    rw[show((5:Nat):Int)=5 from rfl];have e:g6 = { g5 with sy:=VK,va:=[] }:=(by rw[<- bv.u];exact Yz rfl);subst e;have h7:=d.u.put (g':={ g5 with sy:=VK }) (A':=A) 7 (St ⟨#[110,111,32,114,117,108,101]⟩) rfl ⟨d.u.ow.b,d.u.ow.i,d.u.ow.h,d.u.ow.v,d.u.ow.u⟩;have q7:=d.u.bx.cell 7;have f7:=d.u.bx.free 7;rw[show(L1 g5 A)[7]? = Sm (St g5.sy) from rfl]at q7;obtain⟨s,b7⟩:=Nq (W.setCell (Aq X 7) (St ⟨#[110,111,32,114,117,108,101]⟩));rw[b7]at h7;have l:=(bR s.1.size s).alloc (nR _) (Cl #[] 96);have Z:=h7.mono l;have af:=TN s 96 5;have dm:base<=s.1.size:=(Fq h7.fb.lt);have hN:=Z.put (g':={ g5 with sy:=VK,va:=[] }) (A':={ A with v:=Sm ⟨s.1.size,0,Nn⟩,vc:=0 }) 6 (Sl (Sm (Aq s.1.size 0)) 0 0) rfl ⟨Z.ow.b,Z.ow.i,Z.ow.h,VB af dm,Z.ow.u⟩;have C:=h_ hN;have q6:=Z.bx.cell 6;have f6:=Z.bx.free 6;rw[show(L1 { g5 with sy:=VK } A)[6]? = Sm (Sl A.v g5.va.length A.vc) from rfl]at q6;have cx:=h_ b7;clear d h7 Z l af hN b7;go_upto_region 26 with fail
    rw[cx.u];clear cx q7 f7;exact kG
  . have M:((y:Int)==5)=Ff:=Yk.2 fP
    have e:g6=g5:=(by rw[<- bv.u];exact Ys g);exact kF
 case rest =>
 as_aux_lemma =>
 clear V A W;obtain⟨A,G⟩:=hcut;have V:=h_ G;clear G;obtain⟨W,H⟩:=Nq wc;rw[H]at V|-;clear H wc;obtain⟨g7,s⟩:∃I,qS y g6=I:=⟨_,rfl⟩;have bw:=h_ s;clear s;go_upto_if 112 with fail
 go_cut [] from 18 (λo=>∃A,qB (Sl t N c1) (Sl J U c2) (Sl z E c3) (Sl O n c4) (Sl (Sm (Aq r 0)) n B) P base F X rd nx g7 A w o)
 case first =>
  as_aux_lemma =>
  have d:=V;clear V;by_cases g:y=6
  . subst g
    rw[show((6:Nat):Int)=6 from rfl];have e:g7 = { g6 with mu:=[⟨3,⟨0,0,⟨#[]⟩⟩,⟨#[]⟩⟩] }:=(by rw[<- bw.u];exact Yz rfl);subst e;have cp:=h_ (zU 3 W);go_wp2_with fail;refine cQ cp λW1 D=>?_;have h1:=d.u.mono D;have l:=(bR W1.1.size W1).alloc (nR _) (Cl #[Ye 3,Ye 0,Ye 0,Yg,Yg] 96);have s:=h1.mono l;have af:A5 _ _ _ _:=A5.lone W1 ⟨3,⟨0,0,⟨#[]⟩⟩,⟨#[]⟩⟩;have aQ:base<=W1.1.size:=(Fq h1.fb.lt);have C:=h_ (s.put (g':={ g6 with mu:=[⟨3,⟨0,0,⟨#[]⟩⟩,⟨#[]⟩⟩] }) (A':={ A with u:=Sm ⟨W1.1.size,0,Nn⟩,uc:=1 }) 8 (Sl (Sm (Aq W1.1.size 0)) 1 1) rfl ⟨s.ow.b,s.ow.i,s.ow.h,s.ow.v,af.low aQ⟩);have q8:=s.bx.cell 8;have f8:=s.bx.free 8;rw[show(L1 g6 A)[8]? = Sm (Sl A.u g6.mu.length A.uc) from rfl]at q8;clear d h1 s l af D cp;go_wp2_with (refine AR rfl (.tmp 113) rfl rfl ?_);go_meet;exact⟨_,C⟩
  . have M:((y:Int)==6)=Ff:=Yk.2 fP
    have e:g7=g6:=(by rw[<- bw.u];exact Ys g);exact kF
 case rest =>
 as_aux_lemma =>
 clear V A W;obtain⟨A,G⟩:=hcut;have V:=h_ G;clear G;obtain⟨W,H⟩:=Nq wc;rw[H]at V|-;clear H wc;obtain⟨g8,cM⟩:∃I,rS y g7=I:=⟨_,rfl⟩;have bz:=h_ cM;clear cM;go_upto_if 117 with fail
 go_cut [] from 18 (λo=>∃A,qB (Sl t N c1) (Sl J U c2) (Sl z E c3) (Sl O n c4) (Sl (Sm (Aq r 0)) n B) P base F X rd nx g8 A w o)
 case first =>
  as_aux_lemma =>
  have d:=V;clear V;by_cases g:y=7
  . subst g
    rw[show((7:Nat):Int)=7 from rfl];have e:g8 = { g7 with wh:=[F9 QO] }:=(by rw[<- bz.u];exact Yz rfl);subst e;have l:=(bR W.1.size W).alloc (nR _) (Cl #[Ye 1,Ye 0,Ye 0,Yg,St ⟨#[110,111,119,104,101,114,101]⟩] 96);have s:=d.u.mono l;have af:A5 _ _ _ _:=A5.lone W (F9 QO);have aQ:base<=W.1.size:=(Fq d.u.fb.lt);have C:=h_ (s.put (g':={ g7 with wh:=[F9 QO] }) (A':={ A with h:=Sm ⟨W.1.size,0,Nn⟩,hc:=1 }) 5 (Sl (Sm (Aq W.1.size 0)) 1 1) rfl ⟨s.ow.b,s.ow.i,af.low aQ,s.ow.v,s.ow.u⟩);have q8:=s.bx.cell 5;have f8:=s.bx.free 5;rw[show(L1 g7 A)[5]? = Sm (Sl A.h g7.wh.length A.hc) from rfl]at q8;clear d s l af;go_wp2_with (first|refine TG rfl 46 #[] rfl Jd fR ?_|refine FY rfl (.const (Ye 1)) (.tmp 118) (.const (St ⟨#[110,111,119,104,101,114,101]⟩)) rfl rfl rfl rfl ?_|refine AR rfl (.tmp 119) rfl rfl ?_);go_meet;exact⟨_,C⟩
  . have M:((y:Int)==7)=Ff:=Yk.2 fP
    have e:g8=g7:=(by rw[<- bz.u];exact Ys g);exact kF
 case rest =>
 as_aux_lemma =>
 clear V A W;obtain⟨A,G⟩:=hcut;have au:=h_ G;clear G;obtain⟨W,H⟩:=Nq wc;rw[H]at au|-;clear H wc;obtain⟨g9,V⟩:∃I,tS y nx g8=I:=⟨_,rfl⟩;have bA:=h_ V;clear V;obtain⟨b9,V⟩:∃b,decide (y=8\/y=9)=b:=⟨_,rfl⟩;have a7:=h_ V;clear V;go_upto_region 31 with fail
 go_cut [127] from 18 (λak o=>ak=.bool b9/\o=W)
 case first =>
  as_aux_lemma =>
  by_cases Z:y=8
  . subst Z
    rw[show((8:Nat):Int)=8 from rfl];exact kJ
  . have bG:((y:Int)==8)=Ff:=Yk.2 fP
    by_cases h9:y=9
    . subst h9
      rw[show((9:Nat):Int)=9 from rfl];exact kJ
    . have bH:((y:Int)==9)=Ff:=Yk.2 fP
      go_wp2;go_meet;exact⟨congrArg Value.bool (by rw[<- a7.u];exact(Yl fP).symm),rfl⟩
 case rest =>
 as_aux_lemma =>
 obtain⟨rfl,rfl⟩:=hcut;obtain⟨W,H⟩:=Nq wc;rw[H]at au|-;clear H wc;go_upto_if 127 with fail
 go_cut [] from 18 (λo=>∃A,qB (Sl t N c1) (Sl J U c2) (Sl z E c3) (Sl O n c4) (Sl (Sm (Aq r 0)) n B) P base F X rd nx g9 A w o)
 case first =>
  as_aux_lemma =>
  have d:=au;clear au;by_cases g:y=8\/y=9
  . obtain rfl:b9=Tt:=by rw[<- a7.u];exact Yo g
    have e:g9 = { g8 with bys:=[],is:=[F9 nx] }:=(by rw[<- bA.u];exact Yz g);subst e;have l:=(bR W.1.size W).alloc (nR _) (Cl #[] 3);have s:=d.u.mono l;have af:=TN W 3 1;have aQ:base<=W.1.size:=(Fq d.u.fb.lt);have h3:=s.put (g':={ g8 with bys:=[] }) (A':={ A with b:=Sm ⟨W.1.size,0,Nn⟩,bc:=0 }) 3 (Sl (Sm (Aq W.1.size 0)) 0 0) rfl ⟨VB af aQ,s.ow.i,s.ow.h,s.ow.v,s.ow.u⟩;have q3:=s.bx.cell 3;have f3:=s.bx.free 3;rw[show(L1 g8 A)[3]? = Sm (Sl A.b g8.bys.length A.bc) from rfl]at q3;obtain⟨V3,aO⟩:=Nq ((W.alloc (Cl #[] 3)).setCell (Aq X 3) (Sl (Sm (Aq W.1.size 0)) 0 0));rw[aO]at h3;have C:=h_ (h3.put (g':={ g8 with bys:=[],is:=[F9 nx] }) (A':={ A with b:=Sm ⟨W.1.size,0,Nn⟩,bc:=0,i:=Sm (Aq rd 0),ic:=1 }) 4 (Sl (Sm (Aq rd 0)) 1 1) rfl ⟨h3.ow.b,h3.rr,h3.ow.h,h3.ow.v,h3.ow.u⟩);have q4:=h3.bx.cell 4;have f4:=h3.bx.free 4;rw[show(L1 { g8 with bys:=[] } { A with b:=Sm ⟨W.1.size,0,Nn⟩,bc:=0 })[4]? = Sm (Sl A.i g8.is.length A.ic) from rfl]at q4;have bi:=h_ aO;clear d s h3 l af aO g;go_upto_region 33 with fail
    rw[bi.u];clear bi q3 f3;exact kG
  . obtain rfl:b9=Ff:=by rw[<- a7.u];exact Yl g
    have e:g9=g8:=(by rw[<- bA.u];exact Ys g);exact kF
 case rest =>
 as_aux_lemma =>
 clear au A W;obtain⟨A,G⟩:=hcut;have bE:=h_ G;clear G;obtain⟨W,H⟩:=Nq wc;rw[H]at bE|-;clear H wc;obtain⟨V,cK⟩:∃I,BP y nx g9=I:=⟨_,rfl⟩;have bt:=h_ cK;clear cK;go_upto_if 133 with fail
 go_cut [] from 18 (λo=>∃A,qB (Sl t N c1) (Sl J U c2) (Sl z E c3) (Sl O n c4) (Sl (Sm (Aq r 0)) n B) P base F X rd nx V A w o)
 case first =>
  as_aux_lemma =>
  have d:=bE;clear bE;by_cases g:y=10
  . subst g
    rw[show((10:Nat):Int)=10 from rfl];have e:V = { g9 with wh:=[F9 nx] }:=(by rw[<- bt.u];exact Yz rfl);subst e;have Y:=d.u.bx.cell 5;have qf:=d.u.bx.free 5;rw[show(L1 g9 A)[5]? = Sm (Sl A.h g9.wh.length A.hc) from rfl]at Y;have C:=h_ (d.u.put (g':={ g9 with wh:=[F9 nx] }) (A':={ A with h:=Sm ⟨rd,0,Nn⟩,hc:=1 }) 5 (Sl (Sm (Aq rd 0)) 1 1) rfl ⟨d.u.ow.b,d.u.ow.i,d.u.rr,d.u.ow.v,d.u.ow.u⟩);clear d;exact kG
  . have M:((y:Int)==10)=Ff:=Yk.2 fP
    have e:V=g9:=(by rw[<- bt.u];exact Ys g);exact kF
 case rest =>
 as_aux_lemma =>
 clear bE A W;obtain⟨A,G⟩:=hcut;have bf:=h_ G;clear G;obtain⟨W,H⟩:=Nq wc;rw[H]at bf|-;clear H wc;obtain⟨Y,cL⟩:∃I,zL y nx V=I:=⟨_,rfl⟩;have aS:=h_ cL;clear cL;obtain⟨bU,I⟩:∃b,decide (11<=y/\y<=15)=b:=⟨_,rfl⟩;have aZ:=h_ I;clear I;go_upto_region 36 with fail
 go_cut [141] from 18 (λak o=>ak=.bool bU/\o=W)
 case first =>
  as_aux_lemma =>
  by_cases Z:11<=y
  . have bG:(11:Int)<=y:=fP
    by_cases h9:y<=15
    . have bH:(y:Int)<=15:=fP
      go_wp2;go_meet;exact⟨congrArg Value.bool (by rw[<- aZ.u];exact(Yo fP).symm),rfl⟩
    . have bH:¬ (y:Int)<=15:=fP
      exact kI
  . have bG:¬ (11:Int)<=y:=fP
    exact kI
 case rest =>
 as_aux_lemma =>
 obtain⟨rfl,rfl⟩:=hcut;obtain⟨W,H⟩:=Nq wc;rw[H]at bf|-;clear H wc;go_upto_if 141 with fail
 go_cut [] from 18 (λo=>∃A,qB (Sl t N c1) (Sl J U c2) (Sl z E c3) (Sl O n c4) (Sl (Sm (Aq r 0)) n B) P base F X rd nx Y A w o)
 case first =>
  as_aux_lemma =>
  have d:=bf;clear bf;by_cases g:11<=y/\y<=15
  . obtain rfl:bU=Tt:=by rw[<- aZ.u];exact Yo g
    have s:=d.u.put (g':={ V with lb:=0 }) (A':=A) 2 (Ye 0) rfl ⟨d.u.ow.b,d.u.ow.i,d.u.ow.h,d.u.ow.v,d.u.ow.u⟩;have q2:=d.u.bx.cell 2;have f2:=d.u.bx.free 2;rw[show(L1 V A)[2]? = Sm (Ye V.lb) from rfl]at q2;obtain⟨V2,I⟩:=Nq (W.setCell (Aq X 2) (Ye 0));rw[I]at s;obtain⟨aU,ae⟩:=oB I s;clear d s I;by_cases ao:y=11\/y=12
    . have e:Y = { V with lb:=0 }:=by rw[<- aS.u];exact Yz ao
      subst e;have cC:¬ (13:Int)<=y:=fP;have di:((y:Int)==15)=Ff:=Yk.2 fP;clear g ao;go_upto_region 38 with fail
      rw[aU.u];clear aU q2 f2;go_wp2;go_meet;exact⟨_,ae⟩
    . have cC:(13:Int)<=y:=fP
      have Z:=ae.put (g':={ V with lb:=0,mu:=[F9 nx] }) (A':={ A with u:=Sm ⟨rd,0,Nn⟩,uc:=1 }) 8 (Sl (Sm (Aq rd 0)) 1 1) rfl ⟨ae.ow.b,ae.ow.i,ae.ow.h,ae.ow.v,ae.rr⟩;have q8:=ae.bx.cell 8;have f8:=ae.bx.free 8;rw[show(L1 { V with lb:=0 } A)[8]? = Sm (Sl A.u V.mu.length A.uc) from rfl]at q8;obtain⟨I,b8⟩:=Nq (V2.setCell (Aq X 8) (Sl (Sm (Aq rd 0)) 1 1));rw[b8]at Z;obtain⟨bF,au⟩:=oB b8 Z;clear ae Z b8;by_cases ce:y=13\/y=14
      . have e:Y = { V with lb:=0,mu:=[F9 nx] }:=by rw[<- aS.u];unfold zL;rw[Ys ao,Yz ce]
        subst e;have di:((y:Int)==15)=Ff:=Yk.2 fP;clear g ao ce;go_upto_region 38 with fail
        rw[aU.u];go_upto_region 40 with fail
        rw[bF.u];clear aU q2 f2 bF q8 f8;go_wp2;go_meet;exact⟨_,au⟩
      . obtain rfl:y=15:=fP
        have e:Y = { V with lb:=0,mu:=[F9 nx],bys:=[],is:=[⟨0,⟨1,1,⟨#[]⟩⟩,⟨#[]⟩⟩] }:=(by rw[<- aS.u];rfl);subst e;rw[show((15:Nat):Int)=15 from rfl];clear g ao ce cC;have l:=(bR I.1.size I).alloc (nR _) (Cl #[] 3);have h9:=au.mono l;have af:=TN I 3 1;have aQ:base<=I.1.size:=(Fq au.fb.lt);have h3:=h9.put (g':={ V with lb:=0,mu:=[F9 nx],bys:=[] }) (A':={ A with u:=Sm ⟨rd,0,Nn⟩,uc:=1,b:=Sm (Aq I.1.size 0),bc:=0 }) 3 (Sl (Sm (Aq I.1.size 0)) 0 0) rfl ⟨VB af aQ,h9.ow.i,h9.ow.h,h9.ow.v,h9.ow.u⟩;have q3:=h9.bx.cell 3;have f3:=h9.bx.free 3;rw[show(L1 { V with lb:=0,mu:=[F9 nx] } { A with u:=Sm ⟨rd,0,Nn⟩,uc:=1 })[3]? = Sm (Sl A.b V.bys.length A.bc) from rfl]at q3;obtain⟨V3,aO⟩:=Nq ((I.alloc (Cl #[] 3)).setCell (Aq X 3) (Sl (Sm (Aq I.1.size 0)) 0 0));rw[aO]at h3;obtain⟨bi,aD⟩:=oB aO h3;obtain⟨X8,cb⟩:=Nq I.1.size;have ds:=h_ cb;rw[cb]at aD;clear au h9 h3 l af aO cb;go_upto_region 38 with fail
        rw[aU.u];go_upto_region 40 with fail
        rw[bF.u];clear aU q2 f2 bF q8 f8;go_upto_region 42 with fail
        rw[bi.u];clear bi q3 f3;have cn:=h_ (VG 1 V3);go_wp2_with fail;refine cQ cn λW1 cF=>?_;have h1:=aD.mono cF;have cm:=h_ (JI 1 1 ⟨#[]⟩ W1);clear aD cn cF;go_wp2_with fail;refine cQ cm λW2 av=>?_;have s:=h1.mono av;have l:=(bR W2.1.size W2).alloc (nR _) (Cl #[Ye 0,Ye 1,Ye 1,Yg,Yg] 96);have h4:=s.mono l;have aA:A5 _ _ _ _:=A5.lone W2 ⟨0,⟨1,1,⟨#[]⟩⟩,⟨#[]⟩⟩;have ax:base<=W2.1.size:=(Fq s.fb.lt);have C:=h_ (h4.put (g':={ V with lb:=0,mu:=[F9 nx],bys:=[],is:=[⟨0,⟨1,1,⟨#[]⟩⟩,⟨#[]⟩⟩] }) (A':={ A with u:=Sm ⟨rd,0,Nn⟩,uc:=1,b:=Sm (Aq X8 0),bc:=0,i:=Sm (Aq W2.1.size 0),ic:=1 }) 4 (Sl (Sm (Aq W2.1.size 0)) 1 1) rfl ⟨h4.ow.b,aA.low ax,h4.ow.h,h4.ow.v,h4.ow.u⟩);have q4:=h4.bx.cell 4;have f4:=h4.bx.free 4;rw[show(L1 { V with lb:=0,mu:=[F9 nx],bys:=[] } { A with u:=Sm ⟨rd,0,Nn⟩,uc:=1,b:=Sm (Aq X8 0),bc:=0 })[4]? = Sm (Sl A.i V.is.length A.ic) from rfl]at q4;clear h1 s h4 l aA av cm;go_wp2_with (refine AR rfl (.tmp 152) rfl rfl ?_);go_meet;exact⟨_,C⟩
  . obtain rfl:bU=Ff:=by rw[<- aZ.u];exact Yl g
    have e:Y=V:=(by rw[<- aS.u];exact by unfold zL;rw[Ys fP,Ys fP,Ys fP]);exact kF
 case rest =>
 as_aux_lemma =>
 clear bf A W;obtain⟨A,G⟩:=hcut;have bT:=h_ G;clear G;obtain⟨W,H⟩:=Nq wc;rw[H]at bT|-;clear H wc;have da:Hi (EO y k N nx u=Y):=h_ (by unfold EO;rw[a8.u,a9.u,ba.u,bb.u,bu.u,bv.u,bw.u,bz.u,bA.u,bt.u,aS.u]);clear a8 a9 ba bb bu bv bw bz bA bt aS;have G:=bT.u;have bI:=G;rw[<- aE]at bI;have cW:=(Qf bI.out aW (Y,A)).1;have I:sB (Sl t N c1) (Sl J U c2) (Sl z E c3) (Sl (Sm (Aq r 0)) n B) { m with F:=m.F.set k Y } (P.set k (Y,A)) base F w ((W.setCells r (k*9) (L1 Y A)).setCell (Aq F 3) (Sl (Sm (Aq r 0)) n B)):=by
  have:=bI.done (m:=m) (k:=k) cc HF aW (by rw[aE];exact ct);rw[aE]at this;exact this
 have bW:m0 (W.setCells r (k*9) (L1 Y A)) F 28 [Sl t N c1,Sl J U c2,Sl z E c3,Sl O n c4]:=(XP r _ _ _ _ (λe=>uD G.out G.fb fS (by rw[<- e];rfl))).trans G.fb;have aC:=h_ G.bx.rng;have v3:=bW.cell 3;have vf:=bW.free 3;simp only[Ym,Yv]at v3;obtain⟨d,cu⟩:=oB I cW;clear G bI I bW cW bT;go_upto_region 44 with (first|refine wpList_load_mid rfl 56 (.tmp 12) rfl X 0 rfl (L1 Y A) _ aC underlying56 rfl fR ?_|refine wpList_store_mid rfl 56 (.tmp 158) (.tmp 157) rfl r (k*9) (L1 Y A).toArray rfl rfl cu fR gA ?_)
 obtain⟨dh,G⟩:=Nq (W.setCells r (k*9) (L1 Y A));obtain⟨V4,b4⟩:=Nq (dh.setCell (Aq F 3) (Sl (Sm (Aq r 0)) n B));rw[G]at d v3 vf;rw[b4]at d
 try rw[show(L1 Y A).toArray.toList=L1 Y A from rfl]
 rw[G];have cw:=h_ b4;clear G b4 aC cu;go_upto_region 45 with fail
 rw[cw.u];clear cw v3 vf;have G:Hi ({ m with F:=m.F.set k Y,P:=rJ y N m.P,R:=sJ y m.R } = { m with F:=m.F.set k Y,P:=rJ y N m.P,R:=sJ y m.R }):=h_ rfl;clear G;obtain⟨fs,G⟩:=Nq (m.F.set k Y);obtain⟨P',cD⟩:=Nq (P.set k (Y,A));rw[G,cD]at d;have c9:=h_ G;clear G cD;obtain⟨G,bK⟩:∃aj,m.P=aj:=⟨_,rfl⟩;obtain⟨ag,bM⟩:∃aj,m.R=aj:=⟨_,rfl⟩;obtain⟨ll,cd⟩:∃aj,m.L=aj:=⟨_,rfl⟩;rw[bK]at aY;rw[bM]at bL;have aT:Hi (sB (Sl t N c1) (Sl J U c2) (Sl z E c3) (Sl (Sm (Aq r 0)) n B) ⟨ll,G,ag,fs⟩ P' base F w V4):=h_ (by rw[<- bK,<- bM,<- cd];exact d);clear d;obtain⟨dc,df,db⟩:=oC bK bM cd;clear bK bM cd hN hn bS ct cl cX;obtain⟨d,bX⟩:∃aj,(if y=16/\0<U then G.drop 1 else G)=aj:=⟨_,rfl⟩;obtain⟨n1,aA⟩:∃k,d.length=k:=⟨_,rfl⟩;have dz:n1<=201:=by rw[<- aA,<- bX];split <;> (try simp only[List.length_drop]) <;> omega
 obtain⟨ap,bd⟩:=oB bX aA;clear bX aA;obtain⟨y0,y1,y2,y3⟩:=E0 aT.fb;obtain⟨bV,cG⟩:∃b,decide (y=16/\0<U)=b:=⟨_,rfl⟩;have a0:=h_ cG;clear cG;go_cut [168] from 18 (λak o=>ak=.bool bV/\o=V4)
 case first =>
  as_aux_lemma =>
  by_cases Z:y=16
  . have bG:((y:Int)==16)=Tt:=by rw[Z];rfl
    have Hk:=h_ Z;clear Z;by_cases h9:0<U
    . have bH:(0:Int)<U:=fP
      go_wp2;go_meet;exact⟨congrArg Value.bool (by rw[<- a0.u];exact(Yo (show y=16/\0<U from ⟨Hk,h9⟩)).symm),rfl⟩
    . have bH:¬ (0:Int)<U:=fP
      go_wp2;go_meet;exact⟨congrArg Value.bool (by rw[<- a0.u];exact(Yl (show ¬ (y=16/\0<U) from λh=>h9 h.2)).symm),rfl⟩
  . have bG:((y:Int)==16)=Ff:=Yk.2 fP
    go_wp2;go_meet;exact⟨congrArg Value.bool (by rw[<- a0.u];exact(Yl (show ¬ (y=16/\0<U) from λh=>Z h.1)).symm),rfl⟩
 case rest =>
 as_aux_lemma =>
 obtain⟨rfl,rfl⟩:=hcut;clear y0 y1 y2 y3;go_upto_if 168 with fail
 go_cut [] from 18 (λo=>∃b1 d1,sB (Sl t N c1) (Sl b1 n1 d1) (Sl z E c3) (Sl (Sm (Aq r 0)) n B) ⟨ll,d,ag,fs⟩ P' base F w o)
 case first =>
  as_aux_lemma =>
  obtain⟨W,H⟩:=Nq wc;rw[H]at aT|-;clear H wc;by_cases g:y=16/\0<U
  . obtain rfl:bV=Tt:=by rw[<- a0.u];exact Yo g
    have dB:=g.2;have Hw:=h_ g;clear g;have al:=(bR W.1.size W).alloc (nR _) (Cl #[] 101);have ai:N8 (W.alloc (Cl #[] 101)) W.1.size (Sl (Sm (Aq W.1.size 0)) 0 0) ((G.take 1).drop 1):=by
     have h:=TN W 101 2;have e:(G.take 1).drop 1=[]:=(by cases G <;> simp);rw[e];exact h
    obtain⟨B7,ay⟩:=Nq W.1.size;obtain⟨V5,aV⟩:=Nq (W.alloc (Cl #[] 101));rw[aV,ay]at ai al;obtain⟨an,a6,aK,bj,bk⟩:=oG ai al ay aV ay;have bh:=aT;clear ai al ay aV aT
    go_upto_block 2 with fail
    try rw[bj.u]
    try rw[bk.u]
    clear bj bk;go_wp2;go_loopw [14,15] (λak i wr=>∃(j:Nat) (Z:To) (n5 Q:Nat),1<=j/\j<=U/\i=Ye j/\ak=Sl Z n5 Q/\N8 wr B7 (Sl Z n5 Q) ((G.take j).drop 1)/\Below B7 W wr) (λ_ i _=>U - (intOf i).toNat)
    case atStart=>exact⟨1,_,_,_,nR _,fP,rfl,rfl,an,a6⟩
    case round =>
     clear an a6;obtain⟨j,Z,n5,Q,cN,hj,rfl,rfl,T,D⟩:=hrel;have I:=bh.u.mono (show Below W.1.size W wr by rw[aK.u];exact D);have aG:B7<=wr.1.size:=(by have:=D.size;have:=aK.u;omega);obtain⟨y0,y1,y2,y3⟩:=E0 I.fb;by_cases bn:j<U
     . have bo:(j:Int)<(U:Int):=fP
       have bm:j<G.length:=fP;have bq:N8 wr base (Sl J G.length c2) G:=(by rw[aY];exact I.om.p);obtain⟨pb,po,e5,-,z0,z1⟩:=mP bq j bm;obtain⟨⟨pl,ph⟩,aP⟩:∃x,G[j]=x:=⟨_,rfl⟩;rw[aP]at z0 z1;dsimp only at z0 z1;obtain⟨QL,az⟩:=Nq ((G.take j).drop 1);have bg:Hi ((G.take (j+1)).drop 1=QL++[(pl,ph)]):=h_ (by rw[<- az,<- aP];exact qd8 G bm cN);rw[az]at T;subst e5;have l:=(bR wr.1.size wr).alloc (nR _) (Cl (Js pl ph) 101);have C:Hi (m0 _ _ 101 [Ye pl,Ye ph]):=h_ (m0.new wr 101 (Js pl ph));have aq:Hi (N8 (wr.alloc (Cl (Js pl ph) 101)) B7 (Sl Z n5 Q) QL):=h_ (BA T l);have ah:=h_ (D.trans (l.mono aG));have ax:B7<=(wr.alloc (Cl (Js pl ph) 101)).1.size:=Yu aG l.size;have cO:QL.length<=1000:=(by rw[<- az];simp;omega);clear l T D I bq aP az;go_wp2_with (first|(at_builtin;refine Ee (n:=(pl,ph)) rfl _ _ rfl rfl aq rfl C fP ax ?_)|refine BR rfl (.tmp 182) rfl rfl ?_);intro v' W4 K ad ac;have a5:=h_ (ah.trans ac);have aa:N8 W4 B7 v' ((G.take (j+1)).drop 1):=(by rw[bg.u];first|exact K|(unfold N8;rw[Yn];exact K));obtain⟨x6,c6,e6,-,-⟩:=C9 aa;obtain⟨n6,bp⟩:=Nq (((G.take (j+1)).drop 1).length);rw[bp]at e6;subst e6;have be:=h_ aa;clear K ad ac aa C aq ah ax y0 y1 y2 y3 z0 z1 bp;go_wp2;go_roundw
       case rel=>exact⟨j+1,x6,n6,c6,fP,fP,fU,rfl,be,a5⟩
       case measure=>exact kK
     . have bo:¬ (j:Int)<(U:Int):=fP
       obtain rfl:U=j:=fP;have br:G.take U=G:=(by rw[<- aY,Zz]);rw[br]at T;have ao:N8 wr base (Sl Z n5 Q) (G.drop 1):=VB T (by have:=bh.u.fb.lt;have:=aK.u;omega);have bl:=I.setP ao;have cj:=I.fb.cell 1;have dr:=I.fb.free 1;simp only[Ym,Yv]at cj;have cf:n1=n5:=Eq.symm <| by obtain⟨_,_,e,-⟩:=C9 T;cases e;rw[<- bd.u,<- ap.u];exact congrArg List.length (Yz Hw).symm
       subst cf;have aN:Hi (sB (Sl t N c1) (Sl Z n1 Q) (Sl z E c3) (Sl (Sm (Aq r 0)) n B) ⟨ll,d,ag,fs⟩ P' base F w (wr.setCell (Aq F 1) (Sl Z n1 Q))):=h_ (by rw[<- ap.u];rw[show(if y=16/\0<U then G.drop 1 else G)=G.drop 1 from Yz Hw.u];exact bl);clear I ao T D bl br;go_wp2;go_meet;exact⟨Z,Q,aN⟩
  . obtain rfl:bV=Ff:=by rw[<- a0.u];exact Yl g
    have e:d=G:=(by rw[<- ap.u];exact Ys g);subst e;have e:n1=U:=(by rw[<- bd.u];exact aY);subst e;clear g;go_wp2;go_meet;exact⟨J,c2,aT⟩
 case rest =>
 as_aux_lemma =>
 obtain⟨b1,d1,I⟩:=hcut;have aM:=h_ I;clear I aT;obtain⟨V5,aV⟩:=Nq wc;rw[aV]at aM|-;clear aV wc;obtain⟨B2,bY⟩:∃aj,(if y=17 then ((N:Int) - 1,0) :: d else d)=aj:=⟨_,rfl⟩;obtain⟨n2,aF⟩:∃k,B2.length=k:=⟨_,rfl⟩;have dk:=bd.u;have dA:n2<=202:=by rw[<- aF,<- bY];split <;> (try simp only[Y5]) <;> omega
 obtain⟨ah,bB⟩:=oB bY aF;clear bY aF dk;go_upto_if 188 with fail
 go_cut [] from 18 (λo=>∃b2 d2,sB (Sl t N c1) (Sl b2 n2 d2) (Sl z E c3) (Sl (Sm (Aq r 0)) n B) ⟨ll,B2,ag,fs⟩ P' base F w o)
 case first =>
  as_aux_lemma =>
  by_cases g:y=17
  . have M:((y:Int)==17)=Tt:=by rw[g];rfl
    have Hw:=h_ g;clear g;obtain⟨W,H⟩:=Nq V5;rw[H]at aM|-;clear H V5;obtain⟨y0,y1,y2,y3⟩:=E0 aM.fb;have aA:=bd.u;have al:=(bR W.1.size W).alloc (nR _) (Cl #[Ye ((N:Int) - 1),Ye 0] 101);have ai:N8 (W.alloc (Cl #[Ye ((N:Int) - 1),Ye 0] 101)) W.1.size (Sl (Sm (Aq W.1.size 0)) 1 1) (((N:Int) - 1,0) :: d.take 0) :=
     ⟨rfl,.inr ⟨W.1.size,1,_,rfl,nR _,heap_alloc_new W (Cl #[Ye ((N:Int) - 1),Ye 0] 101),nR _,by unfold maxLen;omega,rfl,rfl⟩⟩
    obtain⟨B7,ay⟩:=Nq W.1.size;obtain⟨V6,b6⟩:=Nq (W.alloc (Cl #[Ye ((N:Int) - 1),Ye 0] 101));rw[b6,ay]at ai al;obtain⟨an,a6,aK,bj,bk⟩:=oG ai al ay b6 ay;have bh:=aM;clear ai al ay b6 aM
    go_upto_block 4 with (first|refine TG rfl 101 #[(0,.tmp 192),(1,.const (Ye 0))] rfl #[Ye ((N:Int) - 1),Ye 0] fR ?_|refine BR rfl (.tmp 193) rfl rfl ?_)
    try rw[bj.u]
    try rw[bk.u]
    clear bj bk;go_wp2;go_loopw [16,17] (λak i wr=>∃(j:Nat) (Z:To) (n5 Q:Nat),0<=j/\j<=n1/\i=Ye j/\ak=Sl Z n5 Q/\N8 wr B7 (Sl Z n5 Q) (((N:Int) - 1,0) :: d.take j)/\Below B7 W wr) (λ_ i _=>n1 - (intOf i).toNat)
    case atStart=>exact⟨0,_,_,_,nR _,fP,rfl,rfl,an,a6⟩
    case round =>
     clear an a6;obtain⟨j,Z,n5,Q,cN,hj,rfl,rfl,T,D⟩:=hrel;have I:=bh.u.mono (show Below W.1.size W wr by rw[aK.u];exact D);have aG:B7<=wr.1.size:=(by have:=D.size;have:=aK.u;omega);obtain⟨y0,y1,y2,y3⟩:=E0 I.fb;by_cases bn:j<n1
     . have bo:(j:Int)<(n1:Int):=fP
       have bm:j<d.length:=fP;have bq:N8 wr base (Sl b1 d.length d1) d:=(by rw[aA];exact I.om.p);obtain⟨pb,po,e5,-,z0,z1⟩:=mP bq j bm;obtain⟨⟨pl,ph⟩,aP⟩:∃x,d[j]=x:=⟨_,rfl⟩;rw[aP]at z0 z1;dsimp only at z0 z1;obtain⟨QL,az⟩:=Nq (((N:Int) - 1,0) :: d.take j);have bg:Hi (((N:Int) - 1,0) :: d.take (j+1)=QL++[(pl,ph)]):=h_ (by rw[<- az,<- aP];exact qd7 _ d bm);rw[az]at T;subst e5;have l:=(bR wr.1.size wr).alloc (nR _) (Cl (Js pl ph) 101);have C:Hi (m0 _ _ 101 [Ye pl,Ye ph]):=h_ (m0.new wr 101 (Js pl ph));have aq:Hi (N8 (wr.alloc (Cl (Js pl ph) 101)) B7 (Sl Z n5 Q) QL):=h_ (BA T l);have ah:=h_ (D.trans (l.mono aG));have ax:B7<=(wr.alloc (Cl (Js pl ph) 101)).1.size:=Yu aG l.size;have cO:QL.length<=1000:=(by rw[<- az];simp;omega);clear l T D I bq aP az;go_wp2_with (first|(at_builtin;refine Ee (n:=(pl,ph)) rfl _ _ rfl rfl aq rfl C fP ax ?_)|refine BR rfl (.tmp 207) rfl rfl ?_);intro v' W4 K ad ac;have a5:=h_ (ah.trans ac);have aa:N8 W4 B7 v' (((N:Int) - 1,0) :: d.take (j+1)):=(by rw[bg.u];first|exact K|(unfold N8;rw[Yn];exact K));obtain⟨x6,c6,e6,-,-⟩:=C9 aa;obtain⟨n6,bp⟩:=Nq ((((N:Int) - 1,0) :: d.take (j+1)).length);rw[bp]at e6;subst e6;have be:=h_ aa;clear K ad ac aa C aq ah ax y0 y1 y2 y3 z0 z1 bp;go_wp2;go_roundw
       case rel=>exact⟨j+1,x6,n6,c6,fP,fP,fU,rfl,be,a5⟩
       case measure=>exact kK
     . have bo:¬ (j:Int)<(n1:Int):=fP
       obtain rfl:n1=j:=fP;have br:d.take n1=d:=(by rw[<- aA,Zz]);rw[br]at T;have ao:N8 wr base (Sl Z n5 Q) (((N:Int) - 1,0) :: d):=VB T (by have:=bh.u.fb.lt;have:=aK.u;omega);have bl:=I.setP ao;have cj:=I.fb.cell 1;have dr:=I.fb.free 1;simp only[Ym,Yv]at cj;have cf:n2=n5:=Eq.symm <| by obtain⟨_,_,e,-⟩:=C9 T;cases e;rw[<- bB.u,<- ah.u];exact congrArg List.length (Yz Hw).symm
       subst cf;have aN:Hi (sB (Sl t N c1) (Sl Z n2 Q) (Sl z E c3) (Sl (Sm (Aq r 0)) n B) ⟨ll,B2,ag,fs⟩ P' base F w (wr.setCell (Aq F 1) (Sl Z n2 Q))):=h_ (by rw[<- ah.u];rw[show(if y=17 then ((N:Int) - 1,0) :: d else d)=((N:Int) - 1,0) :: d from Yz Hw.u];exact bl);clear I ao T D bl br;go_wp2;go_meet;exact⟨Z,Q,aN⟩
  . have M:((y:Int)==17)=Ff:=Yk.2 fP
    have e:B2=d:=(by rw[<- ah.u];exact Ys g);subst e;have e:n2=n1:=(by rw[<- bB.u];exact bd);subst e;clear g;go_wp2;go_meet;exact⟨b1,d1,aM⟩
 case rest =>
 as_aux_lemma =>
 clear aM V5;obtain⟨b2,d2,I⟩:=hcut;have C:=h_ I;clear I;obtain⟨W,H⟩:=Nq wc;rw[H]at C|-;clear H wc;obtain⟨R1,j⟩:∃aj,sJ y ag=aj:=⟨_,rfl⟩;obtain⟨T,D⟩:∃k,R1.length=k:=⟨_,rfl⟩;obtain⟨aB,cq⟩:=oB j D;clear j D;go_upto_if 213 with fail
 go_cut [] from 18 (λo=>∃Z e1,sB (Sl t N c1) (Sl b2 n2 d2) (Sl Z T e1) (Sl (Sm (Aq r 0)) n B) ⟨ll,B2,R1,fs⟩ P' base F w o)
 case first =>
  as_aux_lemma =>
  by_cases g:y=18
  . have M:((y:Int)==18)=Tt:=by rw[g];rfl
    have e:R1=⟨IM,0⟩ :: ag:=(by rw[<- aB.u];exact Yz g);subst e;clear g;have l:=(bR W.1.size W).alloc (nR _) (Cl #[St ⟨#[99,108,101,114,107]⟩,Ye 0] 50);have ai:(W.alloc (Cl #[St ⟨#[99,108,101,114,107]⟩,Ye 0] 50)).ownsRow W.1.size 50 2 (Sl (Sm (Aq W.1.size 0)) 1 1) 1 [St ⟨#[99,108,101,114,107]⟩,Ye 0] :=
     ⟨rfl,.inr ⟨W.1.size,1,_,rfl,nR _,heap_alloc_new W (Cl #[St ⟨#[99,108,101,114,107]⟩,Ye 0] 50),nR _,by unfold maxLen;omega,rfl,rfl⟩⟩
    have Q:=C.mono l;obtain⟨y0,y1,y2,y3⟩:=E0 Q.fb;have aw:(W.alloc (Cl #[St ⟨#[99,108,101,114,107]⟩,Ye 0] 50)).ownsRow base 50 2 (Sl z E c3) E (rV' ag):=(by have h:=Q.om.r;unfold wJ at h;rw[show ag.length=E from bL]at h;exact h);have aH:W.1.size<=(W.alloc (Cl #[St ⟨#[99,108,101,114,107]⟩,Ye 0] 50)).1.size:=l.size;obtain⟨i0,hi,am,aI,aJ⟩:=info_parts NW;have HH:=h_ l;have an:=h_ ai;have aL:=h_ aw;clear l ai aw Q;go_wp2_with (first|(at_builtin;refine OU rfl _ _ 25 50 i0 _ 2 24 rfl underlying25 hi am aI aJ rfl fP rfl an rfl aL Rm fP fP aH ?_)|refine TG rfl 50 #[(0,.const (St ⟨#[99,108,101,114,107]⟩)),(1,.const (Ye 0))] rfl #[St ⟨#[99,108,101,114,107]⟩,Ye 0] fR ?_|refine qpd rfl (.tmp 214) rfl rfl ?_);intro v' W4 K ad ac;have j:=C.mono (HH.trans ac);have D:1+E=T:=(by rw[<- cq.u];show _=ag.length+1;omega);have aa:wJ W4 base v' (⟨IM,0⟩ :: ag):=by
     have h:=VB K (show base<=W.1.size from Fq C.fb.lt);unfold wJ;rw[show(⟨IM,0⟩ :: ag:List Rl).length=1+E by show ag.length+1=_;omega];exact h
    obtain⟨Z,e1,rfl,-,-⟩:=C9 K;rw[D]at aa|-;have aN:=h_ (j.setR aa);have q2:=j.fb.cell 2;have qf:=j.fb.free 2;simp only[Ym,Yv]at q2;clear j K aa ad ac an aL HH aH y0 y1 y2 y3 hi am aI aJ C D;go_wp2;go_meet;exact⟨_,_,aN⟩
  . have M:((y:Int)==18)=Ff:=Yk.2 fP
    have e:R1=ag:=(by rw[<- aB.u];exact Ys g);subst e;have e:T=E:=(by rw[<- cq.u];exact bL);subst e;clear g;go_wp2;go_meet;exact⟨z,c3,C⟩
 case rest =>
 as_aux_lemma =>
 clear C W;obtain⟨Z,e1,I⟩:=hcut;have C:=h_ I;clear I;obtain⟨W,H⟩:=Nq wc;rw[H]at C|-;clear H wc;obtain⟨H,bZ⟩:∃aj,(if y=19 then (0,(N:Int)) :: B2 else B2)=aj:=⟨_,rfl⟩;obtain⟨n3,cR⟩:∃k,H.length=k:=⟨_,rfl⟩;have cI:rJ y N G=H:=by
  rw[<- bZ,<- ah.u,<- ap.u];unfold rJ;rw[aY];by_cases h1:y=16/\0<U
  . rw[Yz h1,Yz h1,Ys fP,Ys fP]
  . rw[Ys h1,Ys h1]
    by_cases s:y=17
    . rw[Yz s,Yz s,Ys fP]
    . rw[Ys s,Ys s]
 have c7:=h_ cI;obtain⟨ck,cr⟩:=oB bZ cR;clear bZ cR cI ap;go_upto_if 221 with fail
 go_cut [] from 18 (λo=>∃s d3,sB (Sl t N c1) (Sl s n3 d3) (Sl Z T e1) (Sl (Sm (Aq r 0)) n B) ⟨ll,H,R1,fs⟩ P' base F w o)
 case first =>
  as_aux_lemma =>
  by_cases g:y=19
  . have M:((y:Int)==19)=Tt:=by rw[g];rfl
    have e:H=(0,(N:Int)) :: B2:=(by rw[<- ck.u];exact Yz g);subst e;clear g;have l:=(bR W.1.size W).alloc (nR _) (Cl #[Ye 0,Ye N] 101);have ai:(W.alloc (Cl #[Ye 0,Ye N] 101)).ownsRow W.1.size 101 2 (Sl (Sm (Aq W.1.size 0)) 1 1) 1 [Ye 0,Ye N] :=
     ⟨rfl,.inr ⟨W.1.size,1,_,rfl,nR _,heap_alloc_new W (Cl #[Ye 0,Ye N] 101),nR _,by unfold maxLen;omega,rfl,rfl⟩⟩
    have Q:=C.mono l;obtain⟨x0,-⟩:=E0 C.fb;obtain⟨y0,y1,y2,y3⟩:=E0 Q.fb;have aF:=bB.u;have aw:(W.alloc (Cl #[Ye 0,Ye N] 101)).ownsRow base 101 2 (Sl b2 n2 d2) n2 (pV B2):=(by have h:=Q.om.p;unfold N8 at h;rw[show B2.length=n2 from aF]at h;exact h);have aH:W.1.size<=(W.alloc (Cl #[Ye 0,Ye N] 101)).1.size:=l.size;obtain⟨i0,hi,am,aI,aJ⟩:=info_parts MW;have HH:=h_ l;have an:=h_ ai;have aL:=h_ aw;have o:=h_ aF;clear l ai aw Q aF;go_wp2_with (first|(at_builtin;refine OU rfl _ _ 24 101 i0 _ 2 16 rfl underlying24 hi am aI aJ rfl fP rfl an rfl aL Qm fP fP aH ?_)|refine TG rfl 101 #[(0,.const (Ye 0)),(1,.tmp 224)] rfl #[Ye 0,Ye N] fR ?_|refine BR rfl (.tmp 225) rfl rfl ?_);intro v' W4 K ad ac;have j:=C.mono (HH.trans ac);have D:1+n2=n3:=(by rw[<- cr.u];have:=o.u;show _=B2.length+1;omega);have aa:N8 W4 base v' ((0,(N:Int)) :: B2):=by
     have h:=VB K (show base<=W.1.size from Fq C.fb.lt);unfold N8;rw[show((0,(N:Int)) :: B2:List (Int × Int)).length=1+n2 by have:=o.u;show B2.length+1=_;omega];exact h
    obtain⟨Q,l,rfl,-,-⟩:=C9 K;rw[D]at aa|-;have aN:=h_ (j.setP aa);have q2:=j.fb.cell 1;have qf:=j.fb.free 1;simp only[Ym,Yv]at q2;clear j K aa ad ac an aL HH aH x0 y0 y1 y2 y3 hi am aI aJ C D;go_wp2;go_meet;exact⟨_,_,aN⟩
  . have M:((y:Int)==19)=Ff:=Yk.2 fP
    have e:H=B2:=(by rw[<- ck.u];exact Ys g);subst e;have e:n3=n2:=(by rw[<- cr.u];exact bB);subst e;clear g;go_wp2;go_meet;exact⟨b2,d2,C⟩
 case rest =>
 as_aux_lemma =>
 clear C W;obtain⟨s,d3,I⟩:=hcut;obtain⟨y0,y1,y2,y3⟩:=E0 I.fb;obtain⟨e,bC⟩:=oB I.fin I.r0;clear I;go_wp2_with (refine wpList_store_row rfl 28 (.tmp 6) (.tmp 231) rfl (F+1) (Jo t N c1 s n3 d3 Z T e1 (Sm (Aq r 0)) n B) rfl rfl 28 Ji bC fR rfl fZ ?_);clear y0 y1 y2 y3;obtain⟨y0,y1,y2,y3⟩:=E0 e.2.2;exact bodyPost_ret (v:=.agg (Jo t N c1 s n3 d3 Z T e1 (Sm (Aq r 0)) n B)) (by simp[results,results18,go_sem,y0,y1,y2,y3]) rfl ⟨_,_,_,_,_,rfl,by have h:=e.1;rw[<- db.u,<- c7.u,<- dc.u,<- aB.u,<- df.u,<- c9.u,<- da.u,<- cs.u,<- dg.u]at h;exact h,e.2.1⟩
