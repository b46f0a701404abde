import Derived.Test.YtmdjbldpclbkhaaGreatDoorW41
set_option linter.all false
set_option maxRecDepth 100000
set_option maxHeartbeats 0
namespace Go.Proofs.YtmdjbldpclbkhaaGreatDoor
open Value renaming slice->Sl,string->St,bool->Bo
open Obj renaming cells->Cl
open Ending renaming returned->Rt
open Go Go.RowKit Go.Proofs.Tryz
variable {w:Tw}{n k j:Nat}{s:Tb}
def qes (w:Tw)(t:TypeId)(size:Nat):(w.alloc (Cl #[] t)).ownsRow w.1.size t size (Sl (some ⟨w.1.size,0,none⟩) 0 0) 0 [] :=
 ⟨fT,.inr ⟨w.1.size,0,#[],rfl,nR _,heap_alloc_new w (Cl #[] t),nR _,nZ _,fT,fT⟩⟩
def qmp (n k m:Int)(s x:Tb):prog.built 119 [(0,Yf n),(1,.agg (Jm k m s)),(2,St x)]=some (Jz n k m s x):=by kernel_rfl
def kgI {c:Array Oper}{rest:List Oper}{o:Oper}{a:Act}{b:Exit->Act->Tw->Prop}(l:o.guard=none)(d e f:Operand)(p:o.op=.build 119 #[(0,d),(1,e),(2,f)]){n k m:Int}{x:Tb}(h:a.eval d=Yf n)(i:a.eval e=.agg (Jm k m s))(j:a.eval f=St x)
 (g:wpList prog c b rest (a.put o.dst (.agg (Jz n k m s x))) w):wpList prog c b (o :: rest) a w :=
 q84 l 119 _ p _ (by simp only[Gb,Zz,Vq,h,i,j];exact qmp n k m s x) g
def kgJ (n k m:Int)(s x:Tb):Instr.fill (λa=>some (a*5,5)) ((Array.range (1*5)).map ((Value.agg #[Yf 0,Yf 0,Yf 0,Yh,Yh]).cells[· % (Value.agg #[Yf 0,Yf 0,Yf 0,Yh,Yh]).cells.size]!)) [(0,.agg (Jz n k m s x))]=some (Jz n k m s x):=by kernel_rfl
def qib:(prog.info? 119).map (λa=>(a.zero,a.size,a.bytes))=some (some (.agg #[Yf 0,Yf 0,Yf 0,Yh,Yh]),5,56):=by kernel_rfl
def qmk {d:Array Oper}{rest:List Oper}{o:Oper}{a:Act}{c:Exit->Act->Tw->Prop}(f:o.guard=none)(y:Operand)(h:o.op=.buildSlice 71 1 #[(0,y)]){n k m:Int}{x:Tb}(i:a.eval y=.agg (Jz n k m s x)) (e:wpList prog d c rest (a.put o.dst (Sl (some ⟨w.1.size,0,none⟩) 1 1)) (w.alloc (Cl (Jz n k m s x) 119))):wpList prog d c (o :: rest) a w:=by obtain⟨l,g,j,b,p⟩:=info_parts qib;refine wpList_buildSlice f _ 119 1 _ h _ l _ underlying71 g j gY gY ?_ e;rw[b];simp only[Gb,Zz,Vq,i];exact kgJ n k m s x
def kgK (x y:Int):Instr.fill (λa=>some (a*2,2)) ((Array.range (1*2)).map ((Value.agg Jq).cells[· % (Value.agg Jq).cells.size]!)) [(0,.agg (Jv x y))]=some (Jv x y):=by kernel_rfl
def qml {d:Array Oper}{rest:List Oper}{o:Oper}{a:Act}{c:Exit->Act->Tw->Prop}(f:o.guard=none)(z:Operand)(h:o.op=.buildSlice 24 1 #[(0,z)]){x y:Int}(i:a.eval z=.agg (Jv x y)) (e:wpList prog d c rest (a.put o.dst (Sl (some ⟨w.1.size,0,none⟩) 1 1)) (w.alloc (Cl (Jv x y) 101))):wpList prog d c (o :: rest) a w:=by obtain⟨k,g,j,b,l⟩:=info_parts qoo;refine wpList_buildSlice f _ 101 1 _ h _ k _ underlying24 g j gY gY ?_ e;rw[b];simp only[Gb,Zz,Vq,i];exact kgK x y
def kgL (x:Tb)(y:Int):Instr.fill (λa=>some (a*2,2)) ((Array.range (1*2)).map ((Value.agg #[Yh,Yf 0]).cells[· % (Value.agg #[Yh,Yf 0]).cells.size]!)) [(0,.agg #[St x,Yf y])]=some #[St x,Yf y]:=by kernel_rfl
def qmm {d:Array Oper}{rest:List Oper}{o:Oper}{a:Act}{c:Exit->Act->Tw->Prop}(f:o.guard=none)(z:Operand)(h:o.op=.buildSlice 25 1 #[(0,z)]){x:Tb}{y:Int}(i:a.eval z=.agg #[St x,Yf y]) (e:wpList prog d c rest (a.put o.dst (Sl (some ⟨w.1.size,0,none⟩) 1 1)) (w.alloc (Cl #[St x,Yf y] 47))):wpList prog d c (o :: rest) a w:=by obtain⟨k,g,j,b,l⟩:=info_parts qop;refine wpList_buildSlice f _ 47 1 _ h _ k _ underlying25 g j gY gY ?_ e;rw[b];simp only[Gb,Zz,Vq,i];exact kgL x y
def kgM {l:List Int}:∀a,a∈iV l->a.oneCell'=true:=λa b=>by obtain⟨c,-,a⟩:=Of.1 b;obtain rfl:=Y9.1 a;rfl
def kgN {l:List (Int × Int)}:∀a,a∈pV l->a.oneCell'=true:=λa b=>by obtain⟨c,-,a⟩:=Of.1 b;rcases Zw.1 a with rfl | a;{rfl};obtain rfl:=Y9.1 a;rfl
def kgO {l:List Rl}:∀a,a∈rV' l->a.oneCell'=true:=λa b=>by obtain⟨c,-,a⟩:=Of.1 b;rcases Zw.1 a with rfl | a;{rfl};obtain rfl:=Y9.1 a;rfl
def qbh {b:Type}(l:List b)(a:j<l.length)(c:1<=j):(l.take (j+1)).drop 1=(l.take j).drop 1++[l[j]]:=by rw[O0,Yn a,List.drop_append_of_le_length hZ];rfl
def qbg {a:Type}(x:a)(l:List a)(b:j<l.length):x :: l.take (j+1)=(x :: l.take j)++[l[j]]:=by rw[O0,Yn b];rfl
def qjq {base g c:Nat}{P:List (Fl × FA)}(e:w.ownsRow base 73 9 (Sl (some ⟨g,0,none⟩) n c) P.length (fdV P))(i:k<P.length):w.cell? ⟨g,k*9,none⟩=some (St P[k].1.nm):=by obtain⟨l,m,b,-,j⟩:=qat e;cases b;obtain⟨o,d,-,-,h⟩:=j fP;cases d;have:=h (k*9+0) fP;unfold fdV at this;rw[qhs (f:=λa:Fl × FA=>fCs a.1 a.2) (s:=9) (p:=0) (λ_=>rfl) i fP]at this;exact this
def jT {p:Prop}(h:p:=by subst l;go_wp2;go_meet;exact⟨d,g.u⟩):p:=h
def jU {p:Prop}(h:p:=by go_wp2;go_meet;exact⟨d,E⟩):p:=h
def jV {p:Prop}(h:p:=by go_wp2;go_meet;exact⟨_,E⟩):p:=h
def jW {p:Prop}(h:p:=by go_wp2;go_meet;exact⟨congrArg Value.bool (by rw[<- aY.u];exact(Yo fP).symm),rfl⟩):p:=h
def jX {p:Prop}(h:p:=by go_wp2;go_meet;exact⟨congrArg Value.bool (by rw[<- a6.u];rfl),rfl⟩):p:=h
def jY {p:Prop}(h:p:=by first | exact qps bm | (simp[intOf];omega)):p:=h
def qfm (aQ:Nat)(f:Nat->Nat)(aW:aQ<=1048576)(q:Nat)(hq:q<=200000)(m:Fm)(N y D n:Nat)(hN:m.L.length=N)(dl:N<=100)(aX:m.P.length=y)(dv:y<=200)(bI:m.R.length=D)(dw:D<=1000)(hn:m.F.length=n)(aE:n<=100)(dp:0<n)(Q:∀x,x∈m.F->x.bys.length<=1000)
 (j k x:Nat) (J:tkD aQ f q 20=j) (H:tkD aQ f (q+1) n=k) (O:tkD aQ f (q+2) n=x) (w:Tw) (a:To) (c:Nat) (S:kbs w a aQ f) (base:Nat) (b7:base<=w.1.size) (v1 v2 v3 v4:Value) (P:List (Fl × FA)) (d:OwM w base v1 v2 v3 v4 m P) :
 Calls prog 21 #[.slice a aQ c,Yf q,.agg #[v1,v2,v3,v4]] w λl r=>∃e g o s P',l=.returned (.agg #[e,g,o,s])/\OwM r base e g o s { m with F:=m.F.set k (spG j k N (m.F.getD x kcs).nm (m.F.getD k kcs)),P:=spB j N m.P,R:=spR j m.R } P'/\Bw w r:=by
 have dD:j<20:=by rw[<- J];exact kaC aW fP fP fP
 have dm:k<n:=by rw[<- H];exact kaC aW fP fP fP
 have dE:x<n:=by rw[<- O];exact kaC aW fP fP fP
 obtain⟨G,c1,e1,-⟩:=qat d.l;obtain⟨M,c2,e2,-⟩:=qat d.p;obtain⟨I,c3,e3,-⟩:=qat d.r;obtain⟨U,c4,e4,-⟩:=qat d.f.row;have aD:P.length=n:=by rw[<- hn,d.e,Zk]
 rw[hN]at e1;rw[aX]at e2;rw[bI]at e3;rw[aD]at e4;subst e1 e2 e3 e4;have ch:Hi (∀C,C∈P->C.1.bys.length<=1000):=h_ λC X=>Q C.1 (by rw[d.e];exact List.mem_map_of_mem X);have T:m.F.getD k kcs=(P[k]).1:=by rw[d.e,<- qhz,Yq,Yn fP];rfl
 have W:m.F.getD x kcs=(P[x]).1:=by rw[d.e,<- qhz,Yq,Yn fP];rfl
 rw[T,W];obtain⟨F,hF⟩:=Nq w.1.size;have bL:Hi (∀e,Below F w e->kbs e a aQ f):=h_ λe K=>S.mono (by rw[Bw,hF];exact K);have bM:Hi (∀e,Below F w e->OwM e base (.slice G N c1) (.slice M y c2) (.slice I D c3) (.slice U n c4) m P):=h_ λe K=>d.mono (by rw[Bw,hF];exact K);have cp:=h_ d;have g:=(Blk.new w 28 (Jn G N c1 M y c2 I D c3 U n c4)).alloc (.cells Jf 28);have o:=Blk.new (w.alloc (.cells (Jn G N c1 M y c2 I D c3 U n c4) 28)) 28 Jf;have z:Bw w ((w.alloc (.cells (Jn G N c1 M y c2 I D c3 U n c4) 28)).alloc (.cells Jf 28)):=((bR w.1.size w).alloc (nR _) _).alloc fT _;rw[Yv]at o;obtain⟨W0,E⟩:=Nq ((w.alloc (.cells (Jn G N c1 M y c2 I D c3 U n c4) 28)).alloc (.cells Jf 28));rw[E]at g o z;unfold Bw at z⊢;rw[hF]at g o z b7⊢;obtain⟨t,bB,s,HF⟩:=oD g o z hF;obtain⟨V,A,B⟩:=oC J H O;obtain⟨p1,Y⟩:=Nq (q+1);obtain⟨p2,Z⟩:=Nq (q+2);rw[Y]at A;rw[Z]at B;have e1:(q:Int)+1=(p1:Int):=fP
 have e2:(p1:Int)+1=(p2:Int):=fP
 have dx:p2<=200002:=fP
 have dq:((n:Int)==0)=false:=Yl.2 fP;have dr:¬ (n:Int)=0:=fP
 clear d S J H O g o z Q Y Z T W;obtain⟨y0,y1,y2,y3⟩:=kac t;go_enter func21,ntmps21;go_wp2_with fail
 try rw[E]
 refine cQ (qsd (p:=q) (n:=20) aW fP fP fP c (bL W0 s) rfl rfl) λr S=>?_;rw[S,V.u];clear S r;go_wp2_with fail;refine cQ (qsd (p:=p1) (n:=n) aW fP fP fP c (bL W0 s) rfl rfl) λr S=>?_;rw[S,A.u];clear S r;go_wp2_with fail;refine cQ (qsd (p:=p2) (n:=n) aW fP fP fP c (bL W0 s) rfl rfl) λr S=>?_;rw[S,B.u];clear S r;have ak:=(bR W0.1.size W0).alloc (nR _) (.cells #[] 73);have cM:F<=W0.1.size:=Oa t.lt;have Q:Hi ((W0.alloc (.cells #[] 73)).ownsRow F 73 9 (.slice (some ⟨W0.1.size,0,none⟩) 0 0) (P.take 0).length (fdV (P.take 0))):=h_ (qjr (qes W0 73 9) cM);have T:=h_ (t.mono ak t.lt);have aA:=mB bB ak;have ao:=h_ (s.trans (ak.mono cM));obtain⟨W1,d⟩:=Nq (W0.alloc (.cells #[] 73));obtain⟨z0,al⟩:=Nq W0.1.size;rw[d]at Q T aA ao;rw[al]at Q;clear ak t bB s y0 y1 y2 y3 V A B
 go_upto_block 0 with fail
 try rw[d]
 try rw[al]
 clear d al E;go_cut [10] from 18 (λaj z=>∃A J,aj=(.slice (some ⟨A,0,none⟩) n J)/\z.ownsRow F 73 9 (.slice (some ⟨A,0,none⟩) n J) P.length (fdV P)/\Blk z F 28 [.slice G N c1,.slice M y c2,.slice I D c3,.slice U n c4]/\Blk z (F+1) 28 J1/\Below F w z)
 case first =>
  as_aux_lemma =>
  go_wp2;go_loopw [10,11] (λaj i wr=>∃r:Nat,r<=n/\i=Yf r/\wr.ownsRow F 73 9 aj (P.take r).length (fdV (P.take r))/\Blk wr F 28 [.slice G N c1,.slice M y c2,.slice I D c3,.slice U n c4]/\Blk wr (F+1) 28 J1/\Below F w wr) (λ_ i _=>n - (intOf i).toNat)
  case atStart=>exact⟨0,nZ _,rfl,Q,T,aA,ao⟩
  case round =>
   clear Q T aA ao;obtain⟨r,hj,rfl,H,g,o,K⟩:=hrel;obtain⟨y0,y1,y2,y3⟩:=kac g;by_cases bm:r<n
   . have bn:(r:Int)<(n:Int):=fP
     have W:r<P.length:=fP;have V:OwF wr base (.slice U P.length c4) P:=(by rw[aD];exact(bM wr K).f);obtain⟨b1,o1,e4,B,-⟩:=qo1 V r (by rw[Zk];exact W);obtain⟨⟨u,d⟩,t⟩:∃x,P[r]=x:=⟨_,rfl⟩;rw[Og,qhm W,t]at B;have aB:=h_ B.rng;clear B;have bf:Hi (P.take (r+1)=P.take r++[(u,d)]):=h_ (by rw[O0,Yn W,t];rfl);subst e4;have s:=(bR wr.1.size wr).alloc (nR _) (.cells (Jb u d.b d.bc d.i d.ic d.h d.hc d.v d.vc d.u d.uc) 73);have E:Hi (Blk _ _ 73 (Ju u d.b d.bc d.i d.ic d.h d.hc d.v d.vc d.u d.uc)):=h_ (Blk.new wr 73 (Jb u d.b d.bc d.i d.ic d.h d.hc d.v d.vc d.u d.uc));have ap:=h_ (qeo H s);have aF:F<=wr.1.size:=Oa g.lt;have Y:=h_ (g.mono s g.lt);have Z:=h_ (o.mono s o.lt);have ag:=h_ (K.trans (s.mono aF));have aw:F<=(wr.alloc (.cells (Jb u d.b d.bc d.i d.ic d.h d.hc d.v d.vc d.u d.uc) 73)).1.size:=Yx aF s.size;have cI:(P.take r).length<=1000:=hZ;clear s H g o K V t;go_wp2_with (first | (at_builtin;refine qgk (n:=(u,d)) rfl _ _ rfl rfl ap rfl E fP aw ?_) | refine wpList_load_mid rfl 73 (.tmp 59) rfl b1 (o1+r*9) rfl (fCs u d) _ aB underlying73 rfl fR ?_ | refine qmj rfl (.tmp 60) rfl rfl ?_);intro v' W4 O ac ab;have cR:=h_ (Y.grow ap fS ac);have c7:=h_ (Z.grow ap fS ac);have a0:=h_ (ag.trans ab);have cJ:(P.take (r+1)).length=r+1:=(by rw[Zb,Gh fP]);have aa:W4.ownsRow F 73 9 v' (P.take (r+1)).length (fdV (P.take (r+1))):=(by rw[<- bf.u]at O;first | exact O | (rw[cJ];exact O));have bd:=h_ aa;clear aa cJ;clear O ac ab E ap Y Z ag aw y0 y1 y2 y3 aB;go_wp2;go_roundw
     case rel=>exact⟨r+1,fP,fX,bd,cR,c7,a0⟩
     case measure=>exact jY
   . have bn:¬ (r:Int)<(n:Int):=fP
     obtain rfl:r=n:=fP;rw[show P.take r=P by rw[<- aD,Zp]]at H;obtain⟨g',c',e',-,W⟩:=qat H;obtain⟨A,eg,-,-,-⟩:=W fP;rw[aD]at e';subst e' eg;obtain⟨c0,cU,aK,Y⟩:=oD H g o K;clear H g o K W;go_wp2;go_meet;exact⟨_,_,rfl,c0,cU,aK,Y⟩
 case rest =>
 as_aux_lemma =>
 obtain⟨A,J,rfl,H,g,o,K⟩:=hcut;clear Q T aA ao;have aV:k<P.length:=fP
 have cP:x<P.length:=fP
 have cd:=bM wc K;have V:OwF wc base (.slice (some ⟨A,0,none⟩) P.length J) P:=⟨qjr (by rw[<- aD]at H;exact H) b7,λC X=>cd.f.sub C X⟩;obtain⟨b1,o1,e4,B,-⟩:=qo1 V k (by rw[Zk];exact aV);cases e4;obtain⟨⟨u,d⟩,t⟩:∃x,P[k]=x:=⟨_,rfl⟩;rw[Og,qhm aV,t,Zu]at B;have aB:=h_ B.rng;have cD:FOw wc base u d:=by have:=cd.f.sub P[k] (Yr aV);rw[t]at this;exact this
 have cO:u.bys.length<=1000:=by have:=ch P[k] (Yr aV);rw[t]at this;exact this
 obtain⟨nx,cc⟩:=Nq ((P[x]).1.nm);have cn:=h_ cc;have c9:Hi ((P[k]).1=u):=h_ (by rw[t]);have ce:=Blk.new wc 73 Jj;have cw:=h_ ce;have s:=below_setRow ((bR wc.1.size wc).alloc (nR _) (.cells Jj 73)) (nR _) (fCs u d).toArray;have X:=ce.row (fCs u d);have bK:((wc.alloc (.cells Jj 73)).setRow wc.1.size (fCs u d).toArray).1.size=wc.1.size+1:=by simp[World.setRow]
 obtain⟨W2,b4⟩:=Nq ((wc.alloc (.cells Jj 73)).setRow wc.1.size (fCs u d).toArray);rw[b4]at s X bK;have zx:W2.cell? ⟨A,x*9,none⟩=some (.string nx):=by rw[<- cc];exact qjq (qeo H s) cP
 have bH:=(bR W2.1.size W2).alloc (nR _) (.cells #[Yf 1,Yf 0,Yf 0,Yh,.string nx] 119);have av:kbv _ _ _ _:=kbv.lone W2 (rdN nx);have au:=s.trans (bH.mono s.size);have dA:=g.lt;have dB:=o.lt;have dc:A<wc.1.size:=by have:=qqg H (q:=A) rfl;exact this
 obtain⟨Q,W⟩:=Nq (W2.alloc (.cells #[Yf 1,Yf 0,Yf 0,Yh,.string nx] 119));have cy:W2.alloc (.cells (Jz (rdN nx).op (rdN nx).v.k (rdN nx).v.n (rdN nx).v.s (rdN nx).nm) 119)=Q:=W;rw[cy]at av;rw[W]at bH au;rw[bK]at av;obtain⟨T,Y⟩:=Nq wc.1.size;have C:Hi (SMk (.slice G N c1) (.slice M y c2) (.slice I D c3) (.slice U n c4) (.slice (some ⟨A,0,none⟩) n J) P base F T (T+1) nx u d w Q):=h_ ⟨g.mono au g.lt,o.mono au o.lt,qeo H au,by rw[<- Y];exact X.mono bH X.lt,cD.mono au,by rw[<- Y];exact av.low fP,K.trans (au.mono fP),λl=>by have e':some A=some T:=l;cases e';omega,fP⟩;obtain⟨cu,ct,cv⟩:=oC W b4 Y;clear s bH X av au cD cd V H g o K t cc W cy b4 Y ce B;have dn:(k:Int)<(n:Int):=fP
 have dF:(x:Int)<(n:Int):=fP
 go_upto_region 13 with (first | refine wpList_load_mid rfl 73 (.tmp 65) rfl A (k*9) rfl (fCs u d) _ aB underlying73 rfl fR ?_ | refine wpList_store_row rfl 73 (.tmp 12) (.tmp 66) rfl wc.1.size (fCs u d).toArray rfl rfl 73 _ cw fR rfl gt ?_)
 rw[ct.u];go_upto_region 14 with (first | refine q84 rfl 43 #[] rfl Jr fR ?_ | refine kgI rfl (.const (Yf 1)) (.tmp 67) (.tmp 72) rfl rfl rfl rfl ?_ | refine qmk rfl (.tmp 73) rfl rfl ?_)
 rw[cu.u]
 try rw[bK]
 try rw[cv.u]
 clear ct cu cw aB zx dc;obtain⟨rd,g⟩:=Nq (T+1);rw[g]at C⊢;clear g bK cv;obtain⟨e,t⟩:=Nq Q;rw[t]at C⊢;clear t Q;obtain⟨g1,g⟩:∃Q,sp1 j nx u=Q:=⟨_,rfl⟩;have a7:=h_ g;clear g;have dg:g1.bys.length<=1000:=by rw[<- a7.u];unfold sp1;split <;> exact cO
 go_upto_if 76 with fail
 go_cut [] from 18 (λz=>∃d,SMk (.slice G N c1) (.slice M y c2) (.slice I D c3) (.slice U n c4) (.slice (some ⟨A,0,none⟩) n J) P base F T rd nx g1 d w z)
 case first =>
  as_aux_lemma =>
  have g:=C;clear C;by_cases o:j=0
  . subst o
    rw[show((0:Nat):Int)=0 from rfl];have l:g1 = { u with nm:=nx }:=(by rw[<- a7.u];exact Y6 rfl);subst l;have zx:=qjq g.u.out cP;rw[show(P[x]).1.nm=nx from cn.u]at zx;have Y:=g.u.bx.cell 0;have qf:=g.u.bx.free 0;rw[show(fCs u d)[0]? = some (.string u.nm) from rfl]at Y;have E:=h_ (g.u.put (g':={ u with nm:=nx }) (A':=d) 0 (.string nx) rfl ⟨g.u.ow.b,g.u.ow.i,g.u.ow.h,g.u.ow.v,g.u.ow.u⟩);clear g;exact jU
  . have S:((j:Int)==0)=false:=Yl.2 fP
    have l:g1=u:=(by rw[<- a7.u];exact Y2 o);exact jT
 case rest =>
 as_aux_lemma =>
 clear C d e;obtain⟨d,C⟩:=hcut;have B:=h_ C;clear C;obtain⟨e,t⟩:=Nq wc;rw[t]at B⊢;clear t wc;obtain⟨g2,V⟩:∃Q,sp2 j g1=Q:=⟨_,rfl⟩;have a8:=h_ V;clear V;have dh:g2.bys.length<=1000:=by rw[<- a8.u];unfold sp2;split <;> exact dg
 go_upto_if 84 with fail
 go_cut [] from 18 (λz=>∃d,SMk (.slice G N c1) (.slice M y c2) (.slice I D c3) (.slice U n c4) (.slice (some ⟨A,0,none⟩) n J) P base F T rd nx g2 d w z)
 case first =>
  as_aux_lemma =>
  have g:=B;clear B;by_cases o:j=1
  . subst o
    rw[show((1:Nat):Int)=1 from rfl];have l:g2 = { g1 with nm:=keW }:=(by rw[<- a8.u];exact Y6 rfl);subst l;have Y:=g.u.bx.cell 0;have qf:=g.u.bx.free 0;rw[show(fCs g1 d)[0]? = some (.string g1.nm) from rfl]at Y;have E:=h_ (g.u.put (g':={ g1 with nm:=keW }) (A':=d) 0 (.string ⟨#[109,117,115,116]⟩) rfl ⟨g.u.ow.b,g.u.ow.i,g.u.ow.h,g.u.ow.v,g.u.ow.u⟩);clear g;exact jU
  . have S:((j:Int)==1)=false:=Yl.2 fP
    have l:g2=g1:=(by rw[<- a8.u];exact Y2 o);exact jT
 case rest =>
 as_aux_lemma =>
 clear B d e;obtain⟨d,C⟩:=hcut;have ad:=h_ C;clear C;obtain⟨e,t⟩:=Nq wc;rw[t]at ad⊢;clear t wc;obtain⟨g3,V⟩:∃Q,sp3 j N g2=Q:=⟨_,rfl⟩;have a9:=h_ V;clear V;have di:g3.bys.length<=1000:=by rw[<- a9.u];unfold sp3;split <;> exact dh
 go_upto_if 87 with fail
 go_cut [] from 18 (λz=>∃d,SMk (.slice G N c1) (.slice M y c2) (.slice I D c3) (.slice U n c4) (.slice (some ⟨A,0,none⟩) n J) P base F T rd nx g3 d w z)
 case first =>
  as_aux_lemma =>
  have g:=ad;clear ad;by_cases o:j=2
  . subst o
    rw[show((2:Nat):Int)=2 from rfl];have l:g3 = { g2 with lb:=(N:Int) }:=(by rw[<- a9.u];exact Y6 rfl);subst l;have Y:=g.u.bx.cell 2;have qf:=g.u.bx.free 2;rw[show(fCs g2 d)[2]? = some (Yf g2.lb) from rfl]at Y;obtain⟨y0,-⟩:=kac g.u.fb;have E:=h_ (g.u.put (g':={ g2 with lb:=(N:Int) }) (A':=d) 2 (Yf N) rfl ⟨g.u.ow.b,g.u.ow.i,g.u.ow.h,g.u.ow.v,g.u.ow.u⟩);clear g;exact jU
  . have S:((j:Int)==2)=false:=Yl.2 fP
    have l:g3=g2:=(by rw[<- a9.u];exact Y2 o);exact jT
 case rest =>
 as_aux_lemma =>
 clear ad d e;obtain⟨d,C⟩:=hcut;have aC:=h_ C;clear C;obtain⟨e,t⟩:=Nq wc;rw[t]at aC⊢;clear t wc;obtain⟨W,ac⟩:∃Q,sp4 j k g3=Q:=⟨_,rfl⟩;have ba:=h_ ac;clear ac;have dC:W.bys.length<=1000:=by rw[<- ba.u];unfold sp4;split <;> exact di
 go_upto_if 93 with fail
 go_cut [] from 18 (λz=>∃d,SMk (.slice G N c1) (.slice M y c2) (.slice I D c3) (.slice U n c4) (.slice (some ⟨A,0,none⟩) n J) P base F T rd nx W d w z)
 case first =>
  as_aux_lemma =>
  have g:=aC;clear aC;by_cases o:j=3
  . subst o
    rw[show((3:Nat):Int)=3 from rfl];obtain⟨V,X⟩:=Nq (k % 2);have de:(k:Int) % 2=(V:Int):=fP;have dy:(k:Int).tmod 2=(V:Int):=(by rw[show(k:Int).tmod 2=(k:Int) % 2 from rfl];exact de);have dz:V<2:=fP;have l:W = { g3 with ty:=4 - ((V:Int)*4) }:=(by rw[<- ba.u,<- X];exact Y6 rfl);subst l;have Y:=g.u.bx.cell 1;have qf:=g.u.bx.free 1;rw[show(fCs g3 d)[1]? = some (Yf g3.ty) from rfl]at Y;have E:=h_ (g.u.put (g':={ g3 with ty:=4 - ((V:Int)*4) }) (A':=d) 1 (Yf (4 - ((V:Int)*4))) rfl ⟨g.u.ow.b,g.u.ow.i,g.u.ow.h,g.u.ow.v,g.u.ow.u⟩);clear g X;exact jU
  . have S:((j:Int)==3)=false:=Yl.2 fP
    have l:W=g3:=(by rw[<- ba.u];exact Y2 o);exact jT
 case rest =>
 as_aux_lemma =>
 clear aC d e;obtain⟨d,C⟩:=hcut;have bC:=h_ C;clear C;obtain⟨e,t⟩:=Nq wc;rw[t]at bC⊢;clear t wc;obtain⟨g5,V⟩:∃Q,sp5 j W=Q:=⟨_,rfl⟩;have bt:=h_ V;clear V;go_upto_if 100 with fail
 go_cut [] from 18 (λz=>∃d,SMk (.slice G N c1) (.slice M y c2) (.slice I D c3) (.slice U n c4) (.slice (some ⟨A,0,none⟩) n J) P base F T rd nx g5 d w z)
 case first =>
  as_aux_lemma =>
  have g:=bC;clear bC;by_cases o:j=4
  . subst o
    rw[show((4:Nat):Int)=4 from rfl];have l:g5 = { W with bys:=[0,0]++W.bys }:=(by rw[<- bt.u];exact Y6 rfl);subst l;have Y:=g.u.bx.cell 3;have qf:=g.u.bx.free 3;rw[show(fCs W d)[3]? = some (.slice d.b W.bys.length d.bc) from rfl]at Y;have s:=(bR e.1.size e).alloc (nR _) (.cells Jq 3);have Z:Hi ((e.alloc (.cells Jq 3)).ownsRow e.1.size 3 1 (.slice (some ⟨e.1.size,0,none⟩) 2 2) 2 (iV [0,0])):=h_ ⟨rfl,.inr ⟨e.1.size,2,_,rfl,nR _,heap_alloc_new e (.cells Jq 3),nR _,by unfold maxLen;omega,rfl,rfl⟩⟩;have B:=h_ (g.u.mono s);have q1:=B.bx.cell 3;rw[show(fCs W d)[3]? = some (.slice d.b W.bys.length d.bc) from rfl]at q1;have aG:e.1.size<=(e.alloc (.cells Jq 3)).1.size:=s.size;obtain⟨i0,hi,al,aH,aI⟩:=info_parts qol;have HH:=h_ s;clear s;go_wp2_with (at_builtin;refine q88 rfl _ _ 34 3 i0 _ 1 8 rfl underlying34 hi al aH aI rfl fP rfl Z rfl B.ow.b kgM fP fP aG ?_);intro v' W4 O ac ab;have cB:=HH.trans ab;have X:=g.u.mono cB;obtain⟨b5,V,rfl,-,-⟩:=qat O;have cL:OwI W4 base (.slice b5 ([0,0]++W.bys).length V) ([0,0]++W.bys):=by
     have h:=qjr O (show base<=e.1.size by have:=g.u.fb.lt;omega);unfold OwI;rw[Ym,show iV ([0,0]++W.bys)=iV [0,0]++iV W.bys by unfold iV;rw[Zt]];exact h
    have bX:=X.put (g':={ W with bys:=[0,0]++W.bys }) (A':={ d with b:=b5,bc:=V }) 3 (.slice b5 ([0,0]++W.bys).length V) rfl ⟨cL,X.ow.i,X.ow.h,X.ow.v,X.ow.u⟩;rw[Ym]at bX;have E:=h_ bX;have q2:=X.bx.cell 3;have dG:=X.bx.free 3;rw[show(fCs W d)[3]? = some (.slice d.b W.bys.length d.bc) from rfl]at q2;clear g B Z HH aG O ac ab cB X cL bX hi al aH aI Y qf q1;exact jV
  . have S:((j:Int)==4)=false:=Yl.2 fP
    have l:g5=W:=(by rw[<- bt.u];exact Y2 o);exact jT
 case rest =>
 as_aux_lemma =>
 clear bC d e;obtain⟨d,C⟩:=hcut;have X:=h_ C;clear C;obtain⟨e,t⟩:=Nq wc;rw[t]at X⊢;clear t wc;obtain⟨g6,B⟩:∃Q,sp6 j g5=Q:=⟨_,rfl⟩;have bu:=h_ B;clear B;go_upto_if 107 with fail
 go_cut [] from 18 (λz=>∃d,SMk (.slice G N c1) (.slice M y c2) (.slice I D c3) (.slice U n c4) (.slice (some ⟨A,0,none⟩) n J) P base F T rd nx g6 d w z)
 case first =>
  as_aux_lemma =>
  have g:=X;clear X;by_cases o:j=5
  . subst o
    rw[show((5:Nat):Int)=5 from rfl];have l:g6 = { g5 with sy:=kcc,va:=[] }:=(by rw[<- bu.u];exact Y6 rfl);subst l;have h7:=g.u.put (g':={ g5 with sy:=kcc }) (A':=d) 7 (.string ⟨#[110,111,32,114,117,108,101]⟩) rfl ⟨g.u.ow.b,g.u.ow.i,g.u.ow.h,g.u.ow.v,g.u.ow.u⟩;have q7:=g.u.bx.cell 7;have f7:=g.u.bx.free 7;rw[show(fCs g5 d)[7]? = some (.string g5.sy) from rfl]at q7;obtain⟨B,bZ⟩:=Nq (e.setCell ⟨T,7,none⟩ (.string ⟨#[110,111,32,114,117,108,101]⟩));rw[bZ]at h7;have s:=(bR B.1.size B).alloc (nR _) (.cells #[] 119);have Z:=h7.mono s;have ae:=qes B 119 5;have df:base<=B.1.size:=(by have:=h7.fb.lt;omega);have hN:=Z.put (g':={ g5 with sy:=kcc,va:=[] }) (A':={ d with v:=some ⟨B.1.size,0,none⟩,vc:=0 }) 6 (.slice (some ⟨B.1.size,0,none⟩) 0 0) rfl ⟨Z.ow.b,Z.ow.i,Z.ow.h,qjr ae df,Z.ow.u⟩;have E:=h_ hN;have q6:=Z.bx.cell 6;have f6:=Z.bx.free 6;rw[show(fCs { g5 with sy:=kcc } d)[6]? = some (.slice d.v g5.va.length d.vc) from rfl]at q6;have cs:=h_ bZ;clear g h7 Z s ae hN bZ;go_upto_region 26 with fail
    rw[cs.u];clear cs q7 f7;exact jV
  . have S:((j:Int)==5)=false:=Yl.2 fP
    have l:g6=g5:=(by rw[<- bu.u];exact Y2 o);exact jT
 case rest =>
 as_aux_lemma =>
 clear X d e;obtain⟨d,C⟩:=hcut;have X:=h_ C;clear C;obtain⟨e,t⟩:=Nq wc;rw[t]at X⊢;clear t wc;obtain⟨g7,B⟩:∃Q,sp7 j g6=Q:=⟨_,rfl⟩;have bv:=h_ B;clear B;go_upto_if 112 with fail
 go_cut [] from 18 (λz=>∃d,SMk (.slice G N c1) (.slice M y c2) (.slice I D c3) (.slice U n c4) (.slice (some ⟨A,0,none⟩) n J) P base F T rd nx g7 d w z)
 case first =>
  as_aux_lemma =>
  have g:=X;clear X;by_cases o:j=6
  . subst o
    rw[show((6:Nat):Int)=6 from rfl];have l:g7 = { g6 with mu:=[⟨3,⟨0,0,⟨#[]⟩⟩,⟨#[]⟩⟩] }:=(by rw[<- bv.u];exact Y6 rfl);subst l;have ck:=h_ (q4q 3 e);go_wp2_with fail;refine cQ ck λW1 K=>?_;have h1:=g.u.mono K;have s:=(bR W1.1.size W1).alloc (nR _) (.cells #[Yf 3,Yf 0,Yf 0,Yh,Yh] 119);have B:=h1.mono s;have ae:kbv _ _ _ _:=kbv.lone W1 ⟨3,⟨0,0,⟨#[]⟩⟩,⟨#[]⟩⟩;have aP:base<=W1.1.size:=(by have:=h1.fb.lt;omega);have E:=h_ (B.put (g':={ g6 with mu:=[⟨3,⟨0,0,⟨#[]⟩⟩,⟨#[]⟩⟩] }) (A':={ d with u:=some ⟨W1.1.size,0,none⟩,uc:=1 }) 8 (.slice (some ⟨W1.1.size,0,none⟩) 1 1) rfl ⟨B.ow.b,B.ow.i,B.ow.h,B.ow.v,ae.low aP⟩);have q8:=B.bx.cell 8;have f8:=B.bx.free 8;rw[show(fCs g6 d)[8]? = some (.slice d.u g6.mu.length d.uc) from rfl]at q8;clear g h1 B s ae K ck;go_wp2_with (refine qmk rfl (.tmp 113) rfl rfl ?_);go_meet;exact⟨_,E⟩
  . have S:((j:Int)==6)=false:=Yl.2 fP
    have l:g7=g6:=(by rw[<- bv.u];exact Y2 o);exact jT
 case rest =>
 as_aux_lemma =>
 clear X d e;obtain⟨d,C⟩:=hcut;have X:=h_ C;clear C;obtain⟨e,t⟩:=Nq wc;rw[t]at X⊢;clear t wc;obtain⟨g8,cG⟩:∃Q,sp8 j g7=Q:=⟨_,rfl⟩;have bw:=h_ cG;clear cG;go_upto_if 117 with fail
 go_cut [] from 18 (λz=>∃d,SMk (.slice G N c1) (.slice M y c2) (.slice I D c3) (.slice U n c4) (.slice (some ⟨A,0,none⟩) n J) P base F T rd nx g8 d w z)
 case first =>
  as_aux_lemma =>
  have g:=X;clear X;by_cases o:j=7
  . subst o
    rw[show((7:Nat):Int)=7 from rfl];have l:g8 = { g7 with wh:=[rdN kcq] }:=(by rw[<- bw.u];exact Y6 rfl);subst l;have s:=(bR e.1.size e).alloc (nR _) (.cells #[Yf 1,Yf 0,Yf 0,Yh,.string ⟨#[110,111,119,104,101,114,101]⟩] 119);have B:=g.u.mono s;have ae:kbv _ _ _ _:=kbv.lone e (rdN kcq);have aP:base<=e.1.size:=(by have:=g.u.fb.lt;omega);have E:=h_ (B.put (g':={ g7 with wh:=[rdN kcq] }) (A':={ d with h:=some ⟨e.1.size,0,none⟩,hc:=1 }) 5 (.slice (some ⟨e.1.size,0,none⟩) 1 1) rfl ⟨B.ow.b,B.ow.i,ae.low aP,B.ow.v,B.ow.u⟩);have q8:=B.bx.cell 5;have f8:=B.bx.free 5;rw[show(fCs g7 d)[5]? = some (.slice d.h g7.wh.length d.hc) from rfl]at q8;clear g B s ae;go_wp2_with (first | refine q84 rfl 43 #[] rfl Jr fR ?_ | refine kgI rfl (.const (Yf 1)) (.tmp 118) (.const (.string ⟨#[110,111,119,104,101,114,101]⟩)) rfl rfl rfl rfl ?_ | refine qmk rfl (.tmp 119) rfl rfl ?_);go_meet;exact⟨_,E⟩
  . have S:((j:Int)==7)=false:=Yl.2 fP
    have l:g8=g7:=(by rw[<- bw.u];exact Y2 o);exact jT
 case rest =>
 as_aux_lemma =>
 clear X d e;obtain⟨d,C⟩:=hcut;have aq:=h_ C;clear C;obtain⟨e,t⟩:=Nq wc;rw[t]at aq⊢;clear t wc;obtain⟨g9,X⟩:∃Q,sp9 j nx g8=Q:=⟨_,rfl⟩;have bz:=h_ X;clear X;obtain⟨b9,X⟩:∃b,decide (j=8∨j=9)=b:=⟨_,rfl⟩;have a6:=h_ X;clear X;go_upto_region 31 with fail
 go_cut [127] from 18 (λaj z=>aj=.bool b9/\z=e)
 case first =>
  as_aux_lemma =>
  by_cases Z:j=8
  . subst Z
    rw[show((8:Nat):Int)=8 from rfl];exact jX
  . have bF:((j:Int)==8)=false:=Yl.2 fP
    by_cases h9:j=9
    . subst h9
      rw[show((9:Nat):Int)=9 from rfl];exact jX
    . have bG:((j:Int)==9)=false:=Yl.2 fP
      go_wp2;go_meet;exact⟨congrArg Value.bool (by rw[<- a6.u];exact(Yo fP).symm),rfl⟩
 case rest =>
 as_aux_lemma =>
 obtain⟨rfl,rfl⟩:=hcut;obtain⟨e,t⟩:=Nq wc;rw[t]at aq⊢;clear t wc;go_upto_if 127 with fail
 go_cut [] from 18 (λz=>∃d,SMk (.slice G N c1) (.slice M y c2) (.slice I D c3) (.slice U n c4) (.slice (some ⟨A,0,none⟩) n J) P base F T rd nx g9 d w z)
 case first =>
  as_aux_lemma =>
  have g:=aq;clear aq;by_cases o:j=8∨j=9
  . obtain rfl:b9=true:=by rw[<- a6.u];exact Ys o
    have l:g9 = { g8 with bys:=[],is:=[rdN nx] }:=(by rw[<- bz.u];exact Y6 o);subst l;have s:=(bR e.1.size e).alloc (nR _) (.cells #[] 3);have B:=g.u.mono s;have ae:=qes e 3 1;have aP:base<=e.1.size:=(by have:=g.u.fb.lt;omega);have h3:=B.put (g':={ g8 with bys:=[] }) (A':={ d with b:=some ⟨e.1.size,0,none⟩,bc:=0 }) 3 (.slice (some ⟨e.1.size,0,none⟩) 0 0) rfl ⟨qjr ae aP,B.ow.i,B.ow.h,B.ow.v,B.ow.u⟩;have q3:=B.bx.cell 3;have f3:=B.bx.free 3;rw[show(fCs g8 d)[3]? = some (.slice d.b g8.bys.length d.bc) from rfl]at q3;obtain⟨V3,aN⟩:=Nq ((e.alloc (.cells #[] 3)).setCell ⟨T,3,none⟩ (.slice (some ⟨e.1.size,0,none⟩) 0 0));rw[aN]at h3;have E:=h_ (h3.put (g':={ g8 with bys:=[],is:=[rdN nx] }) (A':={ d with b:=some ⟨e.1.size,0,none⟩,bc:=0,i:=some ⟨rd,0,none⟩,ic:=1 }) 4 (.slice (some ⟨rd,0,none⟩) 1 1) rfl ⟨h3.ow.b,h3.rr,h3.ow.h,h3.ow.v,h3.ow.u⟩);have q4:=h3.bx.cell 4;have f4:=h3.bx.free 4;rw[show(fCs { g8 with bys:=[] } { d with b:=some ⟨e.1.size,0,none⟩,bc:=0 })[4]? = some (.slice d.i g8.is.length d.ic) from rfl]at q4;have bh:=h_ aN;clear g B h3 s ae aN o;go_upto_region 33 with fail
    rw[bh.u];clear bh q3 f3;exact jV
  . obtain rfl:b9=false:=by rw[<- a6.u];exact Yo o
    have l:g9=g8:=(by rw[<- bz.u];exact Y2 o);exact jT
 case rest =>
 as_aux_lemma =>
 clear aq d e;obtain⟨d,C⟩:=hcut;have bD:=h_ C;clear C;obtain⟨e,t⟩:=Nq wc;rw[t]at bD⊢;clear t wc;obtain⟨X,cE⟩:∃Q,khM j nx g9=Q:=⟨_,rfl⟩;have br:=h_ cE;clear cE;go_upto_if 133 with fail
 go_cut [] from 18 (λz=>∃d,SMk (.slice G N c1) (.slice M y c2) (.slice I D c3) (.slice U n c4) (.slice (some ⟨A,0,none⟩) n J) P base F T rd nx X d w z)
 case first =>
  as_aux_lemma =>
  have g:=bD;clear bD;by_cases o:j=10
  . subst o
    rw[show((10:Nat):Int)=10 from rfl];have l:X = { g9 with wh:=[rdN nx] }:=(by rw[<- br.u];exact Y6 rfl);subst l;have Y:=g.u.bx.cell 5;have qf:=g.u.bx.free 5;rw[show(fCs g9 d)[5]? = some (.slice d.h g9.wh.length d.hc) from rfl]at Y;have E:=h_ (g.u.put (g':={ g9 with wh:=[rdN nx] }) (A':={ d with h:=some ⟨rd,0,none⟩,hc:=1 }) 5 (.slice (some ⟨rd,0,none⟩) 1 1) rfl ⟨g.u.ow.b,g.u.ow.i,g.u.rr,g.u.ow.v,g.u.ow.u⟩);clear g;exact jV
  . have S:((j:Int)==10)=false:=Yl.2 fP
    have l:X=g9:=(by rw[<- br.u];exact Y2 o);exact jT
 case rest =>
 as_aux_lemma =>
 clear bD d e;obtain⟨d,C⟩:=hcut;have be:=h_ C;clear C;obtain⟨e,t⟩:=Nq wc;rw[t]at be⊢;clear t wc;obtain⟨Y,cF⟩:∃Q,kf0 j nx X=Q:=⟨_,rfl⟩;have aR:=h_ cF;clear cF;obtain⟨bP,Q⟩:∃b,decide (11<=j/\j<=15)=b:=⟨_,rfl⟩;have aY:=h_ Q;clear Q;go_upto_region 36 with fail
 go_cut [141] from 18 (λaj z=>aj=.bool bP/\z=e)
 case first =>
  as_aux_lemma =>
  by_cases Z:11<=j
  . have bF:(11:Int)<=j:=fP
    by_cases h9:j<=15
    . have bG:(j:Int)<=15:=fP
      go_wp2;go_meet;exact⟨congrArg Value.bool (by rw[<- aY.u];exact(Ys fP).symm),rfl⟩
    . have bG:¬ (j:Int)<=15:=fP
      exact jW
  . have bF:¬ (11:Int)<=j:=fP
    exact jW
 case rest =>
 as_aux_lemma =>
 obtain⟨rfl,rfl⟩:=hcut;obtain⟨e,t⟩:=Nq wc;rw[t]at be⊢;clear t wc;go_upto_if 141 with fail
 go_cut [] from 18 (λz=>∃d,SMk (.slice G N c1) (.slice M y c2) (.slice I D c3) (.slice U n c4) (.slice (some ⟨A,0,none⟩) n J) P base F T rd nx Y d w z)
 case first =>
  as_aux_lemma =>
  have g:=be;clear be;by_cases o:11<=j/\j<=15
  . obtain rfl:bP=true:=by rw[<- aY.u];exact Ys o
    have B:=g.u.put (g':={ X with lb:=0 }) (A':=d) 2 (Yf 0) rfl ⟨g.u.ow.b,g.u.ow.i,g.u.ow.h,g.u.ow.v,g.u.ow.u⟩;have q2:=g.u.bx.cell 2;have f2:=g.u.bx.free 2;rw[show(fCs X d)[2]? = some (Yf X.lb) from rfl]at q2;obtain⟨V2,Q⟩:=Nq (e.setCell ⟨T,2,none⟩ (Yf 0));rw[Q]at B;obtain⟨aT,ad⟩:=oB Q B;clear g B Q;by_cases an:j=11∨j=12
    . have l:Y = { X with lb:=0 }:=by rw[<- aR.u];exact Y6 an
      subst l;have cx:¬ (13:Int)<=j:=fP;have db:((j:Int)==15)=false:=Yl.2 fP;clear o an;go_upto_region 38 with fail
      rw[aT.u];clear aT q2 f2;go_wp2;go_meet;exact⟨_,ad⟩
    . have cx:(13:Int)<=j:=fP
      have Z:=ad.put (g':={ X with lb:=0,mu:=[rdN nx] }) (A':={ d with u:=some ⟨rd,0,none⟩,uc:=1 }) 8 (.slice (some ⟨rd,0,none⟩) 1 1) rfl ⟨ad.ow.b,ad.ow.i,ad.ow.h,ad.ow.v,ad.rr⟩;have q8:=ad.bx.cell 8;have f8:=ad.bx.free 8;rw[show(fCs { X with lb:=0 } d)[8]? = some (.slice d.u X.mu.length d.uc) from rfl]at q8;obtain⟨Q,b0⟩:=Nq (V2.setCell ⟨T,8,none⟩ (.slice (some ⟨rd,0,none⟩) 1 1));rw[b0]at Z;obtain⟨bE,aq⟩:=oB b0 Z;clear ad Z b0;by_cases ca:j=13∨j=14
      . have l:Y = { X with lb:=0,mu:=[rdN nx] }:=by rw[<- aR.u];unfold kf0;rw[Y2 an,Y6 ca]
        subst l;have db:((j:Int)==15)=false:=Yl.2 fP;clear o an ca;go_upto_region 38 with fail
        rw[aT.u];go_upto_region 40 with fail
        rw[bE.u];clear aT q2 f2 bE q8 f8;go_wp2;go_meet;exact⟨_,aq⟩
      . obtain rfl:j=15:=fP
        have l:Y = { X with lb:=0,mu:=[rdN nx],bys:=[],is:=[⟨0,⟨1,1,⟨#[]⟩⟩,⟨#[]⟩⟩] }:=(by rw[<- aR.u];rfl);subst l;rw[show((15:Nat):Int)=15 from rfl];clear o an ca cx;have s:=(bR Q.1.size Q).alloc (nR _) (.cells #[] 3);have h9:=aq.mono s;have ae:=qes Q 3 1;have aP:base<=Q.1.size:=(by have:=aq.fb.lt;omega);have h3:=h9.put (g':={ X with lb:=0,mu:=[rdN nx],bys:=[] }) (A':={ d with u:=some ⟨rd,0,none⟩,uc:=1,b:=some ⟨Q.1.size,0,none⟩,bc:=0 }) 3 (.slice (some ⟨Q.1.size,0,none⟩) 0 0) rfl ⟨qjr ae aP,h9.ow.i,h9.ow.h,h9.ow.v,h9.ow.u⟩;have q3:=h9.bx.cell 3;have f3:=h9.bx.free 3;rw[show(fCs { X with lb:=0,mu:=[rdN nx] } { d with u:=some ⟨rd,0,none⟩,uc:=1 })[3]? = some (.slice d.b X.bys.length d.bc) from rfl]at q3;obtain⟨V3,aN⟩:=Nq ((Q.alloc (.cells #[] 3)).setCell ⟨T,3,none⟩ (.slice (some ⟨Q.1.size,0,none⟩) 0 0));rw[aN]at h3;obtain⟨bh,aC⟩:=oB aN h3;obtain⟨X8,b6⟩:=Nq Q.1.size;have dk:=h_ b6;rw[b6]at aC;clear aq h9 h3 s ae aN b6;go_upto_region 38 with fail
        rw[aT.u];go_upto_region 40 with fail
        rw[bE.u];clear aT q2 f2 bE q8 f8;go_upto_region 42 with fail
        rw[bh.u];clear bh q3 f3;have cj:=h_ (qdy 1 V3);go_wp2_with fail;refine cQ cj λW1 cz=>?_;have h1:=aC.mono cz;have ci:=h_ (q6p 1 1 ⟨#[]⟩ W1);clear aC cj cz;go_wp2_with fail;refine cQ ci λW2 au=>?_;have B:=h1.mono au;have s:=(bR W2.1.size W2).alloc (nR _) (.cells #[Yf 0,Yf 1,Yf 1,Yh,Yh] 119);have h4:=B.mono s;have az:kbv _ _ _ _:=kbv.lone W2 ⟨0,⟨1,1,⟨#[]⟩⟩,⟨#[]⟩⟩;have aw:base<=W2.1.size:=(by have:=B.fb.lt;omega);have E:=h_ (h4.put (g':={ X with lb:=0,mu:=[rdN nx],bys:=[],is:=[⟨0,⟨1,1,⟨#[]⟩⟩,⟨#[]⟩⟩] }) (A':={ d with u:=some ⟨rd,0,none⟩,uc:=1,b:=some ⟨X8,0,none⟩,bc:=0,i:=some ⟨W2.1.size,0,none⟩,ic:=1 }) 4 (.slice (some ⟨W2.1.size,0,none⟩) 1 1) rfl ⟨h4.ow.b,az.low aw,h4.ow.h,h4.ow.v,h4.ow.u⟩);have q4:=h4.bx.cell 4;have f4:=h4.bx.free 4;rw[show(fCs { X with lb:=0,mu:=[rdN nx],bys:=[] } { d with u:=some ⟨rd,0,none⟩,uc:=1,b:=some ⟨X8,0,none⟩,bc:=0 })[4]? = some (.slice d.i X.is.length d.ic) from rfl]at q4;clear h1 B h4 s az au ci;go_wp2_with (refine qmk rfl (.tmp 152) rfl rfl ?_);go_meet;exact⟨_,E⟩
  . obtain rfl:bP=false:=by rw[<- aY.u];exact Yo o
    have l:Y=X:=(by rw[<- aR.u];exact by unfold kf0;rw[Y2 fP,Y2 fP,Y2 fP]);exact jT
 case rest =>
 as_aux_lemma =>
 clear be d e;obtain⟨d,C⟩:=hcut;have bO:=h_ C;clear C;obtain⟨e,t⟩:=Nq wc;rw[t]at bO⊢;clear t wc;have cW:Hi (spG j k N nx u=Y):=h_ (by unfold spG;rw[a7.u,a8.u,a9.u,ba.u,bt.u,bu.u,bv.u,bw.u,bz.u,br.u,aR.u]);clear a7 a8 a9 ba bt bu bv bw bz br aR;have C:=bO.u;have Q:=C;rw[<- aD]at Q;have cN:=(qjp Q.out aV (Y,d)).1;have g:TMk (.slice G N c1) (.slice M y c2) (.slice I D c3) (.slice (some ⟨A,0,none⟩) n J) { m with F:=m.F.set k Y } (P.set k (Y,d)) base F w ((e.setCells A (k*9) (fCs Y d)).setCell ⟨F,3,none⟩ (.slice (some ⟨A,0,none⟩) n J)):=by
  have:=Q.done (m:=m) (k:=k) b7 HF aV (by rw[aD];exact cp);rw[aD]at this;exact this
 have bT:Blk (e.setCells A (k*9) (fCs Y d)) F 28 [.slice G N c1,.slice M y c2,.slice I D c3,.slice U n c4]:=(q2d A _ _ _ _ (λl=>qjo C.out C.fb fS (by rw[<- l];rfl))).trans C.fb;have aB:=h_ C.bx.rng;have v3:=bT.cell 3;have vf:=bT.free 3;simp only[Yp,Y3]at v3;obtain⟨HT,cq⟩:=oB g cN;clear C Q g bT cN bO;go_upto_region 44 with (first | refine wpList_load_mid rfl 73 (.tmp 12) rfl T 0 rfl (fCs Y d) _ aB underlying73 rfl fR ?_ | refine wpList_store_mid rfl 73 (.tmp 158) (.tmp 157) rfl A (k*9) (fCs Y d).toArray rfl rfl cq fR gt ?_)
 obtain⟨da,C⟩:=Nq (e.setCells A (k*9) (fCs Y d));obtain⟨V4,Q⟩:=Nq (da.setCell ⟨F,3,none⟩ (.slice (some ⟨A,0,none⟩) n J));rw[C]at HT v3 vf;rw[Q]at HT
 try rw[show(fCs Y d).toArray.toList=fCs Y d from rfl]
 rw[C];have cr:=h_ Q;clear C Q aB cq;go_upto_region 45 with fail
 rw[cr.u];clear cr v3 vf;have C:Hi ({ m with F:=m.F.set k Y,P:=spB j N m.P,R:=spR j m.R } = { m with F:=m.F.set k Y,P:=spB j N m.P,R:=spR j m.R }):=h_ rfl;clear C;obtain⟨fs,C⟩:=Nq (m.F.set k Y);obtain⟨P',Q⟩:=Nq (P.set k (Y,d));rw[C,Q]at HT;have cV:=h_ C;clear C Q;obtain⟨Q,C⟩:∃ai,m.P=ai:=⟨_,rfl⟩;obtain⟨af,bJ⟩:∃ai,m.R=ai:=⟨_,rfl⟩;obtain⟨ll,b8⟩:∃ai,m.L=ai:=⟨_,rfl⟩;rw[C]at aX;rw[bJ]at bI;have aS:Hi (TMk (.slice G N c1) (.slice M y c2) (.slice I D c3) (.slice (some ⟨A,0,none⟩) n J) ⟨ll,Q,af,fs⟩ P' base F w V4):=h_ (by rw[<- C,<- bJ,<- b8];exact HT);clear HT;obtain⟨cY,c8,cX⟩:=oC C bJ b8;clear C bJ b8 hN hn bM cp ch cO;obtain⟨C,bU⟩:∃ai,(if j=16/\0<y then Q.drop 1 else Q)=ai:=⟨_,rfl⟩;obtain⟨n1,az⟩:∃k,C.length=k:=⟨_,rfl⟩;have ds:n1<=201:=by rw[<- az,<- bU];split <;> (try simp only[Gt]) <;> omega
 obtain⟨ao,bb⟩:=oB bU az;clear bU az;obtain⟨y0,y1,y2,y3⟩:=kac aS.fb;obtain⟨bS,cA⟩:∃b,decide (j=16/\0<y)=b:=⟨_,rfl⟩;have aZ:=h_ cA;clear cA;go_cut [168] from 18 (λaj z=>aj=.bool bS/\z=V4)
 case first =>
  as_aux_lemma =>
  by_cases Z:j=16
  . have bF:((j:Int)==16)=true:=by rw[Z];rfl
    have Hk:=h_ Z;clear Z;by_cases h9:0<y
    . have bG:(0:Int)<y:=fP
      go_wp2;go_meet;exact⟨congrArg Value.bool (by rw[<- aZ.u];exact(Ys (show j=16/\0<y from ⟨Hk,h9⟩)).symm),rfl⟩
    . have bG:¬ (0:Int)<y:=fP
      go_wp2;go_meet;exact⟨congrArg Value.bool (by rw[<- aZ.u];exact(Yo (show ¬ (j=16/\0<y) from λh=>h9 h.2)).symm),rfl⟩
  . have bF:((j:Int)==16)=false:=Yl.2 fP
    go_wp2;go_meet;exact⟨congrArg Value.bool (by rw[<- aZ.u];exact(Yo (show ¬ (j=16/\0<y) from λh=>Z h.1)).symm),rfl⟩
 case rest =>
 as_aux_lemma =>
 obtain⟨rfl,rfl⟩:=hcut;clear y0 y1 y2 y3;go_upto_if 168 with fail
 go_cut [] from 18 (λz=>∃b1 d1,TMk (.slice G N c1) (.slice b1 n1 d1) (.slice I D c3) (.slice (some ⟨A,0,none⟩) n J) ⟨ll,C,af,fs⟩ P' base F w z)
 case first =>
  as_aux_lemma =>
  obtain⟨e,t⟩:=Nq wc;rw[t]at aS⊢;clear t wc;by_cases o:j=16/\0<y
  . obtain rfl:bS=true:=by rw[<- aZ.u];exact Ys o
    have du:=o.2;have Hw:=h_ o;clear o;have ak:=(bR e.1.size e).alloc (nR _) (.cells #[] 101);have ah:OwP (e.alloc (.cells #[] 101)) e.1.size (.slice (some ⟨e.1.size,0,none⟩) 0 0) ((Q.take 1).drop 1):=by
     have h:=qes e 101 2;have l:(Q.take 1).drop 1=[]:=(by cases Q <;> simp);rw[l];exact h
    obtain⟨B7,ax⟩:=Nq e.1.size;obtain⟨V5,aU⟩:=Nq (e.alloc (.cells #[] 101));rw[aU,ax]at ah ak;obtain⟨am,a5,aJ,bi,bj⟩:=oG ah ak ax aU ax;have bg:=aS;clear ah ak ax aU aS
    go_upto_block 2 with fail
    try rw[bi.u]
    try rw[bj.u]
    clear bi bj;go_wp2;go_loopw [14,15] (λaj i wr=>∃(r:Nat) (Z:To) (n5 V:Nat),1<=r/\r<=y/\i=Yf r/\aj=.slice Z n5 V/\OwP wr B7 (.slice Z n5 V) ((Q.take r).drop 1)/\Below B7 e wr) (λ_ i _=>y - (intOf i).toNat)
    case atStart=>exact⟨1,_,_,_,nR _,fP,rfl,rfl,am,a5⟩
    case round =>
     clear am a5;obtain⟨r,Z,n5,V,cH,hj,rfl,rfl,H,K⟩:=hrel;have g:=bg.u.mono (show Bw e wr by rw[Bw,aJ.u];exact K);have aF:B7<=wr.1.size:=(by have:=K.size;have:=aJ.u;omega);obtain⟨y0,y1,y2,y3⟩:=kac g.fb;by_cases bm:r<y
     . have bn:(r:Int)<(y:Int):=fP
       have bl:r<Q.length:=fP;have bp:OwP wr base (.slice M Q.length c2) Q:=(by rw[aX];exact g.om.p);obtain⟨pb,po,e5,-,z0,z1⟩:=kdP bp r bl;obtain⟨⟨pl,ph⟩,aO⟩:∃x,Q[r]=x:=⟨_,rfl⟩;rw[aO]at z0 z1;dsimp only at z0 z1;obtain⟨QL,ay⟩:=Nq ((Q.take r).drop 1);have bf:Hi ((Q.take (r+1)).drop 1=QL++[(pl,ph)]):=h_ (by rw[<- ay,<- aO];exact qbh Q bl cH);rw[ay]at H;subst e5;have s:=(bR wr.1.size wr).alloc (nR _) (.cells (Jv pl ph) 101);have E:Hi (Blk _ _ 101 [Yf pl,Yf ph]):=h_ (Blk.new wr 101 (Jv pl ph));have ap:Hi (OwP (wr.alloc (.cells (Jv pl ph) 101)) B7 (.slice Z n5 V) QL):=h_ (qeo H s);have ag:=h_ (K.trans (s.mono aF));have aw:B7<=(wr.alloc (.cells (Jv pl ph) 101)).1.size:=Yx aF s.size;have cI:QL.length<=1000:=(by rw[<- ay];simp;omega);clear s H K g bp aO ay;go_wp2_with (first | (at_builtin;refine qgm (n:=(pl,ph)) rfl _ _ rfl rfl ap rfl E fP aw ?_) | refine qml rfl (.tmp 182) rfl rfl ?_);intro v' W4 O ac ab;have a0:=h_ (ag.trans ab);have aa:OwP W4 B7 v' ((Q.take (r+1)).drop 1):=(by rw[bf.u];first | exact O | (unfold OwP;rw[Ym];exact O));obtain⟨x6,c6,e6,-,-⟩:=qat aa;obtain⟨n6,bo⟩:=Nq (((Q.take (r+1)).drop 1).length);rw[bo]at e6;subst e6;have bd:=h_ aa;clear O ac ab aa E ap ag aw y0 y1 y2 y3 z0 z1 bo;go_wp2;go_roundw
       case rel=>exact⟨r+1,x6,n6,c6,fP,fP,fX,rfl,bd,a0⟩
       case measure=>exact jY
     . have bn:¬ (r:Int)<(y:Int):=fP
       obtain rfl:y=r:=fP;have bq:Q.take y=Q:=(by rw[<- aX,Zp]);rw[bq]at H;have an:OwP wr base (.slice Z n5 V) (Q.drop 1):=qjr H (by have:=bg.u.fb.lt;have:=aJ.u;omega);have bk:=g.setP an;have cf:=g.fb.cell 1;have dj:=g.fb.free 1;simp only[Yp,Y3]at cf;have cb:n1=n5:=Eq.symm <| by obtain⟨_,_,l,-⟩:=qat H;cases l;rw[<- bb.u,<- ao.u];exact congrArg List.length (Y6 Hw).symm
       subst cb;have aM:Hi (TMk (.slice G N c1) (.slice Z n1 V) (.slice I D c3) (.slice (some ⟨A,0,none⟩) n J) ⟨ll,C,af,fs⟩ P' base F w (wr.setCell ⟨F,1,none⟩ (.slice Z n1 V))):=h_ (by rw[<- ao.u];rw[show(if j=16/\0<y then Q.drop 1 else Q)=Q.drop 1 from Y6 Hw.u];exact bk);clear g an H K bk bq;go_wp2;go_meet;exact⟨Z,V,aM⟩
  . obtain rfl:bS=false:=by rw[<- aZ.u];exact Yo o
    have l:C=Q:=(by rw[<- ao.u];exact Y2 o);subst l;have l:n1=y:=(by rw[<- bb.u];exact aX);subst l;clear o;go_wp2;go_meet;exact⟨M,c2,aS⟩
 case rest =>
 as_aux_lemma =>
 obtain⟨b1,d1,g⟩:=hcut;have aL:=h_ g;clear g aS;obtain⟨V5,aU⟩:=Nq wc;rw[aU]at aL⊢;clear aU wc;obtain⟨B2,bV⟩:∃ai,(if j=17 then ((N:Int) - 1,0) :: C else C)=ai:=⟨_,rfl⟩;obtain⟨n2,aE⟩:∃k,B2.length=k:=⟨_,rfl⟩;have dd:=bb.u;have dt:n2<=202:=by rw[<- aE,<- bV];split <;> (try simp only[Yy]) <;> omega
 obtain⟨ag,bA⟩:=oB bV aE;clear bV aE dd;go_upto_if 188 with fail
 go_cut [] from 18 (λz=>∃b2 d2,TMk (.slice G N c1) (.slice b2 n2 d2) (.slice I D c3) (.slice (some ⟨A,0,none⟩) n J) ⟨ll,B2,af,fs⟩ P' base F w z)
 case first =>
  as_aux_lemma =>
  by_cases o:j=17
  . have S:((j:Int)==17)=true:=by rw[o];rfl
    have Hw:=h_ o;clear o;obtain⟨e,t⟩:=Nq V5;rw[t]at aL⊢;clear t V5;obtain⟨y0,y1,y2,y3⟩:=kac aL.fb;have az:=bb.u;have ak:=(bR e.1.size e).alloc (nR _) (.cells #[Yf ((N:Int) - 1),Yf 0] 101);have ah:OwP (e.alloc (.cells #[Yf ((N:Int) - 1),Yf 0] 101)) e.1.size (.slice (some ⟨e.1.size,0,none⟩) 1 1) (((N:Int) - 1,0) :: C.take 0) :=
     ⟨rfl,.inr ⟨e.1.size,1,_,rfl,nR _,heap_alloc_new e (.cells #[Yf ((N:Int) - 1),Yf 0] 101),nR _,by unfold maxLen;omega,rfl,rfl⟩⟩
    obtain⟨B7,ax⟩:=Nq e.1.size;obtain⟨V6,bY⟩:=Nq (e.alloc (.cells #[Yf ((N:Int) - 1),Yf 0] 101));rw[bY,ax]at ah ak;obtain⟨am,a5,aJ,bi,bj⟩:=oG ah ak ax bY ax;have bg:=aL;clear ah ak ax bY aL
    go_upto_block 4 with (first | refine q84 rfl 101 #[(0,.tmp 192),(1,.const (Yf 0))] rfl #[Yf ((N:Int) - 1),Yf 0] fR ?_ | refine qml rfl (.tmp 193) rfl rfl ?_)
    try rw[bi.u]
    try rw[bj.u]
    clear bi bj;go_wp2;go_loopw [16,17] (λaj i wr=>∃(r:Nat) (Z:To) (n5 V:Nat),0<=r/\r<=n1/\i=Yf r/\aj=.slice Z n5 V/\OwP wr B7 (.slice Z n5 V) (((N:Int) - 1,0) :: C.take r)/\Below B7 e wr) (λ_ i _=>n1 - (intOf i).toNat)
    case atStart=>exact⟨0,_,_,_,nR _,fP,rfl,rfl,am,a5⟩
    case round =>
     clear am a5;obtain⟨r,Z,n5,V,cH,hj,rfl,rfl,H,K⟩:=hrel;have g:=bg.u.mono (show Bw e wr by rw[Bw,aJ.u];exact K);have aF:B7<=wr.1.size:=(by have:=K.size;have:=aJ.u;omega);obtain⟨y0,y1,y2,y3⟩:=kac g.fb;by_cases bm:r<n1
     . have bn:(r:Int)<(n1:Int):=fP
       have bl:r<C.length:=fP;have bp:OwP wr base (.slice b1 C.length d1) C:=(by rw[az];exact g.om.p);obtain⟨pb,po,e5,-,z0,z1⟩:=kdP bp r bl;obtain⟨⟨pl,ph⟩,aO⟩:∃x,C[r]=x:=⟨_,rfl⟩;rw[aO]at z0 z1;dsimp only at z0 z1;obtain⟨QL,ay⟩:=Nq (((N:Int) - 1,0) :: C.take r);have bf:Hi (((N:Int) - 1,0) :: C.take (r+1)=QL++[(pl,ph)]):=h_ (by rw[<- ay,<- aO];exact qbg _ C bl);rw[ay]at H;subst e5;have s:=(bR wr.1.size wr).alloc (nR _) (.cells (Jv pl ph) 101);have E:Hi (Blk _ _ 101 [Yf pl,Yf ph]):=h_ (Blk.new wr 101 (Jv pl ph));have ap:Hi (OwP (wr.alloc (.cells (Jv pl ph) 101)) B7 (.slice Z n5 V) QL):=h_ (qeo H s);have ag:=h_ (K.trans (s.mono aF));have aw:B7<=(wr.alloc (.cells (Jv pl ph) 101)).1.size:=Yx aF s.size;have cI:QL.length<=1000:=(by rw[<- ay];simp;omega);clear s H K g bp aO ay;go_wp2_with (first | (at_builtin;refine qgm (n:=(pl,ph)) rfl _ _ rfl rfl ap rfl E fP aw ?_) | refine qml rfl (.tmp 207) rfl rfl ?_);intro v' W4 O ac ab;have a0:=h_ (ag.trans ab);have aa:OwP W4 B7 v' (((N:Int) - 1,0) :: C.take (r+1)):=(by rw[bf.u];first | exact O | (unfold OwP;rw[Ym];exact O));obtain⟨x6,c6,e6,-,-⟩:=qat aa;obtain⟨n6,bo⟩:=Nq ((((N:Int) - 1,0) :: C.take (r+1)).length);rw[bo]at e6;subst e6;have bd:=h_ aa;clear O ac ab aa E ap ag aw y0 y1 y2 y3 z0 z1 bo;go_wp2;go_roundw
       case rel=>exact⟨r+1,x6,n6,c6,fP,fP,fX,rfl,bd,a0⟩
       case measure=>exact jY
     . have bn:¬ (r:Int)<(n1:Int):=fP
       obtain rfl:n1=r:=fP;have bq:C.take n1=C:=(by rw[<- az,Zp]);rw[bq]at H;have an:OwP wr base (.slice Z n5 V) (((N:Int) - 1,0) :: C):=qjr H (by have:=bg.u.fb.lt;have:=aJ.u;omega);have bk:=g.setP an;have cf:=g.fb.cell 1;have dj:=g.fb.free 1;simp only[Yp,Y3]at cf;have cb:n2=n5:=Eq.symm <| by obtain⟨_,_,l,-⟩:=qat H;cases l;rw[<- bA.u,<- ag.u];exact congrArg List.length (Y6 Hw).symm
       subst cb;have aM:Hi (TMk (.slice G N c1) (.slice Z n2 V) (.slice I D c3) (.slice (some ⟨A,0,none⟩) n J) ⟨ll,B2,af,fs⟩ P' base F w (wr.setCell ⟨F,1,none⟩ (.slice Z n2 V))):=h_ (by rw[<- ag.u];rw[show(if j=17 then ((N:Int) - 1,0) :: C else C)=((N:Int) - 1,0) :: C from Y6 Hw.u];exact bk);clear g an H K bk bq;go_wp2;go_meet;exact⟨Z,V,aM⟩
  . have S:((j:Int)==17)=false:=Yl.2 fP
    have l:B2=C:=(by rw[<- ag.u];exact Y2 o);subst l;have l:n2=n1:=(by rw[<- bA.u];exact bb);subst l;clear o;go_wp2;go_meet;exact⟨b1,d1,aL⟩
 case rest =>
 as_aux_lemma =>
 clear aL V5;obtain⟨b2,d2,g⟩:=hcut;have E:=h_ g;clear g;obtain⟨e,t⟩:=Nq wc;rw[t]at E⊢;clear t wc;obtain⟨R1,r⟩:∃ai,spR j af=ai:=⟨_,rfl⟩;obtain⟨V,H⟩:∃k,R1.length=k:=⟨_,rfl⟩;obtain⟨aA,cl⟩:=oB r H;clear r H;go_upto_if 213 with fail
 go_cut [] from 18 (λz=>∃Z e1,TMk (.slice G N c1) (.slice b2 n2 d2) (.slice Z V e1) (.slice (some ⟨A,0,none⟩) n J) ⟨ll,B2,R1,fs⟩ P' base F w z)
 case first =>
  as_aux_lemma =>
  by_cases o:j=18
  . have S:((j:Int)==18)=true:=by rw[o];rfl
    have l:R1=⟨kdb,0⟩ :: af:=(by rw[<- aA.u];exact Y6 o);subst l;clear o;have s:=(bR e.1.size e).alloc (nR _) (.cells #[.string ⟨#[99,108,101,114,107]⟩,Yf 0] 47);have ah:(e.alloc (.cells #[.string ⟨#[99,108,101,114,107]⟩,Yf 0] 47)).ownsRow e.1.size 47 2 (.slice (some ⟨e.1.size,0,none⟩) 1 1) 1 [.string ⟨#[99,108,101,114,107]⟩,Yf 0] :=
     ⟨rfl,.inr ⟨e.1.size,1,_,rfl,nR _,heap_alloc_new e (.cells #[.string ⟨#[99,108,101,114,107]⟩,Yf 0] 47),nR _,by unfold maxLen;omega,rfl,rfl⟩⟩
    have K:=E.mono s;obtain⟨y0,y1,y2,y3⟩:=kac K.fb;have av:(e.alloc (.cells #[.string ⟨#[99,108,101,114,107]⟩,Yf 0] 47)).ownsRow base 47 2 (.slice I D c3) D (rV' af):=(by have h:=K.om.r;unfold OwL at h;rw[show af.length=D from bI]at h;exact h);have aG:e.1.size<=(e.alloc (.cells #[.string ⟨#[99,108,101,114,107]⟩,Yf 0] 47)).1.size:=s.size;obtain⟨i0,hi,al,aH,aI⟩:=info_parts qop;have HH:=h_ s;have am:=h_ ah;have aK:=h_ av;clear s ah av K;go_wp2_with (first | (at_builtin;refine q88 rfl _ _ 25 47 i0 _ 2 24 rfl underlying25 hi al aH aI rfl fP rfl am rfl aK kgO fP fP aG ?_) | refine q84 rfl 47 #[(0,.const (.string ⟨#[99,108,101,114,107]⟩)),(1,.const (Yf 0))] rfl #[.string ⟨#[99,108,101,114,107]⟩,Yf 0] fR ?_ | refine qmm rfl (.tmp 214) rfl rfl ?_);intro v' W4 O ac ab;have r:=E.mono (HH.trans ab);have H:1+D=V:=(by rw[<- cl.u];show _=af.length+1;omega);have aa:OwL W4 base v' (⟨kdb,0⟩ :: af):=by
     have h:=qjr O (show base<=e.1.size by have:=E.fb.lt;omega);unfold OwL;rw[show(⟨kdb,0⟩ :: af:List Rl).length=1+D by show af.length+1=_;omega];exact h
    obtain⟨Z,e1,rfl,-,-⟩:=qat O;rw[H]at aa⊢;have aM:=h_ (r.setR aa);have q2:=r.fb.cell 2;have qf:=r.fb.free 2;simp only[Yp,Y3]at q2;clear r O aa ac ab am aK HH aG y0 y1 y2 y3 hi al aH aI E H;go_wp2;go_meet;exact⟨_,_,aM⟩
  . have S:((j:Int)==18)=false:=Yl.2 fP
    have l:R1=af:=(by rw[<- aA.u];exact Y2 o);subst l;have l:V=D:=(by rw[<- cl.u];exact bI);subst l;clear o;go_wp2;go_meet;exact⟨I,c3,E⟩
 case rest =>
 as_aux_lemma =>
 clear E e;obtain⟨Z,e1,g⟩:=hcut;have E:=h_ g;clear g;obtain⟨e,t⟩:=Nq wc;rw[t]at E⊢;clear t wc;obtain⟨t,bW⟩:∃ai,(if j=19 then (0,(N:Int)) :: B2 else B2)=ai:=⟨_,rfl⟩;obtain⟨n3,cK⟩:∃k,t.length=k:=⟨_,rfl⟩;have cC:spB j N Q=t:=by
  rw[<- bW,<- ag.u,<- ao.u];unfold spB;rw[aX];by_cases h1:j=16/\0<y
  . rw[Y6 h1,Y6 h1,Y2 fP,Y2 fP]
  . rw[Y2 h1,Y2 h1]
    by_cases B:j=17
    . rw[Y6 B,Y6 B,Y2 fP]
    . rw[Y2 B,Y2 B]
 have cS:=h_ cC;obtain⟨cg,cm⟩:=oB bW cK;clear bW cK cC ao;go_upto_if 221 with fail
 go_cut [] from 18 (λz=>∃B d3,TMk (.slice G N c1) (.slice B n3 d3) (.slice Z V e1) (.slice (some ⟨A,0,none⟩) n J) ⟨ll,t,R1,fs⟩ P' base F w z)
 case first =>
  as_aux_lemma =>
  by_cases o:j=19
  . have S:((j:Int)==19)=true:=by rw[o];rfl
    have l:t=(0,(N:Int)) :: B2:=(by rw[<- cg.u];exact Y6 o);subst l;clear o;have s:=(bR e.1.size e).alloc (nR _) (.cells #[Yf 0,Yf N] 101);have ah:(e.alloc (.cells #[Yf 0,Yf N] 101)).ownsRow e.1.size 101 2 (.slice (some ⟨e.1.size,0,none⟩) 1 1) 1 [Yf 0,Yf N] :=
     ⟨rfl,.inr ⟨e.1.size,1,_,rfl,nR _,heap_alloc_new e (.cells #[Yf 0,Yf N] 101),nR _,by unfold maxLen;omega,rfl,rfl⟩⟩
    have K:=E.mono s;obtain⟨x0,-⟩:=kac E.fb;obtain⟨y0,y1,y2,y3⟩:=kac K.fb;have aE:=bA.u;have av:(e.alloc (.cells #[Yf 0,Yf N] 101)).ownsRow base 101 2 (.slice b2 n2 d2) n2 (pV B2):=(by have h:=K.om.p;unfold OwP at h;rw[show B2.length=n2 from aE]at h;exact h);have aG:e.1.size<=(e.alloc (.cells #[Yf 0,Yf N] 101)).1.size:=s.size;obtain⟨i0,hi,al,aH,aI⟩:=info_parts qoo;have HH:=h_ s;have am:=h_ ah;have aK:=h_ av;have z:=h_ aE;clear s ah av K aE;go_wp2_with (first | (at_builtin;refine q88 rfl _ _ 24 101 i0 _ 2 16 rfl underlying24 hi al aH aI rfl fP rfl am rfl aK kgN fP fP aG ?_) | refine q84 rfl 101 #[(0,.const (Yf 0)),(1,.tmp 224)] rfl #[Yf 0,Yf N] fR ?_ | refine qml rfl (.tmp 225) rfl rfl ?_);intro v' W4 O ac ab;have r:=E.mono (HH.trans ab);have H:1+n2=n3:=(by rw[<- cm.u];have:=z.u;show _=B2.length+1;omega);have aa:OwP W4 base v' ((0,(N:Int)) :: B2):=by
     have h:=qjr O (show base<=e.1.size by have:=E.fb.lt;omega);unfold OwP;rw[show((0,(N:Int)) :: B2:List (Int × Int)).length=1+n2 by have:=z.u;show B2.length+1=_;omega];exact h
    obtain⟨K,s,rfl,-,-⟩:=qat O;rw[H]at aa⊢;have aM:=h_ (r.setP aa);have q2:=r.fb.cell 1;have qf:=r.fb.free 1;simp only[Yp,Y3]at q2;clear r O aa ac ab am aK HH aG x0 y0 y1 y2 y3 hi al aH aI E H;go_wp2;go_meet;exact⟨_,_,aM⟩
  . have S:((j:Int)==19)=false:=Yl.2 fP
    have l:t=B2:=(by rw[<- cg.u];exact Y2 o);subst l;have l:n3=n2:=(by rw[<- cm.u];exact bA);subst l;clear o;go_wp2;go_meet;exact⟨b2,d2,E⟩
 case rest =>
 as_aux_lemma =>
 clear E e;obtain⟨B,d3,g⟩:=hcut;obtain⟨y0,y1,y2,y3⟩:=kac g.fb;obtain⟨e,bB⟩:=oB g.fin g.r0;clear g;go_wp2_with (refine wpList_store_row rfl 28 (.tmp 6) (.tmp 231) rfl (F+1) (Jn G N c1 B n3 d3 Z V e1 (some ⟨A,0,none⟩) n J) rfl rfl 28 Jf bB fR rfl fU ?_);clear y0 y1 y2 y3;obtain⟨y0,y1,y2,y3⟩:=kac e.2.2;exact bodyPost_ret (v:=.agg (Jn G N c1 B n3 d3 Z V e1 (some ⟨A,0,none⟩) n J)) (by simp[results,results21,go_sem,y0,y1,y2,y3]) rfl ⟨_,_,_,_,_,rfl,by have h:=e.1;rw[<- cX.u,<- cS.u,<- cY.u,<- aA.u,<- c8.u,<- cV.u,<- cW.u,<- cn.u,<- c9.u]at h;exact h,e.2.1⟩
