import Derived.Test.YtdlnflnfbcaiiaaGreatDoorW08
import Derived.Test.YtdlnflnfbcaiiaaGreatDoorW06
import Derived.Test.YtdlnflnfbcaiiaaGreatDoorW05
set_option linter.all false
set_option maxRecDepth 100000
set_option maxHeartbeats 0
namespace Go.Proofs.YtdlnflnfbcaiiaaGreatDoor
open Value renaming slice->Sl,bool->Bo
open Obj renaming cells->Cl
open Ending renaming returned->Rt
open Option renaming none->Nn,some->Sm
open Bool renaming true->Tt,false->Ff
section
open Go Go.RowKit Go.Proofs.Tryz
def qpf (m F):bs (m+1) F=bs m F++[Bo (F m)]:=by simp[bs,List.range_succ]
def PW (m F):is (m+1) F=is m F++[Ye (F m)]:=by simp[is,List.range_succ]
def Dc (m F):(bs m F).length=m:=by simp[bs]
def A6 (n:Nat)(R:Nat->Nat->Bool)(i:Nat):Bool:=R (i / n) (i % n)
def AK {n a b}(R)(c:b<n):A6 n R (a*n+b)=R a b:=by unfold A6;rw[O0,Vo _ _ fP,Vd c,Z9,Zy c,Zk]
def qi5 (n:Nat)(g R w)(h1:1<=n)(y:n<=32)(f:I4 g R):Calls prog 203 #[.agg (us g).toArray,Ye n] w λa c=>∃G,a=Rt (Sl (Sm (Aq G 0)) (n*n) (n*n))/\m0 c G 4 (bs (n*n) (A6 n R))/\w.1.size<=G/\Bw w c:=by obtain⟨b,C,z,m,A⟩:=info_parts Xc;have I:(n:Int)*n<=1024:=(by rw[<- Zp];have:=JJ y;omega);have G:0<=(n:Int)*n:=(by rw[<- Zp];omega);have i:b.bytes*(n*n)<=281474976710656:=(by rw[A];omega);have hC:((n:Int)*n)=((n*n:Nat):Int):=fT;have p:=h_ hC;clear hC;go_enter func203,ntmps203;go_wp2_with (at_make;refine wpList_make_own _ rfl _ (.tmp 10) 34 rfl w.1.size 4 b (Bo Ff) 1 underlying34 C z m .i64 .i64 _ (n*n) rfl rfl p i ga fT ?_;intro K e E);have F:=((bR _ w).alloc (nR _) _).trans ((bR w.1.size _).grown E fT (λk a=>by cases a));have d:=(m0.new w 228 (us g).toArray).grown E fT;obtain⟨V,M,l⟩:=oC e F d;clear e F d E i;go_loopw [5,13] (λv i wr=>∃k:Nat,k<=n/\i=Ye k/\v=Sl (Sm (zQ w 1 0)) (k*n) (n*n)/\wr.ownsRow w.1.size 4 1 (Sl (Sm (zQ w 1 0)) (k*n) (n*n)) (k*n) (bs (k*n) (A6 n R))/\m0 wr w.1.size 228 (us g)/\Bw w wr) (λ_ i _=>n - (intOf i).toNat);exact⟨0,nZ _,rfl,fT,by simpa [bs] using V.u,l,M⟩;clear V l M;obtain⟨k,F,rfl,rfl,e,d,H⟩:=hrel;obtain⟨V,l,S⟩:=oC e d H;clear e d H;by_cases x:k<n;{go_wp2;go_loopw [5,17] (λv i wr=>∃j:Nat,j<=n/\i=Ye j/\v=Sl (Sm (zQ w 1 0)) (k*n+j) (n*n)/\wr.ownsRow w.1.size 4 1 (Sl (Sm (zQ w 1 0)) (k*n+j) (n*n)) (k*n+j) (bs (k*n+j) (A6 n R))/\m0 wr w.1.size 228 (us g)/\Bw w wr) (λ_ i _=>n - (intOf i).toNat);exact⟨0,nZ _,rfl,fT,by simpa using V.u,l,S⟩;obtain⟨j,E,rfl,rfl,e,d,H⟩:=hrel;by_cases i:j<n;{have N:k<32:=fP;have B:j<32:=fP;have Y:=d.cell k;rw[uB _ N]at Y;have v:=d.lt;have r:=(f k N).1;have L:=pF x i;have V:=h_ e;have l:=h_ d;have S:=h_ H;have D:(g k).testBit j=A6 n R (k*n+j):=(by rw[(f k N).2 j,AK R i]);go_wp2_with (first|(go_at_call 72;refine(Nh _ _ _ r B).mono ?_;rintro a c ⟨rfl,rfl⟩)|(at_builtin;refine wpList_append_fits _ rfl _ _ 34 rfl w.1.size 4 b 1 underlying34 C m (w.1.size+1) (k*n+j) (n*n) _ rfl ((V.alloc _).alloc _) (zQ wr 1 0) 1 1 [Bo (A6 n R (k*n+j))] rfl rfl ?c1 fZ L ?_));(case c1=>intro q u J;match q,J with|0,J=>simp at J;subst J;simp[Addr.add]);intro J t h;rw[<- qpf]at t;have T:Bw wr ((wr.alloc (Cl #[.int .u32 (g k:Int)] 143)).alloc (Cl #[Bo (A6 n R (k*n+j))] 4)):=(Bq).alloc fT _;have s:=(l.mono T v).grown h fT;have u:=(S.trans (T.mono S.size)).grown h (by have:=S.size;simp;omega) (λq a=>by cases a;omega);obtain⟨P,o,q⟩:=oC t s u;go_wp2;go_roundw;exact⟨j+1,fP,fU,rfl,P,o,q⟩;exact kZ};obtain rfl:j=n:=fP;obtain⟨V,l,S⟩:=oC e d H;go_wp2;go_roundw;exact⟨k+1,fP,fU,by rw[Z5],by rw[Z5];exact V,l,S⟩;exact kZ};obtain rfl:k=n:=fP;go_wp2;go_ret;exact⟨_,rfl,m0.of_owns V,fP,S⟩
def GK (T:Nat->Nat->Bool)(lo hi:Nat):Nat->Nat->Bool:=λa b=>T a b||(decide (b=hi)&&T a lo)
def WC (T:Nat->Nat->Bool)(lo hi k:Nat):Nat->Nat->Bool:=λa b=>T a b||(decide (a<k)&&(decide (b=hi)&&T a lo))
def lD (T:Nat->Nat->Bool)(f g:Nat->Nat):Nat->Nat->Nat->Bool
 | 0=>T
 | j+1=>GK (lD T f g j) (f j) (g j)
def E7 (T:Nat->Nat->Bool)(f g:Nat->Nat)(m:Nat):Nat->Nat->Nat->Bool
 | 0=>T
 | r+1=>lD (E7 T f g m r) f g m
def t8:Nat->Nat->Bool:=λa b=>decide (a=b)
def YL {n T T'}(h:∀a b,a<n->b<n->T a b=T' a b):bs (n*n) (A6 n T)=bs (n*n) (A6 n T'):=by unfold bs;refine Zw λi C=>?_;have P:=Y6.1 C;have a:0<n:=Nat.pos_of_ne_zero λe=>(by subst e;simp at P);unfold A6;rw[h _ _ (by rw[Nat.div_lt_iff_lt_mul a];exact P) (Vz _ a)]
def Ij {n a b}(T)(c:b<n):(bs (n*n) (A6 n T)).set (a*n+b) (Bo Tt)=bs (n*n) (A6 n λx y=>T x y||(decide (x=a)&&decide (y=b))):=by refine Ib (by simp[Dc]) λj s=>?_;rw[List.getElem?_set];by_cases e:a*n+b=j;{subst e;rw[Yz rfl,Yz (by rw[Dc];exact s),AK _ c];simp};rw[Ys e];have M:(decide (j / n=a)&&decide (j % n=b))=Ff:=(by rw[Bool.and_eq_false_iff,Vs,Vs];by_cases m:j / n=a;{right;intro r;apply e;have:=Nat.div_add_mod j n;rw[m,r,Gh]at this;exact this};exact .inl m);simp only[bs,A6,M,Bool.or_false];simp[s]
def d_ (n:Nat)(a m c f g w)(h1:1<=n)(O:n<=32)(hm:m<=256)(K:vA w a m (λk=>(f k:Int)) (λk=>(g k:Int)))(hf:∀k,k<m->f k<n)(hg:∀k,k<m->g k<n):Calls prog 28 #[.agg (Jn n a m c)] w λh j=>∃G,h=Rt (Sl (Sm (Aq G 0)) (n*n) (n*n))/\m0 j G 4 (bs (n*n) (A6 n (E7 t8 f g m n)))/\w.1.size<=G/\Bw w j:=by obtain⟨t,C,v,z,D⟩:=info_parts Xc;have q1:(n:Int)*n<=1024:=(by rw[<- Zp];have:=JJ O;omega);have q0:0<=(n:Int)*n:=(by rw[<- Zp];omega);have q2:=JJ O;have r:t.bytes*(n*n)<=281474976710656:=(by rw[D];omega);have hC:((n:Int)*n)=((n*n:Nat):Int):=fT;have E:=h_ hC;clear hC;have i:Bw w (w.alloc (Cl (Jn n a m c) 41)):=Bq;have p:=m0.new w 41 (Jn n a m c);have q:=K.mono i;have B:(w.alloc (Cl (Jn n a m c) 41)).1.size=w.1.size+1:=fT;go_enter func28,ntmps28;go_wp2_with (at_make;refine wpList_make_full _ rfl (.tmp 15) (.tmp 15) 34 rfl (w.1.size+1) 4 t (Bo Ff) 1 underlying34 C v z .i64 .i64 _ _ (n*n) rfl rfl E E r ga fT ?_;intro A o s);rw[B]at o;(try rw[B]);have F:Below (w.1.size+1) (w.alloc (Cl (Jn n a m c) 41)) A:=(bR _ _).grown s fT (λk h=>by cases h);have e:=m0.of_owns o;have X:m0 A (w.1.size+1) 4 (bs (n*n) (A6 n λb d=>decide (b=d)&&decide (b<0))):=(by have h:List.replicate (n*n) (Value.bool Ff)=bs (n*n) (A6 n λb d=>decide (b=d)&&decide (b<0)):=(by refine Ib fT λj P=>?_;simp[A6,P]);have Y:m0 A (w.1.size+1) 4 (madeCells #[Bo Ff] (n*n)).toList:=(by simpa [Value.cells] using e);rw[toList_madeCells_one]at Y;rw[<- h];exact Y);obtain⟨R,l,V,U,Y⟩:=oG X F i p q;clear o s e X F r C v z D i p q K;generalize i:w.alloc (Cl (Jn n a m c) 41)=W at *;clear i;have aa:W.1.size<=w.1.size+1:=(by rw[B];exact nR _);go_loopw [5] (λi wr=>∃k:Nat,k<=n/\i=Ye k/\m0 wr (w.1.size+1) 4 (bs (n*n) (A6 n λb d=>decide (b=d)&&decide (b<k)))/\Below (w.1.size+1) W wr) (λi _=>n - (intOf i).toNat);exact⟨0,nZ _,rfl,R,l⟩;clear R l;obtain⟨k,o,rfl,e,p⟩:=hrel;obtain⟨R,l⟩:=oB e p;by_cases S:k<n;{have t:=pF (n:=n) (x:=k) (y:=k) fP fP;have v:0<=(k:Int)*n:=gp;have D:(k:Int)*n+k<((n*n:Nat):Int):=gp;have F:(k:Int)*n<=1024:=gp;have N:=e.cell (k*n+k);have s:=e.free (k*n+k);have M:(bs (n*n) (A6 n λb d=>decide (b=d)&&decide (b<k)))[k*n+k]? = Sm (Bo Ff):=(by simp only[bs,Zt,Ou t,Gw,AK _ S];simp);rw[M]at N;clear e p M;go_wp2;go_roundw;{refine⟨k+1,fP,fU,?_,l.setCell (nR _) _⟩;have r:=R.set (k*n+k) (Bo Tt);rw[Ij _ S]at r;have h:bs (n*n) (A6 n λb d=>(decide (b=d)&&decide (b<k))||(decide (b=k)&&decide (d=k)))=bs (n*n) (A6 n λb d=>decide (b=d)&&decide (b<k+1)):=YL λb d z q=>(by rw[Z4];simp only[Zv,Yx,Y3];omega);rw[h]at r;exact r};exact kZ};obtain rfl:k=n:=fP;clear e p S o;have s:Hi (m0 wr (w.1.size+1) 4 (bs (k*k) (A6 k (E7 t8 f g m 0)))):=(by have r:=R.u;have h:bs (k*k) (A6 k λb d=>decide (b=d)&&decide (b<k))=bs (k*k) (A6 k (E7 t8 f g m 0)):=YL λb d z q=>(by simp only[E7,t8];rw[Z4];simp only[Yx,Y3];omega);rw[h]at r;exact r);clear R;go_wp2;go_loopw [6] (λi K=>∃o:Nat,o<=k/\i=Ye o/\m0 K (w.1.size+1) 4 (bs (k*k) (A6 k (E7 t8 f g m o)))/\Below (w.1.size+1) W K) (λi _=>k - (intOf i).toNat);exact⟨0,nZ _,rfl,s,l⟩;clear s l;obtain⟨o,hr,rfl,e,p⟩:=hrel;obtain⟨R,l⟩:=oB e p;clear e p;by_cases af:o<k;{go_wp2_with fail;have s:Hi (m0 wr (w.1.size+1) 4 (bs (k*k) (A6 k (lD (E7 t8 f g m o) f g 0)))):=R.u;clear R;go_loopw [7] (λi K=>∃j:Nat,j<=m/\i=Ye j/\m0 K (w.1.size+1) 4 (bs (k*k) (A6 k (lD (E7 t8 f g m o) f g j)))/\Below (w.1.size+1) W K) (λi _=>m - (intOf i).toNat);exact⟨0,nZ _,rfl,s,l⟩;obtain⟨j,P,rfl,e,p⟩:=hrel;obtain⟨R,l⟩:=oB e p;obtain⟨T,I⟩:=Nq (lD (E7 t8 f g m o) f g j);rw[I]at R;have H:=h_ I;by_cases v:j<m;{have S:=Y.mono (l.mono aa);obtain⟨ad,ag,rfl,hl,M,L⟩:=S j v;dsimp only at M L;have Z:=hf j v;have G:=hg j v;obtain⟨J,Q⟩:=Nq (f j);obtain⟨C,N⟩:=Nq (g j);rw[Q]at M Z;rw[N]at L G;have F:=h_ (And.intro Q N);have D:=(U.mono l (Vc _)).cell 1;simp only[Yv,Ym]at D;go_wp2_with fail;have s:Hi (m0 wr (w.1.size+1) 4 (bs (k*k) (A6 k (WC T J C 0)))):=(by have r:=R.u;rw[YL (T':=WC T J C 0) λb d _ _=>by simp[WC]]at r;exact r);go_loopw [10] (λi K=>∃q:Nat,q<=k/\i=Ye q/\m0 K (w.1.size+1) 4 (bs (k*k) (A6 k (WC T J C q)))/\Below (w.1.size+1) W K) (λi _=>k - (intOf i).toNat);exact⟨0,nZ _,rfl,s,l⟩;obtain⟨q,hq,rfl,e,p⟩:=hrel;obtain⟨R,l⟩:=oB e p;by_cases ae:q<k;{have l0:=pF (n:=k) (x:=q) (y:=J) fP fP;have l1:0<=(q:Int)*k:=gp;have l2:(q:Int)*k+J<((k*k:Nat):Int):=gp;have l3:(q:Int)*k<=1024:=gp;have p0:=pF (n:=k) (x:=q) (y:=C) fP fP;have p1:0<=(q:Int)*k:=gp;have p2:(q:Int)*k+C<((k*k:Nat):Int):=gp;have p3:(q:Int)*k<=1024:=gp;have i:=e.cell (q*k+J);have K:=e.cell (q*k+C);have fh:=e.free (q*k+C);have el:(bs (k*k) (A6 k (WC T J C q)))[q*k+J]? = Sm (Bo (WC T J C q q J)):=(by simp only[bs,Zt,Ou l0,Gw,AK _ Z]);have eh:(bs (k*k) (A6 k (WC T J C q)))[q*k+C]? = Sm (Bo (WC T J C q q C)):=(by simp only[bs,Zt,Ou p0,Gw,AK _ G]);have X:WC T J C q q J=T q J:=(by simp[WC]);rw[el,X]at i;rw[eh]at K;obtain⟨vh,ac⟩:=Nq (WC T J C q q C);rw[ac]at K;cases I:T q J;{rw[I]at i;go_wp2;go_roundw;{refine⟨q+1,fP,fU,?_,l⟩;have r:=R.u;rw[YL (T':=WC T J C (q+1)) λb d _ _=>by simp only[WC];by_cases h:b=q;{subst h;simp[I]};congr 2;exact U3]at r;exact r};exact kZ};rw[I]at i;go_wp2;go_roundw;{refine⟨q+1,fP,fU,?_,l.setCell (nR _) _⟩;have r:=R.set (q*k+C) (Bo Tt);rw[Ij _ G]at r;rw[YL (T':=WC T J C (q+1)) λb d _ _=>by simp only[WC];by_cases h:b=q;{subst h;simp[I]};rw[show decide (b=q)=Ff from Yl h,Bool.false_and,Bool.or_false];congr 2;exact U3]at r;exact r};exact kZ};obtain rfl:q=k:=fP;go_wp2;go_roundw;{refine⟨j+1,fP,fU,?_,l⟩;have r:=R.u;rw[YL (T':=lD (E7 t8 f g m o) f g (j+1)) λb d z _=>by rw[lD,H.u,F.u.1,F.u.2];simp[WC,GK,z]]at r;exact r};exact kZ};obtain rfl:j=m:=fP;have D:=(U.mono l (Vc _)).cell 1;simp only[Yv,Ym]at D;go_wp2;go_roundw;{refine⟨o+1,fP,fU,?_,l⟩;rw[E7,H.u];exact R};exact kZ};obtain rfl:o=k:=fP;have i:=V.trans (l.mono (Vg _));have b:=h_ i;go_wp2;go_ret;exact⟨_,rfl,R,Vg _,b⟩
end
section
open Go Go.RowKit Go.Shelf Go.Proofs.Tryz
attribute [local go_sem] Oper.semAt_some
def C7 (g:Nat->Nat)(a b:Nat):Prop:=∀C:Nat->Prop,C a->(∀x y,C x->x<32->(g x).testBit y=Tt->C y)->C b
def C7.refl (g a):C7 g a a:=λ_ h _=>h
def C7.step {g a x y}(h:C7 g a x)(u:x<32)(hy:(g x).testBit y=Tt):C7 g a y:=λC D B=>B x y (h C D B) u hy
structure LH (g:Nat->Nat)(a todo done:Nat)(pre:List Nat):Prop where
 t32:todo<4294967296
 d32:done<4294967296
 came:∀i,i∈pre ↔ done.testBit i=Tt
 apart:∀i,todo.testBit i=Tt->done.testBit i=Ff
 reach:∀i,(todo.testBit i=Tt\/done.testBit i=Tt)->C7 g a i
 start:todo.testBit a=Tt\/done.testBit a=Tt
 shut:∀x y,done.testBit x=Tt->(g x).testBit y=Tt->todo.testBit y=Tt\/done.testBit y=Tt
def LH.init (g:Nat->Nat)(a:Nat)(K:a<32):LH g a (2 ^ a) 0 [] where
 t32:=lF K
 d32:=fS
 came:=λi=>fT
 apart:=λi _=>fT
 reach:=λi h=>by
  rw[Vv]at h;simp at h;subst h;exact C7.refl _ _
 start:=.inl fT
 shut:=λx y h=>by simp at h
def LH.next {g a n done x l}(h:LH g a n done l)(H:∀a,a<32->g a<4294967296)(u:x<32)(b:n.testBit x=Tt):LH g a (p8 (n ||| g x) (done ||| 2 ^ x)) (done ||| 2 ^ x) (l++[x]):=by have e:=OJ h.t32 (H x u);have D:=OJ h.d32 (lF u);have tb:∀i,(p8 (n ||| g x) (done ||| 2 ^ x)).testBit i=((n.testBit i||(g x).testBit i)&&!(done.testBit i||decide (x=i))):=λi=>(by rw[PL e D,Gb,Gb,Vv]);have G:∀i,(done ||| 2 ^ x).testBit i=(done.testBit i||decide (x=i)):=λi=>(by rw[Gb,Vv]);refine⟨NI e,D,λi=>?_,λi C=>?_,λi C=>?_,?_,λy z c d=>?_⟩;{rw[Zf,Y7,h.came i,G,Zv,decide_eq_true_iff];exact or_congr_right ⟨Eq.symm,Eq.symm⟩};{rw[tb]at C;rw[G];simp at C|-;exact C.2};{rw[tb,G]at C;cases q:(done.testBit i||decide (x=i));{rw[q]at C;simp at C;rcases C with C|C;{exact h.reach i (.inl C)};exact(h.reach x (.inl b)).step u C};simp at q;rcases q with q|q;{exact h.reach i (.inr q)};subst q;exact h.reach x (.inl b)};{rw[tb,G];cases q:(done.testBit a||decide (x=a));{simp at q;rcases h.start with B|B;{simp[B]};rw[B]at q;simp at q};exact .inr rfl};rw[tb,G];rw[G]at c;cases q:(done.testBit z||decide (x=z));{simp at q c;rcases c with c|c;{rcases h.shut y z c d with m|m;{simp[m]};rw[m]at q;simp at q};subst c;simp[d]};exact .inr rfl
def LH.finish {g a done l}(h:LH g a 0 done l):∀i,i∈l ↔ C7 g a i:=λi=>by rw[h.came i];constructor;{exact λC=>h.reach i (.inr C)};intro Q;refine Q (λi=>done.testBit i=Tt) ?_ ?_;{rcases h.start with B|B;{simp at B};exact B};intro x y u _ c;rcases h.shut x y u c with m|m;{simp at m};exact m
def qt5 {n x}(h:n.testBit x=Ff):n<n ||| 2 ^ x:=by apply Nat.lt_of_le_of_ne Nat.left_le_or;intro e;have:(n ||| 2 ^ x).testBit x=Tt:=(by rw[Gb,Vv];simp);rw[<- e,h]at this;cases this
def qnm {W' n c}(h:m0 W' n 143 [c])(v d D C b):m0 (((((W'.alloc d).alloc D).alloc C).alloc b).setCell (Aq n 0) v).drew n 143 [v]/\M6 (λj=>j=n) W' (((((W'.alloc d).alloc D).alloc C).alloc b).setCell (Aq n 0) v).drew /\ (∀B,B<=n->n<W'.1.size->Below B W' (((((W'.alloc d).alloc D).alloc C).alloc b).setCell (Aq n 0) v).drew):=by have e:=BC W' d D C b;exact⟨(h.mono e h.lt).set 0 v,((M6.of_below e).trans (M6.set (X:=λj=>j=n) (a:=Aq n 0) v rfl)).trans ⟨nR _,λ_ _ _ _ _ h=>h⟩,λB f r=>((e.mono fP).setCell (p:=Aq n 0) f v).drew⟩
def TS (w d D C b n L):Bw w ((((((w.alloc d).alloc D).alloc C).alloc b).alloc n).alloc L):=((BC w d D C b).alloc fX n).alloc fX L
def qhh {W' n c}(h:m0 W' n 143 [c])(v d D C b e L):m0 (((((((W'.alloc d).alloc D).alloc C).alloc b).alloc e).alloc L).setCell (Aq n 0) v).drew n 143 [v]/\M6 (λj=>j=n) W' (((((((W'.alloc d).alloc D).alloc C).alloc b).alloc e).alloc L).setCell (Aq n 0) v).drew /\ (∀B,B<=n->n<W'.1.size->Below B W' (((((((W'.alloc d).alloc D).alloc C).alloc b).alloc e).alloc L).setCell (Aq n 0) v).drew):=by have f:=TS W' d D C b e L;exact⟨(h.mono f h.lt).set 0 v,((M6.of_below f).trans (M6.set (X:=λj=>j=n) (a:=Aq n 0) v rfl)).trans ⟨nR _,λ_ _ _ _ _ h=>h⟩,λB g r=>((f.mono fP).setCell (p:=Aq n 0) g v).drew⟩
def q70 (E Bs a:Nat)(g l X)(Y:a<32)(Z:∀a,a<32->g a<4294967296)(O:m0 l E 3 [Ye (a:Int)])(P:m0 l Bs 228 (us g))(ht:Q2 l)(av:¬ X Bs)(au:¬ X 1):vT prog 235 #[Yh E 0,Yh Bs 0] (λx=>x<32) (λs=>∀i,i∈s ↔ C7 g a i) (λ_=>True) X l:=by intro aA aG ah Jx W p H aE V hY h0;have hT:=ht.mono p;have bA:=O.mono p O.lt;have w:=P.mono p P.lt;have c0:=bA.cell 0;simp only[Ym]at c0;have HY:=h_ hY;refine callsIn_of_wp func235 rfl trivial ?_ rfl;simp only[ntmps235,Zr,Y5,Ze,Nat.reduceAdd,Nat.reduceSub,Vu,Vt,Ob,Vw,Oc,Vj];gi_wp2_with fail;refine wA ((ZI _ _ Y).mono ?_);rintro e y ⟨rfl,rfl⟩;gi_wp2_with fail;have o:=(m0.new (W.alloc (Cl (#[.int .u32 ((2 ^ a:Nat):Int)]) 143)) 143 (#[.int .u32 ((2 ^ a:Nat):Int)])).alloc (Cl #[.int .u32 0] 143);have b:=m0.new ((W.alloc (Cl (#[.int .u32 ((2 ^ a:Nat):Int)]) 143)).alloc (Cl (#[.int .u32 ((2 ^ a:Nat):Int)]) 143)) 143 #[.int .u32 0];have I:=YK W (Cl (#[.int .u32 ((2 ^ a:Nat):Int)]) 143) (Cl (#[.int .u32 ((2 ^ a:Nat):Int)]) 143) (Cl #[.int .u32 0] 143);simp only[Y4,Gx,Gm]at o b I;gi_loopw [6] (λ_ wr=>∃(B done:Nat) (K:List Nat),m0 wr (W.1.size+1) 143 [.int .u32 (B:Int)]/\m0 wr (W.1.size+1+1) 143 [.int .u32 (done:Int)]/\m0 wr Bs 228 (us g)/\Q2 wr/\ah K wr/\LH g a B done K) (λ_ wr=>4294967296 - vP wr (Yh (W.1.size+1+1) 0));exact⟨2 ^ a,0,[],by simpa using o,b,w.mono I w.lt,hT.mono I,H _ _ _ h0 I,LH.init g a Y⟩;have lS:=w.lt;obtain⟨B,done,K,Q,U,am,ap,hj,hw⟩:=hrel;have c1:=Q.cell 0;simp only[Ym]at c1;have R:=hw.t32;have sD:=U.lt;have sT:=Q.lt;have K1:=λc=>(Q.alloc c).cell 0;simp only[Ym]at K1;have ac:W.1.size<=wr.1.size:=fP;obtain⟨F,m,A,G,z,S⟩:=oF Q U am ap hj hw;by_cases k:B=0;{subst k;have az:((0:Nat)==0)=Tt:=rfl;gi_wp2_with fail;refine wA ((UL _ _).mono ?_);rintro e y ⟨rfl,rfl⟩;gi_wp2_with fail;go_end0;exact⟨⟨_,rfl⟩,.inl ⟨K,S.finish,H _ _ _ z (((bR wr.1.size _).alloc (nR _) _).mono ac)⟩⟩};have az:(B==0)=Ff:=(by simpa using k);have q:=Eh R k;have aa:=Kb B (wr.alloc (Cl #[.int .u32 (B:Int)] 143)) R k (G.mono (Bq));obtain⟨x,hx⟩:=Nq (Lib.ctz 32 B);rw[hx]at q aa;have ae:=h_ aa;have u:=q.1;have J:=h_ q.2;have T:Bw wr ((wr.alloc (Cl #[.int .u32 (B:Int)] 143)).alloc (Cl #[.int .u32 (B:Int)] 143)):=(Bq).alloc fT _;have ay:=HY (aA - 1) K x _ (H _ _ _ z (T.mono ac)) u;have i:=h_ T;obtain⟨fn,aH,aC,aD,hy,al⟩:=ay;have af:=h_ al;gi_wp2_with fail;refine wA ((UL _ _).mono ?_);rintro e y ⟨rfl,rfl⟩;gi_wp2_with fail;refine wA (ae.mono ?_);rintro e y ⟨rfl,rfl⟩;gi_wp2_with fail;refine⟨EM,af.mono ?_⟩;rintro e W3 (⟨rfl,aw,r⟩|⟨rfl,ax⟩);{have o:=r.blk (F.mono i F.lt) (λh=>Fq (V _ h));have b:=r.blk (m.mono i m.lt) (λh=>Fq (V _ h));have w:=r.blk (A.mono i A.lt) av;have an:=(G.mono i).keep r au;have M:=S.d32;have c2:=b.cell 0;simp only[Ym]at c2;have f2:=b.free 0;have l2:=b.lt;have K4:=b.cell4 0;have F4:=b.free4 0;simp only[Ym]at K4;have aF:prog.follows .mixedOrders=Tt:=fR;have x2:=lF u;obtain⟨BT,BD,BS,ag,ad⟩:=oG o b w an aw;gi_wp2_with fail;gi_region_with_o (first|(refine wA ((ZI _ _ u).mono ?_);rintro e v ⟨rfl,rfl⟩)|(refine wA ((UN _ _ _ M x2).mono ?_);rintro e v ⟨rfl,rfl⟩));all_goals gi_wp2_with fail;have j:=qnm BD (.int .u32 ((done ||| 2 ^ x:Nat):Int)) (Cl (#[.int .u32 ((2 ^ x:Nat):Int)]) 143) (Cl #[.int .u32 (done:Int)] 143) (Cl (#[.int .u32 ((2 ^ x:Nat):Int)]) 143) (Cl (#[.int .u32 ((done ||| 2 ^ x:Nat):Int)]) 143);simp only[Gx,Gm]at j;obtain⟨f,c,h⟩:=j;have h:=h W.1.size fP l2;obtain⟨n,aq⟩:=Nq ((((((W3.alloc (Cl #[.int .u32 (2 ^ x)] 143)).alloc (Cl #[.int .u32 (done:Int)] 143)).alloc (Cl #[.int .u32 (2 ^ x)] 143)).alloc (Cl (#[.int .u32 ((done ||| 2 ^ x:Nat):Int)]) 143)).setCell (Aq (W.1.size+1+1) 0) (.int .u32 ((done ||| 2 ^ x:Nat):Int))).drew);rw[aq]at f c h|-;have o:=c.blk BT fP;have w:=c.blk BS fP;have ao:=ag.keep c fP;have ak:=H _ _ _ ad h;have N:=Z x u;have cT:=o.cell 0;have cD:=f.cell 0;have cS:=w.cell x;simp only[Ym]at cT cD;rw[uB g u]at cS;have ai:=λd D C=>(f.mono (YK n d D C) f.lt).cell 0;have aj:=λd D C s t L=>(o.mono (TS n d D C s t L) o.lt).cell 0;have aB:=λd D C s t L=>(o.mono (TS n d D C s t L) o.lt).free 0;simp only[Ym]at ai aj;have d:=OJ R N;have D:=OJ M x2;have lT:=o.lt;have aI:(0:Int)<=x:=fP;have aJ:(x:Int)<32:=fP;obtain⟨C,L,B3,B4,B5⟩:=oG f o w ao ak;gi_region_with_o (first|(refine wA ((UN _ _ _ R N).mono ?_);rintro e v ⟨rfl,rfl⟩)|(refine wA ((RN _ _ _ d D).mono ?_);rintro e v ⟨rfl,rfl⟩));all_goals gi_wp2_with fail;have j:=qhh L (.int .u32 ((p8 (B ||| g x) (done ||| 2 ^ x):Nat):Int)) (Cl #[.int .u32 (B:Int)] 143) (Cl #[.int .u32 (g x:Int)] 143) (Cl (#[.int .u32 ((B ||| g x:Nat):Int)]) 143) (Cl (#[.int .u32 ((B ||| g x:Nat):Int)]) 143) (Cl (#[.int .u32 ((done ||| 2 ^ x:Nat):Int)]) 143) (Cl (#[.int .u32 ((p8 (B ||| g x) (done ||| 2 ^ x):Nat):Int)]) 143);obtain⟨f,c,h⟩:=j;have b:=c.blk C fP;refine⟨⟨_,_,K++[x],f,b,c.blk B3 fP,B4.keep c fP,H _ _ _ B5 (h W.1.size fP lT),S.next Z u J⟩,?_⟩;have s:=b.cell 0;have t:=m.cell 0;simp only[Ym]at s t;rw[rR s,rR t];have:=qt5 (S.apart x J);omega};gi_wp2_with fail;exact bodyPost_ret (results_none rfl _ _ _) rfl ⟨⟨_,rfl⟩,.inr ⟨K++[x],trivial,ax⟩⟩
def iR {p:Prop}(h:p:=by go_ret;exact kV):p:=h
def qdl (g)(a:Nat)(w):Calls prog 205 #[.agg (us g).toArray,Ye (a:Int)] w λe j=>e=Rt (.func (.func 235) #[] #[Yh (w.1.size+1) 0,Yh w.1.size 0])/\j=(w.alloc (Cl (us g).toArray 228)).alloc (Cl #[Ye (a:Int)] 3):=by go_enter func205,ntmps205;go_wp2;exact iR
end
section
section
variable {f g:Nat->Nat} {m n:Nat}
def qoj {T lo hi a b}(h:T a b=Tt):GK T lo hi a b=Tt:=by grind[GK]
def VQ {T a b i}:∀{j},i<=j->lD T f g i a b=Tt->lD T f g j a b=Tt:=by intro j;induction j with|zero=>intro C h;obtain rfl:i=0:=fP;exact h|succ j q=>intro C h;by_cases e:i=j+1;{subst e;exact h};exact qoj (q fP h)
def q94 {T a k j}(c:k<j)(h:T a (f k)=Tt):lD T f g j a (g k)=Tt:=by refine VQ (i:=k+1) fP ?_;have b:lD T f g k a (f k)=Tt:=VQ (i:=0) fP h;rw[lD];simp[GK,b]
def RO (f g:Nat->Nat)(m:Nat)(T:Nat->Nat->Bool)(a:Nat):Prop:=∀k,k<m->T a (f k)=Tt->T a (g k)=Tt
def X_ {T a}(h:RO f g m T a):∀j,j<=m->∀b,lD T f g j a b=T a b:=by intro j;induction j with|zero=>intro _ b;rfl|succ j q=>intro s b;rw[lD,GK,q fP,q fP];by_cases e:b=g j;{subst e;cases c:T a (f j);{simp};rw[h j fP c];rfl};rw[show decide (b=g j)=Ff from Yl e];simp
def PK (n:Nat)(T:Nat->Nat->Bool)(a:Nat):Nat:=((List.range n).filter (T a)).length
def qf6 {p q}(l:List Nat)(h:∀x,p x=Tt->q x=Tt):(l.filter p).length<=(l.filter q).length:=by induction l <;> grind
def Qc {p q}(l:List Nat)(h:∀x,p x=Tt->q x=Tt){y}(hy:y∈l)(h1:p y=Ff)(r:q y=Tt):(l.filter p).length<(l.filter q).length:=by induction l with|nil=>cases hy|cons x c b=>simp only[List.filter_cons];rcases Vf.1 hy with rfl|hy;{rw[h1,r];have:=qf6 c h;simp;omega};have:=b hy;cases a:p x;{cases J:q x;{simpa using this};simp;omega};rw[h x a];simpa using this
def Ca {T:Nat->Nat->Bool}{a b:Nat}:∀r,T a b=Tt->E7 T f g m r a b=Tt
 | 0,h=>h
 | r+1,h=>VQ (i:=0) fP (Ca r h)
def C_ (H:∀k,k<m->g k<n){a:Nat}(K:a<n):∀r,RO f g m (E7 t8 f g m r) a\/r+1<=PK n (E7 t8 f g m r) a
 | 0=>by
  right;have:(List.filter (λ_=>Ff) (List.range n)).length<PK n (E7 t8 f g m 0) a:=Qc (y:=a) _ (λx h=>by cases h) (by simpa using K) rfl (by simp[E7,t8]);omega
 | r+1=>by
  rcases C_ H K r with h|h
  . left
    intro k c b;rw[E7,X_ h m (nR _)]at b|-;exact h k c b
  . by_cases N:RO f g m (E7 t8 f g m r) a
    . left
      intro k c b;rw[E7,X_ N m (nR _)]at b|-;exact N k c b
    . right
      have:∃k,k<m/\E7 t8 f g m r a (f k)=Tt/\¬ E7 t8 f g m r a (g k)=Tt:=by
       apply Classical.byContradiction;intro P;exact N λk c b=>Classical.byContradiction λd=>P ⟨k,c,b,d⟩
      obtain⟨k,c,b,d⟩:=this;have:PK n (E7 t8 f g m r) a<PK n (E7 t8 f g m (r+1)) a :=
       Qc (y:=g k) _ (λx u=>VQ (i:=0) fP u) (by simpa using H k c) hP (q94 c b)
      omega
def Cy (H:∀k,k<m->g k<n){a}(K:a<n):RO f g m (E7 t8 f g m n) a:=by rcases C_ (f:=f) (m:=m) H K n with h|h;{exact h};have:PK n (E7 t8 f g m n) a<=n:=(by have:=Oj (E7 t8 f g m n a) (List.range n);simpa [PK] using this);omega
def GM (u:Nat->Nat)(f g:Nat->Nat)(m:Nat):Prop:=∀x,x<32->∀y,(u x).testBit y=Tt ↔ ∃k,k<m/\f k=x/\g k=y
def lV {u:Nat->Nat}(d:GM u f g m)(U:∀k,k<m->f k<32){T:Nat->Nat->Bool}{a:Nat}(h:∀b,T a b=Tt->C7 u a b):∀j,j<=m->∀b,lD T f g j a b=Tt->C7 u a b|0,_,b,c=>h b c|j+1,hj,b,c=>by rw[lD,GK]at c;simp only[Zv,Yx,Y3]at c;rcases c with c|⟨rfl,c⟩;{exact lV d U h j fP b c};exact(lV d U h j fP _ c).step (U j fP) ((d _ (U j fP) _).2 ⟨j,fP,rfl,rfl⟩)
def D_ {u:Nat->Nat}(c:GM u f g m)(U:∀k,k<m->f k<32){a:Nat}:∀r b,E7 t8 f g m r a b=Tt->C7 u a b
 | 0,b,h=>by
  simp only[E7,t8,Y3]at h;subst h;exact C7.refl _ _
 | r+1,b,h=>lV c U (λb d=>D_ c U r b d) m (nR _) b h
def H_ {u}(P:n<=32)(d:GM u f g m)(U:∀k,k<m->f k<n)(H:∀k,k<m->g k<n){a b}(K:a<n):E7 t8 f g m n a b=Tt ↔ C7 u a b:=by refine⟨D_ d (λk c=>Fq (U k c)) n b,λh=>?_⟩;refine(h (λx=>x<n/\E7 t8 f g m n a x=Tt) ⟨K,Ca n (by simp[t8])⟩ ?_).2;rintro x y ⟨h,I⟩ Q e;obtain⟨k,c,rfl,rfl⟩:=(d x Q y).1 e;exact⟨H k c,Cy H K k c I⟩
end
end
section
open Go Go.RowKit Go.Proofs.Tryz
def TD (p:Nat->Bool)(n:Nat):Int:=match (List.range n).find? p with
 | some c=>c
 | none=>-1
def Rc {p n k}(a:k<n)(h:∀c,c<k->p c=Ff)(b:p k=Tt):TD p n=k:=by have:(List.range n).find? p=Sm k:=(by rw[List.find?_range_eq_some];exact⟨b,gt,λj s=>by simp[h j s]⟩);rw[TD,this]
def CQ {p n}(h:∀c,c<n->p c=Ff):TD p n = -1:=by have:(List.range n).find? p=Nn:=(by rw[List.find?_eq_none];intro x u;simp[h x (List.mem_range.1 u)]);rw[TD,this]
def tQ (p n):(∃c:Nat,c<n/\TD p n=c/\p c=Tt)\/(TD p n = -1/\∀c,c<n->p c=Ff):=by cases e:(List.range n).find? p with|some c=>left;have m:=List.find?_some e;have r:=List.mem_of_find?_eq_some e;exact⟨c,Y6.1 r,by rw[TD,e],m⟩|none=>right;refine⟨by rw[TD,e],λc N=>?_⟩;have:=(List.find?_eq_none.1 e) c (Y6.2 N);simpa using this
def YY {p:Nat->Bool}{k}(h:∀c,c<k->p c=Ff)(a:p k=Ff):∀c,c<k+1->p c=Ff:=λc N=>by by_cases e:c=k;{rw[e];exact a};exact h c fP
def qb5 (t m N n a b f w)(l:n*n<=m)(P:n<=32)(K:a<n)(d:b<n)(g:C8 w t m f)(r)(Q:TD (CC f n a b) n=r):Calls prog 30 #[Sl t m N,Ye n,Ye a,Ye b] w λe j=>e=Rt (Ye r)/\j=w:=by obtain⟨V,v⟩:=oB l Q;go_enter func30,ntmps30;go_wp2;go_loop [9] (λi=>∃k:Nat,k<=n/\i=Ye k/\∀c,c<k->CC f n a b c=Ff) (λi=>n - (intOf i).toNat);exact⟨0,nZ _,rfl,λc h=>absurd h (nL _)⟩;obtain⟨k,i,rfl,h⟩:=hrel;have B:=h_ h;by_cases S:k<n;{cases s:CC f n a b k;{go_wp2_with (go_at_call 59;refine(o_ _ _ _ _ _ _ _ f _ V P K d S g).mono ?_;rintro e j ⟨rfl,rfl⟩;rw[s]);go_round;exact⟨k+1,fP,fU,YY B s⟩;exact kZ};have I:=Rc S B s;rw[v.u]at I;subst I;go_wp2_with (go_at_call 59;refine(o_ _ _ _ _ _ _ _ f _ V P K d S g).mono ?_;rintro e j ⟨rfl,rfl⟩;rw[s]);exact iR};have I:=CQ (p:=CC f n a b) (n:=n) λc e=>B c fP;rw[v.u]at I;subst I;go_wp2;exact iR
def qb6 (t m N n a b f w)(l:n*n<=m)(P:n<=32)(K:a<n)(d:b<n)(g:C8 w t m f)(r)(Q:TD (DC f n a b) n=r):Calls prog 31 #[Sl t m N,Ye n,Ye a,Ye b] w λe j=>e=Rt (Ye r)/\j=w:=by obtain⟨V,v⟩:=oB l Q;go_enter func31,ntmps31;go_wp2;go_loop [9] (λi=>∃k:Nat,k<=n/\i=Ye k/\∀c,c<k->DC f n a b c=Ff) (λi=>n - (intOf i).toNat);exact⟨0,nZ _,rfl,λc h=>absurd h (nL _)⟩;obtain⟨k,i,rfl,h⟩:=hrel;have B:=h_ h;by_cases S:k<n;{cases s:DC f n a b k;{go_wp2_with (go_at_call 60;refine(p_ _ _ _ _ _ _ _ f _ V P K d S g).mono ?_;rintro e j ⟨rfl,rfl⟩;rw[s]);go_round;exact⟨k+1,fP,fU,YY B s⟩;exact kZ};have I:=Rc S B s;rw[v.u]at I;subst I;go_wp2_with (go_at_call 60;refine(p_ _ _ _ _ _ _ _ f _ V P K d S g).mono ?_;rintro e j ⟨rfl,rfl⟩;rw[s]);exact iR};have I:=CQ (p:=DC f n a b) (n:=n) λc e=>B c fP;rw[v.u]at I;subst I;go_wp2;exact iR
theorem qn7 {w b g}(c:m0 w b 228 (us g)):(Instr.loadAt 228 (.pointer (Sm (.mk b 0 .none)))).run prog w=.ok (.agg (us g).toArray) w:=by simp only[Instr.loadAt,Instr.sureAddr,Sem.run_bind,Sem.run_pure,Result.andThen_ok,run_loadVar_row w b 228 228 (us g).toArray (0,0) _ c underlying228 rfl (pJ g)]
def m0.range {w b t cs}(h:m0 w b t cs):w.rangeAt b 0 cs:=λj v I=>by rw[Zk,h.cell,I]
def Rn (g):(prog.info? 228).map (·.size)=Sm (us g).length:=by simp[us,Rd]
def yL (w':Tw)(B k j:Nat)(g:Nat->Nat):Prop:=m0 w' B 228 (us g)/\Q2 w'/\w'.cell? (Aq B k)=Sm (.int .u32 (g k:Int))/\w'.cell? (Aq B j)=Sm (.int .u32 (g j:Int))/\w'.rangeAt B 0 (us g)
def yL.mono {w w' B k j g}(h:yL w B k j g)(c:Bw w w'):yL w' B k j g :=
 have D:=h.1.mono c h.1.lt
 ⟨D,h.2.1.mono c,(c.cell (p:=Aq B k) h.1.lt).trans h.2.2.1,(c.cell (p:=Aq B j) h.1.lt).trans h.2.2.2.1,D.range⟩
def _root_.Go.World.ownsRow.mono3 {w w' base e g n k x}(h:w.ownsRow base e 1 (Sl (Sm (Aq g 0)) n k) n x)(c:Bw w w'):w'.ownsRow base e 1 (Sl (Sm (Aq g 0)) n k) n x :=
 h.kept (row:=Nn) ⟨c.os,c.tape,c.output,c.size,λb a _=>c.block b a⟩ (.inr (by simp[Value.ownBlock]))
def vB (g:Nat->Nat)(a b:Nat)(v:Int):Prop:=xH g (s8 (g a) (g b)) v
def Ia (n:Nat)(g w)(h1:1<=n)(hn:n<=32)(x:∀a,a<32->g a<4294967296)(ht:Q2 w) :
 Calls prog 201 #[.agg (us g).toArray,Ye n] w λe c=>Bw w c /\
  ((∃G F,e=.returned (.tuple #[.slice (some ⟨G,0,none⟩) (n*n) (n*n),.bool true])/\m0 c G 3 (is (n*n) F)/\w.1.size<=G/\∀a,a<n->∀b,b<n->0<=F (a*n+b)/\vB g a b (F (a*n+b))) ∨
   (e=.returned (.tuple #[Yf,.bool false])/\∃a b,a<n/\b<n/\vB g a b (-1))):=by
 obtain⟨z,G,ak,P,al⟩:=info_parts pR;have q1:(n:Int)*n<=1024:=by rw[<- Zp];have:=JJ hn;omega
 have q0:0<=(n:Int)*n:=by rw[<- Zp];omega
 have i:z.bytes*(n*n)<=281474976710656:=by rw[al];omega
 have hC:((n:Int)*n)=((n*n:Nat):Int):=fT
 have Z:=h_ hC;clear hC;go_enter func201,ntmps201;go_wp2_with (at_make;refine wpList_make_own _ rfl _ (.tmp 12) 35 rfl w.1.size 3 z (Ye 0) 1 underlying35 G ak P .i64 .i64 _ (n*n) rfl rfl Z i ga fT ?_;intro w1 f E);have h:=((bR _ w).alloc (nR _) _).trans ((bR w.1.size _).grown E fT (λk e=>by cases e));have d:=(m0.new w 228 (us g).toArray).grown E fT;obtain⟨V,M,l⟩:=oC f h d;clear f h d E i;go_loopw [6,15] (λv i wr=>∃(k:Nat) (F:Nat->Int),k<=n/\i=Ye k/\v=.slice (some ⟨w.1.size+1,0,none⟩) (k*n) (n*n)/\wr.ownsRow w.1.size 3 1 (.slice (some ⟨w.1.size+1,0,none⟩) (k*n) (n*n)) (k*n) (is (k*n) F)/\m0 wr w.1.size 228 (us g)/\Bw w wr/\(∀a,a<k->∀b,b<n->0<=F (a*n+b)/\vB g a b (F (a*n+b)))) (λ_ i _=>n - (intOf i).toNat)
 case atStart=>exact⟨0,λ_=>0,nZ _,rfl,fT,by simpa [is] using V.u,l,M,λa h=>absurd h (nL _)⟩
 case round =>
  clear V l M;obtain⟨k,F,hk,rfl,rfl,f,d,H,o⟩:=hrel;obtain⟨V,l,S,s⟩:=oD f d H o;clear f d H o;by_cases M:k<n
  . go_wp2
    go_loopw [6,19] (λv i wr=>∃(j:Nat) (F:Nat->Int),j<=n/\i=Ye j/\v=.slice (some ⟨w.1.size+1,0,none⟩) (k*n+j) (n*n)/\wr.ownsRow w.1.size 3 1 (.slice (some ⟨w.1.size+1,0,none⟩) (k*n+j) (n*n)) (k*n+j) (is (k*n+j) F)/\m0 wr w.1.size 228 (us g)/\Bw w wr/\(∀a,a<k->∀b,b<n->0<=F (a*n+b)/\vB g a b (F (a*n+b)))/\(∀b,b<j->0<=F (k*n+b)/\vB g k b (F (k*n+b)))) (λ_ i _=>n - (intOf i).toNat)
    case atStart=>exact⟨0,F,nZ _,rfl,fT,by simpa using V.u,l,S,s,λb h=>absurd h (nL _)⟩
    case round =>
     clear V l S s;obtain⟨j,F,hj,rfl,rfl,f,d,H,o,hG⟩:=hrel;obtain⟨V,l,S,s,R⟩:=oG f d H o hG;by_cases L:j<n
     . have T:k<32:=fP
       have Q:j<32:=fP;have N:=d.cell k;have O:=d.cell j;rw[uB _ T]at N;rw[uB _ Q]at O;have C:=x k T;have gj:=x j Q;have gc:=QU (t:=g j) C;have hT:=ht.mono H;have B:Hi (yL wr w.1.size k j g):=⟨d,hT,N,O,d.range⟩;have ao:=underlying228;have an:=Rn g;have au:(0:Int)<=k:=fP;have av:(k:Int)<32:=fP;have ap:(0:Int)<=j:=fP;have aq:(j:Int)<32:=fP;go_wp2_with fail;go_region_held3 (λc=>m0 c w.1.size 228 (us g)/\Q2 c/\c.cell? ⟨w.1.size,k,none⟩=some (.int .u32 (g k:Int))/\c.cell? ⟨w.1.size,j,none⟩=some (.int .u32 (g j:Int))/\c.rangeAt w.1.size 0 (us g)) (first | exact B | exact K | exact A) (first | (go_at_call 232;refine cQ (RU _ _ _ C gj) λw2 h=>?_;have K:Hi (yL w2 w.1.size k j g):=B.mono (R8 h);replace h:=h_ (R8 h)) | (go_at_call 204;refine(GU g _ _ x gc K.2.1).mono ?_;rintro e X ⟨v,rfl,I,p⟩;have A:Hi (yL X w.1.size k j g):=K.mono p;replace p:=h_ (h.u.trans (p.mono h.u.size));replace I:=h_ I));have r:Hi (vB g k j v):=I;have W:Hi (Bw wr X):=p;have am:=V.mono3 W;have ae:=A.1;have y:v = -1∨0<=v:=by
        rcases r.u with ⟨m,-,rfl,-⟩ | ⟨rfl,-⟩
        . exact .inr fP
        . exact .inl rfl
       have ai:=pF M L;have ah:=S.trans (W.mono S.size);obtain⟨aa,U,m⟩:=oC am ae ah;rcases y with rfl | y
       . have q:Hi (∃a b,a<n/\b<n/\vB g a b (-1)):=⟨k,j,M,L,r.u⟩
         go_wp2
         go_ret2
         exact⟨m,.inr ⟨rfl,q⟩⟩
       . go_wp2_with (at_builtin;refine wpList_append_fits _ rfl _ _ 35 rfl w.1.size 3 z 1 underlying35 G P (w.1.size+1) (k*n+j) (n*n) _ rfl (aa.alloc _) ⟨X.1.size,0,none⟩ 1 1 [Ye v] rfl rfl ?c1 fZ ai ?_)
         case c1 =>
          intro q u J
          match q,J with
          | 0,J=>simp at J;subst J;simp[Addr.add]
         . intro w4 aj E
           have af:=(U.alloc (.cells #[Ye v] 3)).grown E fT;have ag:=(m.alloc m.size (.cells #[Ye v] 3)).grown E (by have:=m.size;simp;omega) (λq e=>by cases e;omega);obtain⟨ac,Y,ad⟩:=oC aj af ag;go_wp2;go_roundw
           case rel =>
            refine⟨j+1,λi=>if i=k*n+j then v else F i,fP,fU,rfl,?_,Y,ad,λa u b D=>?_,λb D=>?_⟩
            . have e:is (k*n+(j+1)) (λi=>if i=k*n+j then v else F i)=is (k*n+j) F++[Ye v]:=by
               rw[<- Gi,PW];simp only[if_true]
               congr 1
               unfold is;refine Zw λq J=>?_;simp only[Ys (show ¬ q=k*n+j by have:=Y6.1 J;omega)]
              rw[e];exact ac
            . have:¬ a*n+b=k*n+j:=by
               have q:(a+1)*n<=k*n:=Zx _ u;rw[Z5]at q;omega
              simp only[Ys this];exact s a u b D
            . by_cases e:b=j
              . subst e;simp only[if_true];exact⟨y,r.u⟩
              . simp only[Ys (show ¬ k*n+b=k*n+j by omega)]
                exact R b fP
           case measure=>simp[intOf];omega
     . obtain rfl:j=n:=fP
       go_wp2;go_roundw
       case rel =>
        refine⟨k+1,F,fP,fU,by rw[Z5],by rw[Z5];exact V,l,S,λa u=>?_⟩;by_cases e:a=k
        . subst e;exact R
        . exact s a fP
       case measure=>simp[intOf];omega
  . obtain rfl:k=n:=fP
    go_wp2
    go_ret2
    exact⟨S,.inl ⟨_,F,rfl,m0.of_owns V,fP,s⟩⟩
section
variable {md:Region.Mode} {ops:Array Oper} {Q:Exit->Act->Tw->Prop} {S:Tw->Prop} {o:Oper} {a:Act}
def NU (W:Region.wanted o (yielded ops a.tmps)=Tt)(x)(T:o.op=.load 228 x)(b g)(u:a.eval x=Yh b 0)(G:∀w,S w->m0 w b 228 (us g)):YieldsIf prog ops S o (.agg (us g).toArray) a :=
 .inl ⟨W,λw h=>by simp only[execOp,T,u,Sem.run_bind,Sem.run_pure,qn7 (G w h),Result.andThen_ok]⟩
def BQ (W:Region.wanted o (yielded ops a.tmps)=Tt)(x v)(T:o.op=.move x)(u:a.eval x=v):YieldsIf prog ops S o v a :=
 .inl ⟨W,λw _=>by rw[BigFrame.run_move x T,u]⟩
def qdk (d:Region.wanted o (yielded ops a.tmps)=Tt)(x)(T:o.op=.load 143 x)(b c v)(u:a.eval x=Yh b c)(G:∀w,S w->w.cell? (Aq b c)=Sm v):YieldsIf prog ops S o (.agg #[v]) a :=
 .inl ⟨d,λw h=>by have W:=G w h;simp only[execOp,T,u];simp[go_sem,W]⟩
def YV {a:Act}{o:Oper}{d v}(h:o.dst=Sm d):a.put o.dst v = { tmps:=a.tmps.setIfInBounds d v,defers:=a.defers }:=by rw[h];rfl
def take {i fuel v K w}(d)(hi:ops[i]? = Sm o)(q:o.dst=Sm d)(B:Region.noSelect ops=Tt)(U:Region.free md ops K i=Tt)(e:(Region.ready md ops K).contains i=Tt)
 (P:∀c (b:Act) (t:Ta) w,Q (.panic c) { tmps:=t,defers:=b.defers } w->Q (.panic c) b w) (hy:YieldsIf prog ops S o v a) (G:S w) (h:wpAnyH prog md ops Q S fuel (K.setIfInBounds i Tt) { tmps:=a.tmps.setIfInBounds d v,defers:=a.defers } w):wpAnyH prog md ops Q S (fuel+1) K a w :=
 wpAnyH_take hi B U e (λc a w h=>P c a _ w (by rw[YV q]at h;exact h)) hy G (by rw[YV q];exact h)
def wT {i fuel K w f args}{R:Value->Tw->Prop}(d)(hi:ops[i]? = Sm o)(q:o.dst=Sm d)(W:Region.wanted o (yielded ops a.tmps)=Tt)(c:Region.ready md ops K=[i]) (hrun:(execOp a.eval o).run prog w=.ok (.enter f args) w) (N:Calls prog f args w λe j=>∃v,e=Rt v/\R v j) (h:∀v j,R v j->S j/\wpAnyH prog md ops Q S fuel (K.setIfInBounds i Tt) { tmps:=a.tmps.setIfInBounds d v,defers:=a.defers } j):wpAnyH prog md ops Q S (fuel+1) K a w:=by refine wpAnyH_ready c fT (AllReadyH.cons hi (λb k=>?_) AllReadyH.nil);rw[Yz W];unfold Oper.wp;rw[hrun,Oper.upon_enter];refine N.mono ?_;rintro e j ⟨v,rfl,g⟩;obtain⟨m,r⟩:=h v j g;show b (a.put o.dst v) j;rw[YV q];exact k.out _ _ m (λ_=>r)
def runH {i fuel K w w' v}(hi:ops[i]? = Sm o)(W:Region.wanted o (yielded ops a.tmps)=Tt)(b:Region.ready md ops K=[i]) (q:o.dst=Nn) (hrun:(execOp a.eval o).run prog w=.ok v w') (I:v=.skip) (G:S w') (h:wpAnyH prog md ops Q S fuel (K.setIfInBounds i Tt) a w'):wpAnyH prog md ops Q S (fuel+1) K a w:=by subst I;refine wpAnyH_ready b fT (AllReadyH.cons hi (λc k=>?_) AllReadyH.nil);exact U6
end
end
section
open Go Go.RowKit Go.Shelf Go.Proofs.Tryz
attribute [local go_sem] Oper.semAt_some
def qog {f}{P:Nat->Nat->Bool}{k x l}(h:I4 f (λb a=>P b a||(decide (a=k)&&decide (b∈l))))(u:x<32)(c:k<32):I4 (λj=>if j=x then f x ||| 2 ^ k else f j) (λb a=>P b a||(decide (a=k)&&decide (b∈l++[x]))) := (h.add u c).congr λb a _=>by by_cases Z:a=k;{by_cases K:b=x <;> simp[Z,K]};simp[Z]
def qic {f g R k}{l:List Nat}(h:I4 f (λb a=>(decide (a<k)&&R a b)||(decide (a=k)&&decide (b∈l))))(H:I4 g R)(d:k<32)(u:∀i,i∈l ↔ (g k).testBit i=Tt):I4 f (λb a=>decide (a<k+1)&&R a b):=h.congr λb a _=>by have e:=(H k d).2 b;by_cases m:a=k;{subst m;rw[show decide (b∈l)=R a b by rw[<- e];cases c:(g a).testBit b <;> simp[u,c]];simp};rw[show decide (a<k+1)=decide (a<k) by simp;omega];simp[m]
def qie (m g R)(n:Nat)(w)(hn:n<=32)(hg:I4 g R)(ht:Q2 w):CallsIn Fence.wide m prog 199 #[.agg (us g).toArray,Ye n] w λe w'=>∃N,e=Rt (.agg (us N).toArray)/\I4 N (λb a=>decide (a<n)&&R a b)/\Bw w w':=by refine callsIn_of_wp_marks func199 rfl trivial ?_ rfl;simp only[ntmps199,Zr,Y5,Ze,Nat.reduceAdd,Nat.reduceSub,Vu,Vt,Ob,Vw,Oc,Vj];gi_wp2_with (refine QP rfl _ _ rfl (w.1.size+1+1) (λ_=>0) (λ_=>0) rfl rfl (GT _ _ _ _ _ rfl) ?_;intro w1 F q M;have c:=(FT _ _ _ _ _).grown q fX;have f:=(IT _ _ _ _ (λ_=>0) rfl).grown q fT;have d:=(YK _ _ _ _).trans ((bR w.1.size _).grown q fX (λk e=>by cases e;omega));have c:=h_ c;have f:=h_ f;have d:=h_ d;have F:=h_ F;clear q M);refine wpIn_loop (λa W=>∃(k:Nat) (N:Nat->Nat) (s:List Nat) (u6 u7 u8 u11 u12 u13 u14 u15 u16 u17 u18 u19 u20 u21 u22 u23 u24 u25 u26 ad:Value),a = { tmps:=#[.agg (us g).toArray,Ye (n:Int),Yh w.1.size 0,undef,Yh (w.1.size+1) 0,Yh (w.1.size+1+1) 0,u6,u7,u8,Ye (n:Int),Ye (k:Int),u11,u12,u13,u14,u15,u16,u17,u18,u19,u20,u21,u22,u23,u24,u25,u26,ad],defers:=yT s }/\k<=n/\I4 N (λb a=>decide (a<k)&&R a b)/\m0 W (w.1.size+1+1) 228 (us N)/\m0 W w.1.size 228 (us g)/\m0 W (w.1.size+1) 228 (us λ_=>0)/\Q2 W/\Bw w W/\GA w.1.size W s) (λa _=>n - (intOf (a.tmps.getD 10 undef)).toNat) ?_ ?_;{refine⟨0,λ_=>0,[],_,_,_,_,_,_,_,_,_,_,_,_,_,_,_,_,_,_,_,_,rfl,nZ _,λa _=>⟨fT,λb=>fT⟩,F.u,c.u,f.u,ht.mono d.u,d.u,GA.nil _ _⟩};clear F c f d;rintro a W ⟨k,N,s,u6,u7,u8,u11,u12,u13,u14,u15,u16,u17,u18,u19,u20,u21,u22,u23,u24,u25,u26,ad,rfl,hk,hrel,T,I,H,hT,d,Y⟩;by_cases aj:k<n;{have dk:decide ((k:Int)<n)=Tt:=(by simp;omega);have j:k<32:=fP;have cS:=I.cell k;rw[uB g j]at cS;have am:(0:Int)<=k:=fP;have an:(k:Int)<32:=fP;have sS:=I.lt;obtain⟨Q,V,HS,t,U,l⟩:=oF hrel T I H hT d;have E:=h_ Y;have K1:∀o,(W.alloc o).cell? (zw w k)=Sm (.int .u32 (g k:Int)):=λo=>((HS.alloc o).cell k).trans (uB g j);gi_wp2_with fail;refine wA ((Hb _ _).mono ?_);rintro e w2 ⟨rfl,rfl⟩;gi_wp2_with fail;have bA:=(m0.new W 3 #[Ye (k:Int)]).alloc (Cl #[.int .u32 (g k:Int)] 143);have S:=m0.new (W.alloc (Cl #[Ye (k:Int)] 3)) 143 #[.int .u32 (g k:Int)];have c:Bw W ((W.alloc (Cl #[Ye (k:Int)] 3)).alloc (Cl #[.int .u32 (g k:Int)] 143)):=(Bq).alloc fT _;have z5:((W.alloc (Cl #[Ye (k:Int)] 3)).alloc (Cl #[.int .u32 (g k:Int)] 143)).1.size=W.1.size+1+1:=fT;simp only[Y4]at S;obtain⟨W5,af⟩:=Nq ((W.alloc (Cl #[Ye (k:Int)] 3)).alloc (Cl #[.int .u32 (g k:Int)] 143));rw[af]at bA S c z5|-;have lO:=V.lt;have aa:=E.lt;have w0:=U.pos;have nX:¬ (1=w.1.size+1+1):=(Fq ht.pos);refine BV (gf:=288) (lb:=#[Yh (W.1.size+1) 0]) rfl (enters_of func288 fR rfl) (y_ (W.1.size+1) (g k) W5 (λC=>C=w.1.size+1+1) (hg k j).1 S (U.mono c) nX) (bR _ _) (λC z=>by omega) rfl (λac y=>∃A,I4 A (λb a=>(decide (a<k)&&R a b)||(decide (a=k)&&decide (b∈ac)))/\m0 y (w.1.size+1+1) 228 (us A)/\m0 y w.1.size 228 (us g)/\m0 y (w.1.size+1) 228 (us λ_=>0)/\m0 y W.1.size 3 [Ye (k:Int)]/\Q2 y/\Bw w y/\GA w.1.size y s) (λ_ _=>False) ?hI (λ_ _ _ v _=>v) ⟨N,Q.congr λb a _=>fT,V.mono c lO,HS.mono c sS,t.mono c t.lt,bA,U.mono c,l.trans (c.mono l.size),E.below c aa⟩ (λx=>{ tmps:=#[.agg (us g).toArray,Ye (n:Int),Yh w.1.size 0,undef,Yh (w.1.size+1) 0,Yh (w.1.size+1+1) 0,Yh W.1.size 0,Ye (x:Int),u8,Ye (n:Int),Ye (k:Int),Bo Tt,Ye (k:Int),Ye (k:Int),Yh w.1.size k,.agg #[.int .u32 (g k:Int)],.func (.func 288) #[] #[Yh (W.1.size+1) 0],Ye (x:Int),u18,u19,u20,u21,u22,u23,u24,u25,u26,ad],defers:=[] }) ?assign ?body ?done (λ_ _ _ _ _ v _=>v.elim);(case hI=>rintro ac F J ⟨A,h,r,Z,K,i,p,G,q⟩ f;rw[z5]at f;exact⟨A,h,r.mono f fP,Z.mono f fP,K.mono f fP,i.mono f fP,p.at0 (f.block 1 fP),G.trans (f.mono fP),q.below f (λD hD=>Fq (aa D hD))⟩);(case assign=>intro m ag x y f F;gi_wp2;exact F);(case body=>rintro m ag ac x y ⟨A,h,r,Z,K,i,p,G,q⟩ ⟨f,al⟩;have ak:prog.follows .mixedOrders=Tt:=fR;have cO:=r.cell x;rw[uB A f]at cO;have fO:=r.free x;have sO:=r.lt;have cA:=i.cell 0;simp only[Ym]at cA;have gx:=(h x f).1;have k2:=lF j;have K4:=λJ L M O=>(r.cell4 x J L M O).trans (uB A f);have F4:=r.free4 x;have ah:∀o,(y.alloc o).cell? (Aq (w.1.size+1+1) x)=Sm (.int .u32 (A x:Int)):=λo=>((r.alloc o).cell x).trans (uB A f);have ai:∀o,(y.alloc o).cell? (zw W 0)=Sm (Ye (k:Int)):=λo=>(i.alloc o).cell 0;have ao:(0:Int)<=x:=fP;have ap:(x:Int)<32:=fP;obtain⟨H1,J,L,P,H5,M⟩:=oF h r Z K i p;obtain⟨O,H8⟩:=oB G q;gi_wp2_with fail;gi_region_with_o (first|(refine BH ((ZI _ _ j).mono ?_);rintro e w' ⟨rfl,rfl⟩)|(refine BH ((UN _ _ _ gx k2).mono ?_);rintro e w' ⟨rfl,rfl⟩));all_goals gi_wp2_with fail;have ae:=Uf J f (A x ||| 2 ^ k) (Cl (#[.int .u32 ((2 ^ k:Nat):Int)]) 143) (Cl #[.int .u32 (A x:Int)] 143) (Cl (#[.int .u32 ((2 ^ k:Nat):Int)]) 143) (Cl (#[.int .u32 ((A x ||| 2 ^ k:Nat):Int)]) 143);simp only[Gx,Gm]at ae;obtain⟨s1,X,s3,s4⟩:=ae;exact⟨s1,X,_,qog H1 f j,s3,X.blk L fP,X.blk P fP,X.blk H5 fP,M.keep X nX,O.trans (s4 _ fP sO),H8.keep s1⟩);case done=>rintro D xs y hD f ⟨A,h,r,Z,K,i,p,G,q⟩ F;have x:Hi (I4 A (λb a=>decide (a<k+1)&&R a b)):=qic h hg j f;have b:Hi (GA w.1.size y (D :: s)):=q.cons gm F (λX=>Fq (aa D X));obtain⟨J,L,P,M,O⟩:=oG r Z K p G;clear h r Z K i p G q F f;gi_wp2_with fail;refine⟨⟨k+1,A,D :: s,⟨fP,rfl⟩,fP,x,J,L,P,M,O,b⟩,?_⟩;exact kZ};obtain rfl:k=n:=fP;have dk:decide ((k:Int)<k)=Ff:=fT;have Q:=h_ hrel;have V:=h_ T;have t:=h_ H;have l:=h_ d;have E:=h_ Y;have M:=H.lt;clear hrel T I H hT d Y;gi_wp2_with (first|(refine OT rfl _ rfl (w.1.size+1+1) N rfl V ?_)|(refine QP rfl _ _ rfl (w.1.size+1) (λ_=>0) N rfl rfl t ?_;intro w2 b I c;have b:=h_ b;have I:=h_ I));refine AU (B:=w.1.size) s w2 (E.keep ⟨fP,λC o z T=>?_⟩) λy q S=>?_;{refine(I.u.block C (Yt.1 z).1 (λe=>?_)).trans z;cases e;rw[show W.heap[w.1.size+1]? = _ from t.u]at z;cases z;simp[Obj.isCells]at T};refine⟨.agg (us N).toArray,results_cell_row rfl _ _ (w.1.size+1) 228 (us N).toArray (0,0) _ rfl (q.blk b.u (λv=>v)) underlying228 rfl (pJ N),N,rfl,Q,?_⟩;exact(l.trans ((bR w.1.size _).grown I.u l.size (λC e=>by cases e;omega))).trans S
def qda (g R)(n:Nat)(w)(P:n<=32)(H:I4 g R)(r:Q2 w) :
 Calls prog 199 #[.agg (us g).toArray,Ye n] w λe j=>∃N,e=Rt (.agg (us N).toArray)/\I4 N (λb a=>decide (a<n)&&R a b)/\Bw w j :=
 (callsIn_wide (n:=9)).1 (qie 9 g R n w P H r)
end
section
open Go Go.RowKit Go.Proofs.Tryz
def I7:Value:=.agg #[.int .i64 0,Sl Nn 0 0,Sl Nn 0 0,Sl Nn 0 0,.int .i64 0,.int .i64 0]
def uH (n:Nat)(g d:Nat->Nat)(R:Nat->Nat->Bool)(B:Nat)(e:Ending)(w':Tw):Prop :=
 ((∃a,a<n/\¬ s8 (g a) (d a)=2 ^ a)/\e=Rt (.tuple #[I7,Ye 2])) \/
 ((∀a,a<n->s8 (g a) (d a)=2 ^ a)/\(∃a b,a<n/\b<n/\vB g a b (-1))/\e=Rt (.tuple #[I7,Ye 3])) \/
 ((∀a,a<n->s8 (g a) (d a)=2 ^ a)/\(∃a b,a<n/\b<n/\vB d a b (-1))/\(∃F:Nat->Int,∀a,a<n->∀b,b<n->0<=F (a*n+b)/\vB g a b (F (a*n+b)))/\e=Rt (.tuple #[I7,Ye 4])) \/
 ((∀a,a<n->s8 (g a) (d a)=2 ^ a)/\∃G1 G2 G3 F1 F2 bot top,e=Rt (.tuple #[.agg #[Ye n,Sl (Sm (Aq G1 0)) (n*n) (n*n),Sl (Sm (Aq G2 0)) (n*n) (n*n),Sl (Sm (Aq G3 0)) (n*n) (n*n),Ye bot,Ye top],Ye 0]) /\
  m0 w' G1 4 (bs (n*n) (A6 n R))/\m0 w' G2 3 (is (n*n) F1)/\m0 w' G3 3 (is (n*n) F2)/\B<=G1/\B<=G2/\B<=G3/\G1≠G2/\G1≠G3/\G2≠G3 /\
  (∀a,a<n->∀b,b<n->0<=F1 (a*n+b)/\vB g a b (F1 (a*n+b)))/\(∀a,a<n->∀b,b<n->0<=F2 (a*n+b)/\vB d a b (F2 (a*n+b)))/\xH g (2 ^ n - 1) bot/\xH d (2 ^ n - 1) top)
def qot (c)(h:c.toList=us λ_=>0)(w:Tw):m0 (w.alloc (Cl c 228)) w.1.size 228 (us λ_=>0):=h ▸ m0.new w 228 c
def nS {w b t v u V Y y T}(h:m0 w b t [v,u,V,Y,y,T]) :
 (w.cell? (Aq b 0)=Sm v/\w.cell? (Aq b 1)=Sm u/\w.cell? (Aq b 2)=Sm V/\w.cell? (Aq b 3)=Sm Y/\w.cell? (Aq b 4)=Sm y/\w.cell? (Aq b 5)=Sm T) /\
 (w.frozen? (Aq b 0)=Ff/\w.frozen? (Aq b 1)=Ff/\w.frozen? (Aq b 2)=Ff/\w.frozen? (Aq b 3)=Ff/\w.frozen? (Aq b 4)=Ff/\w.frozen? (Aq b 5)=Ff) :=
 ⟨⟨h.cell 0,h.cell 1,h.cell 2,h.cell 3,h.cell 4,h.cell 5⟩,h.free 0,h.free 1,h.free 2,h.free 3,h.free 4,h.free 5⟩
def NM {n}(P:n<=32):2 ^ n - 1<4294967296:=by have:2 ^ n<=2 ^ 32:=Zn fP P;omega
def MH (w':Tw)(B D A:Nat)(g d:Nat->Nat)(s:Nat):Prop:=m0 w' B 228 (us g)/\m0 w' D 228 (us d)/\Q2 w'/\w'.rangeAt B 0 (us g)/\w'.rangeAt D 0 (us d)/\w'.cell? (Aq A 0)=Sm (.int .u32 (s:Int))/\A<w'.1.size
def MH.mono {w w' B D A s g f}(h:MH w B D A g f s)(c:Bw w w'):MH w' B D A g f s :=
 have a:=h.1.mono c h.1.lt;have m:=h.2.1.mono c h.2.1.lt
 ⟨a,m,h.2.2.1.mono c,a.range,m.range,(c.cell (p:=Aq A 0) h.2.2.2.2.2.2).trans h.2.2.2.2.2.1,Yw h.2.2.2.2.2.2 c.size⟩
def MH.set {w B D A s n j g f v}(h:MH w B D A g f s)(d:B≠n)(N:D≠n)(m:A≠n)(b:1≠n):MH (w.setCell (Aq n j) v) B D A g f s :=
 have M:=h.1.other (a:=Aq n j) v d;have Z:=h.2.1.other (a:=Aq n j) v N
 ⟨M,Z,h.2.2.1.at0 (heap_setCell_other _ _ _ _ b),M.range,Z.range,(World.cell?_of_block (heap_setCell_other _ _ _ _ m)).trans h.2.2.2.2.2.1,by simpa using h.2.2.2.2.2.2⟩
def Px (n:Nat)(g R w)(h1:1<=n)(y:n<=32)(hg:I4 g R)(ht:Q2 w) :
 Calls prog 163 #[Ye n,.agg (us g).toArray] w λe k=>Bw w k/\∃d,I4 d (λb a=>decide (a<n)&&R a b)/\uH n g d R w.1.size e k:=by
 have ad:∀a,a<32->g a<4294967296:=λa K=>(hg a K).1;have B0:=(m0.new w 228 (us g).toArray).alloc (Cl Je 37);have B1:=m0.new (w.alloc (Cl (us g).toArray 228)) 37 Je;have BW:Bw w ((w.alloc (Cl (us g).toArray 228)).alloc (Cl Je 37)):=((bR _ _).alloc (nR _) _).alloc fT _;have BT:=ht.mono BW;simp only[Y4]at B1;obtain⟨M,H1,HW,U⟩:=oD B0 B1 BW BT;go_enter func163,ntmps163;go_wp2_with (refine GL rfl _ rfl w.1.size g rfl M ?_);refine(qda g R n _ y hg U).mono ?_;rintro e l ⟨d,rfl,L,aa⟩;have ac:∀a,a<32->d a<4294967296:=λa K=>(L a K).1;have M:=mB M aa;have H1:=mB H1 aa;have HW:=mT HW aa;have U:=h_ (U.mono aa);go_wp2_with (first|(refine QT rfl _ _ rfl l.1.size (λ_=>0) d rfl rfl (qot _ rfl _) ?_;intro w2 N A X;have Z:Bw l w2:=((bR _ l).alloc (nR _) _).grown A fT (λb e=>by cases e;exact nR _);have X0:=mB M Z;have V:=mB H1 Z;have H:=mT HW Z;have XT:=h_ (U.mono Z);have XD:=h_ N;clear N A X Z)|(refine GL rfl _ rfl w.1.size g rfl X0 ?_)|(refine GL rfl _ rfl l.1.size d rfl XD ?_));by_cases ae:∃a,a<n/\¬ s8 (g a) (d a)=2 ^ a
 . refine cQ (Fa n g d _ y ad ac Tt ⟨λ_=>ae,λ_=>rfl⟩) λw3 s=>?_;have G:=h_ ae;have Y0:=mB X0 s;have Y1:=mB V s;obtain⟨E,YT⟩:=oB (H.trans (s.mono H.size)) (XT.mono s);have YD:=mB XD s;obtain⟨⟨r0,r1,r2,r3,r4,r5⟩,q0,q1,q2,q3,q4,q5⟩:=nS Y1;go_wp2;refine bodyPost_ret (v:=.tuple #[I7,Ye 2]) gD rfl ⟨?_,d,L,.inl ⟨G,rfl⟩⟩
   iterate 6 refine Below.setCell ?_ gn _
   exact E
 refine cQ (Fa n g d _ y ad ac Ff ⟨(λh=>by cases h),λh=>absurd h ae⟩) λw3 s=>?_;have G:Hi (∀a,a<n->s8 (g a) (d a)=2 ^ a):=λa K=>Classical.byContradiction λh=>ae ⟨a,K,h⟩;have Y0:=mB X0 s;have Y1:=mB V s;obtain⟨E,YT⟩:=oB (H.trans (s.mono H.size)) (XT.mono s);have YD:=mB XD s;go_wp2_with (refine GL rfl _ rfl w.1.size g rfl Y0 ?_);refine(Ia n g _ h1 y ad YT).mono ?_;rintro e w4 ⟨Y,(⟨p,F1,rfl,aB,aC,az⟩|⟨rfl,a⟩)⟩
 rotate_left
 . have b:=h_ a;clear a
   have Z0:=mB Y0 Y;have F:=mB Y1 Y;obtain⟨P,ZT⟩:=oB (E.trans (Y.mono E.size)) (YT.mono Y);have ZD:=mB YD Y;obtain⟨⟨r0,r1,r2,r3,r4,r5⟩,q0,q1,q2,q3,q4,q5⟩:=nS F;go_wp2;refine bodyPost_ret (v:=.tuple #[I7,Ye 3]) gD rfl ⟨?_,d,L,.inr (.inl ⟨G,b,rfl⟩)⟩
   iterate 6 refine Below.setCell ?_ gn _
   exact P
 have Z0:=mB Y0 Y;have F:=mB Y1 Y;obtain⟨P,ZT⟩:=oB (E.trans (Y.mono E.size)) (YT.mono Y);have ZD:=mB YD Y;have g2:=Yu E.size aC;obtain⟨N,ah⟩:=oB aB az;go_wp2_with (refine GL rfl _ rfl l.1.size d rfl ZD ?_);refine(Ia n d _ h1 y ac ZT).mono ?_;rintro e w5 ⟨X,(⟨q,F2,rfl,aD,an,aA⟩|⟨rfl,a⟩)⟩
 rotate_left
 . have b:=h_ a;clear a
   have U0:=mB Z0 X;have U1:=mB F X;obtain⟨Q,UT⟩:=oB (P.trans (X.mono P.size)) (ZT.mono X);have UD:=mB ZD X;obtain⟨⟨r0,r1,r2,r3,r4,r5⟩,q0,q1,q2,q3,q4,q5⟩:=nS U1;go_wp2;refine bodyPost_ret (v:=.tuple #[I7,Ye 4]) gD rfl ⟨?_,d,L,.inr (.inr (.inl ⟨G,b,⟨F1,ah⟩,rfl⟩))⟩
   iterate 6 refine Below.setCell ?_ gn _
   exact Q
 have U0:=mB Z0 X;have U1:=mB F X;obtain⟨Q,UT⟩:=oB (P.trans (X.mono P.size)) (ZT.mono X);have UD:=mB ZD X;have g3:=Yu P.size an;have aH:p<q:=Yw N.lt an;have N:=mB N X;obtain⟨au,aq⟩:=oB aD aA;go_wp2_with (go_at_call 202;refine cQ (qoz n _ y) λo c=>?_;have V0:=mB U0 c;have V1:=mB U1 c;have VW:=h_ (Q.trans (c.mono Q.size));have VT:=h_ (UT.mono c);have VD:=mB UD c;have ai:=mB N c;have aj:=mB au c;clear c);have bA:=m0.new o 143 (#[.int .u32 ((2 ^ n - 1:Nat):Int)]);have B:Bw o (o.alloc (Cl (#[.int .u32 ((2 ^ n - 1:Nat):Int)]) 143)):=(bR _ _).alloc (nR _) _;have O:Hi (MH (o.alloc (Cl (#[.int .u32 ((2 ^ n - 1:Nat):Int)]) 143)) w.1.size l.1.size o.1.size g d (2 ^ n - 1)) :=
  have D:=V0.mono B V0.lt;have h1:=VD.mono B VD.lt
  ⟨D,h1,VT.mono B,D.range,h1.range,bA.cell 0,bA.lt⟩
 have af:=NM y;obtain⟨m,hm⟩:=Nq (2 ^ n - 1);rw[hm]at af O|-;rw[hm]at B;have HM:=h_ hm;obtain⟨T,aE⟩:=Nq (o.alloc (Cl #[.int .u32 (m:Int)] 143));rw[aE]at O B|-;have F:=mB V1 B;have P:=h_ (VW.trans (B.mono VW.size));have ak:=mB ai B;have al:=mB aj B;have a:¬ w.1.size=w.1.size+1:=fP
 have Z:l.1.size≠w.1.size+1:=λe=>by have h:=VD.u;rw[e]at h;have W:=h.symm.trans V1;simp at W
 have b:o.1.size≠w.1.size+1:=by have:=V1.lt;omega
 have c:¬ 1=w.1.size+1:=by first|omega|(have:=U.pos;omega)|(have:=ht.pos;omega)
 have n5:p≠w.1.size+1:=λe=>by have h:=ai.u;rw[e]at h;have W:=h.symm.trans V1;simp at W
 have n6:q≠w.1.size+1:=λe=>by have h:=aj.u;rw[e]at h;have W:=h.symm.trans V1;simp at W
 have s7:w.1.size<=T.1.size:=P.size;have l2:=ak.lt;have l3:=al.lt;have l1:=F.lt;refine wp_region_held_drew (S:=λk=>MH k w.1.size l.1.size o.1.size g d m) fR O (λx=>?_);refine take (i:=0) (v:=Ye n) 39 rfl rfl fR fR fR (λ_ _ _ _ h=>h) (by exact BQ fY (.tmp 0) _ rfl rfl) x ?_;simp only[sX,sY,sZ];refine take (i:=2) (v:=Ye n) 41 rfl rfl fR fR fR (λ_ _ _ _ h=>h) (by exact BQ fY (.tmp 0) _ rfl rfl) x ?_;simp only[sX,sY,sZ];refine take (i:=4) (v:=Sl (Sm (Aq p 0)) (n*n) (n*n)) 43 rfl rfl fR fR fR (λ_ _ _ _ h=>h) (by exact BQ fY (.tmp 7) _ rfl rfl) x ?_;simp only[sX,sY,sZ];refine take (i:=5) (v:=Sl (Sm (Aq q 0)) (n*n) (n*n)) 44 rfl rfl fR fR fR (λ_ _ _ _ h=>h) (by exact BQ fY (.tmp 9) _ rfl rfl) x ?_;simp only[sX,sY,sZ];refine take (i:=1) (v:=.agg (us g).toArray) 40 rfl rfl fR fR fR (λ_ _ _ _ h=>h) (by exact NU fY (.tmp 3) rfl w.1.size g rfl (λ_ h=>h.1)) x ?_;simp only[sX,sY,sZ];refine take (i:=6) (v:=.agg (us g).toArray) 45 rfl rfl fR fR fR (λ_ _ _ _ h=>h) (by exact NU fY (.tmp 3) rfl w.1.size g rfl (λ_ h=>h.1)) x ?_;simp only[sX,sY,sZ];refine take (i:=9) (v:=.agg (us d).toArray) 48 rfl rfl fR fR fR (λ_ _ _ _ h=>h) (by exact NU fY (.tmp 6) rfl l.1.size d rfl (λ_ h=>h.2.1)) x ?_;simp only[sX,sY,sZ];refine take (i:=7) (v:=.agg #[.int .u32 (m:Int)]) 46 rfl rfl fR fR fR (λ_ _ _ _ h=>h) (by exact qdk fY (.tmp 10) rfl o.1.size 0 _ rfl (λ_ h=>h.2.2.2.2.2.1)) x ?_;simp only[sX,sY,sZ];refine take (i:=10) (v:=.agg #[.int .u32 (m:Int)]) 49 rfl rfl fR fR fR (λ_ _ _ _ h=>h) (by exact qdk fY (.tmp 10) rfl o.1.size 0 _ rfl (λ_ h=>h.2.2.2.2.2.1)) x ?_;simp only[sX,sY,sZ];refine wT (i:=3) (f:=203) (args:=#[.agg (us g).toArray,Ye n]) (R:=λz D=>∃t,z=Sl (Sm (Aq t 0)) (n*n) (n*n)/\m0 D t 4 (bs (n*n) (A6 n R))/\T.1.size<=t/\Bw T D) 42 rfl rfl fY fR ?hrun1 ((qi5 n g R _ h1 y hg).mono λe D ⟨t,K,A,am,C⟩=>⟨_,K,t,rfl,A,am,R8 C⟩) ?_
 case hrun1=>simp[execOp,go_sem]
 rintro z D ⟨t,rfl,A,am,C⟩;have S1:MH D w.1.size l.1.size o.1.size g d m:=O.mono C;refine⟨S1,?_⟩;simp only[sX,sY,sZ];refine wT (i:=8) (f:=204) (args:=#[.agg (us g).toArray,.agg #[.int .u32 (m:Int)]]) (R:=λz k=>∃r,z=Ye r/\xH g m r/\Bw D k) 47 rfl rfl fY fR ?hrun2 ((GU g m _ ad af S1.2.2.1).mono λe k ⟨r,K,hr,hb⟩=>⟨_,K,r,rfl,hr,hb⟩) ?_
 case hrun2=>simp[execOp,go_sem]
 rintro z w9 ⟨I,rfl,aF,J⟩;have S2:=S1.mono J;refine⟨S2,?_⟩;simp only[sX,sY,sZ];refine wT (i:=11) (f:=204) (args:=#[.agg (us d).toArray,.agg #[.int .u32 (m:Int)]]) (R:=λz k=>∃r,z=Ye r/\xH d m r/\Bw w9 k) 50 rfl rfl fY fR ?hrun3 ((GU d m _ ac af S2.2.2.1).mono λe k ⟨r,K,hr,hb⟩=>⟨_,K,r,rfl,hr,hb⟩) ?_
 case hrun3=>simp[execOp,go_sem]
 rintro z ao ⟨top,rfl,aG,ag⟩;have r:=S2.mono ag;refine⟨r,?_⟩;simp only[sX,sY,sZ];have K:Bw T ao:=(C.trans (J.mono C.size)).trans (ag.mono (Yu C.size J.size));have V:=F.mono K l1;obtain⟨⟨r0,r1,r2,r3,r4,r5⟩,q0,q1,q2,q3,q4,q5⟩:=nS V;refine take (i:=12) (v:=.agg #[Ye n,Sl (Sm (Aq t 0)) (n*n) (n*n),Sl (Sm (Aq p 0)) (n*n) (n*n),Sl (Sm (Aq q 0)) (n*n) (n*n),Ye I,Ye top]) 51 rfl rfl fR fR fR (λ_ _ _ _ h=>h) (.inl ⟨fY,λk _=>?build⟩) r ?_
 case build=>simp[execOp,go_sem]
 simp only[sX,sY,sZ];refine runH (i:=13) rfl fY fR rfl (v:=.skip) (w':=(((((ao.setCell (Aq (w.1.size+1) 0) (Ye n)).setCell (Aq (w.1.size+1) 1) (Sl (Sm (Aq t 0)) (n*n) (n*n))).setCell (Aq (w.1.size+1) 2) (Sl (Sm (Aq p 0)) (n*n) (n*n))).setCell (Aq (w.1.size+1) 3) (Sl (Sm (Aq q 0)) (n*n) (n*n))).setCell (Aq (w.1.size+1) 4) (Ye I)).setCell (Aq (w.1.size+1) 5) (Ye top)) ?hrun4 rfl ((((((r.set a Z b c).set a Z b c).set a Z b c).set a Z b c).set a Z b c).set a Z b c) ?_
 case hrun4=>simp[execOp,go_sem, *]
 have S4:=(((((r.set (j:=0) (v:=Ye (n:Int)) a Z b c).set (j:=1) (v:=Sl (Sm (Aq t 0)) (n*n) (n*n)) a Z b c).set (j:=2) (v:=Sl (Sm (Aq p 0)) (n*n) (n*n)) a Z b c).set (j:=3) (v:=Sl (Sm (Aq q 0)) (n*n) (n*n)) a Z b c).set (j:=4) (v:=Ye I) a Z b c).set (j:=5) (v:=Ye top) a Z b c;refine take (i:=14) (v:=Ye 0) 5 rfl rfl fR fR fR (λ_ _ _ _ h=>h) (.inl ⟨fY,λk _=>?asg⟩) S4 ?_
 case asg=>simp[execOp,go_sem]
 simp only[sX,sY,sZ];refine T2 ?_;obtain⟨ax,ay⟩:=oB (ak.mono K l2) (al.mono K l3);obtain⟨aw,H⟩:=oB ((A.mono J A.lt).mono ag (A.mono J A.lt).lt) (P.trans (K.mono s7));obtain⟨ap,av⟩:=oB aF aG;have n7:t≠w.1.size+1:=fP
 have n8:t≠p:=fP
 have n9:t≠q:=fP
 go_wp2;refine bQ (v:=.tuple #[.agg #[Ye n,Sl (Sm (Aq t 0)) (n*n) (n*n),Sl (Sm (Aq p 0)) (n*n) (n*n),Sl (Sm (Aq q 0)) (n*n) (n*n),Ye I,Ye top],Ye 0]) ⟨?_,d,L,.inr (.inr (.inr ⟨G,t,p,q,F1,F2,I,top,rfl,?_,?_,?_,fP,g2,g3,n8,n9,fP,ah,aq,by rw[HM.u];exact ap,by rw[HM.u];exact av⟩))⟩
 . iterate 6 refine Below.setCell ?_ gn _
   exact H
 . iterate 6 refine m0.other ?_ _ gn
   exact aw
 . iterate 6 refine m0.other ?_ _ gn
   exact ax
 . iterate 6 refine m0.other ?_ _ gn
   exact ay
end
section
open Go Go.RowKit Go.Shelf Go.Proofs.Tryz
attribute [local go_sem] Oper.semAt_some
def AD (g':Nat->Nat)(P:Nat->Nat->Prop):Prop:=∀a,a<32->g' a<4294967296/\∀b,((g' a).testBit b=Tt ↔ P a b)
def AD.congr {g' P Q}(h:AD g' P)(H:∀a b,P a b ↔ Q a b):AD g' Q:=λa K=>⟨(h a K).1,λb=>((h a K).2 b).trans (H a b)⟩
def qea {f}{P:Nat->Nat->Prop}{k x l}(h:AD f (λa b=>P a b\/(a=k/\b∈l)))(c:k<32)(u:x<32):AD (λj=>if j=k then f k ||| 2 ^ x else f j) (λa b=>P a b\/(a=k/\b∈l++[x])):=λa K=>by by_cases e:a=k;{subst e;simp only[if_true];refine⟨OJ (h a K).1 (lF u),λb=>?_⟩;rw[Gb,Zv,(h a K).2 b,Vv,decide_eq_true_iff,Zf,Y7];constructor;{rintro ((m|m)|m);{exact .inl m};{exact .inr ⟨fT,.inl m.2⟩};exact .inr ⟨fT,.inr m.symm⟩};rintro (m|⟨-,m|m⟩);{exact .inl (.inl m)};{exact .inl (.inr ⟨fT,m⟩)};exact .inr m.symm};simp only[Ys e];refine⟨(h a K).1,λb=>?_⟩;rw[(h a K).2 b];simp[e]
def qaa {f g k}{l:List Nat}(h:AD f (λa b=>(a<k/\C7 g a b)\/(a=k/\b∈l)))(u:∀i,i∈l ↔ C7 g k i):AD f (λa b=>a<k+1/\C7 g a b) := h.congr λa b=>by constructor;{rintro (⟨m,r⟩|⟨rfl,r⟩);{exact⟨fP,r⟩};exact⟨fP,(u b).1 r⟩};rintro⟨m,r⟩;by_cases e:a=k;{subst e;exact .inr ⟨rfl,(u b).2 r⟩};exact .inl ⟨fP,r⟩
def qeb (m g)(n:Nat)(w)(hn:n<=32)(hg:∀a,a<32->g a<4294967296)(ht:Q2 w):CallsIn Fence.wide m prog 165 #[.agg (us g).toArray,Ye n] w λe w'=>∃N,e=Rt (.agg (us N).toArray)/\AD N (λa b=>a<n/\C7 g a b)/\Bw w w':=by refine callsIn_of_wp_marks func165 rfl trivial ?_ rfl;simp only[ntmps165,Zr,Y5,Ze,Nat.reduceAdd,Nat.reduceSub,Vu,Vt,Ob,Vw,Oc,Vj];gi_wp2_with (refine QP rfl _ _ rfl (w.1.size+1+1) (λ_=>0) (λ_=>0) rfl rfl (GT _ _ _ _ _ rfl) ?_;intro w1 F q M;have c:=(FT _ _ _ _ _).grown q fX;have f:=(IT _ _ _ _ (λ_=>0) rfl).grown q fT;have d:=(YK _ _ _ _).trans ((bR w.1.size _).grown q fX (λk e=>by cases e;omega));have c:=h_ c;have f:=h_ f;have d:=h_ d;have F:=h_ F;clear q M);refine wpIn_loop (λa W=>∃(k:Nat) (N:Nat->Nat) (s:List Nat) (u6 u7 u8 u11 u12 u13 u14 u15 u16 u17 u18 u19 u20 u21 u22 u23 u24 u25 ac:Value),a = { tmps:=#[.agg (us g).toArray,Ye (n:Int),Yh w.1.size 0,undef,Yh (w.1.size+1) 0,Yh (w.1.size+1+1) 0,u6,u7,u8,Ye (n:Int),Ye (k:Int),u11,u12,u13,u14,u15,u16,u17,u18,u19,u20,u21,u22,u23,u24,u25,ac],defers:=yT s }/\k<=n/\AD N (λa b=>a<k/\C7 g a b)/\m0 W (w.1.size+1+1) 228 (us N)/\m0 W w.1.size 228 (us g)/\m0 W (w.1.size+1) 228 (us λ_=>0)/\Q2 W/\Bw w W/\GA w.1.size W s) (λa _=>n - (intOf (a.tmps.getD 10 undef)).toNat) ?_ ?_;{refine⟨0,λ_=>0,[],_,_,_,_,_,_,_,_,_,_,_,_,_,_,_,_,_,_,_,rfl,nZ _,λa _=>⟨fT,λb=>fT⟩,F.u,c.u,f.u,ht.mono d.u,d.u,GA.nil _ _⟩};clear F c f d;rintro a W ⟨k,N,s,u6,u7,u8,u11,u12,u13,u14,u15,u16,u17,u18,u19,u20,u21,u22,u23,u24,u25,ac,rfl,hk,hrel,R,S,F,hT,d,T⟩;by_cases ak:k<n;{have dk:decide ((k:Int)<n)=Tt:=(by simp;omega);have j:k<32:=fP;have sS:=S.lt;obtain⟨M,V,HS,t,U,l⟩:=oF hrel R S F hT d;have E:=h_ T;gi_wp2_with (refine OT rfl _ rfl w.1.size g rfl (HS.alloc _) ?_);refine wA ((qdl _ _ _).mono ?_);rintro e w2 ⟨rfl,rfl⟩;gi_wp2_with fail;have bA:=((m0.new W 3 #[Ye (k:Int)]).alloc (Cl (us g).toArray 228)).alloc (Cl #[Ye (k:Int)] 3);have O:=(m0.new (W.alloc (Cl #[Ye (k:Int)] 3)) 228 (us g).toArray).alloc (Cl #[Ye (k:Int)] 3);have Q:=m0.new ((W.alloc (Cl #[Ye (k:Int)] 3)).alloc (Cl (us g).toArray 228)) 3 #[Ye (k:Int)];have c:=YK W (Cl #[Ye (k:Int)] 3) (Cl (us g).toArray 228) (Cl #[Ye (k:Int)] 3);have z5:(((W.alloc (Cl #[Ye (k:Int)] 3)).alloc (Cl (us g).toArray 228)).alloc (Cl #[Ye (k:Int)] 3)).1.size=W.1.size+1+1+1:=fT;simp only[Y4]at O Q;obtain⟨W5,ag⟩:=Nq (((W.alloc (Cl #[Ye (k:Int)] 3)).alloc (Cl (us g).toArray 228)).alloc (Cl #[Ye (k:Int)] 3));rw[ag]at bA O Q c z5|-;have lO:=V.lt;have Y:=E.lt;have w0:=U.pos;have nX:¬ (1=w.1.size+1+1):=(Fq ht.pos);refine BV (gf:=235) (lb:=#[Yh (W.1.size+1+1) 0,Yh (W.1.size+1) 0]) rfl (enters_of func235 fR rfl) (q70 (W.1.size+1+1) (W.1.size+1) k g W5 (λC=>C=w.1.size+1+1) j hg Q O (U.mono c) fP nX) (bR _ _) (λC z=>by omega) rfl (λaa y=>∃A,AD A (λa b=>(a<k/\C7 g a b)\/(a=k/\b∈aa))/\m0 y (w.1.size+1+1) 228 (us A)/\m0 y w.1.size 228 (us g)/\m0 y (w.1.size+1) 228 (us λ_=>0)/\m0 y W.1.size 3 [Ye (k:Int)]/\Q2 y/\Bw w y/\GA w.1.size y s) (λ_ _=>False) ?hI (λ_ _ _ v _=>v) ⟨N,M.congr λa b=>fT,V.mono c lO,HS.mono c sS,t.mono c t.lt,bA,U.mono c,l.trans (c.mono l.size),E.below c Y⟩ (λx=>{ tmps:=#[.agg (us g).toArray,Ye (n:Int),Yh w.1.size 0,undef,Yh (w.1.size+1) 0,Yh (w.1.size+1+1) 0,Yh W.1.size 0,Ye (x:Int),u8,Ye (n:Int),Ye (k:Int),Bo Tt,Ye (k:Int),.agg (us g).toArray,Ye (k:Int),.func (.func 235) #[] #[Yh (W.1.size+1+1) 0,Yh (W.1.size+1) 0],Ye (x:Int),u17,u18,u19,u20,u21,u22,u23,u24,u25,ac],defers:=[] }) ?assign ?body ?done (λ_ _ _ _ _ v _=>v.elim);(case hI=>rintro aa o I ⟨A,i,r,Z,K,h,p,G,q⟩ f;rw[z5]at f;exact⟨A,i,r.mono f fP,Z.mono f fP,K.mono f fP,h.mono f fP,p.at0 (f.block 1 fP),G.trans (f.mono fP),q.below f (λD hD=>Fq (Y D hD))⟩);(case assign=>intro m ah x y o f;gi_wp2;exact f);(case body=>rintro m ah aa x y ⟨A,i,r,Z,K,h,p,G,q⟩ ad;have al:prog.follows .mixedOrders=Tt:=fR;have cO:=r.cell k;rw[uB A j]at cO;have fO:=r.free k;have sO:=r.lt;have cA:=h.cell 0;simp only[Ym]at cA;have gx:=(i k j).1;have k2:=lF ad;have K4:=λo H I J=>(r.cell4 k o H I J).trans (uB A j);have F4:=r.free4 k;have ai:∀o,(y.alloc o).cell? (Aq (w.1.size+1+1) k)=Sm (.int .u32 (A k:Int)):=λo=>((r.alloc o).cell k).trans (uB A j);have aj:∀o,(y.alloc o).cell? (zw W 0)=Sm (Ye (k:Int)):=λo=>(h.alloc o).cell 0;have af:=h.cell4 0;simp only[Ym]at af;have am:(0:Int)<=k:=fP;have an:(k:Int)<32:=fP;obtain⟨H1,H,I,P,H5,J⟩:=oF i r Z K h p;obtain⟨L,H8⟩:=oB G q;gi_wp2_with fail;gi_region_with_o (first|(refine BH ((ZI _ _ ad).mono ?_);rintro e w' ⟨rfl,rfl⟩)|(refine BH ((UN _ _ _ gx k2).mono ?_);rintro e w' ⟨rfl,rfl⟩));all_goals gi_wp2_with fail;have ae:=Uf H j (A k ||| 2 ^ x) (Cl (#[.int .u32 ((2 ^ x:Nat):Int)]) 143) (Cl #[.int .u32 (A k:Int)] 143) (Cl (#[.int .u32 ((2 ^ x:Nat):Int)]) 143) (Cl (#[.int .u32 ((A k ||| 2 ^ x:Nat):Int)]) 143);simp only[Gx,Gm]at ae;obtain⟨s1,X,s3,s4⟩:=ae;exact⟨s1,X,_,qea H1 j ad,s3,X.blk I fP,X.blk P fP,X.blk H5 fP,J.keep X nX,L.trans (s4 _ fP sO),H8.keep s1⟩);case done=>rintro D xs y hD x ⟨A,i,r,Z,K,h,p,G,q⟩ f;have X:Hi (AD A (λa b=>a<k+1/\C7 g a b)):=qaa i x;have b:Hi (GA w.1.size y (D :: s)):=q.cons gm f (λhm=>Fq (Y D hm));obtain⟨H,I,P,J,L⟩:=oG r Z K p G;clear i r Z K h p G q f x;gi_wp2_with fail;refine⟨⟨k+1,A,D :: s,⟨fP,rfl⟩,fP,X,H,I,P,J,L,b⟩,?_⟩;exact kZ};obtain rfl:k=n:=fP;have dk:decide ((k:Int)<k)=Ff:=fT;have M:=h_ hrel;have V:=h_ R;have t:=h_ F;have l:=h_ d;have E:=h_ T;have f:=F.lt;clear hrel R S F hT d T;gi_wp2_with (first|(refine OT rfl _ rfl (w.1.size+1+1) N rfl V ?_)|(refine QP rfl _ _ rfl (w.1.size+1) (λ_=>0) N rfl rfl t ?_;intro w2 b I c;have b:=h_ b;have I:=h_ I));refine AU (B:=w.1.size) s w2 (E.keep ⟨fP,λC o z T=>?_⟩) λy q S=>?_;{refine(I.u.block C (Yt.1 z).1 (λe=>?_)).trans z;cases e;rw[show W.heap[w.1.size+1]? = _ from t.u]at z;cases z;simp[Obj.isCells]at T};refine⟨.agg (us N).toArray,results_cell_row rfl _ _ (w.1.size+1) 228 (us N).toArray (0,0) _ rfl (q.blk b.u (λv=>v)) underlying228 rfl (pJ N),N,rfl,M,?_⟩;exact(l.trans ((bR w.1.size _).grown I.u l.size (λC e=>by cases e;omega))).trans S
def qab (g)(n:Nat)(w)(P:n<=32)(H:∀a,a<32->g a<4294967296)(r:Q2 w) :
 Calls prog 165 #[.agg (us g).toArray,Ye n] w λe j=>∃N,e=Rt (.agg (us N).toArray)/\AD N (λa b=>a<n/\C7 g a b)/\Bw w j :=
 (callsIn_wide (n:=9)).1 (qeb 9 g n w P H r)
end
section
open Go Go.RowKit Go.Proofs.Tryz
