import Derived.Test.YtdlnflnfbcaiiaaGreatDoorW14
set_option linter.all false
set_option maxRecDepth 100000
set_option maxHeartbeats 0
namespace Go.Proofs.YtdlnflnfbcaiiaaGreatDoor
open Value renaming slice->Sl,string->St,bool->Bo
open Option renaming none->Nn,some->Sm
open Bool renaming true->Tt,false->Ff
open Go Go.RowKit Go.Proofs.Tryz
variable {w W:Tw}{n k:Nat}{t:TypeId}{v u:Value}{s:Tb}
def KP (w:Tw)(A B:Nat)(v0 v1 u0 u1:Value):Prop:=w.cell? (Aq A 0)=Sm v0/\w.cell? (Aq A 1)=Sm v1/\w.cell? (Aq B 0)=Sm u0/\w.cell? (Aq B 1)=Sm u1
def four {A B S J}(h:m0 w A t [v,u])(k:m0 w B t [S,J]):KP w A B v u S J:=⟨h.cell 0,h.cell 1,k.cell 0,k.cell 1⟩
def OI.rw {b o p q a d c x}(h:OI w W b o n k p q v u a d c x):RW w W:=⟨h.R,h.low⟩
def xL {x}(z)(I:Q6 w v x)(e:(G0 x.natAbs).length<=500)(h:Q4 x=z):Gv 213 #[v] w (.agg (Jc z.k z.n z.s)):=by subst h;refine(Ax v x w I e).mono λa j ⟨f,c⟩=>⟨?_,c⟩;rw[f,El];rfl
def QX {x y:Int}(u:(G0 x.natAbs).length<=19)(hy:(G0 y.natAbs).length<=19):(G0 (x*y).natAbs).length<=500:=by rw[Int.natAbs_mul];refine Yu (MD (k:=19+19) ?_) fP;rw[Nat.pow_add];exact Nat.mul_lt_mul'' (Yw (YI _) (Zn fS u)) (Yw (YI _) (Zn fS hy))
def zR {x r}(h:Q6 w r x):∃bs g L p W X,r=.agg #[Bo bs,Sl g L p]/\w.alloc (.cells #[Bo bs,Sl g L p] 193)=W/\w.1.size=X/\m0 W X 193 [Bo bs,Sl g L p]/\Q6 W (.agg #[Bo bs,Sl g L p]) x/\Bw w W/\(L=0 ↔ x=0):=by obtain⟨a,rfl,u⟩:=id h;obtain⟨g,p,rfl,-⟩:=id u;have c:Bw w (w.alloc (.cells #[Bo (decide (x<0)),Sl g (G0 x.natAbs).length p] 193)):=Bq;exact⟨_,g,_,p,_,_,rfl,rfl,rfl,m0.new w 193 #[_,_],h.mono c,c,by rw[Zj,vK,Int.natAbs_eq_zero]⟩
variable {p:Prop}
def i3(h:p:=by obtain⟨-,L,m1,Q⟩:=d.c1;have g:Hi (q=z):=h_ (by rw[<- x.u];exact aq.trans (by simp[YC,h1]));go_wp2;exact bQ (v:=.agg (Jc q.k q.n q.s)) ⟨gz,d.rw.out _ _ _⟩):p:=h
def i4(h:p:=by obtain⟨-,L,m1,Q⟩:=d.c0;have g:Hi (p=z):=h_ (by rw[<- x.u];exact aF.trans (by simp[YC,h1]));go_wp2;exact bQ (v:=.agg (Jc p.k p.n p.s)) ⟨gz,d.rw.out _ _ _⟩):p:=h
def i6(h:p:=by go_wp2_with fail;have f:=h_ d.rw;refine(EC z (by rw[<- x.u];simp[YC,show ¬ p.n=q.n by omega]) _).mono ?_;exact N5 f):p:=h
def i7(h:p:=by refine(EC z (by rw[<- x.u];simp only[YC];congr 1;rw[<- decide_not,decide_eq_decide];omega) _).mono ?_;exact N5 f):p:=h
def i9(h:p:=by refine(AI z x _).mono ?_;exact N5 f):p:=h
def Mb (op)(m c b o:Nat)(p q z w)(C:ar op=m)(hm:m=1∨m=2)(D:P2 w b o p)(h1:m=2->P2 w b (o+3) q)(h:-9223372036854775808<=p.n/\p.n<=9223372036854775807)(J:-9223372036854775808<=q.n/\q.n<=9223372036854775807)(j:p=T4 p.n)(T:m=2->q=T4 q.n)(y:(if m=1 then XJ op p.n else YC op p.n q.n)=z) :
 Gv 189 (Jn op (some ⟨b,o,none⟩) m c) w (.agg (Jc z.k z.n z.s)):=by
 obtain⟨W0,d,g⟩:=RW.start w;obtain⟨x,f,HP,HQ,aF,aq⟩:=oF y g h J j T;have l:=h_ (D.mono g.B);have F:=h_ λe=>(h1 e).mono g.B;have Z:Hi ((G0 p.n.natAbs).length<=19):=h_ (XN h.1 h.2);have O:Hi ((G0 q.n.natAbs).length<=19):=h_ (XN J.1 J.2);have A:∀a:Int,op=a->ar a=1->m=1:=λa a e=>by rw[a]at C;omega
 have m1:(0:Int)<m:=fP
 obtain⟨-,N,a1,a2⟩:=l.u;clear g y h J j T D h1;go_enter func189,ntmps189;go_wp2_with fail
 try rw[d]
 clear d;refine(tN p.n W0 HP.1 HP.2).mono ?_;rintro e G ⟨D,rfl,I,t⟩;obtain⟨K,P,T,U,w2,X5,H,E,d,g,V,al,-⟩:=zR (w:=G) (r:=.agg #[.bool (decide (p.n<0)),D]) ⟨D,rfl,I⟩;rw[H];have a:Bw W0 w2:=t.trans (al.mono t.size);obtain⟨ay,aC,aL⟩:=oC g V a;have J:=h_ (f.mono a);have az:=h_ (l.mono a);have L:=h_ λe=>(F e).mono a;obtain⟨-,N,a1,a2⟩:=az.u;obtain⟨⟨h,j⟩,-⟩:=R4 g;clear t al g V a H I D l F;by_cases l:op=2
 . obtain rfl:=A 2 l fS
   subst l;clear C hm A;go_wp2_with fail
   try rw[d]
   try rw[E]
   clear E d G;refine(qQ _ p.n w2 aC).mono ?_;rintro e X ⟨g,rfl,Q,a⟩;replace f:=h_ (J.mono a);have V:=h_ Q;clear Q a h j N a1 a2;go_wp2_with fail;refine(xL z V (by rw[Int.natAbs_neg];have:=Z.u;omega) (by rw[<- x.u];simp[XJ])).mono ?_;exact N5 f
 have n2:=nq l;by_cases Y:op=23
 . obtain rfl:=A 23 Y fS
   subst Y;clear C hm A l;go_wp2_with fail
   try rw[d]
   try rw[E]
   clear E d G;refine cQ (sN p.n w2 HP.1 HP.2) λX a=>?_;replace f:=h_ (J.mono a);clear a h j N a1 a2;go_wp2_with fail;refine(OS z (by rw[<- x.u];simp[XJ]) _).mono ?_;exact N5 f
 have aV:=nq Y;rcases hm with rfl | rfl
 . have y:C1 1=z:=by rw[<- x.u];simp[XJ,l,Y]
   replace x:=h_ y;clear y l Y A C;go_wp2_with fail
   try rw[d]
   try rw[E]
   clear E d G;clear h j N a1 a2;refine(AI z x _).mono ?_;exact N5 J
 have y:YC op p.n q.n=z:=by rw[<- x.u];simp
 replace x:=h_ y;clear y l Y A C m1;replace L:=h_ (L rfl);replace aq:=h_ (aq rfl);obtain⟨-,b0,b1,b2⟩:=L.u;go_wp2_with fail
 try rw[d]
 try rw[E]
 clear E d G;refine(tN q.n w2 HQ.1 HQ.2).mono ?_;rintro e G ⟨l,rfl,aK,t⟩;obtain⟨M,V,D,Y,W,X6,E,H,I,aG,aJ,al,aI⟩:=zR (w:=G) (r:=.agg #[.bool (decide (q.n<0)),l]) ⟨l,rfl,aK⟩;rw[E];have d:Bw w2 W:=t.trans (al.mono t.size);have F:Hi (OI w W b o X5 X6 p q (.agg #[.bool K,.slice P T U]) (.agg #[.bool M,.slice V D Y]) (.bool K) (.slice P T U) (.bool M) (.slice V D Y)) :=
  h_ ⟨(J.mono d).R,ay.mono d ay.lt,aG,rfl,rfl,aC.mono d,aJ,az.mono d,L.mono d,(J.mono d).B⟩
 have an:=h_ aI;obtain⟨⟨h,j⟩,-⟩:=R4 F.B5;obtain⟨⟨A,C⟩,-⟩:=R4 F.B6;clear t al d aG aJ b0 b1 b2 aI aL az L f J ay aC E aK l N a1 a2;by_cases h4:op=4
 . subst h4
   go_wp2_with fail
   try rw[I]
   try rw[H]
   clear H I G;refine(q_ _ _ p.n q.n W F.V5 F.V6 gh gb).mono ?_;rintro e X ⟨g,rfl,Q,a⟩;obtain⟨f,J⟩:=oB (F.mono a).rw Q;clear Q a h j A C;go_wp2_with fail;refine(xL z J (QX Z O) gU).mono ?_;exact N5 f
 have n4:=nq h4;by_cases h7:op=7
 . subst h7
   go_wp2_with fail
   try rw[I]
   try rw[H]
   clear H I G;refine(pQ _ _ p.n q.n W F.V5 F.V6 gh gb).mono ?_;rintro e X ⟨g,rfl,Q,a⟩;obtain⟨f,J⟩:=oB (F.mono a).rw Q;clear Q a h j A C;go_wp2_with fail;refine(xL z J (Yu (MD (k:=20) (by have:=HP.u;have:=HQ.u;omega)) fP) gU).mono ?_;exact N5 f
 have n7:=nq h7;by_cases h8:op=8
 . subst h8
   go_wp2_with fail
   try rw[I]
   try rw[H]
   clear H I G;have S0:=h_ (four F.B5 F.B6);clear h j A C;refine wp_region_held_drew (S:=λw'=>KP w' X5 X6 (.bool K) (.slice P T U) (.bool M) (.slice V D Y)) fR S0 (λzz=>?_);refine F0 0 49 (.agg #[.bool K,.slice P T U]) zz ?_ (hy:=λw hS=>by obtain⟨q0,q1,q2,q3⟩:=hS;simp[execOp,go_sem, *]);refine F0 1 50 (.agg #[.bool M,.slice V D Y]) zz ?_ (hy:=λw hS=>by obtain⟨q0,q1,q2,q3⟩:=hS;simp[execOp,go_sem, *]);refine L6 (args:=#[.agg #[.bool M,.slice V D Y]]) (R:=λg E=>Q6 E g (-q.n)/\Bw W E) 2 51 ((qQ _ q.n _ (F.V6.mono (lG _ 1))).mono λe w6 ⟨g,he,Q,a⟩=>⟨g,he,Q,R8 a⟩) ?_;rintro r3 X ⟨Q,a⟩;have d:=h_ (F.mono a);have J:=h_ Q;clear Q a;refine⟨four d.B5 d.B6,?_⟩;refine I1 fQ fQ ?_;refine L6 (args:=#[.agg #[.bool K,.slice P T U],r3]) (R:=λg E=>Q6 E g (p.n + -q.n)/\Bw X E) 3 52 ((pQ _ _ p.n (-q.n) X d.V5 J gh (by rw[Int.natAbs_neg];have:=O.u;omega)).mono λe w6 ⟨g,he,Q,a⟩=>⟨g,he,Q,a⟩) ?_;rintro r4 w4 ⟨Q,a⟩;have L:=h_ (d.mono a);have ai:=h_ Q;clear Q a;refine⟨four L.B5 L.B6,?_⟩;refine I1 fQ fQ ?_;refine m9 4 53 (xL z ai (Yu (MD (k:=20) (by have:=HP.u;have:=HQ.u;omega)) fP) gU) λwx a=>?_;have l:=h_ (L.mono a);clear a;refine⟨four l.B5 l.B6,?_⟩;refine I1 fQ fQ ?_;have N:=l.rw.val;obtain⟨⟨N,r1,r2⟩,f0,f1,f2⟩:=N;have aa:X5≠w.1.size:=λe=>by have t:=l.B5.cell 0;rw[e,N]at t;simp at t
   have ac:X6≠w.1.size:=λe=>by have t:=l.B6.cell 0;rw[e,N]at t;simp at t
   refine q9 (i:=5) (w':=((wx.setCell ⟨w.1.size,0,none⟩ (Ye z.k)).setCell ⟨w.1.size,1,none⟩ (Ye z.n)).setCell ⟨w.1.size,2,none⟩ (.string z.s)) rfl fY fR rfl ?hrunS5 rfl (four (((l.B5.other _ aa).other _ aa).other _ aa) (((l.B6.other _ ac).other _ ac).other _ ac)) ?_
   case hrunS5=>simp[execOp,go_sem,N,r1,r2,f0,f1,f2]
   refine T2 ?_;obtain⟨W9,aw⟩:=Nq (((wx.setCell ⟨w.1.size,0,none⟩ (Ye z.k)).setCell ⟨w.1.size,1,none⟩ (Ye z.n)).setCell ⟨w.1.size,2,none⟩ (.string z.s));have ad:=(((l.R.set 0 (Ye z.k)).set 1 (Ye z.n)).set 2 (.string z.s));have ag:=h_ (l.rw.out (Ye z.k) (Ye z.n) (.string z.s));rw[aw]at ad ag⊢;obtain⟨k0,k1,k2⟩:=T0 ad;clear aw ad N r1 r2 f0 f1 f2;go_wp2;exact bQ ⟨rfl,ag⟩
 have n8:=nq h8;by_cases t:op=5
 . subst t
   by_cases J:q.n=0
   . obtain rfl:D=0:=an.2 J
     have y:C1 3=z:=(by rw[<- x.u];simp[YC,J]);replace x:=h_ y;clear y J;go_wp2_with fail
     try rw[I]
     try rw[H]
     clear H I G;have f:=h_ F.rw;clear h j A C;exact i9
   have au:¬ (D:Int)=0:=λe=>J (an.1 fP);have aH:¬ D=0:=λe=>au fP;have ah:=h_ J;clear J;go_wp2_with fail
   try rw[I]
   try rw[H]
   clear H I G;refine(r_ _ _ p.n q.n W F.V5 F.V6 gh gb ah).mono ?_;rintro e X ⟨g,rfl,Q,a⟩;obtain⟨aj,g7,L7,ak,w4,X7,rfl,aE,aD,ae,av,ax,-⟩:=zR Q;have ap:Hi ((G0 (p.n.tdiv q.n).natAbs).length<=19):=h_ (by
    rw[Int.natAbs_tdiv];exact MD (V9 (Vq _ _) (Yw (YI _) (Zn fS Z))))
   obtain⟨L,ai,af⟩:=oC ((F.mono a).mono ax) av ae;obtain⟨⟨t0,t1⟩,-⟩:=R4 ae;clear Q a ax ae av au aH h j A C;obtain⟨⟨h,j⟩,-⟩:=R4 L.B5;obtain⟨⟨A,C⟩,-⟩:=R4 L.B6;go_wp2_with fail
   try rw[aD]
   try rw[aE]
   clear aE aD X;have f:=h_ L.rw;clear h j A C t0 t1;refine(xL z ai (by have:=ap.u;omega) (by rw[<- x.u];simp[YC,ah.u])).mono ?_;exact N5 f
 have n5:=nq t;by_cases h6:op=6
 . subst h6
   by_cases J:q.n=0
   . obtain rfl:D=0:=an.2 J
     have y:C1 3=z:=(by rw[<- x.u];simp[YC,J]);replace x:=h_ y;clear y J;go_wp2_with fail
     try rw[I]
     try rw[H]
     clear H I G;have f:=h_ F.rw;exact i9
   have au:¬ (D:Int)=0:=λe=>J (an.1 fP);have aH:¬ D=0:=λe=>au fP;have ah:=h_ J;go_wp2_with fail;refine(r_ _ _ p.n q.n W F.V5 F.V6 gh gb ah).mono ?_;rintro e X ⟨g,rfl,Q,a⟩;obtain⟨aj,g7,L7,ak,w4,X7,rfl,aE,aD,ae,av,ax,-⟩:=zR Q;have ap:Hi ((G0 (p.n.tdiv q.n).natAbs).length<=19):=h_ (by
    rw[Int.natAbs_tdiv];exact MD (V9 (Vq _ _) (Yw (YI _) (Zn fS Z))))
   have L:=h_ ((F.mono a).mono ax);have ai:=h_ av;have af:=h_ ae;obtain⟨⟨t0,t1⟩,-⟩:=R4 ae;obtain⟨⟨h,j⟩,-⟩:=R4 L.B5;obtain⟨⟨A,C⟩,-⟩:=R4 L.B6;go_wp2_with fail;have S0:Hi (KP w4 X5 X6 (.bool K) (.slice P T U) (.bool M) (.slice V D Y)/\w4.cell? ⟨X7,0,none⟩=some (.bool aj)/\w4.cell? ⟨X7,1,none⟩=some (.slice g7 L7 ak)):=h_ ⟨four L.B5 L.B6,af.cell 0,af.cell 1⟩;refine wp_region_held_drew (S:=λw'=>KP w' X5 X6 (.bool K) (.slice P T U) (.bool M) (.slice V D Y)/\w'.cell? ⟨X7,0,none⟩=some (.bool aj)/\w'.cell? ⟨X7,1,none⟩=some (.slice g7 L7 ak)) fR S0 (λzz=>?_);refine F0 0 72 (.agg #[.bool K,.slice P T U]) zz ?_ (hy:=λw hS=>by obtain⟨⟨q0,q1,q2,q3⟩,q4,q5⟩:=hS;simp[execOp,go_sem, *]);refine F0 1 73 (.agg #[.bool M,.slice V D Y]) zz ?_ (hy:=λw hS=>by obtain⟨⟨q0,q1,q2,q3⟩,q4,q5⟩:=hS;simp[execOp,go_sem, *]);refine F0 2 74 (.agg #[.bool aj,.slice g7 L7 ak]) zz ?_ (hy:=λw hS=>by obtain⟨⟨q0,q1,q2,q3⟩,q4,q5⟩:=hS;simp[execOp,go_sem, *]);refine L6 (args:=#[.agg #[.bool M,.slice V D Y],.agg #[.bool aj,.slice g7 L7 ak]]) (R:=λg E=>Q6 E g (q.n*p.n.tdiv q.n)/\Bw w4 E) 3 75 ((q_ _ _ q.n (p.n.tdiv q.n) _ (L.V6.mono (lG _ 1)) (ai.mono (lG _ 1)) gb (by have:=ap.u;omega)).mono λe w6 ⟨g,he,Q,a⟩=>⟨g,he,Q,R8 a⟩) ?_;rintro r6 w6 ⟨Q,a⟩;have aA:=h_ (L.mono a);have aN:=h_ Q;have H:=h_ (af.mono a af.lt);refine⟨⟨four aA.B5 aA.B6,H.cell 0,H.cell 1⟩,?_⟩;refine I1 fQ fQ ?_;refine L6 (args:=#[r6]) (R:=λg E=>Q6 E g (-(q.n*p.n.tdiv q.n))/\Bw w6 E) 4 76 ((qQ _ (q.n*p.n.tdiv q.n) w6 aN).mono λe w7 ⟨g,he,Q,a⟩=>⟨g,he,Q,a⟩) ?_;rintro r7 w7 ⟨Q,a⟩;have ao:=h_ (aA.mono a);have aO:=h_ Q;have I:=h_ (H.mono a H.lt);refine⟨⟨four ao.B5 ao.B6,I.cell 0,I.cell 1⟩,?_⟩;refine I1 fQ fQ ?_;refine L6 (args:=#[.agg #[.bool K,.slice P T U],r7]) (R:=λg E=>Q6 E g (p.n + -(q.n*p.n.tdiv q.n))/\Bw w7 E) 5 77 ((pQ _ _ p.n (-(q.n*p.n.tdiv q.n)) w7 ao.V5 aO gh (by rw[Int.natAbs_neg];exact QX O ap)).mono λe w8 ⟨g,he,Q,a⟩=>⟨g,he,Q,a⟩) ?_;rintro r8 w8 ⟨Q,a⟩;have aB:=h_ (ao.mono a);have aP:=h_ Q;have am:=h_ (I.mono a I.lt);have aM:Hi ((G0 (p.n + -(q.n*p.n.tdiv q.n)).natAbs).length<=500):=h_ (by
    rw[show p.n + -(q.n*p.n.tdiv q.n)=p.n.tmod q.n by rw[Int.tmod_def];omega,Int.natAbs_tmod];exact Yu (MD (k:=19) (V9 (Nat.mod_le _ _) (Yw (YI _) (Zn fS Z)))) fP)
   refine⟨⟨four aB.B5 aB.B6,am.cell 0,am.cell 1⟩,?_⟩;refine I1 fQ fQ ?_;refine m9 6 78 (xL z aP aM (by rw[<- x.u];simp[YC,ah.u])) λwx a=>?_;have l:=h_ (aB.mono a);have G:=h_ (am.mono a am.lt);refine⟨⟨four l.B5 l.B6,G.cell 0,G.cell 1⟩,?_⟩;refine I1 fQ fQ ?_;have N:=l.rw.val;obtain⟨⟨N,r1,r2⟩,f0,f1,f2⟩:=N;have aa:X5≠w.1.size:=λe=>by have t:=l.B5.cell 0;rw[e,N]at t;simp at t
   have ac:X6≠w.1.size:=λe=>by have t:=l.B6.cell 0;rw[e,N]at t;simp at t
   have E:X7≠w.1.size:=λe=>by have t:=G.cell 0;rw[e,N]at t;simp at t
   refine q9 (i:=7) (w':=((wx.setCell ⟨w.1.size,0,none⟩ (Ye z.k)).setCell ⟨w.1.size,1,none⟩ (Ye z.n)).setCell ⟨w.1.size,2,none⟩ (.string z.s)) rfl fY fR rfl ?hrunS7 rfl ⟨four (((l.B5.other _ aa).other _ aa).other _ aa) (((l.B6.other _ ac).other _ ac).other _ ac),(((G.other _ E).other _ E).other _ E).cell 0,(((G.other _ E).other _ E).other _ E).cell 1⟩ ?_
   case hrunS7=>simp[execOp,go_sem,N,r1,r2,f0,f1,f2]
   refine T2 ?_;obtain⟨W9,aw⟩:=Nq (((wx.setCell ⟨w.1.size,0,none⟩ (Ye z.k)).setCell ⟨w.1.size,1,none⟩ (Ye z.n)).setCell ⟨w.1.size,2,none⟩ (.string z.s));have ad:=(((l.R.set 0 (Ye z.k)).set 1 (Ye z.n)).set 2 (.string z.s));have ag:=h_ (l.rw.out (Ye z.k) (Ye z.n) (.string z.s));rw[aw]at ad ag⊢;obtain⟨k0,k1,k2⟩:=T0 ad;go_wp2;exact bQ ⟨rfl,ag⟩
 have n6:=nq h6;by_cases l:op=10
 . subst l
   go_wp2_with fail;refine(RG _ _ p.n q.n W F.V5 F.V6 gh gb).mono ?_;rintro e X ⟨rfl,a⟩;have d:=h_ (F.mono a);obtain⟨⟨h,j⟩,-⟩:=R4 d.B5;obtain⟨⟨A,C⟩,-⟩:=R4 d.B6;by_cases h1:p.n<q.n
   . rw[Yo h1]
     exact i6
   . rw[Yl h1]
     go_wp2_with fail;refine(RG _ _ q.n p.n X d.V6 d.V5 gb gh).mono ?_;rintro e w4 ⟨rfl,a⟩;have L:=h_ (d.mono a);obtain⟨⟨h,j⟩,-⟩:=R4 L.B5;obtain⟨⟨A,C⟩,-⟩:=R4 L.B6;go_wp2_with fail;have f:=h_ L.rw;exact i7
 have aQ:=nq l;by_cases E:op=11
 . subst E
   go_wp2_with fail;refine(RG _ _ p.n q.n W F.V5 F.V6 gh gb).mono ?_;rintro e X ⟨rfl,a⟩;have d:=h_ (F.mono a);obtain⟨⟨h,j⟩,-⟩:=R4 d.B5;obtain⟨⟨A,C⟩,-⟩:=R4 d.B6;by_cases h1:p.n<q.n
   . rw[Yo h1]
     exact i6
   . rw[Yl h1]
     go_wp2_with fail;refine(RG _ _ q.n p.n X d.V6 d.V5 gb gh).mono ?_;rintro e w4 ⟨rfl,a⟩;have L:=h_ (d.mono a);obtain⟨⟨h,j⟩,-⟩:=R4 L.B5;obtain⟨⟨A,C⟩,-⟩:=R4 L.B6;go_wp2_with fail;have f:=h_ L.rw;refine(EC z (by rw[<- x.u];simp only[YC];congr 1;rw[decide_eq_decide];omega) _).mono ?_;exact N5 f
 have aR:=nq E;by_cases I:op=12
 . subst I
   go_wp2_with fail;refine(RG _ _ p.n q.n W F.V5 F.V6 gh gb).mono ?_;rintro e X ⟨rfl,a⟩;have d:=h_ (F.mono a);obtain⟨⟨h,j⟩,-⟩:=R4 d.B5;obtain⟨⟨A,C⟩,-⟩:=R4 d.B6;go_wp2_with fail;have f:=h_ d.rw;refine(EC z gU _).mono ?_;exact N5 f
 have aS:=nq I;by_cases G:op=13
 . subst G
   go_wp2_with fail;refine(RG _ _ q.n p.n W F.V6 F.V5 gb gh).mono ?_;rintro e X ⟨rfl,a⟩;have d:=h_ (F.mono a);obtain⟨⟨h,j⟩,-⟩:=R4 d.B5;obtain⟨⟨A,C⟩,-⟩:=R4 d.B6;go_wp2_with fail;have f:=h_ d.rw;exact i7
 have aT:=nq G;by_cases H:op=17
 . subst H
   go_wp2_with fail;refine(RG _ _ p.n q.n W F.V5 F.V6 gh gb).mono ?_;rintro e X ⟨rfl,a⟩;have d:=h_ (F.mono a);obtain⟨⟨h,j⟩,-⟩:=R4 d.B5;obtain⟨⟨A,C⟩,-⟩:=R4 d.B6;obtain⟨⟨N,r1,r2⟩,f0,f1,f2⟩:=d.rw.val;by_cases h1:p.n<q.n
   . rw[Yo h1]
     exact i4
   . rw[Yl h1]
     exact i3
 have aU:=nq H;by_cases J:op=18
 . subst J
   go_wp2_with fail;refine(RG _ _ p.n q.n W F.V5 F.V6 gh gb).mono ?_;rintro e X ⟨rfl,a⟩;have d:=h_ (F.mono a);obtain⟨⟨h,j⟩,-⟩:=R4 d.B5;obtain⟨⟨A,C⟩,-⟩:=R4 d.B6;obtain⟨⟨N,r1,r2⟩,f0,f1,f2⟩:=d.rw.val;by_cases h1:p.n<q.n
   . rw[Yo h1]
     exact i3
   . rw[Yl h1]
     exact i4
 have a:=nq J;have y:C1 1=z:=by rw[<- x.u];simp[YC,h4,h7,h8,t,h6,l,E,I,G,H,J]
 replace x:=h_ y;go_wp2_with fail;have f:=h_ F.rw;exact i9
def V1 {b o m f}(h:N2 W (Sm (Aq b o)) m f)(w:0<m):W.cell? (Aq b o)=Sm (Ye (f 0).k)/\W.cell? (Aq b (o+1))=Sm (Ye (f 0).n)/\W.cell? (Aq b (o+2))=Sm (St (f 0).s):=by obtain⟨M,q,e,-,c⟩:=RM h w;cases e;exact c
def V2 {b o m f}(i)(h:N2 W (Sm (Aq b o)) m f)(w:i<m)(j)(a:o+i*3=j):W.cell? (Aq b j)=Sm (Ye (f i).k)/\W.cell? (Aq b (j+1))=Sm (Ye (f i).n)/\W.cell? (Aq b (j+2))=Sm (St (f i).s):=by subst a;obtain⟨M,q,e,-,c⟩:=h i w;cases e;exact c
def Ki {k n}(h:Z1 k n s=Tt):s.size<=1000:=by by_cases Z:k=3;{exact TO (u:=⟨k,n,s⟩) h Z};have:s.size=0:=(by simp only[Z1]at h;(repeat' split at h);all_goals first|(simp at h;omega)|simp_all);omega
def onK1 (op a)(m c:Nat)(f z w)(E:ar op=m)(j:m=1\/m=2)(I:N2 w a m f)(t:∀i,i<m->Z1 (f i).k (f i).n (f i).s=Tt)(Q:∀i,i<m->-9223372036854775808<=(f i).n/\(f i).n<=9223372036854775807)(d:E1 f m 1=Tt)(g:R1 op m f=z):Gv 189 (Jn op a m c) w (.agg (Jc z.k z.n z.s)):=by rcases j with rfl|rfl;{obtain⟨b,o,rfl,D⟩:=RM I fP;exact Mb op 1 c b o (f 0) (T4 0) z w E (.inl rfl) D (λh=>absurd h fS) (Q 0 fP) ⟨fS,fS⟩ (xT (t 0 fP) (WB d fP)) (λh=>absurd h fS) (by simpa [R1] using g)};obtain⟨b,o,rfl,D,e⟩:=SX I fP;exact Mb op 2 c b o (f 0) (f 1) z w E (.inr rfl) D (λ_=>e) (Q 0 fP) (Q 1 fP) (xT (t 0 fP) (WB d fP)) (λ_=>xT (t 1 fP) (WB d fP)) (by simpa [R1] using g)
def onK3 (op a)(m c:Nat)(f z w)(E:ar op=m)(I:m=1\/m=2)(b:N2 w a m f)(t:∀i,i<m->Z1 (f i).k (f i).n (f i).s=Tt)(g:R3 op m f=z):Gv 190 (Jn op a m c) w (.agg (Jc z.k z.n z.s)):=by subst g;exact q8w op a m c f w E I (λi C=>Ki (t i C)) b
def onK2 (op a)(m c:Nat)(f z w)(E:ar op=m)(I:m=1\/m=2)(d:N2 w a m f)(b:E1 f m 2=Tt)(g:R2 op m f=z):Gv 191 (Jn op a m c) w (.agg (Jc z.k z.n z.s)):=by subst g;exact q8v op a m c f w E I (WB b fP) d
def i2(h:p:=by go_wp2_with fail;refine(AI z y _).mono ?_;exact N5 b):p:=h
def i5(h:p:=by go_wp2;exact bQ (v:=.agg (Jc (f 0).k (f 0).n (f 0).s)) ⟨gz,b.u.out _ _ _⟩):p:=h
def i8(h:p:=by go_wp2;exact bQ (v:=.agg (Jc (f 1).k (f 1).n (f 1).s)) ⟨gz,b.u.out _ _ _⟩):p:=h
def q6r (op a)(m c:Nat)(f w)(av:ar op=m)(aC:1<=m)(aD:m<=3)(hv:N2 w a m f)(ax:∀i,i<m->Z1 (f i).k (f i).n (f i).s=Tt)(hr:∀i,i<m->-9223372036854775808<=(f i).n/\(f i).n<=9223372036854775807) :
 Gv 160 (Jn op a m c) w (vv (Q5 op m f)):=by
 obtain⟨W0,aA,hR⟩:=RW.start w;obtain⟨z,C⟩:=Nq (Q5 op m f);rw[C];unfold vv;have aB:((m:Int)==0)=Ff:=nq fP;obtain⟨x,I,V,ap,ao,aq⟩:=oF C av ax hr hR (hv.mono hR.B);go_enter func160,ntmps160;go_wp2_with fail;refine cQ (wQ op W0) λw1 A=>?_;rw[A,I.u];go_wp2_with fail;refine cQ (wQ op W0) λw1 A=>?_;rw[A,I.u];go_wp2;go_loopw [5] (λi wr=>∃k:Nat,k<=m/\i=Ye k/\RW w wr/\N2 wr a m f) (λi _=>m - (intOf i).toNat)
 case atStart=>exact⟨0,nZ _,rfl,ao,aq⟩
 case round =>
 obtain⟨k,t,rfl,hR,hV⟩:=hrel;obtain⟨b,j⟩:=oB hR hV;by_cases aj:k<m
 case pos =>
  have M:(k:Int)<m:=fP
  obtain⟨au,o,rfl,-,Y,c1,c2⟩:=j k aj;go_wp2_with fail;refine cQ (YP (f k).k (f k).n (f k).s wr (Yu (Ki (V k aj)) fP)) λH e=>?_;rw[V.u k aj];obtain⟨d,g⟩:=oB (b.mono e) (j.mono e);go_wp2;go_roundw
  case rel=>exact⟨k+1,fP,fU,d,g⟩
  case measure=>simp[intOf];omega
 case neg =>
 obtain rfl:k=m:=fP
 obtain⟨W,rfl⟩:∃W,W=wr:=⟨_,rfl⟩;have e1:¬ (k:Int)<k:=fP
 obtain⟨au,o,rfl,-⟩:=j 0 fP;obtain⟨Y,c1,c2⟩:=V1 j fP;have J:∀(i:Int) (n:Nat),op=i->ar i=n->k=n:=λi n d p=>by have:=I.u;rw[d]at this;omega
 by_cases S:op=25
 . obtain rfl:=J 25 1 S fS
   subst S;go_wp2_with fail;refine(EC z (by rw[<- x.u];simp[Q5]) _).mono ?_;exact N5 b
 have aI:=nq S;by_cases P:op=16
 . obtain rfl:=J 16 3 P fS
   subst P;obtain⟨h,d1,d2⟩:=V2 1 j fP (o+3) fP;obtain⟨O,T,Z⟩:=V2 2 j fP (o+6) fP;have n:Hi (pH (f 0) (f 1) (f 2)=z):=h_ (by rw[<- x.u];simp[Q5]);by_cases K:(f 0).k=4
   . have M:((f 0).k==4)=Tt:=beq_iff_eq.2 K
     have g:Hi (f 0=z):=h_ (by rw[<- n.u,pH,Yz (.inl K)]);obtain⟨⟨F,G,H⟩,r,E,L⟩:=b.val;exact i5
   have M:=nq K;by_cases D:(f 0).k=0
   . have N:((f 0).k==0)=Tt:=beq_iff_eq.2 D
     have g:Hi (f 0=z):=h_ (by rw[<- n.u,pH,Yz (.inr D)]);obtain⟨⟨F,G,H⟩,r,E,L⟩:=b.val;exact i5
   have N:=nq D;have l:Hi (¬ ((f 0).k=4\/(f 0).k=0)):=h_ fP;obtain⟨qt,az⟩:∃q,P4 (f 0)=q:=⟨_,rfl⟩;obtain⟨qf,ay⟩:∃q,ZC (f 0)=q:=⟨_,rfl⟩;obtain⟨Q,R⟩:=oB az ay;go_wp2_with fail;refine cQ (RH (f 0) _) λX e=>?_;rw[Q.u];have b:=h_ (b.mono e);have j:=h_ (j.mono e);obtain⟨Y,c1,c2⟩:=V1 j fP;obtain⟨h,d1,d2⟩:=V2 1 j fP (o+3) fP;obtain⟨O,T,Z⟩:=V2 2 j fP (o+6) fP;cases qt
   case true =>
    have g:Hi (f 1=z):=h_ (by have:=Q.u;simp[P4]at this;rw[<- n.u,pH,Ys l.u,Yz this]);obtain⟨⟨F,G,H⟩,r,E,L⟩:=b.val;exact i8
   go_wp2_with fail;refine cQ (IL (f 0) _) λX e=>?_;rw[R.u];have b:=h_ (b.mono e);have j:=h_ (j.mono e);obtain⟨Y,c1,c2⟩:=V1 j fP;obtain⟨h,d1,d2⟩:=V2 1 j fP (o+3) fP;obtain⟨O,T,Z⟩:=V2 2 j fP (o+6) fP;have U:Hi (¬ ((f 0).k=2/\(f 0).n=1)):=h_ λd=>by have:=Q.u;simp[P4,d]at this
   cases qf
   case true =>
    have g:Hi (f 2=z):=h_ (by have:=R.u;simp[ZC]at this;rw[<- n.u,pH,Ys l.u,Ys U.u,Yz this]);obtain⟨⟨F,G,H⟩,r,E,L⟩:=b.val;go_wp2;exact bQ (v:=.agg (Jc (f 2).k (f 2).n (f 2).s)) ⟨gz,b.u.out _ _ _⟩
   have y:Hi (C1 1=z):=h_ (by
    rw[<- n.u,pH,Ys l.u,Ys U.u,Ys];intro d;have:=R.u;simp[ZC,d]at this)
   exact i2
 have aF:=nq P;by_cases R:op=19
 . obtain rfl:=J 19 2 R fS
   subst R;obtain⟨h,d1,d2⟩:=V2 1 j fP (o+3) fP;obtain⟨⟨F,G,H⟩,r,E,L⟩:=b.val;have n:Hi (NJ (f 0) (f 1)=z):=h_ (by rw[<- x.u];simp[Q5]);by_cases D:(f 0).k=0
   . have N:((f 0).k==0)=Tt:=beq_iff_eq.2 D
     have g:Hi (f 1=z):=h_ (by rw[<- n.u,NJ,Yz D]);exact i8
   . have N:=nq D
     have g:Hi (f 0=z):=h_ (by rw[<- n.u,NJ,Ys D]);exact i5
 have aG:=nq R;have an:Hi (∀i,i<k->(∀d,d<i->¬ (f d).k=4)->(f i).k=4->f i=z):=h_ λi l O K=>by
  have p:=M_ l O K;rw[<- x.u];simp only[Q5,S,P,R,if_false,qH,nE,p,ite_self]
 go_wp2;go_loopw [6] (λi wr=>∃q:Nat,q<=k/\i=Ye q/\(∀d,d<q->¬ (f d).k=4)/\wr=W) (λi _=>k - (intOf i).toNat)
 case atStart=>exact⟨0,nZ _,rfl,λd l=>absurd l (nL _),rfl⟩
 case round =>
 obtain⟨q,hq,rfl,aw,rfl⟩:=hrel;have ad:=h_ aw;by_cases al:q<k
 case pos =>
  have O:(q:Int)<k:=fP
  obtain⟨Y,c1,c2⟩:=V2 q j al _ rfl;by_cases K:(f q).k=4
  . have g:=h_ (an q al ad K)
    have M:((f q).k==4)=Tt:=beq_iff_eq.2 K;obtain⟨⟨F,G,H⟩,r,E,L⟩:=b.val;go_wp2;exact bQ (v:=.agg (Jc (f q).k (f q).n (f q).s)) ⟨gz,b.u.out _ _ _⟩
  . have M:=nq K
    have G:Hi (∀d,d<q+1->¬ (f d).k=4):=h_ λd l=>by
     by_cases p:d=q
     . rw[p];exact K
     . exact ad d fP
    go_wp2;go_roundw
    case rel=>exact⟨q+1,fP,fU,G,trivial⟩
    case measure=>simp[intOf];omega
 case neg =>
 obtain rfl:q=k:=fP
 obtain⟨W,rfl⟩:∃W,W=wr:=⟨_,rfl⟩;obtain⟨Y,c1,c2⟩:=V1 j fP;have T:=h_ (L_ ad);by_cases ac:op=24
 . obtain rfl:=J 24 1 ac fS
   subst ac;go_wp2_with fail;refine(EC z gT _).mono ?_;exact N5 b
 have aH:=nq ac;by_cases Z:op=14
 . obtain rfl:=J 14 2 Z fS
   subst Z;have n:Hi (VF (f 0) (f 1)=z):=h_ gT;go_wp2;go_loopw [7] (λi wr=>∃r:Nat,r<=2/\i=Ye r/\(∀d,d<r->¬ (f d).k=1/\¬ (f d).k=3)/\wr=W) (λi _=>2 - (intOf i).toNat)
   case atStart=>exact⟨0,fP,rfl,λd l=>absurd l (nL _),rfl⟩
   case round =>
   obtain⟨r,hr,rfl,ak,rfl⟩:=hrel;have K:=h_ ak;by_cases Q:r<2
   case pos =>
    have am:(r:Int)<2:=fP;obtain⟨Y,c1,c2⟩:=V2 r j Q _ rfl;by_cases t:(f r).k=1\/(f r).k=3
    . have y:Hi (C1 1=z):=h_ (by rw[<- n.u,VF,Yz (by have:r=0\/r=1:=fP;rcases this with rfl|rfl <;> (rcases t with t|t <;> simp[t]))])
      by_cases H:(f r).k=1
      . have O:((f r).k==1)=Tt:=beq_iff_eq.2 H
        exact i2
      . have O:=nq H
        have ae:((f r).k==3)=Tt:=beq_iff_eq.2 fP;exact i2
    . have O:((f r).k==1)=Ff:=nq fP
      have ae:((f r).k==3)=Ff:=nq fP;have G:Hi (∀d,d<r+1->¬ (f d).k=1/\¬ (f d).k=3):=h_ λd l=>by
       by_cases p:d=r
       . rw[p];omega
       . exact K d fP
      go_wp2;go_roundw
      case rel=>exact⟨r+1,fP,fU,G,trivial⟩
      case measure=>simp[intOf];omega
   case neg =>
   obtain rfl:r=2:=fP
   obtain⟨W,rfl⟩:∃W,W=wr:=⟨_,rfl⟩;have g:Hi (¬ ((f 0).k=1\/(f 0).k=3\/(f 1).k=1\/(f 1).k=3)):=h_ (by have:=K 0 fP;have:=K 1 fP;omega);obtain⟨Y,c1,c2⟩:=V1 j fP;obtain⟨h,d1,d2⟩:=V2 1 j fP (o+3) fP;obtain⟨U,af⟩:∃q,ZC (f 0)=q:=⟨_,rfl⟩;have E:=h_ af;obtain⟨a1,ag⟩:∃q,ZC (f 1)=q:=⟨_,rfl⟩;have F:=h_ ag;obtain⟨b0,ah⟩:∃q,P4 (f 0)=q:=⟨_,rfl⟩;have L:=h_ ah;obtain⟨b1,ai⟩:∃q,P4 (f 1)=q:=⟨_,rfl⟩;have M:=h_ ai;go_wp2_with fail;refine cQ (IL (f 0) _) λX e=>?_;rw[E.u];have b:=h_ (b.mono e);have j:=h_ (j.mono e);obtain⟨Y,c1,c2⟩:=V1 j fP;obtain⟨h,d1,d2⟩:=V2 1 j fP (o+3) fP;cases U
   case true =>
    go_wp2_with fail;refine(EC z (by rw[<- n.u,VF,Ys g.u];simp[E.u]) _).mono ?_;exact N5 b
   go_wp2_with fail;refine cQ (IL (f 1) _) λX e=>?_;rw[F.u];have b:=h_ (b.mono e);have j:=h_ (j.mono e);obtain⟨Y,c1,c2⟩:=V1 j fP;obtain⟨h,d1,d2⟩:=V2 1 j fP (o+3) fP;cases a1
   case true =>
    go_wp2_with fail;refine(EC z (by rw[<- n.u,VF,Ys g.u];simp[F.u]) _).mono ?_;exact N5 b
   go_wp2_with fail;refine cQ (RH (f 0) _) λX e=>?_;rw[L.u];have b:=h_ (b.mono e);have j:=h_ (j.mono e);obtain⟨Y,c1,c2⟩:=V1 j fP;obtain⟨h,d1,d2⟩:=V2 1 j fP (o+3) fP;cases b0
   case false =>
    go_wp2_with fail;refine(BJ z (by rw[<- n.u,VF,Ys g.u];simp[E.u,F.u,L.u]) _).mono ?_;exact N5 b
   go_wp2_with fail;refine cQ (RH (f 1) _) λX e=>?_;rw[M.u];have b:=h_ (b.mono e);have j:=h_ (j.mono e);obtain⟨Y,c1,c2⟩:=V1 j fP;obtain⟨h,d1,d2⟩:=V2 1 j fP (o+3) fP;cases b1
   case false =>
    go_wp2_with fail;refine(BJ z (by rw[<- n.u,VF,Ys g.u];simp[E.u,F.u,M.u]) _).mono ?_;exact N5 b
   go_wp2_with fail;refine(EC z (by rw[<- n.u,VF,Ys g.u];simp[E.u,F.u,L.u,M.u]) _).mono ?_;exact N5 b
 have aE:=nq Z;by_cases aa:op=15
 . obtain rfl:=J 15 2 aa fS
   subst aa;have n:Hi (ZF (f 0) (f 1)=z):=h_ gT;go_wp2;go_loopw [7] (λi wr=>∃r:Nat,r<=2/\i=Ye r/\(∀d,d<r->¬ (f d).k=1/\¬ (f d).k=3)/\wr=W) (λi _=>2 - (intOf i).toNat)
   case atStart=>exact⟨0,fP,rfl,λd l=>absurd l (nL _),rfl⟩
   case round =>
   obtain⟨r,hr,rfl,ak,rfl⟩:=hrel;have K:=h_ ak;by_cases Q:r<2
   case pos =>
    have am:(r:Int)<2:=fP;obtain⟨Y,c1,c2⟩:=V2 r j Q _ rfl;by_cases t:(f r).k=1\/(f r).k=3
    . have y:Hi (C1 1=z):=h_ (by rw[<- n.u,ZF,Yz (by have:r=0\/r=1:=fP;rcases this with rfl|rfl <;> (rcases t with t|t <;> simp[t]))])
      by_cases H:(f r).k=1
      . have O:((f r).k==1)=Tt:=beq_iff_eq.2 H
        exact i2
      . have O:=nq H
        have ae:((f r).k==3)=Tt:=beq_iff_eq.2 fP;exact i2
    . have O:((f r).k==1)=Ff:=nq fP
      have ae:((f r).k==3)=Ff:=nq fP;have G:Hi (∀d,d<r+1->¬ (f d).k=1/\¬ (f d).k=3):=h_ λd l=>by
       by_cases p:d=r
       . rw[p];omega
       . exact K d fP
      go_wp2;go_roundw
      case rel=>exact⟨r+1,fP,fU,G,trivial⟩
      case measure=>simp[intOf];omega
   case neg =>
   obtain rfl:r=2:=fP
   obtain⟨W,rfl⟩:∃W,W=wr:=⟨_,rfl⟩;have g:Hi (¬ ((f 0).k=1\/(f 0).k=3\/(f 1).k=1\/(f 1).k=3)):=h_ (by have:=K 0 fP;have:=K 1 fP;omega);obtain⟨Y,c1,c2⟩:=V1 j fP;obtain⟨h,d1,d2⟩:=V2 1 j fP (o+3) fP;obtain⟨U,af⟩:∃q,P4 (f 0)=q:=⟨_,rfl⟩;have E:=h_ af;obtain⟨a1,ag⟩:∃q,P4 (f 1)=q:=⟨_,rfl⟩;have F:=h_ ag;obtain⟨b0,ah⟩:∃q,ZC (f 0)=q:=⟨_,rfl⟩;have L:=h_ ah;obtain⟨b1,ai⟩:∃q,ZC (f 1)=q:=⟨_,rfl⟩;have M:=h_ ai;go_wp2_with fail;refine cQ (RH (f 0) _) λX e=>?_;rw[E.u];have b:=h_ (b.mono e);have j:=h_ (j.mono e);obtain⟨Y,c1,c2⟩:=V1 j fP;obtain⟨h,d1,d2⟩:=V2 1 j fP (o+3) fP;cases U
   case true =>
    go_wp2_with fail;refine(EC z (by rw[<- n.u,ZF,Ys g.u];simp[E.u]) _).mono ?_;exact N5 b
   go_wp2_with fail;refine cQ (RH (f 1) _) λX e=>?_;rw[F.u];have b:=h_ (b.mono e);have j:=h_ (j.mono e);obtain⟨Y,c1,c2⟩:=V1 j fP;obtain⟨h,d1,d2⟩:=V2 1 j fP (o+3) fP;cases a1
   case true =>
    go_wp2_with fail;refine(EC z (by rw[<- n.u,ZF,Ys g.u];simp[F.u]) _).mono ?_;exact N5 b
   go_wp2_with fail;refine cQ (IL (f 0) _) λX e=>?_;rw[L.u];have b:=h_ (b.mono e);have j:=h_ (j.mono e);obtain⟨Y,c1,c2⟩:=V1 j fP;obtain⟨h,d1,d2⟩:=V2 1 j fP (o+3) fP;cases b0
   case false =>
    go_wp2_with fail;refine(BJ z (by rw[<- n.u,ZF,Ys g.u];simp[E.u,F.u,L.u]) _).mono ?_;exact N5 b
   go_wp2_with fail;refine cQ (IL (f 1) _) λX e=>?_;rw[M.u];have b:=h_ (b.mono e);have j:=h_ (j.mono e);obtain⟨Y,c1,c2⟩:=V1 j fP;obtain⟨h,d1,d2⟩:=V2 1 j fP (o+3) fP;cases b1
   case false =>
    go_wp2_with fail;refine(BJ z (by rw[<- n.u,ZF,Ys g.u];simp[E.u,F.u,M.u]) _).mono ?_;exact N5 b
   go_wp2_with fail;refine(EC z (by rw[<- n.u,ZF,Ys g.u];simp[E.u,F.u,L.u,M.u]) _).mono ?_;exact N5 b
 have E:=nq aa;have C:nE f q (R1 op q f) (R3 op q f) (R2 op q f)=z:=by rw[<- x.u];simp[Q5,S,P,R,ac,Z,aa]
 simp only[nE,T.u]at C;have x:=h_ C;have g:Hi (q=1\/q=2):=h_ (by have:=I.u;have:=TX op;omega);go_wp2;go_loopw [8] (λi wr=>∃r:Nat,r<=q/\i=Ye r/\(∀d,d<r->¬ (f d).k=0)/\wr=W) (λi _=>q - (intOf i).toNat)
 case atStart=>exact⟨0,nZ _,rfl,λd l=>absurd l (nL _),rfl⟩
 case round =>
 obtain⟨r,hr,rfl,n,rfl⟩:=hrel;have h:=h_ n;by_cases Q:r<q
 case pos =>
  have am:(r:Int)<q:=fP
  obtain⟨Y,c1,c2⟩:=V2 r j Q _ rfl;by_cases D:(f r).k=0
  . have y:Hi (N4=z):=h_ (by rw[<- x.u,Ce Q D];rfl)
    have N:((f r).k==0)=Tt:=beq_iff_eq.2 D;go_wp2_with fail;refine(BJ z y _).mono ?_;exact N5 b
  . have N:=nq D
    have G:Hi (∀d,d<r+1->¬ (f d).k=0):=h_ λd l=>by
     by_cases p:d=r
     . rw[p];exact D
     . exact h d fP
    go_wp2;go_roundw
    case rel=>exact⟨r+1,fP,fU,G,trivial⟩
    case measure=>simp[intOf];omega
 case neg =>
 obtain rfl:r=q:=fP
 obtain⟨W,rfl⟩:∃W,W=wr:=⟨_,rfl⟩;have C:=x.u;rw[Jg h.u]at C;simp only[Gn,if_false]at C;have x:=h_ C;obtain⟨p,H⟩:∃d,E1 f r 1=d:=⟨_,rfl⟩;obtain⟨D,l⟩:∃d,E1 f r 3=d:=⟨_,rfl⟩;obtain⟨y,i⟩:∃d,E1 f r 2=d:=⟨_,rfl⟩;obtain⟨d,U,e⟩:=oC H l i;go_wp2_with fail;refine cQ (rU _ r c f 1 W fP j) λw1 A=>?_;rw[A,d.u];cases p
 case true =>
  go_wp2_with fail;refine(onK1 op _ r c f z W I g j V ap d (by rw[<- x.u];simp[d.u])).mono ?_;exact N5 b
 go_wp2_with fail;refine cQ (rU _ r c f 3 W fP j) λw1 A=>?_;rw[A,U.u];cases D
 case true =>
  go_wp2_with fail;refine(onK3 op _ r c f z W I g j V (by rw[<- x.u];simp[d.u,U.u])).mono ?_;exact N5 b
 go_wp2_with fail;refine cQ (rU _ r c f 2 W fP j) λw1 A=>?_;rw[A,e.u];cases y
 case true =>
  go_wp2_with fail;refine(onK2 op _ r c f z W I g j e (by rw[<- x.u];simp[d.u,U.u,e.u])).mono ?_;exact N5 b
 go_wp2_with fail;refine(AI z (by rw[<- x.u];simp[d.u,U.u,e.u]) _).mono ?_;exact N5 b
