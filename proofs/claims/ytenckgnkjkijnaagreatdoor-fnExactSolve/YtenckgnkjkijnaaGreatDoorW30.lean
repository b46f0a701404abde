import Derived.Test.YtenckgnkjkijnaaGreatDoorW24
set_option maxRecDepth 100000
set_option maxHeartbeats 64000000
namespace Go.Proofs.YtenckgnkjkijnaaGreatDoor
open Go Go.RowKit Go.Proofs.Tryz
variable {w W:Tw}{n k:Nat}{v u:Value}{s:Tb}
theorem OI.rw {b o:Nat}{p c:Vx}{d f e g:Value}(a:OI w W b o n k p c v u d f e g):RW w W:=⟨a.R,a.low⟩
theorem kfZ {x:Int}(z:Vx)(e:kbr w v x)(a:(kab x.natAbs).length<=500)(b:kbn x=z):Gv 213 #[v] w (.agg (Jc z.k z.n z.s)):=by
 subst b;refine(q3l v x w e a).mono fun f g ⟨d,c⟩=>⟨?_,c⟩;rw[d,kf5];rfl
theorem kf6 {x y:Int}(a:(kab x.natAbs).length<=19)(hy:(kab y.natAbs).length<=19):(kab (x*y).natAbs).length<=500:=by
 rw[Int.natAbs_mul];refine Y5 (q26 (k:=19+19) ?_) (by omega);rw[Nat.pow_add];exact Nat.mul_lt_mul'' (Yn (qq3 _) (Zn (by decide) a)) (Yn (qq3 _) (Zn (by decide) hy))
theorem qnd {x:Int}{r:Value}(f:kbr w r x):∃bs b c a d e,r=.agg #[.bool bs,.slice b c a]/\w.alloc (.cells #[.bool bs,.slice b c a] 264)=d/\w.heap.size=e/\Blk d e 264 [.bool bs,.slice b c a]/\kbr d (.agg #[.bool bs,.slice b c a]) x/\Bw w d/\(c=0 ↔ x=0):=by
 obtain⟨e,rfl,d⟩:=id f;obtain⟨b,a,rfl,-⟩:=id d;have c:Bw w (w.alloc (.cells (Jt (decide (x<0)) b (kab x.natAbs).length a) 264)):=(bR _ _).alloc (nR _) _;exact⟨_,b,_,a,_,_,rfl,rfl,rfl,Blk.new w 264 #[_,_],f.mono c,c,by rw[Za,qix,Int.natAbs_eq_zero]⟩
theorem qc5 (E:Int)(m c b o:Nat)(p d z:Vx)(w:Tw)(M:ar E=m)(hm:m=1∨m=2)(x:Cel w b o p)(F:m=2->Cel w b (o+3) d)(e:-9223372036854775808<=p.n/\p.n<=9223372036854775807)(g:-9223372036854775808<=d.n/\d.n<=9223372036854775807)(A:p=kbL p.n)(D:m=2->d=kbL d.n)(J:(if m=1 then kfB E p.n else kcv E p.n d.n)=z) :
 Gv 181 (Jn E (some ⟨b,o,none⟩) m c) w (.agg (Jc z.k z.n z.s)):=by
 obtain⟨W0,y,a⟩:=RW.start w;obtain⟨l,q,HP,HQ,aG,au⟩:=oF J a e g A D;have j:=h_ (x.mono a.B);have H:=h_ fun h=>(F h).mono a.B;have C:Hi ((kab p.n.natAbs).length<=19):=h_ (qiw e.1 e.2);have I:Hi ((kab d.n.natAbs).length<=19):=h_ (qiw g.1 g.2);have K:∀t:Int,E=t->ar t=1->m=1:=fun t t h=>by rw[t]at M;omega
 have m1:(0:Int)<m:=by omega
 obtain⟨-,O,V,a2⟩:=j.u;clear a J e g A D x F;go_enter func181,ntmps181;go_wp2_with fail
 try rw[y]
 clear y;refine(q3n p.n W0 HP.1 HP.2).mono ?_;rintro h Q ⟨x,rfl,T,D⟩;obtain⟨X,g5,W,Z,w2,X5,L,g,e,t,P,am,-⟩:=qnd (w:=Q) (r:=.agg #[.bool (decide (p.n<0)),x]) ⟨x,rfl,T⟩;rw[L];have a:Bw W0 w2:=D.trans (am.mono D.size);obtain⟨az,aD,aM⟩:=oC t P a;have G:=h_ (q.mono a);have aA:=h_ (j.mono a);have N:=h_ fun h=>(H h).mono a;obtain⟨-,O,V,a2⟩:=aA.u;obtain⟨⟨y,A⟩,-⟩:=two t;clear D am t P a L T x j H;by_cases x:E=2
 . obtain rfl:=K 2 x (by decide)
   subst x;clear M hm K;go_wp2_with fail
   try rw[e]
   try rw[g]
   clear g e Q;refine(q5o _ p.n w2 aD).mono ?_;rintro h H ⟨t,rfl,j,a⟩;replace q:=h_ (G.mono a);have L:=h_ j;clear j a y A O V a2;go_wp2_with fail;refine(kfZ z L (by rw[V9];have:=C.u;omega) (by rw[<- l.u];simp[kfB])).mono ?_;exact exS q
 have n2:=nq x;by_cases L:E=23
 . obtain rfl:=K 23 L (by decide)
   subst L;clear M hm K x;go_wp2_with fail
   try rw[e]
   try rw[g]
   clear g e Q;refine cQ (q3m p.n w2 HP.1 HP.2) fun H a=>?_;replace q:=h_ (G.mono a);clear a y A O V a2;go_wp2_with fail;refine(keU z (by rw[<- l.u];simp[kfB]) _).mono ?_;exact exS q
 have aW:=nq L;rcases hm with rfl | rfl
 . have J:kax 1=z:=by rw[<- l.u];simp[kfB,x,L]
   replace l:=h_ J;clear J x L K M;go_wp2_with fail
   try rw[e]
   try rw[g]
   clear g e Q;clear y A O V a2;refine(kdk z l _).mono ?_;exact exS G
 have J:kcv E p.n d.n=z:=by rw[<- l.u];simp
 replace l:=h_ J;clear J x L K M m1;replace N:=h_ (N rfl);replace au:=h_ (au rfl);obtain⟨-,b0,b1,b2⟩:=N.u;go_wp2_with fail
 try rw[e]
 try rw[g]
 clear g e Q;refine(q3n d.n w2 HQ.1 HQ.2).mono ?_;rintro h Q ⟨x,rfl,aL,D⟩;obtain⟨Y,g6,M,aa,P,X6,e6,T,U,aH,aK,am,aJ⟩:=qnd (w:=Q) (r:=.agg #[.bool (decide (d.n<0)),x]) ⟨x,rfl,aL⟩;rw[e6];have e:Bw w2 P:=D.trans (am.mono D.size);have g:Hi (OI w P b o X5 X6 p d (.agg (Jt X g5 W Z)) (.agg (Jt Y g6 M aa)) (.bool X) (.slice g5 W Z) (.bool Y) (.slice g6 M aa)) :=
  h_ ⟨(G.mono e).R,az.mono e az.lt,aH,rfl,rfl,aD.mono e,aK,aA.mono e,N.mono e,(G.mono e).B⟩
 have ao:=h_ aJ;obtain⟨⟨y,A⟩,-⟩:=two g.B5;obtain⟨⟨K,L⟩,-⟩:=two g.B6;clear D am e aH aK b0 b1 b2 aJ aM aA N q G az aD e6 aL x O V a2;by_cases h4:E=4
 . subst h4
   go_wp2_with fail
   try rw[U]
   try rw[T]
   clear T U Q;refine(q5n _ _ p.n d.n P g.V5 g.V6 (by have:=C.u;omega) (by have:=I.u;omega)).mono ?_;rintro h H ⟨t,rfl,j,a⟩;obtain⟨q,V⟩:=oB (g.mono a).rw j;clear j a y A K L;go_wp2_with fail;refine(kfZ z V (kf6 C I) (by rw[<- l.u];simp[kcv])).mono ?_;exact exS q
 have n4:=nq h4;by_cases h7:E=7
 . subst h7
   go_wp2_with fail
   try rw[U]
   try rw[T]
   clear T U Q;refine(q5m _ _ p.n d.n P g.V5 g.V6 (by have:=C.u;omega) (by have:=I.u;omega)).mono ?_;rintro h H ⟨t,rfl,j,a⟩;obtain⟨q,V⟩:=oB (g.mono a).rw j;clear j a y A K L;go_wp2_with fail;refine(kfZ z V (Y5 (q26 (k:=20) (by have:=HP.u;have:=HQ.u;omega)) (by omega)) (by rw[<- l.u];simp[kcv])).mono ?_;exact exS q
 have n7:=nq h7;by_cases h8:E=8
 . subst h8
   go_wp2_with fail
   try rw[U]
   try rw[T]
   clear T U Q;have S0:=h_ (kbE g.B5 g.B6);clear y A K L;refine wp_region_held_drew (S:=fun w'=>keV w' X5 X6 (.bool X) (.slice g5 W Z) (.bool Y) (.slice g6 M aa)) (by kernel_rfl) S0 (fun zz=>?_);refine tkL 0 49 (.agg (Jt X g5 W Z)) zz ?_ (hy:=fun w hS=>by obtain⟨q0,q1,q2,q3⟩:=hS;simp[execOp,go_sem, *]);refine tkL 1 50 (.agg (Jt Y g6 M aa)) zz ?_ (hy:=fun w hS=>by obtain⟨q0,q1,q2,q3⟩:=hS;simp[execOp,go_sem, *]);refine kaL (i:=2) (f:=214) (args:=#[.agg (Jt Y g6 M aa)]) (R:=fun t O=>kbr O t (-d.n)/\Bw P O) 51 rfl rfl (by rfl) (by kernel_rfl) (by simp[execOp,go_sem]) ((q5o _ d.n _ (g.V6.mono (q4s _ 1))).mono fun h w6 ⟨t,he,j,a⟩=>⟨t,he,j,q36 a⟩) ?_;rintro r3 H ⟨j,a⟩;have e:=h_ (g.mono a);have V:=h_ j;clear j a;refine⟨kbE e.B5 e.B6,?_⟩;refine kaS (by(first | simp only[Ya,Yb] | skip);rfl) (by(first | simp only[Ya,Yb] | skip);rfl) ?_;refine kaL (i:=3) (f:=218) (args:=#[.agg (Jt X g5 W Z),r3]) (R:=fun t O=>kbr O t (p.n + -d.n)/\Bw H O) 52 rfl rfl (by rfl) (by kernel_rfl) (by simp[execOp,go_sem]) ((q5m _ _ p.n (-d.n) H e.V5 V (by have:=C.u;omega) (by rw[V9];have:=I.u;omega)).mono fun h w6 ⟨t,he,j,a⟩=>⟨t,he,j,a⟩) ?_;rintro r4 w4 ⟨j,a⟩;have x:=h_ (e.mono a);have aj:=h_ j;clear j a;refine⟨kbE x.B5 x.B6,?_⟩;refine kaS (by(first | simp only[Ya,Yb] | skip);rfl) (by(first | simp only[Ya,Yb] | skip);rfl) ?_;refine cyY 4 53 (kfZ z aj (Y5 (q26 (k:=20) (by have:=HP.u;have:=HQ.u;omega)) (by omega)) (by rw[<- l.u];simp[kcv])) fun wx a=>?_;have D:=h_ (x.mono a);clear a;refine⟨kbE D.B5 D.B6,?_⟩;refine kaS (by(first | simp only[Ya,Yb] | skip);rfl) (by(first | simp only[Ya,Yb] | skip);rfl) ?_;have N:=D.rw.val;obtain⟨⟨N,r1,r2⟩,f0,f1,f2⟩:=N;have ac:X5≠w.heap.size:=fun h=>by have G:=D.B5.cell 0;rw[h,N]at G;simp at G
   have ad:X6≠w.heap.size:=fun h=>by have G:=D.B6.cell 0;rw[h,N]at G;simp at G
   refine ka0 (i:=5) (w':=((wx.setCell ⟨w.heap.size,0,none⟩ (J6 z.k)).setCell ⟨w.heap.size,1,none⟩ (J6 z.n)).setCell ⟨w.heap.size,2,none⟩ (.string z.s)) rfl (by rfl) (by kernel_rfl) rfl ?hrunS5 rfl (kbE (((D.B5.other _ ac).other _ ac).other _ ac) (((D.B6.other _ ad).other _ ad).other _ ad)) ?_
   case hrunS5=>simp[execOp,go_sem,N,r1,r2,f0,f1,f2]
   refine wdQ ?_;obtain⟨W9,ax⟩:=Nq (((wx.setCell ⟨w.heap.size,0,none⟩ (J6 z.k)).setCell ⟨w.heap.size,1,none⟩ (J6 z.n)).setCell ⟨w.heap.size,2,none⟩ (.string z.s));have ae:=(((D.R.set 0 (J6 z.k)).set 1 (J6 z.n)).set 2 (.string z.s));have ah:=h_ (D.rw.out (J6 z.k) (J6 z.n) (.string z.s));rw[ax]at ae ah⊢;obtain⟨k0,k1,k2⟩:=kag ae;clear ax ae N r1 r2 f0 f1 f2;go_wp2;exact bQ ⟨rfl,ah⟩
 have n8:=nq h8;by_cases G:E=5
 . subst G
   by_cases V:d.n=0
   . obtain rfl:M=0:=ao.2 V
     have J:kax 3=z:=(by rw[<- l.u];simp[kcv,V]);replace l:=h_ J;clear J V;go_wp2_with fail
     try rw[U]
     try rw[T]
     clear T U Q;have q:=h_ g.rw;clear y A K L;refine(kdk z l _).mono ?_;exact exS q
   have av:¬ (M:Int)=0:=fun h=>V (ao.1 (by omega));have aI:¬ M=0:=fun h=>av (by omega);have ai:=h_ V;clear V;go_wp2_with fail
   try rw[U]
   try rw[T]
   clear T U Q;refine(q5p _ _ p.n d.n P g.V5 g.V6 (by have:=C.u;omega) (by have:=I.u;omega) ai).mono ?_;rintro h H ⟨t,rfl,j,a⟩;obtain⟨ak,g7,L7,al,w4,X7,rfl,aF,aE,af,aw,ay,-⟩:=qnd j;have aq:Hi ((kab (p.n.tdiv d.n).natAbs).length<=19):=h_ (by
    rw[Int.natAbs_tdiv];exact q26 (Oc (Ou _ _) (Yn (qq3 _) (Zn (by decide) C))))
   obtain⟨x,aj,ag⟩:=oC ((g.mono a).mono ay) aw af;obtain⟨⟨t0,t1⟩,-⟩:=two af;clear j a ay af aw av aI y A K L;obtain⟨⟨y,A⟩,-⟩:=two x.B5;obtain⟨⟨K,L⟩,-⟩:=two x.B6;go_wp2_with fail
   try rw[aE]
   try rw[aF]
   clear aF aE H;have q:=h_ x.rw;clear y A K L t0 t1;refine(kfZ z aj (by have:=aq.u;omega) (by rw[<- l.u];simp[kcv,ai.u])).mono ?_;exact exS q
 have n5:=nq G;by_cases h6:E=6
 . subst h6
   by_cases V:d.n=0
   . obtain rfl:M=0:=ao.2 V
     have J:kax 3=z:=(by rw[<- l.u];simp[kcv,V]);replace l:=h_ J;clear J V;go_wp2_with fail
     try rw[U]
     try rw[T]
     clear T U Q;have q:=h_ g.rw;refine(kdk z l _).mono ?_;exact exS q
   have av:¬ (M:Int)=0:=fun h=>V (ao.1 (by omega));have aI:¬ M=0:=fun h=>av (by omega);have ai:=h_ V;go_wp2_with fail;refine(q5p _ _ p.n d.n P g.V5 g.V6 (by have:=C.u;omega) (by have:=I.u;omega) ai).mono ?_;rintro h H ⟨t,rfl,j,a⟩;obtain⟨ak,g7,L7,al,w4,X7,rfl,aF,aE,af,aw,ay,-⟩:=qnd j;have aq:Hi ((kab (p.n.tdiv d.n).natAbs).length<=19):=h_ (by
    rw[Int.natAbs_tdiv];exact q26 (Oc (Ou _ _) (Yn (qq3 _) (Zn (by decide) C))))
   have x:=h_ ((g.mono a).mono ay);have aj:=h_ aw;have ag:=h_ af;obtain⟨⟨t0,t1⟩,-⟩:=two af;obtain⟨⟨y,A⟩,-⟩:=two x.B5;obtain⟨⟨K,L⟩,-⟩:=two x.B6;go_wp2_with fail;have S0:Hi (keV w4 X5 X6 (.bool X) (.slice g5 W Z) (.bool Y) (.slice g6 M aa)/\w4.cell? ⟨X7,0,none⟩=some (.bool ak)/\w4.cell? ⟨X7,1,none⟩=some (.slice g7 L7 al)):=h_ ⟨kbE x.B5 x.B6,ag.cell 0,ag.cell 1⟩;refine wp_region_held_drew (S:=fun w'=>keV w' X5 X6 (.bool X) (.slice g5 W Z) (.bool Y) (.slice g6 M aa)/\w'.cell? ⟨X7,0,none⟩=some (.bool ak)/\w'.cell? ⟨X7,1,none⟩=some (.slice g7 L7 al)) (by kernel_rfl) S0 (fun zz=>?_);refine tkL 0 72 (.agg (Jt X g5 W Z)) zz ?_ (hy:=fun w hS=>by obtain⟨⟨q0,q1,q2,q3⟩,q4,q5⟩:=hS;simp[execOp,go_sem, *]);refine tkL 1 73 (.agg (Jt Y g6 M aa)) zz ?_ (hy:=fun w hS=>by obtain⟨⟨q0,q1,q2,q3⟩,q4,q5⟩:=hS;simp[execOp,go_sem, *]);refine tkL 2 74 (.agg (Jt ak g7 L7 al)) zz ?_ (hy:=fun w hS=>by obtain⟨⟨q0,q1,q2,q3⟩,q4,q5⟩:=hS;simp[execOp,go_sem, *]);refine kaL (i:=3) (f:=217) (args:=#[.agg (Jt Y g6 M aa),.agg (Jt ak g7 L7 al)]) (R:=fun t O=>kbr O t (d.n*p.n.tdiv d.n)/\Bw w4 O) 75 rfl rfl (by rfl) (by kernel_rfl) (by simp[execOp,go_sem]) ((q5n _ _ d.n (p.n.tdiv d.n) _ (x.V6.mono (q4s _ 1)) (aj.mono (q4s _ 1)) (by have:=I.u;omega) (by have:=aq.u;omega)).mono fun h w6 ⟨t,he,j,a⟩=>⟨t,he,j,q36 a⟩) ?_;rintro r6 w6 ⟨j,a⟩;have aB:=h_ (x.mono a);have aO:=h_ j;have T:=h_ (ag.mono a ag.lt);refine⟨⟨kbE aB.B5 aB.B6,T.cell 0,T.cell 1⟩,?_⟩;refine kaS (by(first | simp only[Ya,Yb] | skip);rfl) (by(first | simp only[Ya,Yb] | skip);rfl) ?_;refine kaL (i:=4) (f:=214) (args:=#[r6]) (R:=fun t O=>kbr O t (-(d.n*p.n.tdiv d.n))/\Bw w6 O) 76 rfl rfl (by rfl) (by kernel_rfl) (by simp[execOp,go_sem]) ((q5o _ (d.n*p.n.tdiv d.n) w6 aO).mono fun h w7 ⟨t,he,j,a⟩=>⟨t,he,j,a⟩) ?_;rintro r7 w7 ⟨j,a⟩;have ap:=h_ (aB.mono a);have aP:=h_ j;have U:=h_ (T.mono a T.lt);refine⟨⟨kbE ap.B5 ap.B6,U.cell 0,U.cell 1⟩,?_⟩;refine kaS (by(first | simp only[Ya,Yb] | skip);rfl) (by(first | simp only[Ya,Yb] | skip);rfl) ?_;refine kaL (i:=5) (f:=218) (args:=#[.agg (Jt X g5 W Z),r7]) (R:=fun t O=>kbr O t (p.n + -(d.n*p.n.tdiv d.n))/\Bw w7 O) 77 rfl rfl (by rfl) (by kernel_rfl) (by simp[execOp,go_sem]) ((q5m _ _ p.n (-(d.n*p.n.tdiv d.n)) w7 ap.V5 aP (by have:=C.u;omega) (by rw[V9];exact kf6 I aq)).mono fun h w8 ⟨t,he,j,a⟩=>⟨t,he,j,a⟩) ?_;rintro r8 w8 ⟨j,a⟩;have aC:=h_ (ap.mono a);have aQ:=h_ j;have an:=h_ (U.mono a U.lt);have aN:Hi ((kab (p.n + -(d.n*p.n.tdiv d.n)).natAbs).length<=500):=h_ (by
    rw[show p.n + -(d.n*p.n.tdiv d.n)=p.n.tmod d.n by rw[Int.tmod_def];omega,Int.natAbs_tmod];exact Y5 (q26 (k:=19) (Oc (Nat.mod_le _ _) (Yn (qq3 _) (Zn (by decide) C)))) (by omega))
   refine⟨⟨kbE aC.B5 aC.B6,an.cell 0,an.cell 1⟩,?_⟩;refine kaS (by(first | simp only[Ya,Yb] | skip);rfl) (by(first | simp only[Ya,Yb] | skip);rfl) ?_;refine cyY 6 78 (kfZ z aQ aN (by rw[<- l.u];simp[kcv,ai.u])) fun wx a=>?_;have D:=h_ (aC.mono a);have Q:=h_ (an.mono a an.lt);refine⟨⟨kbE D.B5 D.B6,Q.cell 0,Q.cell 1⟩,?_⟩;refine kaS (by(first | simp only[Ya,Yb] | skip);rfl) (by(first | simp only[Ya,Yb] | skip);rfl) ?_;have N:=D.rw.val;obtain⟨⟨N,r1,r2⟩,f0,f1,f2⟩:=N;have ac:X5≠w.heap.size:=fun h=>by have G:=D.B5.cell 0;rw[h,N]at G;simp at G
   have ad:X6≠w.heap.size:=fun h=>by have G:=D.B6.cell 0;rw[h,N]at G;simp at G
   have O:X7≠w.heap.size:=fun h=>by have G:=Q.cell 0;rw[h,N]at G;simp at G
   refine ka0 (i:=7) (w':=((wx.setCell ⟨w.heap.size,0,none⟩ (J6 z.k)).setCell ⟨w.heap.size,1,none⟩ (J6 z.n)).setCell ⟨w.heap.size,2,none⟩ (.string z.s)) rfl (by rfl) (by kernel_rfl) rfl ?hrunS7 rfl ⟨kbE (((D.B5.other _ ac).other _ ac).other _ ac) (((D.B6.other _ ad).other _ ad).other _ ad),(((Q.other _ O).other _ O).other _ O).cell 0,(((Q.other _ O).other _ O).other _ O).cell 1⟩ ?_
   case hrunS7=>simp[execOp,go_sem,N,r1,r2,f0,f1,f2]
   refine wdQ ?_;obtain⟨W9,ax⟩:=Nq (((wx.setCell ⟨w.heap.size,0,none⟩ (J6 z.k)).setCell ⟨w.heap.size,1,none⟩ (J6 z.n)).setCell ⟨w.heap.size,2,none⟩ (.string z.s));have ae:=(((D.R.set 0 (J6 z.k)).set 1 (J6 z.n)).set 2 (.string z.s));have ah:=h_ (D.rw.out (J6 z.k) (J6 z.n) (.string z.s));rw[ax]at ae ah⊢;obtain⟨k0,k1,k2⟩:=kag ae;go_wp2;exact bQ ⟨rfl,ah⟩
 have n6:=nq h6;by_cases t:E=10
 . subst t
   go_wp2_with fail;refine(q3k _ _ p.n d.n P g.V5 g.V6 (by have:=C.u;omega) (by have:=I.u;omega)).mono ?_;rintro h H ⟨rfl,a⟩;have e:=h_ (g.mono a);obtain⟨⟨y,A⟩,-⟩:=two e.B5;obtain⟨⟨K,L⟩,-⟩:=two e.B6;by_cases F:p.n<d.n
   . rw[Ye F]
     go_wp2_with fail;have q:=h_ e.rw;refine(kbo z (by rw[<- l.u];simp[kcv,show ¬ p.n=d.n by omega]) _).mono ?_;exact exS q
   . rw[Yd F]
     go_wp2_with fail;refine(q3k _ _ d.n p.n H e.V6 e.V5 (by have:=I.u;omega) (by have:=C.u;omega)).mono ?_;rintro h w4 ⟨rfl,a⟩;have x:=h_ (e.mono a);obtain⟨⟨y,A⟩,-⟩:=two x.B5;obtain⟨⟨K,L⟩,-⟩:=two x.B6;go_wp2_with fail;have q:=h_ x.rw;refine(kbo z (by rw[<- l.u];simp only[kcv];congr 1;rw[<- decide_not,decide_eq_decide];omega) _).mono ?_;exact exS q
 have aR:=nq t;by_cases D:E=11
 . subst D
   go_wp2_with fail;refine(q3k _ _ p.n d.n P g.V5 g.V6 (by have:=C.u;omega) (by have:=I.u;omega)).mono ?_;rintro h H ⟨rfl,a⟩;have e:=h_ (g.mono a);obtain⟨⟨y,A⟩,-⟩:=two e.B5;obtain⟨⟨K,L⟩,-⟩:=two e.B6;by_cases F:p.n<d.n
   . rw[Ye F]
     go_wp2_with fail;have q:=h_ e.rw;refine(kbo z (by rw[<- l.u];simp[kcv,show ¬ p.n=d.n by omega]) _).mono ?_;exact exS q
   . rw[Yd F]
     go_wp2_with fail;refine(q3k _ _ d.n p.n H e.V6 e.V5 (by have:=I.u;omega) (by have:=C.u;omega)).mono ?_;rintro h w4 ⟨rfl,a⟩;have x:=h_ (e.mono a);obtain⟨⟨y,A⟩,-⟩:=two x.B5;obtain⟨⟨K,L⟩,-⟩:=two x.B6;go_wp2_with fail;have q:=h_ x.rw;refine(kbo z (by rw[<- l.u];simp only[kcv];congr 1;rw[decide_eq_decide];omega) _).mono ?_;exact exS q
 have aS:=nq D;by_cases x:E=12
 . subst x
   go_wp2_with fail;refine(q3k _ _ p.n d.n P g.V5 g.V6 (by have:=C.u;omega) (by have:=I.u;omega)).mono ?_;rintro h H ⟨rfl,a⟩;have e:=h_ (g.mono a);obtain⟨⟨y,A⟩,-⟩:=two e.B5;obtain⟨⟨K,L⟩,-⟩:=two e.B6;go_wp2_with fail;have q:=h_ e.rw;refine(kbo z (by rw[<- l.u];simp[kcv]) _).mono ?_;exact exS q
 have aT:=nq x;by_cases O:E=13
 . subst O
   go_wp2_with fail;refine(q3k _ _ d.n p.n P g.V6 g.V5 (by have:=I.u;omega) (by have:=C.u;omega)).mono ?_;rintro h H ⟨rfl,a⟩;have e:=h_ (g.mono a);obtain⟨⟨y,A⟩,-⟩:=two e.B5;obtain⟨⟨K,L⟩,-⟩:=two e.B6;go_wp2_with fail;have q:=h_ e.rw;refine(kbo z (by rw[<- l.u];simp only[kcv];congr 1;rw[<- decide_not,decide_eq_decide];omega) _).mono ?_;exact exS q
 have aU:=nq O;by_cases Q:E=17
 . subst Q
   go_wp2_with fail;refine(q3k _ _ p.n d.n P g.V5 g.V6 (by have:=C.u;omega) (by have:=I.u;omega)).mono ?_;rintro h H ⟨rfl,a⟩;have e:=h_ (g.mono a);obtain⟨⟨y,A⟩,-⟩:=two e.B5;obtain⟨⟨K,L⟩,-⟩:=two e.B6;obtain⟨⟨N,r1,r2⟩,f0,f1,f2⟩:=e.rw.val;by_cases F:p.n<d.n
   . rw[Ye F]
     obtain⟨-,U,m1,V⟩:=e.c0;have j:Hi (p=z):=h_ (by rw[<- l.u];exact aG.trans (by simp[kcv,F]));go_wp2;exact bQ (v:=.agg (Jc p.k p.n p.s)) ⟨by rw[<- j.u],e.rw.out _ _ _⟩
   . rw[Yd F]
     obtain⟨-,U,m1,V⟩:=e.c1;have j:Hi (d=z):=h_ (by rw[<- l.u];exact au.trans (by simp[kcv,F]));go_wp2;exact bQ (v:=.agg (Jc d.k d.n d.s)) ⟨by rw[<- j.u],e.rw.out _ _ _⟩
 have aV:=nq Q;by_cases T:E=18
 . subst T
   go_wp2_with fail;refine(q3k _ _ p.n d.n P g.V5 g.V6 (by have:=C.u;omega) (by have:=I.u;omega)).mono ?_;rintro h H ⟨rfl,a⟩;have e:=h_ (g.mono a);obtain⟨⟨y,A⟩,-⟩:=two e.B5;obtain⟨⟨K,L⟩,-⟩:=two e.B6;obtain⟨⟨N,r1,r2⟩,f0,f1,f2⟩:=e.rw.val;by_cases F:p.n<d.n
   . rw[Ye F]
     obtain⟨-,U,m1,V⟩:=e.c1;have j:Hi (d=z):=h_ (by rw[<- l.u];exact au.trans (by simp[kcv,F]));go_wp2;exact bQ (v:=.agg (Jc d.k d.n d.s)) ⟨by rw[<- j.u],e.rw.out _ _ _⟩
   . rw[Yd F]
     obtain⟨-,U,m1,V⟩:=e.c0;have j:Hi (p=z):=h_ (by rw[<- l.u];exact aG.trans (by simp[kcv,F]));go_wp2;exact bQ (v:=.agg (Jc p.k p.n p.s)) ⟨by rw[<- j.u],e.rw.out _ _ _⟩
 have a:=nq T;have J:kax 1=z:=by rw[<- l.u];simp[kcv,h4,h7,h8,G,h6,t,D,x,O,Q,T]
 replace l:=h_ J;go_wp2_with fail;have q:=h_ g.rw;refine(kdk z l _).mono ?_;exact exS q
theorem V1 {b o m:Nat}{f:Nat->Vx}(d:kaF w (some ⟨b,o,none⟩) m f)(e:0<m):w.cell? ⟨b,o,none⟩=some (J6 (f 0).k)/\w.cell? ⟨b,o+1,none⟩=some (J6 (f 0).n)/\w.cell? ⟨b,o+2,none⟩=some (.string (f 0).s):=by
 obtain⟨g,h,c,-,a⟩:=kd6 d e;cases c;exact a
theorem V2 {b o m:Nat}{f:Nat->Vx}(i:Nat)(d:kaF w (some ⟨b,o,none⟩) m f)(g:i<m)(j:Nat)(e:o+i*3=j):w.cell? ⟨b,j,none⟩=some (J6 (f i).k)/\w.cell? ⟨b,j+1,none⟩=some (J6 (f i).n)/\w.cell? ⟨b,j+2,none⟩=some (.string (f i).s):=by
 subst e;obtain⟨h,l,c,-,a⟩:=d i g;cases c;exact a
theorem qqq {k n:Int}(a:kah k n s=true):s.size<=1000:=by
 by_cases b:k=3
 . exact kcQ (u:=⟨k,n,s⟩) a b
 . have:s.size=0:=by
    simp only[kah]at a
    repeat' split at a
    all_goals first | (simp at a;omega) | simp_all
   omega
theorem onK1 (d:Int)(a:To)(m c:Nat)(f:Nat->Vx)(z:Vx)(w:Tw)(o:ar d=m)(r:m=1∨m=2)(p:kaF w a m f)(i:∀b,b<m->kah (f b).k (f b).n (f b).s=true)(j:∀b,b<m->-9223372036854775808<=(f b).n/\(f b).n<=9223372036854775807)(h:kay f m 1=true)(q:R1 d m f=z) :
 Gv 181 (Jn d a m c) w (.agg (Jc z.k z.n z.s)):=by
 rcases r with rfl | rfl
 . obtain⟨b,l,rfl,g⟩:=kd6 p (by omega)
   exact qc5 d 1 c b l (f 0) (kbL 0) z w o (.inl rfl) g (fun e=>absurd e (by decide)) (j 0 (by omega)) ⟨by decide,by decide⟩ (kfC (i 0 (by omega)) (qn1 h (by omega))) (fun e=>absurd e (by decide)) (by simpa [R1] using q)
 . obtain⟨b,l,rfl,g,e⟩:=kf7 p (by omega)
   exact qc5 d 2 c b l (f 0) (f 1) z w o (.inr rfl) g (fun _=>e) (j 0 (by omega)) (j 1 (by omega)) (kfC (i 0 (by omega)) (qn1 h (by omega))) (fun _=>kfC (i 1 (by omega)) (qn1 h (by omega))) (by simpa [R1] using q)
theorem onK3 (d:Int)(a:To)(m c:Nat)(f:Nat->Vx)(z:Vx)(w:Tw)(g:ar d=m)(e:m=1∨m=2)(j:kaF w a m f)(i:∀b,b<m->kah (f b).k (f b).n (f b).s=true)(l:R3 d m f=z) :
 Gv 182 (Jn d a m c) w (.agg (Jc z.k z.n z.s)):=by
 subst l;exact q90 d a m c f w g e (fun b h=>qqq (i b h)) j
theorem onK2 (b:Int)(a:To)(m c:Nat)(f:Nat->Vx)(z:Vx)(w:Tw)(e:ar b=m)(d:m=1∨m=2)(h:kaF w a m f)(g:kay f m 2=true)(i:R2 b m f=z) :
 Gv 183 (Jn b a m c) w (.agg (Jc z.k z.n z.s)):=by
 subst i;exact q8z b a m c f w e d (qn1 g (by omega)) h
theorem q6l (p:Int)(a:To)(m c:Nat)(f:Nat->Vx)(w:Tw)(av:ar p=m)(aC:1<=m)(aD:m<=3)(hv:kaF w a m f)(ax:∀i,i<m->kah (f i).k (f i).n (f i).s=true)(hr:∀i,i<m->-9223372036854775808<=(f i).n/\(f i).n<=9223372036854775807) :
 Gv 151 (Jn p a m c) w (vv (apY p m f)):=by
 obtain⟨W0,aA,hR⟩:=RW.start w;obtain⟨j,I⟩:=Nq (apY p m f);rw[I];unfold vv;have aB:((m:Int)==0)=false:=nq (by omega);obtain⟨t,K,Y,ap,ao,aq⟩:=oF I av ax hr hR (hv.mono hR.B);go_enter func151,ntmps151;go_wp2_with fail;refine cQ (q83 p W0) fun w1 H=>?_;rw[H,K.u];go_wp2_with fail;refine cQ (q83 p W0) fun w1 H=>?_;rw[H,K.u];go_wp2;go_loopw [5] (fun i wr=>∃o:Nat,o<=m/\i=J6 o/\RW w wr/\kaF wr a m f) (fun i _=>m - (intOf i).toNat)
 case atStart=>exact⟨0,nZ _,rfl,ao,aq⟩
 case round =>
 obtain⟨o,F,rfl,hR,hV⟩:=hrel;obtain⟨e,b⟩:=oB hR hV;by_cases aj:o<m
 case pos =>
  have h:(o:Int)<m:=by omega
  obtain⟨au,r,rfl,-,q,c1,c2⟩:=b o aj;go_wp2_with fail;refine cQ (q30 (f o).k (f o).n (f o).s wr (Y5 (qqq (Y o aj)) (by omega))) fun l k=>?_;rw[Y.u o aj];obtain⟨d,g⟩:=oB (e.mono k) (b.mono k);go_wp2;go_roundw
  case rel=>exact⟨o+1,by omega,by go_num,d,g⟩
  case measure=>simp[intOf];omega
 case neg =>
 obtain rfl:o=m:=by omega
 obtain⟨l,rfl⟩:∃l,l=wr:=⟨_,rfl⟩;have e1:¬ (o:Int)<o:=by omega
 obtain⟨au,r,rfl,-⟩:=b 0 (by omega);obtain⟨q,c1,c2⟩:=V1 b (by omega);have Q:∀(i:Int) (d:Nat),p=i->ar i=d->o=d:=fun i d h E=>by have:=K.u;rw[h]at this;omega
 by_cases W:p=25
 . obtain rfl:=Q 25 1 W (by decide)
   subst W;go_wp2_with fail;refine(kbo j (by rw[<- t.u];simp[apY]) _).mono ?_;exact exS e
 have aI:=nq W;by_cases U:p=16
 . obtain rfl:=Q 16 3 U (by decide)
   subst U;obtain⟨x,d1,d2⟩:=V2 1 b (by omega) (r+3) (by omega);obtain⟨X,Z,g2⟩:=V2 2 b (by omega) (r+6) (by omega);have n:Hi (ifX (f 0) (f 1) (f 2)=j):=h_ (by rw[<- t.u];simp[apY]);by_cases z:(f 0).k=4
   . have T:((f 0).k==4)=true:=beq_iff_eq.2 z
     have d:Hi (f 0=j):=h_ (by rw[<- n.u,ifX,Yr (.inl z)]);obtain⟨⟨M,N,O⟩,A,C,L⟩:=e.val;go_wp2;exact bQ (v:=.agg (Jc (f 0).k (f 0).n (f 0).s)) ⟨by rw[<- d.u],e.u.out _ _ _⟩
   have T:=nq z;by_cases y:(f 0).k=0
   . have S:((f 0).k==0)=true:=beq_iff_eq.2 y
     have d:Hi (f 0=j):=h_ (by rw[<- n.u,ifX,Yr (.inr y)]);obtain⟨⟨M,N,O⟩,A,C,L⟩:=e.val;go_wp2;exact bQ (v:=.agg (Jc (f 0).k (f 0).n (f 0).s)) ⟨by rw[<- d.u],e.u.out _ _ _⟩
   have S:=nq y;have D:Hi (¬ ((f 0).k=4∨(f 0).k=0)):=h_ (by omega);obtain⟨qt,az⟩:∃g,kbg (f 0)=g:=⟨_,rfl⟩;obtain⟨qf,ay⟩:∃g,kdl (f 0)=g:=⟨_,rfl⟩;obtain⟨R,P⟩:=oB az ay;go_wp2_with fail;refine cQ (q5q (f 0) _) fun J k=>?_;rw[R.u];replace e:=h_ (e.mono k);replace b:=h_ (b.mono k);obtain⟨q,c1,c2⟩:=V1 b (by omega);obtain⟨x,d1,d2⟩:=V2 1 b (by omega) (r+3) (by omega);obtain⟨X,Z,g2⟩:=V2 2 b (by omega) (r+6) (by omega);cases qt
   case true =>
    have d:Hi (f 1=j):=h_ (by have:=R.u;simp[kbg]at this;rw[<- n.u,ifX,Yl D.u,Yr this]);obtain⟨⟨M,N,O⟩,A,C,L⟩:=e.val;go_wp2;exact bQ (v:=.agg (Jc (f 1).k (f 1).n (f 1).s)) ⟨by rw[<- d.u],e.u.out _ _ _⟩
   go_wp2_with fail;refine cQ (q3o (f 0) _) fun J k=>?_;rw[P.u];replace e:=h_ (e.mono k);replace b:=h_ (b.mono k);obtain⟨q,c1,c2⟩:=V1 b (by omega);obtain⟨x,d1,d2⟩:=V2 1 b (by omega) (r+3) (by omega);obtain⟨X,Z,g2⟩:=V2 2 b (by omega) (r+6) (by omega);have V:Hi (¬ ((f 0).k=2/\(f 0).n=1)):=h_ fun h=>by have:=R.u;simp[kbg,h]at this
   cases qf
   case true =>
    have d:Hi (f 2=j):=h_ (by have:=P.u;simp[kdl]at this;rw[<- n.u,ifX,Yl D.u,Yl V.u,Yr this]);obtain⟨⟨M,N,O⟩,A,C,L⟩:=e.val;go_wp2;exact bQ (v:=.agg (Jc (f 2).k (f 2).n (f 2).s)) ⟨by rw[<- d.u],e.u.out _ _ _⟩
   have G:Hi (kax 1=j):=h_ (by
    rw[<- n.u,ifX,Yl D.u,Yl V.u,Yl];intro h;have:=P.u;simp[kdl,h]at this)
   go_wp2_with fail;refine(kdk j G _).mono ?_;exact exS e
 have aF:=nq U;by_cases V:p=19
 . obtain rfl:=Q 19 2 V (by decide)
   subst V;obtain⟨x,d1,d2⟩:=V2 1 b (by omega) (r+3) (by omega);obtain⟨⟨M,N,O⟩,A,C,L⟩:=e.val;have n:Hi (kdp (f 0) (f 1)=j):=h_ (by rw[<- t.u];simp[apY]);by_cases y:(f 0).k=0
   . have S:((f 0).k==0)=true:=beq_iff_eq.2 y
     have d:Hi (f 1=j):=h_ (by rw[<- n.u,kdp,Yr y]);go_wp2;exact bQ (v:=.agg (Jc (f 1).k (f 1).n (f 1).s)) ⟨by rw[<- d.u],e.u.out _ _ _⟩
   . have S:=nq y
     have d:Hi (f 0=j):=h_ (by rw[<- n.u,kdp,Yl y]);go_wp2;exact bQ (v:=.agg (Jc (f 0).k (f 0).n (f 0).s)) ⟨by rw[<- d.u],e.u.out _ _ _⟩
 have aG:=nq V;have an:Hi (∀i,i<o->(∀h,h<i->¬ (f h).k=4)->(f i).k=4->f i=j):=h_ fun i D P z=>by
  have E:=q7r D P z;rw[<- t.u];simp only[apY,W,U,V,if_false,kaX,kbD,E,ite_self]
 go_wp2;go_loopw [6] (fun i wr=>∃g:Nat,g<=o/\i=J6 g/\(∀h,h<g->¬ (f h).k=4)/\wr=l) (fun i _=>o - (intOf i).toNat)
 case atStart=>exact⟨0,nZ _,rfl,fun h D=>absurd D (nL _),rfl⟩
 case round =>
 obtain⟨g,hq,rfl,aw,rfl⟩:=hrel;have ad:=h_ aw;by_cases al:g<o
 case pos =>
  have P:(g:Int)<o:=by omega
  obtain⟨q,c1,c2⟩:=V2 g b al _ rfl;by_cases z:(f g).k=4
  . have d:=h_ (an g al ad z)
    have T:((f g).k==4)=true:=beq_iff_eq.2 z;obtain⟨⟨M,N,O⟩,A,C,L⟩:=e.val;go_wp2;exact bQ (v:=.agg (Jc (f g).k (f g).n (f g).s)) ⟨by rw[<- d.u],e.u.out _ _ _⟩
  . have T:=nq z
    have M:Hi (∀h,h<g+1->¬ (f h).k=4):=h_ fun h D=>by
     by_cases E:h=g
     . rw[E];exact z
     . exact ad h (by omega)
    go_wp2;go_roundw
    case rel=>exact⟨g+1,by omega,by go_num,M,trivial⟩
    case measure=>simp[intOf];omega
 case neg =>
 obtain rfl:g=o:=by omega
 obtain⟨l,rfl⟩:∃l,l=wr:=⟨_,rfl⟩;obtain⟨q,c1,c2⟩:=V1 b (by omega);have X:=h_ (q7q ad);by_cases ac:p=24
 . obtain rfl:=Q 24 1 ac (by decide)
   subst ac;go_wp2_with fail;refine(kbo j (by rw[<- t.u];simp[apY,kaX,X.u]) _).mono ?_;exact exS e
 have aH:=nq ac;by_cases Z:p=14
 . obtain rfl:=Q 14 2 Z (by decide)
   subst Z;have n:Hi (kd5 (f 0) (f 1)=j):=h_ (by rw[<- t.u];simp[apY,kaX,X.u]);go_wp2;go_loopw [7] (fun i wr=>∃d:Nat,d<=2/\i=J6 d/\(∀h,h<d->¬ (f h).k=1/\¬ (f h).k=3)/\wr=l) (fun i _=>2 - (intOf i).toNat)
   case atStart=>exact⟨0,by omega,rfl,fun h D=>absurd D (nL _),rfl⟩
   case round =>
   obtain⟨d,hr,rfl,ak,rfl⟩:=hrel;have L:=h_ ak;by_cases R:d<2
   case pos =>
    have am:(d:Int)<2:=(by omega);obtain⟨q,c1,c2⟩:=V2 d b R _ rfl;by_cases F:(f d).k=1∨(f d).k=3
    . have G:Hi (kax 1=j):=h_ (by rw[<- n.u,kd5,Yr (by have:d=0∨d=1:=(by omega);rcases this with rfl | rfl <;> (rcases F with F | F <;> simp[F]))])
      by_cases P:(f d).k=1
      . have T:((f d).k==1)=true:=beq_iff_eq.2 P
        go_wp2_with fail;refine(kdk j G _).mono ?_;exact exS e
      . have T:=nq P
        have ae:((f d).k==3)=true:=beq_iff_eq.2 (by omega);go_wp2_with fail;refine(kdk j G _).mono ?_;exact exS e
    . have T:((f d).k==1)=false:=nq (by omega)
      have ae:((f d).k==3)=false:=nq (by omega);have M:Hi (∀h,h<d+1->¬ (f h).k=1/\¬ (f h).k=3):=h_ fun h D=>by
       by_cases E:h=d
       . rw[E];omega
       . exact L h (by omega)
      go_wp2;go_roundw
      case rel=>exact⟨d+1,by omega,by go_num,M,trivial⟩
      case measure=>simp[intOf];omega
   case neg =>
   obtain rfl:d=2:=by omega
   obtain⟨l,rfl⟩:∃l,l=wr:=⟨_,rfl⟩;have z:Hi (¬ ((f 0).k=1∨(f 0).k=3∨(f 1).k=1∨(f 1).k=3)):=h_ (by have:=L 0 (by omega);have:=L 1 (by omega);omega);obtain⟨q,c1,c2⟩:=V1 b (by omega);obtain⟨x,d1,d2⟩:=V2 1 b (by omega) (r+3) (by omega);obtain⟨a0,af⟩:∃g,kdl (f 0)=g:=⟨_,rfl⟩;have A:=h_ af;obtain⟨a1,ag⟩:∃g,kdl (f 1)=g:=⟨_,rfl⟩;have C:=h_ ag;obtain⟨b0,ah⟩:∃g,kbg (f 0)=g:=⟨_,rfl⟩;have N:=h_ ah;obtain⟨b1,ai⟩:∃g,kbg (f 1)=g:=⟨_,rfl⟩;have O:=h_ ai;go_wp2_with fail;refine cQ (q3o (f 0) _) fun J k=>?_;rw[A.u];replace e:=h_ (e.mono k);replace b:=h_ (b.mono k);obtain⟨q,c1,c2⟩:=V1 b (by omega);obtain⟨x,d1,d2⟩:=V2 1 b (by omega) (r+3) (by omega);cases a0
   case true =>
    go_wp2_with fail;refine(kbo j (by rw[<- n.u,kd5,Yl z.u];simp[A.u]) _).mono ?_;exact exS e
   go_wp2_with fail;refine cQ (q3o (f 1) _) fun J k=>?_;rw[C.u];replace e:=h_ (e.mono k);replace b:=h_ (b.mono k);obtain⟨q,c1,c2⟩:=V1 b (by omega);obtain⟨x,d1,d2⟩:=V2 1 b (by omega) (r+3) (by omega);cases a1
   case true =>
    go_wp2_with fail;refine(kbo j (by rw[<- n.u,kd5,Yl z.u];simp[C.u]) _).mono ?_;exact exS e
   go_wp2_with fail;refine cQ (q5q (f 0) _) fun J k=>?_;rw[N.u];replace e:=h_ (e.mono k);replace b:=h_ (b.mono k);obtain⟨q,c1,c2⟩:=V1 b (by omega);obtain⟨x,d1,d2⟩:=V2 1 b (by omega) (r+3) (by omega);cases b0
   case false =>
    go_wp2_with fail;refine(kcw j (by rw[<- n.u,kd5,Yl z.u];simp[A.u,C.u,N.u]) _).mono ?_;exact exS e
   go_wp2_with fail;refine cQ (q5q (f 1) _) fun J k=>?_;rw[O.u];replace e:=h_ (e.mono k);replace b:=h_ (b.mono k);obtain⟨q,c1,c2⟩:=V1 b (by omega);obtain⟨x,d1,d2⟩:=V2 1 b (by omega) (r+3) (by omega);cases b1
   case false =>
    go_wp2_with fail;refine(kcw j (by rw[<- n.u,kd5,Yl z.u];simp[A.u,C.u,O.u]) _).mono ?_;exact exS e
   go_wp2_with fail;refine(kbo j (by rw[<- n.u,kd5,Yl z.u];simp[A.u,C.u,N.u,O.u]) _).mono ?_;exact exS e
 have aE:=nq Z;by_cases aa:p=15
 . obtain rfl:=Q 15 2 aa (by decide)
   subst aa;have n:Hi (orX (f 0) (f 1)=j):=h_ (by rw[<- t.u];simp[apY,kaX,X.u]);go_wp2;go_loopw [7] (fun i wr=>∃d:Nat,d<=2/\i=J6 d/\(∀h,h<d->¬ (f h).k=1/\¬ (f h).k=3)/\wr=l) (fun i _=>2 - (intOf i).toNat)
   case atStart=>exact⟨0,by omega,rfl,fun h D=>absurd D (nL _),rfl⟩
   case round =>
   obtain⟨d,hr,rfl,ak,rfl⟩:=hrel;have L:=h_ ak;by_cases R:d<2
   case pos =>
    have am:(d:Int)<2:=(by omega);obtain⟨q,c1,c2⟩:=V2 d b R _ rfl;by_cases F:(f d).k=1∨(f d).k=3
    . have G:Hi (kax 1=j):=h_ (by rw[<- n.u,orX,Yr (by have:d=0∨d=1:=(by omega);rcases this with rfl | rfl <;> (rcases F with F | F <;> simp[F]))])
      by_cases P:(f d).k=1
      . have T:((f d).k==1)=true:=beq_iff_eq.2 P
        go_wp2_with fail;refine(kdk j G _).mono ?_;exact exS e
      . have T:=nq P
        have ae:((f d).k==3)=true:=beq_iff_eq.2 (by omega);go_wp2_with fail;refine(kdk j G _).mono ?_;exact exS e
    . have T:((f d).k==1)=false:=nq (by omega)
      have ae:((f d).k==3)=false:=nq (by omega);have M:Hi (∀h,h<d+1->¬ (f h).k=1/\¬ (f h).k=3):=h_ fun h D=>by
       by_cases E:h=d
       . rw[E];omega
       . exact L h (by omega)
      go_wp2;go_roundw
      case rel=>exact⟨d+1,by omega,by go_num,M,trivial⟩
      case measure=>simp[intOf];omega
   case neg =>
   obtain rfl:d=2:=by omega
   obtain⟨l,rfl⟩:∃l,l=wr:=⟨_,rfl⟩;have z:Hi (¬ ((f 0).k=1∨(f 0).k=3∨(f 1).k=1∨(f 1).k=3)):=h_ (by have:=L 0 (by omega);have:=L 1 (by omega);omega);obtain⟨q,c1,c2⟩:=V1 b (by omega);obtain⟨x,d1,d2⟩:=V2 1 b (by omega) (r+3) (by omega);obtain⟨a0,af⟩:∃g,kbg (f 0)=g:=⟨_,rfl⟩;have A:=h_ af;obtain⟨a1,ag⟩:∃g,kbg (f 1)=g:=⟨_,rfl⟩;have C:=h_ ag;obtain⟨b0,ah⟩:∃g,kdl (f 0)=g:=⟨_,rfl⟩;have N:=h_ ah;obtain⟨b1,ai⟩:∃g,kdl (f 1)=g:=⟨_,rfl⟩;have O:=h_ ai;go_wp2_with fail;refine cQ (q5q (f 0) _) fun J k=>?_;rw[A.u];replace e:=h_ (e.mono k);replace b:=h_ (b.mono k);obtain⟨q,c1,c2⟩:=V1 b (by omega);obtain⟨x,d1,d2⟩:=V2 1 b (by omega) (r+3) (by omega);cases a0
   case true =>
    go_wp2_with fail;refine(kbo j (by rw[<- n.u,orX,Yl z.u];simp[A.u]) _).mono ?_;exact exS e
   go_wp2_with fail;refine cQ (q5q (f 1) _) fun J k=>?_;rw[C.u];replace e:=h_ (e.mono k);replace b:=h_ (b.mono k);obtain⟨q,c1,c2⟩:=V1 b (by omega);obtain⟨x,d1,d2⟩:=V2 1 b (by omega) (r+3) (by omega);cases a1
   case true =>
    go_wp2_with fail;refine(kbo j (by rw[<- n.u,orX,Yl z.u];simp[C.u]) _).mono ?_;exact exS e
   go_wp2_with fail;refine cQ (q3o (f 0) _) fun J k=>?_;rw[N.u];replace e:=h_ (e.mono k);replace b:=h_ (b.mono k);obtain⟨q,c1,c2⟩:=V1 b (by omega);obtain⟨x,d1,d2⟩:=V2 1 b (by omega) (r+3) (by omega);cases b0
   case false =>
    go_wp2_with fail;refine(kcw j (by rw[<- n.u,orX,Yl z.u];simp[A.u,C.u,N.u]) _).mono ?_;exact exS e
   go_wp2_with fail;refine cQ (q3o (f 1) _) fun J k=>?_;rw[O.u];replace e:=h_ (e.mono k);replace b:=h_ (b.mono k);obtain⟨q,c1,c2⟩:=V1 b (by omega);obtain⟨x,d1,d2⟩:=V2 1 b (by omega) (r+3) (by omega);cases b1
   case false =>
    go_wp2_with fail;refine(kcw j (by rw[<- n.u,orX,Yl z.u];simp[A.u,C.u,O.u]) _).mono ?_;exact exS e
   go_wp2_with fail;refine(kbo j (by rw[<- n.u,orX,Yl z.u];simp[A.u,C.u,N.u,O.u]) _).mono ?_;exact exS e
 have J:=nq aa;have I:kbD f g (R1 p g f) (R3 p g f) (R2 p g f)=j:=by rw[<- t.u];simp[apY,W,U,V,ac,Z,aa]
 simp only[kbD,X.u]at I;replace t:=h_ I;have n:Hi (g=1∨g=2):=h_ (by have:=K.u;have:=kf8 p;omega);go_wp2;go_loopw [8] (fun i wr=>∃d:Nat,d<=g/\i=J6 d/\(∀h,h<d->¬ (f h).k=0)/\wr=l) (fun i _=>g - (intOf i).toNat)
 case atStart=>exact⟨0,nZ _,rfl,fun h D=>absurd D (nL _),rfl⟩
 case round =>
 obtain⟨d,hr,rfl,A,rfl⟩:=hrel;have x:=h_ A;by_cases R:d<g
 case pos =>
  have am:(d:Int)<g:=by omega
  obtain⟨q,c1,c2⟩:=V2 d b R _ rfl;by_cases y:(f d).k=0
  . have G:Hi (kak=j):=h_ (by rw[<- t.u,qib R y];rfl)
    have S:((f d).k==0)=true:=beq_iff_eq.2 y;go_wp2_with fail;refine(kcw j G _).mono ?_;exact exS e
  . have S:=nq y
    have M:Hi (∀h,h<d+1->¬ (f h).k=0):=h_ fun h D=>by
     by_cases E:h=d
     . rw[E];exact y
     . exact x h (by omega)
    go_wp2;go_roundw
    case rel=>exact⟨d+1,by omega,by go_num,M,trivial⟩
    case measure=>simp[intOf];omega
 case neg =>
 obtain rfl:d=g:=by omega
 obtain⟨l,rfl⟩:∃l,l=wr:=⟨_,rfl⟩;have I:=t.u;rw[qn8 x.u]at I;simp only[Bool.false_eq_true,if_false]at I;replace t:=h_ I;obtain⟨C,P⟩:∃h,kay f d 1=h:=⟨_,rfl⟩;obtain⟨E,z⟩:∃h,kay f d 3=h:=⟨_,rfl⟩;obtain⟨D,y⟩:∃h,kay f d 2=h:=⟨_,rfl⟩;obtain⟨h,k,i⟩:=oC P z y;go_wp2_with fail;refine cQ (q3j _ d c f 1 l (by omega) b) fun w1 H=>?_;rw[H,h.u];cases C
 case true =>
  go_wp2_with fail;refine(onK1 p _ d c f j l K n b Y ap h (by rw[<- t.u];simp[h.u])).mono ?_;exact exS e
 go_wp2_with fail;refine cQ (q3j _ d c f 3 l (by omega) b) fun w1 H=>?_;rw[H,k.u];cases E
 case true =>
  go_wp2_with fail;refine(onK3 p _ d c f j l K n b Y (by rw[<- t.u];simp[h.u,k.u])).mono ?_;exact exS e
 go_wp2_with fail;refine cQ (q3j _ d c f 2 l (by omega) b) fun w1 H=>?_;rw[H,i.u];cases D
 case true =>
  go_wp2_with fail;refine(onK2 p _ d c f j l K n b i (by rw[<- t.u];simp[h.u,k.u,i.u])).mono ?_;exact exS e
 go_wp2_with fail;refine(kdk j (by rw[<- t.u];simp[h.u,k.u,i.u]) _).mono ?_;exact exS e
