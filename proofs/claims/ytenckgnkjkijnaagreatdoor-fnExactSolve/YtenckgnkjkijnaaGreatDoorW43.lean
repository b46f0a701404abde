import Derived.Test.YtenckgnkjkijnaaGreatDoorW41
import Derived.Test.YtenckgnkjkijnaaGreatDoorW28
import Derived.Test.YtenckgnkjkijnaaGreatDoorW42
set_option maxRecDepth 100000
set_option maxHeartbeats 64000000
namespace Go.Proofs.YtenckgnkjkijnaaGreatDoor
open Go Go.RowKit Go.Proofs.Tryz
variable {w W:Tw}{n:Nat}{t e:TypeId}{v u:Value}{x:Tl}{a:To}{l:List Nat}
structure SF where
 l:To
 nl:Nat
 lc:Nat
 p:To
 np:Nat
 pc:Nat
 r:To
 nr:Nat
 rc:Nat
 f:To
 nf:Nat
 fc:Nat
 mp:Option Nat
 N:Int
 a1:To
 s1:Nat
 c1:Nat
 a2:To
 s2:Nat
 c2:Nat
 a3:To
 s3:Nat
 c3:Nat
 bot:Int
 top:Int
 lb:To
 n5:Nat
 c5:Nat
def sfV (S:SF):Value:=.agg #[.slice S.l S.nl S.lc,.slice S.p S.np S.pc,.slice S.r S.nr S.rc,.slice S.f S.nf S.fc,.map S.mp,.int .i64 S.N,.slice S.a1 S.s1 S.c1,.slice S.a2 S.s2 S.c2,.slice S.a3 S.s3 S.c3,.int .i64 S.bot,.int .i64 S.top,.slice S.lb S.n5 S.c5]
def sf0:SF:=⟨none,0,0,none,0,0,none,0,0,none,0,0,none,0,none,0,0,none,0,0,none,0,0,0,0,none,0,0⟩
theorem kb2 {b:Nat}{e f g h i j k l c d:Value}(a:Blk w b t [v,u,e,f,g,h,i,j,k,l,c,d]) :
 (w.cell? ⟨b,0,none⟩=some v/\w.cell? ⟨b,1,none⟩=some u/\w.cell? ⟨b,2,none⟩=some e/\w.cell? ⟨b,3,none⟩=some f/\w.cell? ⟨b,4,none⟩=some g/\w.cell? ⟨b,5,none⟩=some h/\w.cell? ⟨b,6,none⟩=some i/\w.cell? ⟨b,7,none⟩=some j/\w.cell? ⟨b,8,none⟩=some k/\w.cell? ⟨b,9,none⟩=some l/\w.cell? ⟨b,10,none⟩=some c/\w.cell? ⟨b,11,none⟩=some d)/\(w.frozen? ⟨b,0,none⟩=false/\w.frozen? ⟨b,1,none⟩=false/\w.frozen? ⟨b,2,none⟩=false/\w.frozen? ⟨b,3,none⟩=false/\w.frozen? ⟨b,4,none⟩=false/\w.frozen? ⟨b,5,none⟩=false/\w.frozen? ⟨b,6,none⟩=false/\w.frozen? ⟨b,7,none⟩=false/\w.frozen? ⟨b,8,none⟩=false/\w.frozen? ⟨b,9,none⟩=false/\w.frozen? ⟨b,10,none⟩=false/\w.frozen? ⟨b,11,none⟩=false) :=
 ⟨⟨a.cell 0,a.cell 1,a.cell 2,a.cell 3,a.cell 4,a.cell 5,a.cell 6,a.cell 7,a.cell 8,a.cell 9,a.cell 10,a.cell 11⟩,⟨a.free 0,a.free 1,a.free 2,a.free 3,a.free 4,a.free 5,a.free 6,a.free 7,a.free 8,a.free 9,a.free 10,a.free 11⟩⟩
theorem q75 {B R:Nat}{w':Tw}(n:Below B w w')(a:B<=R)(b c f g h i j k l m d e:Value):Below B w ((((((((((((w'.setCell ⟨R,0,none⟩ b).setCell ⟨R,1,none⟩ c).setCell ⟨R,2,none⟩ f).setCell ⟨R,3,none⟩ g).setCell ⟨R,4,none⟩ h).setCell ⟨R,5,none⟩ i).setCell ⟨R,6,none⟩ j).setCell ⟨R,7,none⟩ k).setCell ⟨R,8,none⟩ l).setCell ⟨R,9,none⟩ m).setCell ⟨R,10,none⟩ d).setCell ⟨R,11,none⟩ e) :=
 ((((((((((((n.setCell (p:=⟨R,0,none⟩) a b).setCell (p:=⟨R,1,none⟩) a c).setCell (p:=⟨R,2,none⟩) a f).setCell (p:=⟨R,3,none⟩) a g).setCell (p:=⟨R,4,none⟩) a h).setCell (p:=⟨R,5,none⟩) a i).setCell (p:=⟨R,6,none⟩) a j).setCell (p:=⟨R,7,none⟩) a k).setCell (p:=⟨R,8,none⟩) a l).setCell (p:=⟨R,9,none⟩) a m).setCell (p:=⟨R,10,none⟩) a d).setCell (p:=⟨R,11,none⟩) a e)
def kfV (m:Fm)(A:MA)(n:Nat)(F:Nat->Bool)(f:Nat->Nat)(S:SF)(W:Tw):Prop :=
 ∃b bt top a1 a2 a3 c1 c2 c3 a5 c5,S=⟨A.l,n,A.lc,A.p,m.P.length,A.pc,A.r,m.R.length,A.rc,A.f,m.F.length,A.fc,some b,n,a1,n*n,c1,a2,n*n,c2,a3,n*n,c3,bt,top,a5,m.F.length,c5⟩/\kbR W b (kaa m)/\ka1 W a1 (n*n) F/\Plc W a5 (lsL f m.F.length)
theorem qdw {lo hi:Nat}{F:Nat->Bool}(d:Out lo hi w W)(j:ka1 w a n F)(l:∀c e b,lo<=c->c<hi->w.cell? ⟨c,e,none⟩≠some (.bool b)):ka1 W a n F:=fun g c=>by
 obtain⟨b,h,i,f,e⟩:=j g c;refine⟨b,h,i,Yn f d.size,?_⟩;have k:¬ (lo<=b/\b<hi):=fun c=>l b (h+g) _ c.1 c.2 e;rw[<- e];simp only[World.cell?,d.block b f k]
theorem ql7 {lo hi b:Nat}{l:List Tb}(m:Out lo hi w W)(f:kbR w b l)(q:∀a,lo<=a->a<hi->∃d g e,w.heap[a]? = some (.cells d g e)):kbR W b l:=by
 have p:=World.ownsMap.lt f;obtain⟨k,i,a,h,r,n⟩:=f;have o:¬ (lo<=b/\b<hi):=fun c=>by
  obtain⟨d,g,e,j⟩:=q b c.1 c.2;rw[j]at a;cases a
 exact⟨k,i,(m.block b p o).trans a,h,r,n⟩
theorem qrc {lo hi base c:Nat}(e:Out lo hi w W)(d:w.ownsRow base 3 1 (.slice a n c) n (ui l))(j:hi<=base):Plc W a l:=by
 have f:=e.owns d (fun g b=>by have:=(d.lt g b).1;omega);obtain⟨h,i,b,-,g⟩:=q99 f;cases b;exact g
theorem kfW {s:Nat}{cs:Tl}(f:Blk w (s+1) t cs)(g:Blk w (s+2) e x)(k:∀a,Value.bool a ∉ cs)(k':∀a,Value.bool a ∉ x):∀b d a,s+1<=b->b<s+3->w.cell? ⟨b,d,none⟩≠some (.bool a):=fun b d a c c c=>by
 have:b=s+1∨b=s+2:=by omega
 rcases this with rfl | rfl
 . rw[f.cell d]at c
   exact k a (O8 c)
 . rw[g.cell d]at c
   exact k' a (O8 c)
theorem khc {s:Nat}{cs:Tl}(c:Blk w (s+1) t cs)(d:Blk w (s+2) e x):∀a,s+1<=a->a<s+3->∃cs t b,w.heap[a]? = some (.cells cs t b):=fun a b b=>by
 have:a=s+1∨a=s+2:=by omega
 rcases this with rfl | rfl
 . exact⟨_,_,_,c⟩
 . exact⟨_,_,_,d⟩
theorem qh3 (m:Fm)(A:MA)(w:Tw)(J:vfB m=false)(I:kbe m)(H:kev m A)(G:MSl w m A)(q:kbT w)(hy:TyW w)(K:Tab w) :
 Calls prog 66 #[mV m A] w fun z b=>z=.returned (.tuple #[sfV sf0,dgV 20 0])/\Below w.heap.size w b:=by
 have n:=h_ fun b (c:MSl b m A) (q:kbT b) (hy:TyW b)=>q6v m A b I H c q hy;obtain⟨h,i,j,k,ar,l,f,g,aa⟩:=A;unfold mV at n⊢;unfold wV at n;unfold sfV sf0;dsimp only at n⊢;obtain⟨r,c,d⟩:=oC (((Blk.new w 37 (Jb h m i j k ar l f g)).alloc (.cells Jd 125)).alloc (.cells Jm 110)) ((Blk.new (w.alloc (.cells (Jb h m i j k ar l f g) 37)) 125 Jd).alloc (.cells Jm 110)) (Blk.new ((w.alloc (.cells (Jb h m i j k ar l f g) 37)).alloc (.cells Jd 125)) 110 Jm);rw[Yp]at c;rw[Yp,Yp]at d;have b:=h_ ((((bR w.heap.size w).alloc (nR _) (.cells (Jb h m i j k ar l f g) 37)).alloc (by simp) (.cells Jd 125)).alloc (by simp;omega) (.cells Jm 110));obtain⟨u,y⟩:=Nq (((w.alloc (.cells (Jb h m i j k ar l f g) 37)).alloc (.cells Jd 125)).alloc (.cells Jm 110));have ae:u.heap.size=w.heap.size+3:=by rw[<- y];simp
 rw[y]at r c d b;obtain⟨D,E,F,Z⟩:=oD (G.mono b) (q.mono b) (hy.mono b) (K.mono b);have C:=h_ J;obtain⟨y0,y1,y2,y3⟩:=kaf r;go_enter func66,ntmps66;go_wp2_with fail;refine(n u D E F).mono ?_;rintro z x ⟨o | o,e⟩
 . obtain⟨-,rfl⟩:=o
   replace c:=mB c e;replace d:=mB d e;replace b:=mT b e;replace e:=(bR x.heap.size x).alloc (nR _) (.cells J0 121);replace c:=mB c e;replace d:=mB d e;replace b:=mT b e;obtain⟨⟨p0,p1,p2,p3,p4,p5,p6,p7,p8,p9,ag,ah⟩,⟨e0,e1,e2,e3,e4,e5,e6,e7,e8,e9,ac,ad⟩⟩:=kb2 c;obtain⟨⟨r0,r1⟩,⟨f0,f1⟩⟩:=kcs d;have s:=h_ ((((((((((((((c.set 0 J7).set 1 J7).set 2 J7).set 3 J7).set 4 (.map none)).set 5 (J6 0)).set 6 J7).set 7 J7).set 8 J7).set 9 (J6 0)).set 10 (J6 0)).set 11 J7).other (a:=⟨w.heap.size+2,0,none⟩) (J6 (20)) (by show _≠w.heap.size+2;omega)).other (a:=⟨w.heap.size+2,1,none⟩) (J6 (0)) (by show _≠w.heap.size+2;omega));simp only[Ya,Yb]at s;have t:=h_ ((((((((((((((d.other (a:=⟨w.heap.size+1,0,none⟩) J7 (by show _≠w.heap.size+1;omega)).other (a:=⟨w.heap.size+1,1,none⟩) J7 (by show _≠w.heap.size+1;omega)).other (a:=⟨w.heap.size+1,2,none⟩) J7 (by show _≠w.heap.size+1;omega)).other (a:=⟨w.heap.size+1,3,none⟩) J7 (by show _≠w.heap.size+1;omega)).other (a:=⟨w.heap.size+1,4,none⟩) (.map none) (by show _≠w.heap.size+1;omega)).other (a:=⟨w.heap.size+1,5,none⟩) (J6 0) (by show _≠w.heap.size+1;omega)).other (a:=⟨w.heap.size+1,6,none⟩) J7 (by show _≠w.heap.size+1;omega)).other (a:=⟨w.heap.size+1,7,none⟩) J7 (by show _≠w.heap.size+1;omega)).other (a:=⟨w.heap.size+1,8,none⟩) J7 (by show _≠w.heap.size+1;omega)).other (a:=⟨w.heap.size+1,9,none⟩) (J6 0) (by show _≠w.heap.size+1;omega)).other (a:=⟨w.heap.size+1,10,none⟩) (J6 0) (by show _≠w.heap.size+1;omega)).other (a:=⟨w.heap.size+1,11,none⟩) J7 (by show _≠w.heap.size+1;omega)).set 0 (J6 (20))).set 1 (J6 (0)));simp only[Ya,Yb]at t;have B:=h_ (((q75 b (show w.heap.size<=w.heap.size+1 by omega) J7 J7 J7 J7 (.map none) (J6 0) J7 J7 J7 (J6 0) (J6 0) J7).setCell (p:=⟨w.heap.size+2,0,none⟩) (by simp) (J6 (20))).setCell (p:=⟨w.heap.size+2,1,none⟩) (by simp) (J6 (0)));go_wp2_with fail;obtain⟨X,Y⟩:=(kcs t).1;obtain⟨L,M,P,Q,R,S,T,U,V,W,N,O⟩:=(kb2 s).1;exact bodyPost_ret (v:=.tuple #[.agg Jd,dgV (20) (0)]) (by simp[results,results66,go_sem,X,Y,L,M,P,Q,R,S,T,U,V,W,N,O]) rfl ⟨rfl,B⟩
 . exact absurd (o.1.symm.trans C) (by decide)
theorem qh4 (m:Fm)(A:MA)(w:Tw)(f:Int)(X:vfB m=true)(V:1<=f/\f<=4)(Z:kej m.L.length m.P.length (pr1 m) (pr2 m) f)(I:kbe m)(W:kev m A)(U:MSl w m A)(t:kbT w)(hy:TyW w)(Y:Tab w) :
 Calls prog 66 #[mV m A] w fun J b=>J=.returned (.tuple #[sfV sf0,dgV (10+f) 0])/\Below w.heap.size w b:=by
 have x:=h_ fun b (c:MSl b m A) (t:kbT b) (hy:TyW b)=>q6v m A b I W c t hy;have u:=h_ fun b r (c:MSl b m A) (t:Tab b)=>q23 m A r f b Z I c t;obtain⟨i,j,k,l,ar,n,g,h,ae⟩:=A;unfold mV at x⊢;unfold wV at x u;unfold kaM at u;unfold sfV sf0;dsimp only at x u⊢;obtain⟨B,d,e⟩:=oC (((Blk.new w 37 (Jb i m j k l ar n g h)).alloc (.cells Jd 125)).alloc (.cells Jm 110)) ((Blk.new (w.alloc (.cells (Jb i m j k l ar n g h) 37)) 125 Jd).alloc (.cells Jm 110)) (Blk.new ((w.alloc (.cells (Jb i m j k l ar n g h) 37)).alloc (.cells Jd 125)) 110 Jm);rw[Yp]at d;rw[Yp,Yp]at e;have c:=h_ ((((bR w.heap.size w).alloc (nR _) (.cells (Jb i m j k l ar n g h) 37)).alloc (by simp) (.cells Jd 125)).alloc (by simp;omega) (.cells Jm 110));obtain⟨E,H⟩:=Nq (((w.alloc (.cells (Jb i m j k l ar n g h) 37)).alloc (.cells Jd 125)).alloc (.cells Jm 110));have am:E.heap.size=w.heap.size+3:=by rw[<- H];simp
 rw[H]at B d e c;obtain⟨o,N,O,q⟩:=oD (U.mono c) (t.mono c) (hy.mono c) (Y.mono c);have M:=h_ X;obtain⟨y0,y1,y2,y3⟩:=kaf B;go_enter func66,ntmps66;go_wp2_with fail;refine(x E o N O).mono ?_;rintro J s ⟨z | z,b⟩
 . exact absurd (z.1.symm.trans M) (by decide)
 . obtain⟨-,r,rfl,-⟩:=z
   replace d:=mB d b;replace e:=mB e b;replace c:=mT c b;replace o:=h_ (o.mono b);replace q:=h_ (q.mono b);have y:=h_ (Blk.new s 121 #[.slice i m.L.length j,.slice k m.P.length l,.slice ar m.R.length n,.slice g m.F.length h,.map (some r)]);have b:=(bR s.heap.size s).alloc (nR _) (.cells #[.slice i m.L.length j,.slice k m.P.length l,.slice ar m.R.length n,.slice g m.F.length h,.map (some r)] 121);replace d:=mB d b;replace e:=mB e b;replace c:=mT c b;replace o:=h_ (o.mono b);replace q:=h_ (q.mono b);obtain⟨Q,S⟩:=Nq (s.alloc (.cells #[.slice i m.L.length j,.slice k m.P.length l,.slice ar m.R.length n,.slice g m.F.length h,.map (some r)] 121));obtain⟨ad,T⟩:=Nq s.heap.size;rw[S]at y d e c o q;rw[T]at y;obtain⟨z0,z1,z2,z3,z4⟩:=kaG y;go_wp2_with fail;refine cQ (u Q r o q) fun G b=>?_;replace d:=mB d b;replace e:=mB e b;replace c:=mT c b;replace b:=(bR G.heap.size G).alloc (nR _) (.cells #[J6 0,J7,J7,J7,J6 0,J6 0] 123);replace d:=mB d b;replace e:=mB e b;replace c:=mT c b;obtain⟨ai,aj⟩:=V;have ak:(f != 0)=true:=by have:f≠0:=(by omega);simpa using this
   obtain⟨⟨p0,p1,p2,p3,p4,p5,p6,p7,p8,p9,an,ao⟩,⟨e0,e1,e2,e3,e4,e5,e6,e7,e8,e9,ag,ah⟩⟩:=kb2 d;obtain⟨⟨r0,r1⟩,⟨f0,f1⟩⟩:=kcs e;have C:=h_ ((((((((((((((d.set 0 J7).set 1 J7).set 2 J7).set 3 J7).set 4 (.map none)).set 5 (J6 0)).set 6 J7).set 7 J7).set 8 J7).set 9 (J6 0)).set 10 (J6 0)).set 11 J7).other (a:=⟨w.heap.size+2,0,none⟩) (J6 (10+f)) (by show _≠w.heap.size+2;omega)).other (a:=⟨w.heap.size+2,1,none⟩) (J6 (0)) (by show _≠w.heap.size+2;omega));simp only[Ya,Yb]at C;have D:=h_ ((((((((((((((e.other (a:=⟨w.heap.size+1,0,none⟩) J7 (by show _≠w.heap.size+1;omega)).other (a:=⟨w.heap.size+1,1,none⟩) J7 (by show _≠w.heap.size+1;omega)).other (a:=⟨w.heap.size+1,2,none⟩) J7 (by show _≠w.heap.size+1;omega)).other (a:=⟨w.heap.size+1,3,none⟩) J7 (by show _≠w.heap.size+1;omega)).other (a:=⟨w.heap.size+1,4,none⟩) (.map none) (by show _≠w.heap.size+1;omega)).other (a:=⟨w.heap.size+1,5,none⟩) (J6 0) (by show _≠w.heap.size+1;omega)).other (a:=⟨w.heap.size+1,6,none⟩) J7 (by show _≠w.heap.size+1;omega)).other (a:=⟨w.heap.size+1,7,none⟩) J7 (by show _≠w.heap.size+1;omega)).other (a:=⟨w.heap.size+1,8,none⟩) J7 (by show _≠w.heap.size+1;omega)).other (a:=⟨w.heap.size+1,9,none⟩) (J6 0) (by show _≠w.heap.size+1;omega)).other (a:=⟨w.heap.size+1,10,none⟩) (J6 0) (by show _≠w.heap.size+1;omega)).other (a:=⟨w.heap.size+1,11,none⟩) J7 (by show _≠w.heap.size+1;omega)).set 0 (J6 (10+f))).set 1 (J6 (0)));simp only[Ya,Yb]at D;have K:=h_ (((q75 c (show w.heap.size<=w.heap.size+1 by omega) J7 J7 J7 J7 (.map none) (J6 0) J7 J7 J7 (J6 0) (J6 0) J7).setCell (p:=⟨w.heap.size+2,0,none⟩) (by simp) (J6 (10+f))).setCell (p:=⟨w.heap.size+2,1,none⟩) (by simp) (J6 (0)));go_wp2_with fail;obtain⟨k0,k1⟩:=(kcs D).1;obtain⟨j0,j1,j2,j3,j4,j5,j6,j7,j8,j9,aa,ac⟩:=(kb2 C).1;exact bodyPost_ret (v:=.tuple #[.agg Jd,dgV (10+f) (0)]) (by simp[results,results66,go_sem,k0,k1,j0,j1,j2,j3,j4,j5,j6,j7,j8,j9,aa,ac]) rfl ⟨rfl,K⟩
