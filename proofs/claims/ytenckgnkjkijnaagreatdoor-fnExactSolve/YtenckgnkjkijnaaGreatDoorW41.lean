import Derived.Test.YtenckgnkjkijnaaGreatDoorW40
import Derived.Test.YtenckgnkjkijnaaGreatDoorW36
set_option maxRecDepth 100000
set_option maxHeartbeats 64000000
namespace Go.Proofs.YtenckgnkjkijnaaGreatDoor
open Go Go.RowKit Go.Proofs.Tryz
variable {n k:Nat}{m:Fm}{f:Nat->Nat}
def kex (m:Fm)(n:Nat)(F:Nat->Bool)(f:Nat->Nat)(k j:Nat):Prop:=∀i,i<j->kcY m i k=true->F (f i*n+f k)=true
theorem q8x {F:Nat->Bool}(a:kex m n F f k m.F.length):¬ kcc m n F f k:=by
 rintro⟨-,e,d,c,b⟩;have:=a e d c;rw[b]at this;cases this
theorem q3s (m:Fm)(A:MA)(w:Tw)(ay top:Int)(s n x tp:Nat)(F:Nat->Bool)(aj M:Nat->Int)(hv:LbA m)(hz:ke4 m.L.length m.P.length (pr1 m) (pr2 m) s F aj M ay top)(Y:kcD m.L.length s s s F aj M ay top n x tp)(hf:kbe m)(ha:MSl w m A) :
 Calls prog 90 #[mV m A] w fun aA z=>∃c e,aA=.returned (J6 c)/\Sol m n (fun a b=>F (a*n+b)=true) e/\Low m n (fun a b=>F (a*n+b)=true) e/\Fst (kcc m n F e) m.F.length c/\Below w.heap.size w z:=by
 obtain⟨ae,aG,aF⟩:=oC (fun a=>q8f m A a hf) hz (fun a (d:MSl a m A)=>qr7 d);have hN:m.L.length=n:=by have:=Y.hN;omega
 have ad:=h_ fun a (C l o:To) (c1 c2 c3:Nat) (d:MSl a m A) (q:kbx a l s aj)=>q5x m A a m.L.length ay top s n x tp F aj M C l o c1 c2 c3 hv hf Y hN d q;have ac:=h_ fun a b c (q:b<m.F.length) (hk:c<m.F.length) (d:MSl a m A)=>qfw m A b c a q hk hf d;have hn:=Y.h32;have p:=Y.l1;have W:=Y.hb;subst p;subst W;have bi:=hv.nf;obtain⟨al,ak,Q,T,ar,am,af,O,bc⟩:=A;unfold mV at ae ad ac⊢;dsimp only at ae aF ad ac⊢;rw[hN]at ae ad ac aG;obtain⟨W0,bd,h,j⟩:=nw w 37 (Jv al n ak Q m T ar am af O);have i:=h_ (ha.mono j);obtain⟨y0,y1,y2,y3⟩:=kaf h;go_enter func90,ntmps90;go_wp2_with fail;refine cQ (ae W0) fun W2 d=>?_;replace h:=mB h d;replace i:=h_ (i.mono d);replace j:=mT j d;have aO:=h_ (aG W2 Q T (aF W2 i));go_wp2_with fail;refine aO.mono ?_;rintro aA K ⟨C,l,o,c1,c2,c3,rfl,ho,q,-,d⟩;replace h:=mB h d;replace i:=h_ (i.mono d);replace j:=mT j d;have v:=h_ (Blk.new K 123 (Ji n C (n*n) c1 l c2 o c3 (x:Int) top));have D:=(bR K.heap.size K).alloc (nR _) (.cells (Ji n C (n*n) c1 l c2 o c3 (x:Int) top) 123);obtain⟨W4,aU⟩:=Nq (K.alloc (.cells (Ji n C (n*n) c1 l c2 o c3 (x:Int) top) 123));rw[aU]at v D;replace h:=mB h D;replace i:=h_ (i.mono D);replace j:=mT j D;obtain⟨HO,aP⟩:=oB (ho.mono D) (ad W4 C l o c1 c2 c3 i (q.mono D));obtain⟨aH,hX⟩:=Nq K.heap.size;rw[hX]at v;obtain⟨⟨x0,x1,x2,x3,x4,x5⟩,-⟩:=kcH v;obtain⟨y0,y1,y2,y3⟩:=kaf h;go_wp2_with fail;refine aP.mono ?_;rintro aA W5 ⟨e,a0,c0,rfl,h1,h2,h3,d⟩;replace j:=mT j d;replace h:=mB h d;replace v:=mB v d;replace i:=h_ (i.mono d);replace HO:=h_ (HO.mono d);obtain⟨k,B,H3⟩:=oC h1 h2 h3;go_wp2_with fail;go_loopw [6] (fun a wr=>∃c:Nat,c<=m.F.length/\a=J6 c/\(∀b,b<c->¬ kcc m n F e b)/\Below W5.heap.size W5 wr) (fun a _=>m.F.length - (intOf a).toNat)
 case atStart=>exact⟨0,nZ _,rfl,(fun b y=>absurd y (nL _)),bR _ _⟩
 case round =>
  obtain⟨c,hk,rfl,a8,d⟩:=hrel;obtain⟨HN,aq⟩:=oB a8 d;have H:=mT j d;have ai:=mB h d;have aw:=h_ (i.mono d);have aK:W5.heap.size<=wr.heap.size:=d.size;by_cases E:c<m.F.length
  . have a6:(c:Int)<m.F.length:=by omega
    obtain⟨pb,G,p,⟨a9,-,-,z2,-⟩,-⟩:=aw.f c E;dsimp only at p;subst p;obtain⟨y0,y1,y2,y3⟩:=kaf ai;have ah:Hi ((fAt m c).lb=m.F[c].lb):=h_ (by rw[qoe E]);generalize m.F[c].lb=lb at *;by_cases bh:lb<0
    . have aI:¬ (0:Int)<=lb:=by omega
      have au:Hi (∀b,b<c+1->¬ kcc m n F e b):=h_ fun b q=>by
       by_cases V:b=c
       . subst V;rintro⟨y,-⟩;rw[ah.u]at y;omega
       . exact HN b (by omega)
      refine rQ ?_;exact⟨c+1,by omega,by go_num,au,aq⟩
    . have aI:(0:Int)<=lb:=by omega
      have a5:lb=((e c:Nat):Int):=(by have:=k.decl c E (by rw[ah.u];omega);rw[ah.u]at this;exact this.symm);have aQ:Hi (0<=(fAt m c).lb):=h_ (by rw[ah.u];exact aI);have aX:=k.lt c E;go_wp2_with fail;rw[a5]at z2;obtain⟨wx,aJ⟩:=Nq wr;rw[aJ]at z2 aq H ai aw aK a9;go_loopw [7] (fun a f=>∃b:Nat,b<=m.F.length/\a=J6 b/\kex m n F e c b/\Below wx.heap.size wx f) (fun a _=>m.F.length - (intOf a).toNat)
      case atStart=>exact⟨0,nZ _,rfl,(fun b y=>absurd y (nL _)),by rw[aJ];exact bR _ _⟩
      case round =>
       obtain⟨b,q,rfl,a7,d⟩:=hrel;obtain⟨aE,aN,aa⟩:=oC a7 d (aq.trans (d.mono aK));have aM:=mT H d;have J:=mB ai d;obtain⟨aS,ax,aR,aL⟩:=oD (aw.mono d) (v.mono aa v.lt) (HO.mono aa) (H3.mono aa);have zl:=qe2 d z2;by_cases an:b<m.F.length
       . have a4:(b:Int)<m.F.length:=by omega
         obtain⟨y0,y1,y2,y3⟩:=kaf J;have aW:=k.lt b an;have aC:=h_ (ac wr.drew b c an E (aS.mono (bR _ _).drew));obtain⟨g0,o0,e0,-,zk⟩:=aL.at b (by rw[qq1];exact an);rw[qq0]at zk;obtain⟨aZ,ba,bb,bf,bg⟩:=qfa aW aX hn;obtain⟨U,Z,e3,-,zj⟩:=aR _ aZ;go_wp2_with fail;subst e0;subst e3;have ag:Hi (∀a,F (e b*n+e c)=a->a=false->kcY m b c=true->Fst (kcc m n F e) m.F.length (c:Int)):=h_ fun a p W e3=>.inr ⟨c,E,rfl,⟨aQ,b,an,e3,p.trans W⟩,HN⟩;have I:Hi (∀a,F (e b*n+e c)=a->(kcY m b c=true->a=true)->kex m n F e c (b+1)):=h_ fun a p W a f ha=>by
          by_cases V:a=b
          . subst V;exact p.trans (W ha)
          . exact aE a (by omega) ha
         obtain⟨t,az⟩:=Nq (F (e b*n+e c));replace ag:=h_ (ag t az);replace I:=h_ (I t az);rw[az]at zj;generalize aY:e c=fk at *;generalize be:e b=X at *;have aD:=h_ aY;generalize X*n+fk=g at *;generalize X*n=q2 at *;obtain⟨aT,aV⟩:=Nq (kcY m b c);rw[aV]at aC ag I;refine wp_region_held_drew (S:=fun z=>Blk z w.heap.size 37 [.slice al n ak,.slice Q m.P.length T,.slice ar m.R.length am,.slice (some ⟨pb,G,none⟩) m.F.length O]/\Blk z aH 123 [J6 n,.slice (some ⟨U,Z,none⟩) (n*n) c1,.slice l (n*n) c2,.slice o (n*n) c3,J6 (x:Int),J6 top]/\z.cell? ⟨g0,o0+b,none⟩=some (J6 (X:Nat))/\z.cell? ⟨pb,G+c*9+2,none⟩=some (J6 (fk:Nat))/\z.cell? ⟨U,Z+g,none⟩=some (.bool t)) (by kernel_rfl) ⟨J,ax,zk,zl,zj⟩ (fun a=>?_);refine tkL 0 40 (.agg (Jv al n ak Q m T ar am (some ⟨pb,G,none⟩) O)) a ?_ (hy:=fun w f=>by obtain⟨r,g,q2,q3⟩:=kaf f.1;simp[execOp,go_sem,r,g,q2,q3]);refine tkA 1 a ?_;refine tkA 2 a ?_;refine cyY 3 43 aC fun N d=>?_;have d:=q36 d;replace a:Blk N w.heap.size 37 [.slice al n ak,.slice Q m.P.length T,.slice ar m.R.length am,.slice (some ⟨pb,G,none⟩) m.F.length O]/\Blk N aH 123 [J6 n,.slice (some ⟨U,Z,none⟩) (n*n) c1,.slice l (n*n) c2,.slice o (n*n) c3,J6 (x:Int),J6 top]/\N.cell? ⟨g0,o0+b,none⟩=some (J6 (X:Nat))/\N.cell? ⟨pb,G+c*9+2,none⟩=some (J6 (fk:Nat))/\N.cell? ⟨U,Z+g,none⟩=some (.bool t):=⟨J.mono d J.lt,ax.mono d ax.lt,qe2 d zk,qe2 d zl,qe2 d zj⟩;have aB:=mT aN d;have ao:=mT aM d;refine⟨a,?_⟩;refine kaS (by(first | simp only[Ya,Yb] | skip);rfl) (by(first | simp only[Ya,Yb] | skip);rfl) ?_;cases aT
         . skip
           refine tkL 4 44 (.bool false) a ?_;refine skL 5 45 a ?_;refine skL 6 46 a ?_;refine skL 7 47 a ?_;refine skL 8 48 a ?_;refine skL 9 49 a ?_;refine skL 10 50 a ?_;refine skL 11 51 a ?_;refine skL 12 52 a ?_;refine skL 13 53 a ?_;refine skL 14 54 a ?_;refine skL 15 55 a ?_;refine skL 16 56 a ?_;refine skL 17 57 a ?_;refine skL 18 58 a ?_;refine skL 19 59 a ?_;refine skL 20 60 a ?_;refine skL 21 61 a ?_;refine skL 22 62 a ?_;refine skL 23 63 a ?_;refine tkL 24 64 (.bool false) a ?_;refine wdQ ?_;have av:=h_ (I (fun y=>by cases y));go_wp2_with fail;have y:=aD.u;subst y;go_roundw
           case rel=>exact⟨b+1,by omega,by go_num,av,aB⟩
           case measure=>simp[intOf];omega
         . skip
           refine tkL 4 44 (.bool true) a ?_;refine tkA 5 a ?_;refine tkL 6 46 (.slice (some ⟨U,Z,none⟩) (n*n) c1) a ?_ (hy:=fun w f=>by have g:=f.2.1.cell 1;simp only[Yf,Yz]at g;simp[execOp,go_sem,g]);refine tkA 7 a ?_;refine tkA 8 a ?_;refine tkA 9 a ?_;refine tkL 10 50 (J6 X) a ?_ (hy:=fun w f=>by have r:=f.2.2.1;simp[execOp,go_sem,r]);refine tkA 11 a ?_;refine tkL 12 52 (J6 n) a ?_ (hy:=fun w f=>by have g:=f.2.1.cell 0;simp only[Yf]at g;simp[execOp,go_sem,g]);refine tkL 13 53 (J6 q2) a ?_ (hy:=fun w f=>by simp[execOp,go_sem];exact(IntWalk.i64_left _).trans ba);refine tkA 14 a ?_;refine tkL 15 55 (.slice (some ⟨pb,G,none⟩) m.F.length O) a ?_ (hy:=fun w f=>by obtain⟨r,g,q2,q3⟩:=kaf f.1;simp[execOp,go_sem,q3]);refine tkA 16 a ?_;refine tkA 17 a ?_;refine tkA 18 a ?_;refine tkL 19 59 (J6 fk) a ?_ (hy:=fun w f=>by have r:=f.2.2.2.1;simp[execOp,go_sem,r]);refine tkL 20 60 (J6 g) a ?_ (hy:=fun w f=>by simp[execOp,go_sem];exact(IntWalk.i64_left _).trans bb);refine tkA 21 a ?_;refine tkL 22 62 (.bool t) a ?_ (hy:=fun w f=>by have r:=f.2.2.2.2;simp[execOp,go_sem,r]);refine tkL 23 63 (.bool (!t)) a ?_;refine tkL 24 64 (.bool (!t)) a ?_;refine wdQ ?_;cases t
           . have f:=h_ (ag rfl rfl)
             go_wp2_with fail;go_ret
             first | exact⟨_,e,rfl,k,B,f,ao⟩ | exact⟨_,rfl,e,k,B,f,ao⟩ | exact⟨e,k,B,f,ao⟩
           . have av:=h_ (I (fun _=>rfl))
             go_wp2_with fail;have y:=aD.u;subst y;go_roundw
             case rel=>exact⟨b+1,by omega,by go_num,av,aB⟩
             case measure=>simp[intOf];omega
       . obtain rfl:b=m.F.length:=by omega
         have a4:¬ (m.F.length:Int)<(m.F.length:Int):=(by omega);have au:Hi (∀b,b<c+1->¬ kcc m n F e b):=h_ fun b q=>by
          by_cases V:b=c
          . subst V;exact q8x aE
          . exact HN b (by omega)
         obtain⟨y0,y1,y2,y3⟩:=kaf J;refine rQ ?_;exact⟨c+1,by omega,by go_num,au,aa⟩
  . obtain rfl:c=m.F.length:=by omega
    have a6:¬ (m.F.length:Int)<(m.F.length:Int):=(by omega);have f:Hi (Fst (kcc m n F e) m.F.length (-1)):=h_ (.inl ⟨rfl,HN⟩);obtain⟨y0,y1,y2,y3⟩:=kaf ai;go_wp2_with fail;go_ret
    first | exact⟨_,e,rfl,k,B,f,H⟩ | exact⟨_,rfl,e,k,B,f,H⟩ | exact⟨e,k,B,f,H⟩
abbrev dgV (c a:Int):Value:=.agg (Jr c a)
def kcK (m:Fm):Int:=((m.L.length+m.P.length+m.R.length:Nat):Int)
def kc7 (m:Fm)(n:Nat)(F:Nat->Bool)(c a:Int):Prop :=
 (∃z,0<=z/\Fst (fun k=>Rch m k k) m.F.length z/\c=15/\a=kcK m+z) ∨
 (Fst (fun k=>Rch m k k) m.F.length (-1)/\∃f z,Sol m n (fun a b=>F (a*n+b)=true) f/\Low m n (fun a b=>F (a*n+b)=true) f/\Fst (kcc m n F f) m.F.length z/\((0<=z/\c=16/\a=kcK m+z)∨(z<0/\c=0/\a=0)))
theorem kc7.one {F:Nat->Bool}{jn:Nat->Nat->Nat}(L:kb4 n (fun a b=>F (a*n+b)=true) jn k){c a p o:Int}(v:kc7 m n F c a)(w:kc7 m n F p o):c=p/\a=o:=by
 rcases v with ⟨r,D,g,rfl,rfl⟩ | ⟨g,t,r,A,B,C,x⟩ <;> rcases w with ⟨s,E,h,rfl,rfl⟩ | ⟨h,u,s,sX,sY,sZ,y⟩
 . rw[g.one h];exact⟨rfl,rfl⟩
 . have:=g.one h;omega
 . have:=g.one h;omega
 . have i:=qfy L A sX B sY
   have z:∀b,b<m.F.length->(kcc m n F t b ↔ kcc m n F u b):=fun b q=>by
    unfold kcc;refine⟨fun⟨f,e,d,l,j⟩=>⟨f,e,d,l,?_⟩,fun⟨f,e,d,l,j⟩=>⟨f,e,d,l,?_⟩⟩
    . rw[<- i e d,<- i b q];exact j
    . rw[i e d,i b q];exact j
   have b:r=s:=(C.iff z).one sZ;subst b;rcases x with ⟨f,rfl,rfl⟩ | ⟨f,rfl,rfl⟩ <;> rcases y with ⟨d,rfl,rfl⟩ | ⟨d,rfl,rfl⟩
   . exact⟨rfl,rfl⟩
   . omega
   . omega
   . exact⟨rfl,rfl⟩
theorem q09 (m:Fm)(A:MA)(z:Int)(w:Tw)(a:VfA m)(t:0<=z)(v:z<m.F.length) :
 Gv 96 #[mV m A,J6 z] w (J6 (kcK m+z)):=by
 obtain⟨g,h,i,j,ar,k,e,f,n⟩:=A;unfold mV;dsimp only;have o:=a.nl;have p:=a.np;have q:=a.nr;have r:=a.nf;have c:Hi ((m.L.length:Int)+m.P.length+m.R.length+z=kcK m+z):=h_ (by unfold kcK;omega);obtain⟨l,s,d,b⟩:=nw w 37 (Jb g m h i j ar k e f);obtain⟨x,y,B,C⟩:=kaf d;go_enter func96,ntmps96;go_wp2_with fail;go_ret;rw[c.u];exact⟨rfl,b⟩
theorem q9j (m:Fm)(A:MA)(w:Tw)(t:∀a,MSl a m A->Gv 86 #[mV m A] a (.bool (vfB m)))(x:vfB m=false)(u:MSl w m A) :
 Gv 62 #[mV m A] w (dgV 20 0):=by
 have n:=h_ t;obtain⟨f,g,h,i,ar,j,d,e,C⟩:=A;unfold mV at n⊢;dsimp only at n⊢;obtain⟨c,a⟩:=oB ((Blk.new w 37 (Jb f m g h i ar j d e)).alloc (.cells Jm 110)) (Blk.new (w.alloc (.cells (Jb f m g h i ar j d e) 37)) 110 Jm);rw[Yp]at a;have b:=h_ (((bR w.heap.size w).alloc (nR _) (.cells (Jb f m g h i ar j d e) 37)).alloc (by simp) (.cells Jm 110));obtain⟨q,r⟩:=Nq ((w.alloc (.cells (Jb f m g h i ar j d e) 37)).alloc (.cells Jm 110));have F:q.heap.size=w.heap.size+2:=by rw[<- r];simp
 rw[r]at c a b;have l:=h_ (u.mono b);obtain⟨I,J,K,L⟩:=kaf c;go_enter func62,ntmps62;go_wp2_with fail;refine cQ (n q l) fun B k=>?_;replace c:=mB c k;replace a:=mB a k;replace l:=h_ (l.mono k);replace b:=mT b k;rw[x];obtain⟨⟨G,H⟩,⟨D,E⟩⟩:=kcs a;have o:=h_ ((a.set 0 (J6 (20))).set 1 (J6 (0)));simp only[Ya,Yb]at o;have s:=h_ ((b.setCell (p:=⟨w.heap.size+1,0,none⟩) (by simp) (J6 (20))).setCell (p:=⟨w.heap.size+1,1,none⟩) (by simp) (J6 (0)));go_wp2_with fail;obtain⟨y,z⟩:=(kcs o).1;exact bodyPost_ret (v:=dgV (20) (0)) (by simp[results,results62,go_sem,y,z]) rfl ⟨rfl,s⟩
theorem q9k (m:Fm)(A:MA)(w:Tw)(e:Int)(F:∀a,MSl a m A->Gv 86 #[mV m A] a (.bool (vfB m)))(J:vfB m=true)(H:1<=e/\e<=4)(K:ke3 m.L.length m.P.length (pr1 m) (pr2 m) e)(I:kbe m)(G:MSl w m A) :
 Gv 62 #[mV m A] w (dgV (10+e) 0):=by
 obtain⟨q,D⟩:=oB F K;have o:=h_ fun a=>q8f m A a I;have s:=h_ fun a (b:MSl a m A)=>qr7 b;obtain⟨k,l,g,h,ar,n,i,j,T⟩:=A;unfold mV at q o⊢;dsimp only at q o s⊢;obtain⟨d,b⟩:=oB ((Blk.new w 37 (Jb k m l g h ar n i j)).alloc (.cells Jm 110)) (Blk.new (w.alloc (.cells (Jb k m l g h ar n i j) 37)) 110 Jm);rw[Yp]at b;have c:=h_ (((bR w.heap.size w).alloc (nR _) (.cells (Jb k m l g h ar n i j) 37)).alloc (by simp) (.cells Jm 110));obtain⟨u,z⟩:=Nq ((w.alloc (.cells (Jb k m l g h ar n i j) 37)).alloc (.cells Jm 110));have Z:u.heap.size=w.heap.size+2:=by rw[<- z];simp
 rw[z]at d b c;have f:=h_ (G.mono c);obtain⟨O,Q,R,S⟩:=kaf d;go_enter func62,ntmps62;go_wp2_with fail;refine cQ (q u f) fun E a=>?_;replace d:=mB d a;replace b:=mB b a;replace f:=h_ (f.mono a);replace c:=mT c a;rw[J];obtain⟨O,Q,R,S⟩:=kaf d;go_wp2_with fail;refine cQ (o E) fun x a=>?_;replace d:=mB d a;replace b:=mB b a;replace f:=h_ (f.mono a);replace c:=mT c a;have r:=h_ (D x g h (s x f));unfold kaM at r;go_wp2_with fail;refine cQ r fun y a=>?_;replace d:=mB d a;replace b:=mB b a;replace f:=h_ (f.mono a);replace c:=mT c a;have B:=(bR y.heap.size y).alloc (nR _) (.cells #[J6 0,J7,J7,J7,J6 0,J6 0] 123);replace b:=mB b B;replace c:=mT c B;obtain⟨W,X⟩:=H;have Y:(e != 0)=true:=by have:e≠0:=(by omega);simpa using this
 obtain⟨⟨r0,r1⟩,⟨U,V⟩⟩:=kcs b;have t:=h_ ((b.set 0 (J6 (10+e))).set 1 (J6 (0)));simp only[Ya,Yb]at t;have C:=h_ ((c.setCell (p:=⟨w.heap.size+1,0,none⟩) (by simp) (J6 (10+e))).setCell (p:=⟨w.heap.size+1,1,none⟩) (by simp) (J6 (0)));go_wp2_with fail;obtain⟨M,N⟩:=(kcs t).1;exact bodyPost_ret (v:=dgV (10+e) (0)) (by simp[results,results62,go_sem,M,N]) rfl ⟨rfl,C⟩
theorem q9i (m:Fm)(A:MA)(w:Tw)(q top:Int)(s n bt tp:Nat)(F:Nat->Bool)(J M:Nat->Int)(hV:∀a,MSl a m A->Gv 86 #[mV m A] a (.bool (vfB m)))(hq:vfB m=true)(i:VfA m)(hz:ke4 m.L.length m.P.length (pr1 m) (pr2 m) s F J M q top)(hL:kcD m.L.length s s s F J M q top n bt tp)(N:kbe m)(ha:MSl w m A) :
 Calls prog 62 #[mV m A] w fun D d=>∃c b,D=.returned (dgV c b)/\kc7 m n F c b/\Bw w d:=by
 obtain⟨I,ai⟩:=oB hV hz;obtain⟨G,V,H,E⟩:=oD (fun a=>q8f m A a N) (fun a (b:MSl a m A)=>qr7 b) (fun a (b:MSl a m A)=>q3t m A a i.nf N b) (fun a (b:MSl a m A)=>q3s m A a q top s n bt tp F J M i.lba hz hL N b);have g1:=i.nl;have g2:=i.np;have g3:=i.nr;have g4:=i.nf;obtain⟨z,B,l,o,ar,C,x,y,an⟩:=A;unfold mV at I G H E⊢;dsimp only at I G V H E⊢;obtain⟨d,b⟩:=oB ((Blk.new w 37 (Jb z m B l o ar C x y)).alloc (.cells Jm 110)) (Blk.new (w.alloc (.cells (Jb z m B l o ar C x y) 37)) 110 Jm);rw[Yp]at b;have c:=h_ (((bR w.heap.size w).alloc (nR _) (.cells (Jb z m B l o ar C x y) 37)).alloc (by simp) (.cells Jm 110));obtain⟨W0,ac⟩:=Nq ((w.alloc (.cells (Jb z m B l o ar C x y) 37)).alloc (.cells Jm 110));have ao:W0.heap.size=w.heap.size+2:=by rw[<- ac];simp
 rw[ac]at d b c;have e:=h_ (ha.mono c);obtain⟨O,Q,S,T⟩:=kaf d;go_enter func62,ntmps62;go_wp2_with fail;refine cQ (I W0 e) fun W1 a=>?_;replace d:=mB d a;replace b:=mB b a;replace e:=h_ (e.mono a);replace c:=mT c a;rw[hq];obtain⟨O,Q,S,T⟩:=kaf d;go_wp2_with fail;refine cQ (G W1) fun W2 a=>?_;replace d:=mB d a;replace b:=mB b a;replace e:=h_ (e.mono a);replace c:=mT c a;have ae:=h_ (ai W2 l o (V W2 e));go_wp2_with fail;refine ae.mono ?_;rintro D K ⟨a1,a2,a3,c1,c2,c3,rfl,-,-,-,a⟩;replace d:=mB d a;replace b:=mB b a;replace e:=h_ (e.mono a);replace c:=mT c a;replace a:=(bR K.heap.size K).alloc (nR _) (.cells (Ji m.L.length a1 s c1 a2 c2 a3 c3 q top) 123);replace d:=mB d a;replace b:=mB b a;replace e:=h_ (e.mono a);replace c:=mT c a;obtain⟨W4,aj⟩:=Nq (K.alloc (.cells (Ji m.L.length a1 s c1 a2 c2 a3 c3 q top) 123));rw[aj]at b c d e;have ag:=h_ (H W4 e);obtain⟨O,Q,S,T⟩:=kaf d;go_wp2_with fail;refine ag.mono ?_;rintro D W5 ⟨f,rfl,ad,a⟩;have W:=h_ ad;obtain⟨av,aw⟩:=ad.bounds;replace d:=mB d a;replace b:=mB b a;replace e:=h_ (e.mono a);replace c:=mT c a;have U:Hi (∀f,(m.L.length:Int)+m.P.length+m.R.length+f=kcK m+f):=h_ (fun f=>by unfold kcK;omega);by_cases ak:0<=f
 . have k:Hi (kc7 m n F 15 ((m.L.length:Int)+m.P.length+m.R.length+f)):=h_ (by rw[U.u];exact .inl ⟨f,ak,W,rfl,rfl⟩)
   obtain⟨⟨r0,r1⟩,⟨f0,f1⟩⟩:=kcs b;have g:=h_ ((b.set 0 (J6 (15))).set 1 (J6 ((m.L.length:Int)+m.P.length+m.R.length+f)));simp only[Ya,Yb]at g;have j:=h_ ((c.setCell (p:=⟨w.heap.size+1,0,none⟩) (by simp) (J6 (15))).setCell (p:=⟨w.heap.size+1,1,none⟩) (by simp) (J6 ((m.L.length:Int)+m.P.length+m.R.length+f)));go_wp2_with fail;obtain⟨r,t⟩:=(kcs g).1;exact bodyPost_ret (v:=dgV (15) ((m.L.length:Int)+m.P.length+m.R.length+f)) (by simp[results,results62,go_sem,r,t]) rfl ⟨_,_,rfl,k,j⟩
 . have X:Hi (Fst (fun h=>Rch m h h) m.F.length (-1)):=h_ (by rw[<- show f = -1 by omega];exact W)
   have ah:=h_ (E W5 e);obtain⟨O,Q,S,T⟩:=kaf d;go_wp2_with fail;refine ah.mono ?_;rintro D W6 ⟨h,aa,rfl,s1,s2,s3,a⟩;obtain⟨Y,Z,S3⟩:=oC s1 s2 s3;obtain⟨aq,au⟩:=s3.bounds;replace d:=mB d a;replace b:=mB b a;replace e:=h_ (e.mono a);replace c:=mT c a;by_cases am:0<=h
   . have k:Hi (kc7 m n F 16 ((m.L.length:Int)+m.P.length+m.R.length+h)):=h_ (by rw[U.u];exact .inr ⟨X,aa,h,Y,Z,S3,.inl ⟨am,rfl,rfl⟩⟩)
     obtain⟨⟨r0,r1⟩,⟨f0,f1⟩⟩:=kcs b;have g:=h_ ((b.set 0 (J6 (16))).set 1 (J6 ((m.L.length:Int)+m.P.length+m.R.length+h)));simp only[Ya,Yb]at g;have j:=h_ ((c.setCell (p:=⟨w.heap.size+1,0,none⟩) (by simp) (J6 (16))).setCell (p:=⟨w.heap.size+1,1,none⟩) (by simp) (J6 ((m.L.length:Int)+m.P.length+m.R.length+h)));go_wp2_with fail;obtain⟨r,t⟩:=(kcs g).1;exact bodyPost_ret (v:=dgV (16) ((m.L.length:Int)+m.P.length+m.R.length+h)) (by simp[results,results62,go_sem,r,t]) rfl ⟨_,_,rfl,k,j⟩
   . have k:Hi (kc7 m n F 0 0):=h_ (.inr ⟨X,aa,h,Y,Z,S3,.inr ⟨by omega,rfl,rfl⟩⟩)
     obtain⟨⟨r0,r1⟩,⟨f0,f1⟩⟩:=kcs b;have g:=h_ ((b.set 0 (J6 (0))).set 1 (J6 (0)));simp only[Ya,Yb]at g;have j:=h_ ((c.setCell (p:=⟨w.heap.size+1,0,none⟩) (by simp) (J6 (0))).setCell (p:=⟨w.heap.size+1,1,none⟩) (by simp) (J6 (0)));go_wp2_with fail;obtain⟨r,t⟩:=(kcs g).1;exact bodyPost_ret (v:=dgV (0) (0)) (by simp[results,results62,go_sem,r,t]) rfl ⟨_,_,rfl,k,j⟩
