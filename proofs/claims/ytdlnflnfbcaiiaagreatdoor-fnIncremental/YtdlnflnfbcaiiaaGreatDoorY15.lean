import Derived.Test.YtdlnflnfbcaiiaaGreatDoorY13
set_option linter.all false
set_option maxRecDepth 100000
set_option maxHeartbeats 0
namespace Go.Proofs.YtdlnflnfbcaiiaaGreatDoor
open Value renaming slice->Sl,string->St,bool->Bo
open Obj renaming cells->Cl
open Ending renaming returned->Rt
open Option renaming none->Nn,some->Sm
open Bool renaming true->Tt,false->Ff
open Go Go.RowKit Go.Proofs.Tryz
variable {n i j p q:Nat}{t:TypeId}{v:Value}{x y:Tl}{a:To}
def rC (m:Fm)(k:Nat):Int:=(m.P.getD k (0,0)).1
def sC (m:Fm)(k:Nat):Int:=(m.P.getD k (0,0)).2
def LI {w m A}(h:I0 w m A):qA w A.p m.P.length (rC m) (sC m):=CV h.p
def EL (m A w)(T:N2 m):Gv 33 #[mV m A] w (.agg (Jn m.L.length A.p m.P.length A.pc)):=by obtain⟨x,s,y,t,ar,b,H,a,C⟩:=A;unfold mV;dsimp only;obtain⟨Q,v⟩:=oB ((m0.new w 28 (Jb x m s y t ar b H a)).alloc (Cl J8 41)) (m0.new (w.alloc (Cl (Jb x m s y t ar b H a) 28)) 41 J8);rw[Yz]at v;have l:=h_ (((bR w.1.size w).alloc (nR _) (Cl (Jb x m s y t ar b H a) 28)).alloc fN (Cl J8 41));obtain⟨k,c⟩:=Nq ((w.alloc (Cl (Jb x m s y t ar b H a) 28)).alloc (Cl J8 41));rw[c]at Q v l;obtain⟨q,r,I,J⟩:=F0 Q;obtain⟨⟨d,O⟩,⟨h,X⟩⟩:=GD v;have R:=h_ ((v.set 0 (Yd m.L.length)).set 1 (Sl y m.P.length t));simp only[Yw,Y2]at R;have M:=h_ ((l.setCell (p:=(zQ w 1 0)) fN (Yd m.L.length)).setCell (p:=(zQ w 1 1)) fN (Sl y m.P.length t));go_enter func33,ntmps33;go_wp2_with fail;obtain⟨E,i⟩:=(GD R).1;exact bQ ⟨rfl,M⟩
def q96 (m A w)(n:∀W,I0 W m A->Gv 32 #[mV m A] W (Bo (A6 m)))(j:A6 m=Tt->∃h,h≠0/\TH m.L.length m.P.length (rC m) (sC m) h)(p:N2 m)(o:I0 w m A):GZ 9 #[mV m A] w λr a=>∃T b,r=Rt (Sl T 0 b)/\Bw w a:=by have O:=h_ λW=>EL m A W p;obtain⟨a,e⟩:=oB n j;have R:=h_ λW (F:I0 W m A)=>LI F;obtain⟨x,s,y,t,ar,i,H,v,C⟩:=A;unfold mV at a O|-;dsimp only at a O R|-;obtain⟨k,M,Q,l⟩:=R6 w 28 (Jb x m s y t ar i H v);have E:=h_ (o.mono l.u);obtain⟨q,r,I,J⟩:=F0 Q.u;go_enter func9,ntmps9;go_wp2_with fail;refine cQ (a k E) λg c=>?_;have Q:=mB Q c;have E:=h_ (E.mono c);have l:=mT l c;obtain⟨q,r,I,J⟩:=F0 Q.u;cases B:A6 m;{have U:=h_ (l.u.alloc l.u.size (Cl #[] 3));go_wp2;go_ret;exact⟨_,_,rfl,U⟩};obtain⟨h,F,j⟩:=e B;have f:=h_ j;go_wp2_with fail;refine cQ (O g) λD c=>?_;have E:=h_ (E.mono c);have l:=mT l c;have d:=h_ (f D y t (R D E));unfold F7 at d;go_wp2_with fail;refine cQ d λz c=>?_;have l:=mT l c;have b:=h_ ((l.u.alloc l.u.size (Cl Je 37)).alloc (by simp;have:=l.u.size;omega) (Cl #[] 3));go_wp2;go_ret;first|exact⟨_,⟨_,rfl⟩,b⟩|exact⟨_,_,rfl,b⟩
def U_ (m A w Z top s n p K F J M)(hV:∀W,I0 W m A->Gv 32 #[mV m A] W (Bo (A6 m)))(hq:A6 m=Tt)(hv:L1 m)(hz:xJ m.L.length m.P.length (rC m) (sC m) s F J M Z top)(q:UG m.L.length s s s F J M Z top n p K)(x:N2 m)(ha:I0 w m A):GZ 9 #[mV m A] w λr j=>∃f T i,r=Rt (Sl T m.F.length i)/\G9 m n (λa b=>F (a*n+b)=Tt) f/\UC m n (λa b=>F (a*n+b)=Tt) f/\ZF j T (X3 f m.F.length)/\Bw w j:=by have O:=h_ λW=>EL m A W x;obtain⟨h,V⟩:=oB hV hz;have R:=h_ λW (b:I0 W m A)=>LI b;have c:m.L.length=n:=(Fq q.hN);have g:=h_ λW (e j a:To) (c1 c2 c3:Nat) (b:I0 W m A) (k:F5 W j s J)=>m_ m A W m.L.length Z top s n p K F J M e j a c1 c2 c3 hv.lba x q c b k;obtain⟨al,ac,y,t,ar,ad,af,aa,ag⟩:=A;unfold mV at h O g|-;dsimp only at h O R g|-;obtain⟨W,ae,Q,l⟩:=R6 w 28 (Jb al m ac y t ar ad af aa);have E:=h_ (ha.mono l.u);obtain⟨z,B,I,C⟩:=F0 Q.u;clear c;go_enter func9,ntmps9;go_wp2_with fail;(try rw[ae]);refine cQ (h W E) λX c=>?_;have Q:=mB Q c;have E:=h_ (E.mono c);have l:=mT l c;obtain⟨z,B,I,C⟩:=F0 Q.u;rw[hq];go_wp2_with fail;refine cQ (O X) λD c=>?_;have Q:=mB Q c;have E:=h_ (E.mono c);have l:=mT l c;have S:=h_ (V D y t (R D E));go_wp2_with fail;refine S.mono ?_;rintro r d ⟨e,j,a,c1,c2,c3,rfl,-,k,-,c⟩;have Q:=mB Q c;have E:=h_ (E.mono c);have l:=mT l c;have o:=h_ (m0.new d 37 (Jh m.L.length e s c1 j c2 a c3 Z top));have b:=(bR d.1.size d).alloc (nR _) (Cl (Jh m.L.length e s c1 j c2 a c3 Z top) 37);obtain⟨Y,v⟩:=Nq (d.alloc (Cl (Jh m.L.length e s c1 j c2 a c3 Z top) 37));rw[v]at o b;have Q:=mB Q b;have E:=h_ (E.mono b);have l:=mT l b;have U:=h_ (g Y e j a c1 c2 c3 E (k.mono b));obtain⟨⟨x0,x1,x2,x3,x4,x5⟩,-⟩:=AA o;obtain⟨z,B,I,C⟩:=F0 Q.u;go_wp2_with fail;(try rw[v]);refine U.mono ?_;rintro r W5 ⟨f,T,i,rfl,h1,h2,h3,c⟩;have l:=mT l c;obtain⟨G,N,H⟩:=oC h1 h2 h3;go_wp2;go_ret;exact⟨f,T,i,rfl,G,N,H,l.u⟩
def FB (m:Fm)(n:Nat)(F:Nat->Bool)(f:Nat->Nat)(k:Nat):Prop:=0<=(A0 m k).lb/\∃j,j<m.F.length/\MB m j k=Tt/\F (f j*n+f k)=Ff
def ML {w w' p}(c:Bw w w')(h:w.cell? p=Sm v):w'.cell? p=Sm v:=(c.cell (World.block_lt_of_cell? _ _ h)).trans h
def SO (m:Fm)(n:Nat)(F:Nat->Bool)(f:Nat->Nat)(k j:Nat):Prop:=∀i,i<j->MB m i k=Tt->F (f i*n+f k)=Tt
def q8h {m k F f}(h:SO m n F f k m.F.length):¬ FB m n F f k:=by grind[SO,FB]
def RT (m A w aw top s n t tp F aj M)(hv:UI m)(hz:xJ m.L.length m.P.length (rC m) (sC m) s F aj M aw top)(hL:UG m.L.length s s s F aj M aw top n t tp)(hf:N2 m)(ha:I0 w m A):GZ 83 #[mV m A] w λaz p=>∃z f,az=Rt (Yd z)/\G9 m n (λa b=>F (a*n+b)=Tt) f/\UC m n (λa b=>F (a*n+b)=Tt) f/\t7 (FB m n F f) m.F.length z/\Below w.1.size w p:=by obtain⟨ae,aF,aE⟩:=oC (λW=>EL m A W hf) hz (λW (a:I0 W m A)=>LI a);have hN:m.L.length=n:=(Fq hL.hN);have ad:=h_ λW (x d e:To) (c1 c2 c3:Nat) (a:I0 W m A) (g:F5 W d s aj)=>m_ m A W m.L.length aw top s n t tp F aj M x d e c1 c2 c3 hv hf hL hN a g;have ac:=h_ λW j k (g:j<m.F.length) (hk:k<m.F.length) (a:I0 W m A)=>Rc m A j k W g hk hf a;have hn:=hL.h32;have X:=hL.l1;have Z:=hL.hb;subst X;subst Z;have bh:=hv.nf;obtain⟨K,O,B,C,ar,V,af,y,bb⟩:=A;unfold mV at ae ad ac|-;dsimp only at ae aE ad ac|-;rw[hN]at ae ad ac aF;obtain⟨W0,bc,Q,l⟩:=R6 w 28 #[Sl K n O,Sl B m.P.length C,Sl ar m.R.length V,Sl af m.F.length y];have E:=h_ (ha.mono l.u);obtain⟨y0,y1,y2,y3⟩:=F0 Q.u;go_enter func83,ntmps83;go_wp2_with fail;refine cQ (ae W0) λW2 c=>?_;replace Q:=mB Q c;replace E:=h_ (E.mono c);replace l:=mT l c;have aO:=h_ (aF W2 B C (aE W2 E));go_wp2_with fail;refine aO.mono ?_;rintro az J ⟨x,d,e,c1,c2,c3,rfl,ho,g,-,c⟩;replace Q:=mB Q c;replace E:=h_ (E.mono c);replace l:=mT l c;have o:=h_ (m0.new J 37 (Jh n x (n*n) c1 d c2 e c3 (t:Int) top));have H:=(bR J.1.size J).alloc (nR _) (Cl (Jh n x (n*n) c1 d c2 e c3 (t:Int) top) 37);obtain⟨W4,aT⟩:=Nq (J.alloc (Cl (Jh n x (n*n) c1 d c2 e c3 (t:Int) top) 37));rw[aT]at o H;replace Q:=mB Q H;replace E:=h_ (E.mono H);replace l:=mT l H;obtain⟨HO,aP⟩:=oB (ho.mono H) (ad W4 x d e c1 c2 c3 E (g.mono H));obtain⟨aG,hX⟩:=Nq J.1.size;rw[hX]at o;obtain⟨⟨x0,x1,x2,x3,x4,x5⟩,-⟩:=AA o;obtain⟨y0,y1,y2,y3⟩:=F0 Q.u;go_wp2_with fail;refine aP.mono ?_;rintro az W5 ⟨f,a0,c0,rfl,h1,h2,h3,c⟩;replace l:=mT l c;replace Q:=mB Q c;replace o:=mB o c;replace E:=h_ (E.mono c);replace HO:=h_ (HO.mono c);obtain⟨b,q,H3⟩:=oC h1 h2 h3;go_wp2;go_loopw [6] (λa wr=>∃k:Nat,k<=m.F.length/\a=Yd k/\(∀j,j<k->¬ FB m n F f j)/\Below W5.1.size W5 wr) (λa _=>m.F.length - (intOf a).toNat);exact⟨0,nZ _,rfl,(λj i=>absurd i (nL _)),bR _ _⟩;obtain⟨k,hk,rfl,a7,c⟩:=hrel;obtain⟨HN,an⟩:=oB a7 c;have T:=mT l c;have ai:=mB Q c;have au:=h_ (E.mono c);have aK:W5.1.size<=wr.1.size:=c.size;by_cases Y:k<m.F.length;{have a5:(k:Int)<m.F.length:=fK;obtain⟨pb,r,X,⟨a8,-,-,z2,-⟩,-⟩:=au.f k Y;dsimp only at X;subst X;obtain⟨y0,y1,y2,y3⟩:=F0 ai;have ah:Hi ((A0 m k).lb=m.F[k].lb):=h_ (by rw[P6 Y]);generalize m.F[k].lb=lb at *;by_cases bg:lb<0;{have aI:¬ (0:Int)<=lb:=fK;have ao:Hi (∀j,j<k+1->¬ FB m n F f j):=h_ λj g=>(by by_cases G:j=k;{subst G;rintro⟨i,-⟩;rw[ah.u]at i;omega};exact HN j fK);refine rQ ?_;exact⟨k+1,fK,fP,ao,an⟩};have aI:(0:Int)<=lb:=fK;have a4:lb=((f k:Nat):Int):=(by have:=b.decl k Y (by rw[ah.u];omega);rw[ah.u]at this;exact this.symm);have aQ:Hi (0<=(A0 m k).lb):=h_ (by rw[ah.u];exact aI);have aW:=b.lt k Y;go_wp2_with fail;rw[a4]at z2;obtain⟨wx,aJ⟩:=Nq wr;rw[aJ]at z2 an T ai au aK a8;go_loopw [7] (λa h=>∃j:Nat,j<=m.F.length/\a=Yd j/\SO m n F f k j/\Below wx.1.size wx h) (λa _=>m.F.length - (intOf a).toNat);exact⟨0,nZ _,rfl,(λj i=>absurd i (nL _)),by rw[aJ];exact bR _ _⟩;obtain⟨j,g,rfl,a6,c⟩:=hrel;obtain⟨aD,aN,aa⟩:=oC a6 c (an.trans (c.mono aK));have aM:=mT T c;have U:=mB ai c;obtain⟨aS,av,aR,aL⟩:=oD (au.mono c) (o.mono aa o.lt) (HO.mono aa) (H3.mono aa);have zl:=ML c z2;by_cases ak:j<m.F.length;{have aZ:(j:Int)<m.F.length:=fK;obtain⟨y0,y1,y2,y3⟩:=F0 U;have aV:=b.lt j ak;have aB:=h_ (ac wr.drew j k ak Y (aS.mono (bR _ _).drew));obtain⟨g0,o0,e0,-,zk⟩:=aL.at j (by rw[CR];exact ak);rw[Th]at zk;obtain⟨aY,a9,ba,be,bf⟩:=vQ aV aW hn;obtain⟨W,o2,e3,-,zj⟩:=aR _ aY;go_wp2_with fail;subst e0;subst e3;have ag:Hi (∀v,F (f j*n+f k)=v->v=Ff->MB m j k=Tt->t7 (FB m n F f) m.F.length (k:Int)):=h_ λv X Z e3=>.inr ⟨k,Y,rfl,⟨aQ,j,ak,e3,X.trans Z⟩,HN⟩;have I:Hi (∀v,F (f j*n+f k)=v->(MB m j k=Tt->v=Tt)->SO m n F f k (j+1)):=h_ λv X Z a h ha=>(by by_cases G:a=j;{subst G;exact X.trans (Z ha)};exact aD a fK ha);obtain⟨D,ay⟩:=Nq (F (f j*n+f k));replace ag:=h_ (ag D ay);replace I:=h_ (I D ay);rw[ay]at zj;generalize aX:f k=fk at *;generalize bd:f j=fj at *;have aC:=h_ aX;generalize fj*n+fk=a at *;generalize fj*n=q2 at *;obtain⟨aH,aU⟩:=Nq (MB m j k);rw[aU]at aB ag I;refine wp_region_held_drew (S:=λp=>m0 p w.1.size 28 [Sl K n O,Sl B m.P.length C,Sl ar m.R.length V,GV pb r m.F.length y]/\m0 p aG 37 (J2 n (Sm (Aq W o2)) (n*n) c1 d c2 e c3 (t:Int) top)/\p.cell? (Aq g0 (o0+j))=Sm (Yd (fj:Nat))/\p.cell? (Aq pb (r+k*9+2))=Sm (Yd (fk:Nat))/\p.cell? (Aq W (o2+a))=Sm (Bo D)) fL ⟨U,av,zk,zl,zj⟩ (λh=>?_);refine E0 0 40 (.agg #[Sl K n O,Sl B m.P.length C,Sl ar m.R.length V,GV pb r m.F.length y]) h ?_ (hy:=λw N=>by obtain⟨z,a,q2,q3⟩:=F0 N.1;simp[execOp,go_sem,z,a,q2,q3]);refine G0 1 h ?_;refine G0 2 h ?_;refine O7 (args:=#[.agg #[Sl K n O,Sl B m.P.length C,Sl ar m.R.length V,GV pb r m.F.length y],Yd j,Yd k]) (R:=λv' v=>v'=Bo aH/\Below wr.1.size wr v) 3 43 (aB.mono λG w6 ⟨v,c⟩=>⟨_,v,rfl,C8 c⟩) ?_;rintro v' v ⟨rfl,c⟩;replace h:m0 v w.1.size 28 [Sl K n O,Sl B m.P.length C,Sl ar m.R.length V,GV pb r m.F.length y]/\m0 v aG 37 (J2 n (Sm (Aq W o2)) (n*n) c1 d c2 e c3 (t:Int) top)/\v.cell? (Aq g0 (o0+j))=Sm (Yd (fj:Nat))/\v.cell? (Aq pb (r+k*9+2))=Sm (Yd (fk:Nat))/\v.cell? (Aq W (o2+a))=Sm (Bo D):=⟨U.mono c U.lt,av.mono c av.lt,ML c zk,ML c zl,ML c zj⟩;have aA:=mT aN c;have am:=mT aM c;refine⟨h,?_⟩;refine I1 ?_;cases aH;{skip;refine E0 4 44 (Bo Ff) h ?_;refine D3 5 45 h ?_;refine D3 6 46 h ?_;refine D3 7 47 h ?_;refine D3 8 48 h ?_;refine D3 9 49 h ?_;refine D3 10 50 h ?_;refine D3 11 51 h ?_;refine D3 12 52 h ?_;refine D3 13 53 h ?_;refine D3 14 54 h ?_;refine D3 15 55 h ?_;refine D3 16 56 h ?_;refine D3 17 57 h ?_;refine D3 18 58 h ?_;refine D3 19 59 h ?_;refine D3 20 60 h ?_;refine D3 21 61 h ?_;refine D3 22 62 h ?_;refine D3 23 63 h ?_;refine E0 24 64 (Bo Ff) h ?_;refine O2 ?_;have aq:=h_ (I (λi=>by cases i));go_wp2_with fail;have ax:=aC.u;subst ax;go_roundw;exact⟨j+1,fK,fP,aq,aA⟩;exact kv};skip;refine E0 4 44 (Bo Tt) h ?_;refine G0 5 h ?_;refine E0 6 46 (GV W o2 (n*n) c1) h ?_ (hy:=λw N=>by have a:=N.2.1.cell 1;simp only[Yi,Yq]at a;simp[execOp,go_sem,a]);refine G0 7 h ?_;refine G0 8 h ?_;refine G0 9 h ?_;refine E0 10 50 (Yd fj) h ?_ (hy:=λw N=>by have z:=N.2.2.1;exact KQ);refine G0 11 h ?_;refine E0 12 52 (Yd n) h ?_ (hy:=λw N=>by have a:=N.2.1.cell 0;simp only[Yi]at a;simp[execOp,go_sem,a]);refine E0 13 53 (Yd q2) h ?_ (hy:=λw N=>by simp[execOp,go_sem];exact(IntWalk.i64_left _).trans a9);refine G0 14 h ?_;refine E0 15 55 (GV pb r m.F.length y) h ?_ (hy:=λw N=>by obtain⟨z,a,q2,q3⟩:=F0 N.1;simp[execOp,go_sem,q3]);refine G0 16 h ?_;refine G0 17 h ?_;refine G0 18 h ?_;refine E0 19 59 (Yd fk) h ?_ (hy:=λw N=>by have z:=N.2.2.2.1;exact KQ);refine E0 20 60 (Yd a) h ?_ (hy:=λw N=>by simp[execOp,go_sem];exact(IntWalk.i64_left _).trans ba);refine G0 21 h ?_;refine E0 22 62 (Bo D) h ?_ (hy:=λw N=>by have z:=N.2.2.2.2;exact KQ);refine E0 23 63 (Bo (!D)) h ?_;refine E0 24 64 (Bo (!D)) h ?_;refine O2 ?_;cases D;{have i:=h_ (ag rfl rfl);go_wp2;go_ret;first|exact⟨_,f,rfl,b,q,i,am⟩|exact⟨_,rfl,f,b,q,i,am⟩|exact⟨f,b,q,i,am⟩};have aq:=h_ (I (λ_=>rfl));go_wp2_with fail;have ax:=aC.u;subst ax;go_roundw;exact⟨j+1,fK,fP,aq,aA⟩;exact kv};obtain rfl:j=m.F.length:=fK;have aZ:¬ (m.F.length:Int)<(m.F.length:Int):=fK;have ao:Hi (∀j,j<k+1->¬ FB m n F f j):=h_ λj g=>(by by_cases G:j=k;{subst G;exact q8h aD};exact HN j fK);obtain⟨y0,y1,y2,y3⟩:=F0 U;refine rQ ?_;exact⟨k+1,fK,fP,ao,aa⟩};obtain rfl:k=m.F.length:=fK;have a5:¬ (m.F.length:Int)<(m.F.length:Int):=fK;have i:Hi (t7 (FB m n F f) m.F.length (-1)):=h_ (.inl ⟨rfl,HN⟩);obtain⟨y0,y1,y2,y3⟩:=F0 ai;go_wp2;go_ret;first|exact⟨_,f,rfl,b,q,i,T⟩|exact⟨_,rfl,f,b,q,i,T⟩|exact⟨f,b,q,i,T⟩
def Ww (m A w h)(a:h≠0)(j:TH m.L.length m.P.length (rC m) (sC m) h)(T:N2 m)(H:I0 w m A):Gv 83 #[mV m A] w (Yd (-1)):=by obtain⟨O,b,R⟩:=oC (λW=>EL m A W T) j (λW (F:I0 W m A)=>LI F);have i:(h != 0)=Tt:=gp;obtain⟨x,s,y,t,ar,f,e,v,C⟩:=A;unfold mV at O|-;dsimp only at O R|-;obtain⟨k,M,Q,l⟩:=R6 w 28 (Jb x m s y t ar f e v);have E:=h_ (H.mono l.u);clear H T j a;obtain⟨q,r,I,J⟩:=F0 Q.u;go_enter func83,ntmps83;go_wp2_with fail;(try rw[M]);refine cQ (O k) λD c=>?_;have E:=h_ (E.mono c);have l:=mT l c;have d:=h_ (b D y t (R D E));unfold F7 at d;clear c M q r I J;go_wp2_with fail;refine cQ d λg c=>?_;have l:=mT l c;have a:=h_ (l.u.alloc l.u.size (Cl Je 37));clear c;go_wp2;go_ret;exact⟨rfl,a⟩
def qem {m F f g}(h:∀k,k<m.F.length->f k=g k):∀k,k<m.F.length->(FB m n F f k ↔ FB m n F g k):=λk a=>by unfold FB;rw[h k a];exact⟨λ⟨G,j,s,H,w⟩=>⟨G,j,s,H,by rw[<- h j s];exact w⟩,λ⟨G,j,s,H,w⟩=>⟨G,j,s,H,by rw[h j s];exact w⟩⟩
def qq4 (m)(T:N2 m)(d:UI m)(l:m.P.length<=1048576):∃z:Int,(-1<=z/\z<m.F.length)/\∀(w:Tw) (A:MA),I0 w m A -> Gv 83 #[mV m A] w (Yd z):=by rcases OS m.L.length m.P.length (rC m) (sC m) l with ⟨k,G,a,-⟩|⟨h,F,J,M,Z,top,-,⟨n,t,K,R⟩,a,-⟩;{exact⟨-1,⟨fK,fK⟩,λw A H=>Ww m A w k G a T H⟩};by_cases v:∃f,G9 m n (λb c=>F (b*n+c)=Tt) f/\UC m n (λb c=>F (b*n+c)=Tt) f;{obtain⟨f,b,N⟩:=v;obtain⟨z,j⟩:=t7.ex (FB m n F f) m.F.length;refine⟨z,j.bounds,λw A H=>(RT m A w Z top h n t K F J M d a R T H).mono λr o ⟨q,g,e,i,s,p,c⟩=>⟨?_,c⟩⟩;rw[e,(p.iff (qem (xQ (IG R) i b s N))).one j]};exact⟨-1,⟨fK,fK⟩,λw A H=>(RT m A w Z top h n t K F J M d a R T H).mono λr o ⟨q,g,e,i,s,p,c⟩=>absurd ⟨g,i,s⟩ v⟩
def qk8 (m)(a:N2 m):∃g:List Int,(g.length=0\/g.length=m.F.length)/\(∀x,x∈g->0<=x/\x<m.L.length)/\∀(w:Tw) (A:MA),I0 w m A -> GZ 9 #[mV m A] w λr j=>∃T b,r=Rt (Sl T g.length b)/\sB j T g/\Bw w j:=by have z:(A6 m=Tt->∃h,h≠0/\TH m.L.length m.P.length (rC m) (sC m) h)->∃g:List Int,(g.length=0\/g.length=m.F.length)/\(∀x,x∈g->0<=x/\x<m.L.length)/\∀(w:Tw) (A:MA),I0 w m A -> GZ 9 #[mV m A] w λr j=>∃T b,r=Rt (Sl T g.length b)/\sB j T g/\Bw w j:=λc=>⟨[],.inl rfl,λx t=>by simp at t,λw A H=>(q96 m A w (λC l=>NJ m A C a l) c a H).mono λr j ⟨T,b,e,d⟩=>⟨T,b,e,λq k=>absurd k (nL _),d⟩⟩;cases B:A6 m;{exact z λc=>by rw[B]at c;cases c};have D:L1 m:=Classical.byContradiction λc=>(by rw[MN c]at B;cases B);rcases OS m.L.length m.P.length (rC m) (sC m) (Fq D.np) with ⟨h,G,c,-⟩|⟨u,F,J,M,Z,top,-,⟨n,o,K,R⟩,c,-⟩;{exact z λ_=>⟨h,G,c⟩};by_cases v:∃f,G9 m n (λg i=>F (g*n+i)=Tt) f/\UC m n (λg i=>F (g*n+i)=Tt) f;{obtain⟨f,y,N⟩:=v;refine⟨(X3 f m.F.length).map λx:Nat=>(x:Int),.inr (by rw[Zd,CR]),λx t=>?_,λw A H=>(U_ m A w Z top u n o K F J M (λC l=>NJ m A C a l) B D c R a H).mono λr j ⟨g,T,b,e,i,s,p,d⟩=>⟨T,b,?_,?_,d⟩⟩;{obtain⟨I,E,rfl⟩:=Y9.1 t;obtain⟨q,k,rfl⟩:=Y9.1 E;have:=y.lt q (Y5.1 k);have:=R.hN;omega};{rw[Zd,CR];exact e};have k:X3 g m.F.length=X3 f m.F.length:=Sc (xQ (IG R) i y s N);rw[<- k];exact p};exact⟨[],.inl rfl,λx t=>by simp at t,λw A H=>(U_ m A w Z top u n o K F J M (λC l=>NJ m A C a l) B D c R a H).mono λr j ⟨g,T,b,e,i,s,p,d⟩=>absurd ⟨g,i,s⟩ v⟩
def Im (N:Nat)(h1:1<=N)(l)(m:l.length<=1048576):∃Z top:Int,(0<=Z/\Z<N)/\(0<=top/\top<N)/\∀(w:Tw) (X:To) (c:Nat),LH w X l -> GZ 8 #[.agg (Jn N X l.length c)] w λa i=>∃z e Q c1 j b c2 F d c3 h,a=Rt (.tuple #[.agg #[Yd z,Sl e Q c1,Sl j b c2,Sl F d c3,Yd Z,Yd top],Yd h])/\Bw w i:=by rcases OS N l.length (λk=>(l.getD k (0,0)).1) (λk=>(l.getD k (0,0)).2) m with ⟨h,-,d,-⟩|⟨s,k,J,M,Z,top,-,⟨n,t,K,R⟩,d,-⟩;{exact⟨0,0,⟨fK,fK⟩,⟨fK,fK⟩,λw X c g=>(d w X c (CV g)).mono λa i ⟨b,f⟩=>⟨0,Nn,0,0,Nn,0,0,Nn,0,0,h,b,f⟩⟩};have:=R.hN;have:=R.hb;have:=R.ht;have:=R.bb;have:=R.tt;exact⟨Z,top,⟨fK,fK⟩,⟨fK,fK⟩,λw X c g=>(d w X c (CV g)).mono λa i ⟨e,j,F,c1,c2,c3,b,_,_,_,f⟩=>⟨N,e,s,c1,j,s,c2,F,s,c3,0,b,f⟩⟩
def ZQ {K:Type}(g:Nat->K)(k):(List.range (k+1)).map g=(List.range k).map g++[g k]:=by rw[Zi,Zs];rfl
def NI {K:Type}(g:Nat->K)(k):((List.range k).map g).length=k:=by rw[Zd,O9]
def B8 (ty:Nat->Int)(nm:Nat->Tb):Nat->Int->List Tb
 | 0=>λ_=>[]
 | k+1=>mH (B8 ty nm k) (ty k) (nm k)
def NO {ty:Nat->Int}{nm:Nat->Tb}:∀k H,(B8 ty nm k H).length<=k/\∀x,x∈B8 ty nm k H->∃i,i<k/\x=nm i|0,_=>⟨nZ _,λx t=>by simp[B8]at t⟩|k+1,H=>by have l:=NO (ty:=ty) (nm:=nm) k H;unfold B8 mH;by_cases h:H=ty k;{rw[Yy h,Yk];refine⟨by have:=l.1;show _+1<=k+1;omega,λx t=>?_⟩;rw[Zb]at t;rcases t with t|t;{obtain⟨i,m,p⟩:=l.2 x t;exact⟨i,fK,p⟩};exact⟨k,fK,Y7.1 t⟩};rw[Ys h];refine⟨Fq l.1,λx t=>?_⟩;obtain⟨i,m,p⟩:=l.2 x t;exact⟨i,fK,p⟩
def EX {ty nm k}(a:k<=1000)(h:∀i,i<=1000->(nm i).size<=64):oH (B8 ty nm k):=λH=>by have O:∀t,(B8 ty nm k t).length<=1000/\∀x,x∈B8 ty nm k t->x.size<=64:=λt=>(by have:=NO (ty:=ty) (nm:=nm) k t;refine⟨fK,λx t=>?_⟩;obtain⟨i,m,rfl⟩:=this.2 x t;exact h i fK);unfold OC;by_cases m:H=1;{rw[Yy m];exact O 1};rw[Ys m];by_cases p:H=2;{rw[Yy p];exact O 2};rw[Ys p];exact O 3
def VM (m lab:Int)(k:Nat)(x:Fl):Fl:=if (k:Int)=m then { x with lb:=lab } else x
def ID (m lab:Int)(l:List Fl):Nat->List Fl
 | 0=>[]
 | k+1=>ID m lab l k++[VM m lab k (l.getD k S9)]
def JV (m lab:Int)(l:List Fl):∀k,(ID m lab l k).length=k
 | 0=>rfl
 | k+1=>by show(ID m lab l k++_).length=_;rw[Yk,JV m lab l k];rfl
def Xf (m lab:Int)(l:List Fl):∀k,k<=l.length->∀x,x∈ID m lab l k->∃j y,y∈l/\x=VM m lab j y|0,_,_,h=>by simp[ID]at h|k+1,hk,x,h=>by unfold ID at h;rw[Zb]at h;rcases h with h|h;{exact Xf m lab l k fK x h};obtain rfl:=Y7.1 h;exact⟨k,l.getD k S9,by rw[Yo,Ym fK];exact Yn _,rfl⟩
def qn6 (m lab k x):(setF m lab k x).1=VM m lab k x.1:=by unfold setF VM;split <;> rfl
def QQ (l:List (Fl × FA))(k):(l.getD k (S9,tG)).1=(l.map (·.1)).getD k S9:=by rw[Yo,Yo,Zt];cases l[k]? <;> rfl
def LV (m lab:Int)(l:List (Fl × FA)):∀k,(BA m lab l k).map (·.1)=ID m lab (l.map (·.1)) k|0=>rfl|k+1=>by show(BA m lab l k++[_]).map _=ID m lab (l.map (·.1)) k++[_];rw[Zs,LV m lab l k,<- QQ,<- qn6];rfl
def mF (nl nr:Nat)(l:List Fl):Prop:=∀x,x∈l->XB nl nr x
def Wf {m lab:Int}{l k}(h:mF n k l)(e:-1<=lab/\lab<n):mF n k (ID m lab l l.length):=λx t=>by obtain⟨j,y,a,rfl⟩:=Xf m lab l l.length (nR _) x t;have g:=h y a;unfold VM;split;{exact⟨g.nm,g.ty,e,g.bs,g.is,g.wh,g.va,g.sy,g.mu⟩};exact g
structure SD where
 N:Nat
 lp:List (Int × Int)
 q0:Nat
 nn:Nat
 bot:Int
 top:Int
 lnm:Nat->Tb
 rnm:Nat->Tb
 fnm:Nat->Tb
 g:Nat->Fl
 pq:Nat->Nat
 zz:Nat->Int
 FL:Nat->List Fl
 ls:List Int
 FM:Nat->List Fl
def SI (x:Nat):Int:=if x=3\/x=4 then 2 else if x=5 then 3 else 1
def OO (x):SI x=1\/SI x=2\/SI x=3:=by unfold SI;split;{exact .inr (.inl rfl)};split;{exact .inr (.inr rfl)};exact .inl rfl
section
variable (len:Nat) (f:Nat->Nat) (D:SD)
def oO (i:Nat):Int:=if 0<Q0 len f (D.q0+2+2*i) 3/\i=1 then D.top else if 0<Q0 len f (D.q0+2+2*i) 3/\i=0/\0<D.nn then D.bot else ((Q0 len f (D.q0+1+2*i) D.N:Nat):Int)
def SD.lab (k:Nat):List Tb:=(List.range k).map D.lnm
def vF (k:Nat):List Rl:=(List.range k).map λi=>⟨D.rnm i,oO len f D i⟩
def SD.p2:Nat:=D.q0+1+2*(D.nn+1)
def E6 (k:Nat):Int:=SI (Q0 len f (D.p2+k) 6)
def M9 (k:Nat):List Int:=(List.range k).map (E6 len f D)
def N8 (l:List Fl):Fm:=⟨D.lab D.N,D.lp,vF len f D (D.nn+1),l⟩
def RE (k:Nat):List Fl:=if Q0 len f (D.pq k+D.ls.length) 3=0/\1<k then (D.FM D.ls.length).reverse else D.FM D.ls.length
structure RY (p flds:Nat):Prop where
 hN1:1<=D.N
 hN2:D.N<=100
 hlp:D.lp.length<=200
 hq0:D.q0<=p+11
 cD:∀(w:Tw) (a:To) (c:Nat),D6 w a len f->GZ 77 #[Sl a len c,Yd p] w λe w'=>MO w D.N D.lp D.q0 e w'
 cL:∀i:Nat,i<=1000->∀w:Tw,Gv 78 #[Yd i] w (St (D.lnm i))
 hnn:D.nn=if 0<Q0 len f D.q0 10 then 1+Q0 len f D.q0 10 % 3 else 0
 hn3:D.nn<=3
 cB:∀(w:Tw) (X:To) (c:Nat),LH w X D.lp->GZ 8 #[.agg (Jn D.N X D.lp.length c)] w λe w'=>∃n0 a1 l1 c1 a2 l2 c2 a3 l3 c3 code,e=Rt (.tuple #[.agg #[Yd n0,Sl a1 l1 c1,Sl a2 l2 c2,Sl a3 l3 c3,Yd D.bot,Yd D.top],Yd code])/\Bw w w'
 cR:∀i:Nat,i<=1000->∀w:Tw,Gv 79 #[Yd i] w (St (D.rnm i))
 cN:∀i:Nat,i<=1000->∀w:Tw,Gv 81 #[St ⟨#[97,98,99,100,101,102,103,104]⟩,Yd i] w (St (D.fnm i))
 pq0:D.pq 0=D.p2+flds
 hpq:∀k,k<=flds->D.pq k<=100000
 cF:∀k:Nat,k<flds->∀(w:Tw) (a:To) (c:Nat) (xl xp xr xf:To) (cl np cp cr nf cf:Nat) (vb va:Value),D6 w a len f->VB (B8 (E6 len f D) D.fnm k) w vb->VB (B8 (E6 len f D) D.fnm flds) w va ->
  GZ 82 #[Sl a len c,Yd (D.pq k),.agg (Jo xl D.N cl xp np cp xr (D.nn+1:Nat) cr xf nf cf),Yd k,Yd (E6 len f D k),vb,va] w λe w'=>∃A,e=Rt (.tuple #[fV (D.g k) A,Yd (D.pq (k+1))])/\Q6 w' w.1.size (D.g k) A/\Bw w w'
 gnm:∀k,k<flds->(D.g k).nm=D.fnm k
 FL0:D.FL 0=(List.range flds).map D.g
 FLs:∀i,D.FL (i+1)=if 0<=D.zz i then ID (D.zz i) (-1) (D.FL i) flds else D.FL i
 FLl:∀i,(D.FL i).length=flds
 cZ:∀i,i<flds->∀(w:Tw) (A:MA),I0 w (N8 len f D (D.FL i)) A->Gv 83 #[mV (N8 len f D (D.FL i)) A] w (Yd (D.zz i))
 hls:D.ls.length<=flds
 cI:∀(w:Tw) (A:MA),I0 w (N8 len f D (D.FL flds)) A->GZ 9 #[mV (N8 len f D (D.FL flds)) A] w λr w'=>∃a0 c0,r=Rt (Sl a0 D.ls.length c0)/\sB w' a0 D.ls/\Bw w w'
 FM0:D.FM 0=D.FL flds
 FMs:∀k,k<D.ls.length->D.FM (k+1)=if Q0 len f (D.pq flds+k) 4=0/\((D.FM k).getD k S9).lb<0 then ID k (D.ls.getD k 0) (D.FM k) flds else D.FM k
 FMl:∀k,k<=D.ls.length->(D.FM k).length=flds
end
def qD (G:Nat->Nat->Fl × Nat)(p0:Nat):Nat->Nat
 | 0=>p0
 | k+1=>(G k (qD G p0 k)).2
def WC (Z:List Fl->Int)(flds:Nat)(l0:List Fl):Nat->List Fl
 | 0=>l0
 | i+1=>if 0<=Z (WC Z flds l0 i) then ID (Z (WC Z flds l0 i)) (-1) (WC Z flds l0 i) flds else WC Z flds l0 i
def MH (len:Nat)(f:Nat->Nat)(p0 flds:Nat)(ls:List Int)(l0:List Fl):Nat->List Fl
 | 0=>l0
 | k+1=>if Q0 len f (p0+k) 4=0/\((MH len f p0 flds ls l0 k).getD k S9).lb<0 then ID k (ls.getD k 0) (MH len f p0 flds ls l0 k) flds else MH len f p0 flds ls l0 k
structure FD (N nr:Nat)(m:Fm):Prop where
 ll:m.L.length=N
 l:∀x,x∈m.L->x.size<=64
 pl:m.P.length<=200
 rl:m.R.length=nr
 r:∀x,x∈m.R->x.nm.size<=64
 fs:mF N nr m.F
 fl:m.F.length<=100
def FD.fit {N m}(h:FD N n m)(Q:N<=100)(O:n<=1000):N2 m:=by have:=h.ll;have:=h.pl;have:=h.rl;have:=h.fl;exact⟨fK,fK,fK,fK,λx t=>Yt (h.l x t) fM,λx t=>Yt (h.r x t) fM,λx t=>(h.fs x t).fit O⟩
def FD.lba {N m}(h:FD N n m):UI m:=by have:=h.fl;refine⟨fK,λa k=>?_⟩;rw[P6 k,h.ll];exact(h.fs _ (Yn k)).lb
def Ih {f D}(e:∀i,i<=1000->(D.lnm i).size<=64)(O:∀i,i<=1000->(D.rnm i).size<=64)(Q:D.N<=100)(P:D.nn<=3)(a:D.lp.length<=200){l}(F:mF D.N (D.nn+1) l)(G:l.length<=100):FD D.N (D.nn+1) (N8 n f D l):=by refine⟨NI _ _,λx t=>?_,a,NI _ _,λx t=>?_,F,G⟩;{obtain⟨i,y,rfl⟩:=Y9.1 t;have:=Y5.1 y;exact e i fK};obtain⟨i,y,rfl⟩:=Y9.1 t;have:=Y5.1 y;exact O i fK
def jC {p:Prop}(h:p:=by show(MH X f (qD G S q) q g (WC Z q b q) g.length).length<=100;omega):p:=h
def Km (X f)(aa:X<=1048576)(p)(hp:p<=1000)(q)(ag:q<=20):∃a:SD,RY X f a p q/\FD a.N (a.nn+1) (N8 X f a (RE X f a q))/\(RE X f a q).length=q:=by obtain⟨N,V,r,M,v,P,ad,cD⟩:=qq3 X f p aa hp;obtain⟨U,O⟩:=BV Hu;obtain⟨W,T⟩:=BV Lv;obtain⟨e,s⟩:=BV (λi y=>lU ⟨#[97,98,99,100,101,102,103,104]⟩ i fM fM y);obtain⟨B,top,af,ah,cB⟩:=Im N M V fK;obtain⟨z,ac⟩:∃z,z=if 0<Q0 X f r 10 then 1+Q0 X f r 10 % 3 else 0:=⟨_,rfl⟩;have R:z<=3:=(by rw[ac];split <;> omega);obtain⟨c,L⟩:∃c:SD,c=⟨N,V,r,z,B,top,U,W,e,λ_=>S9,λ_=>0,λ_=>0,λ_=>[],[],λ_=>[]⟩:=⟨_,rfl⟩;have ae:c.p2<=p+11+9:=(by rw[L];show r+1+2*(z+1)<=_;omega);have n:∀a b:Nat,∃u:Fl × Nat,a<q->b<=50000->XB N (z+1) u.1/\u.1.nm=e a/\u.2<=b+800/\∀(w:Tw) (j:To) (C:Nat) (Y Z xr Q:To) (H S I J nf E:Nat) (t l:Value),D6 w j X f->VB (B8 (E6 X f c) e a) w t->VB (B8 (E6 X f c) e q) w l -> GZ 82 #[Sl j X C,Yd b,.agg (Jo Y N H Z S I xr (z+1:Nat) J Q nf E),Yd a,Yd (E6 X f c a),t,l] w λK x=>∃A,K=Rt (.tuple #[fV u.1 A,Yd u.2])/\Q6 x w.1.size u.1 A/\Bw w x:=λa b=>(by by_cases d:a<q;{by_cases hq:b<=50000;{obtain⟨h,q',g,o,-,-,u,G⟩:=My (EX (ty:=E6 X f c) (nm:=e) (k:=a) fK (λi y=>(s i y).1)) (EX (ty:=E6 X f c) (nm:=e) (k:=q) fK (λi y=>(s i y).1)) X f aa b fK a N (z+1) fK M fK fK (E6 X f c a) (OO _) (e a) (s a fK).1 (s a fK).2;exact⟨(h,q'),λ_ _=>⟨g,o,u,G⟩⟩};exact⟨(S9,0),λ_ h=>absurd h hq⟩};exact⟨(S9,0),λh=>absurd h d⟩);obtain⟨G,n⟩:∃G:Nat->Nat->Fl × Nat,∀a b:Nat,a<q->b<=50000->XB N (z+1) (G a b).1/\(G a b).1.nm=e a/\(G a b).2<=b+800/\∀(w:Tw) (j:To) (C:Nat) (Y Z xr Q:To) (H S I J nf E:Nat) (t l:Value),D6 w j X f->VB (B8 (E6 X f c) e a) w t->VB (B8 (E6 X f c) e q) w l -> GZ 82 #[Sl j X C,Yd b,.agg (Jo Y N H Z S I xr (z+1:Nat) J Q nf E),Yd a,Yd (E6 X f c a),t,l] w λK x=>∃A,K=Rt (.tuple #[fV (G a b).1 A,Yd (G a b).2])/\Q6 x w.1.size (G a b).1 A/\Bw w x:=⟨λa b=>Classical.choose (n a b),λa b=>Classical.choose_spec (n a b)⟩;obtain⟨S,Y⟩:∃S,S=c.p2+q:=⟨_,rfl⟩;have u:∀a,a<=q->qD G S a<=S+800*a:=λa=>(by induction a with|zero=>intro _;exact nR _|succ a j=>intro d;have g:=j fK;have o:=(n a (qD G S a) fK fK).2.2.1;show(G a (qD G S a)).2<=S+800*(a+1);rw[Nat.mul_succ,<- Gh];exact Yt o (Nat.add_le_add_right g 800));obtain⟨b,x⟩:∃b,b=(List.range q).map λa=>(G a (qD G S a)).1:=⟨_,rfl⟩;have K:mF N (z+1) b:=λI t=>(by rw[x]at t;obtain⟨a,d,rfl⟩:=Y9.1 t;have d:=Y5.1 d;have:=u a fK;exact(n a (qD G S a) d fK).1);have H:∀{l:List Fl},mF N (z+1) l->l.length=q->FD N (z+1) (N8 X f c l):=λ{l} g o=>(by subst L;exact Ih (D:=⟨N,V,r,z,B,top,U,W,e,λ_=>S9,λ_=>0,λ_=>0,λ_=>[],[],λ_=>[]⟩) (λi y=>(O i y).1) (λi y=>(T i y).1) v R P g fK);have Q:∀l:List Fl,∃E:Int,mF N (z+1) l->l.length=q->∀(w:Tw) (A:MA),I0 w (N8 X f c l) A->Gv 83 #[mV (N8 X f c l) A] w (Yd E):=λl=>(by by_cases h:mF N (z+1) l/\l.length=q;{have C:=H h.1 h.2;obtain⟨E,-,J⟩:=qq4 _ (C.fit v fK) C.lba (Fq C.pl);exact⟨E,λ_ _=>J⟩};exact⟨0,λg o=>absurd ⟨g,o⟩ h⟩);obtain⟨Z,Q⟩:∃Z:List Fl->Int,∀l:List Fl,mF N (z+1) l->l.length=q->∀(w:Tw) (A:MA),I0 w (N8 X f c l) A->Gv 83 #[mV (N8 X f c l) A] w (Yd (Z l)):=⟨λl=>Classical.choose (Q l),λl=>Classical.choose_spec (Q l)⟩;have l:∀i,mF N (z+1) (WC Z q b i)/\(WC Z q b i).length=q:=λi=>(by induction i with|zero=>exact⟨K,by show b.length=q;rw[x,NI]⟩|succ i j=>unfold WC;split;{refine⟨?_,JV _ _ _ _⟩;have:=Wf (m:=Z (WC Z q b i)) (lab:=-1) j.1 ⟨fK,fK⟩;rwa [j.2]at this};exact j);have w:=H (l q).1 (l q).2;obtain⟨g,J,C,A⟩:=qk8 _ (w.fit v fK);have E:g.length<=q:=(by have:(N8 X f c (WC Z q b q)).F.length=q:=(l q).2;omega);have o:∀a,a<=g.length->mF N (z+1) (MH X f (qD G S q) q g (WC Z q b q) a)/\(MH X f (qD G S q) q g (WC Z q b q) a).length=q:=λa=>(by induction a with|zero=>intro _;exact l q|succ a j=>intro d;have j:=j fK;unfold MH;split;{refine⟨?_,JV _ _ _ _⟩;have t:=C (g.getD a 0) (by rw[Yo,Ym fK];exact Yn _);rw[w.ll]at t;have:=Wf (m:=a) (lab:=g.getD a 0) j.1 ⟨fK,fK⟩;rwa [j.2]at this};exact j);subst L;refine⟨⟨N,V,r,z,B,top,U,W,e,λa=>(G a (qD G S a)).1,qD G S,λi=>Z (WC Z q b i),WC Z q b,g,MH X f (qD G S q) q g (WC Z q b q)⟩,?_,?_,?_⟩;{refine⟨M,v,P,ad,cD,λi y=>(O i y).2,ac,R,cB,λi y=>(T i y).2,λi y=>(s i y).2,Y,λa d=>?_,λa d=>?_,λa d=>?_,x,λi=>rfl,λi=>(l i).2,λi _=>Q _ (l i).1 (l i).2,E,A,rfl,λa _=>rfl,λa d=>(o a d).2⟩;{have:=u a d;show qD G S a<=100000;omega};{have:=u a fK;exact(n a (qD G S a) d fK).2.2.2};have:=u a fK;exact(n a (qD G S a) d fK).2.1};{refine Ih (λi y=>(O i y).1) (λi y=>(T i y).1) v R P ?_ ?_;{unfold RE;have h:=(o g.length (nR _)).1;split;{exact λI t=>h I (Og.1 t)};exact h};unfold RE;have h:=(o g.length (nR _)).2;split;{rw[Zh];exact jC};exact jC};unfold RE;have h:=(o g.length (nR _)).2;split;{rw[Zh];exact h};exact h
def rH.rng {w b o g A}(h:rH w b o g A):w.rangeAt b o (N1 g A):=λj v s=>by obtain⟨-,G,a,p,c,S,q,H,z,f⟩:=h;match j,s with|0,s=>cases s;exact G|1,s=>cases s;exact a|2,s=>cases s;exact p|3,s=>cases s;exact c|4,s=>cases s;exact S|5,s=>cases s;exact q|6,s=>cases s;exact H|7,s=>cases s;exact z|8,s=>cases s;exact f|_+9,s=>cases s
def m0.rng {w g cs}(h:m0 w g t cs):w.rangeAt g 0 cs:=λj v s=>by rw[Zl];exact(h.cell j).trans s
def Uh (h:j<n):n - (intOf (Yd ((j:Int)+1))).toNat<n - (intOf (Yd (j:Int))).toNat:=by exact kv
section
variable {R:Nat} {m:Fm} {P:List (Fl × FA)} {v1 v2 v3 v4:Value} {w W W':Tw}
def m0.grow {base e k cs}(h:m0 W q t cs)(O:W.ownsRow base e k v n x)(g:e≠t)(C:W.grownBy W' v.ownBlock):m0 W' q t cs:=(C.block _ h.lt (λf=>PC O h g f.symm)).trans h
def P3.setP (h:P3 R m P v1 v2 v3 v4 w W){l v'}(a:D8 W w.1.size v' l):P3 R { m with P:=l } P v1 v' v3 v4 w (W.setCell (Aq R 1) v'):=by have p:=h.hR;have d:M3 W w.1.size v1 v' v3 v4 { m with P:=l } P:=⟨h.ow.l,a,h.ow.r,h.ow.f,h.ow.e⟩;exact⟨h.bx.set 1 _,d.formSet h.bx 1 _,h.bl.setCell (show w.1.size<=R by omega) _,h.r0.other _ (show w.1.size≠R by omega),p⟩
def P3.setF (h:P3 R m P v1 v2 v3 v4 w W){y v'}(f:RB W w.1.size v' y):P3 R { m with F:=y.map (·.1) } y v1 v2 v3 v' w (W.setCell (Aq R 3) v'):=by have a:=h.hR;have d:M3 W w.1.size v1 v2 v3 v' { m with F:=y.map (·.1) } y:=⟨h.ow.l,h.ow.p,h.ow.r,f,rfl⟩;exact⟨h.bx.set 3 _,d.formSet h.bx 3 _,h.bl.setCell (show w.1.size<=R by omega) _,h.r0.other _ (show w.1.size≠R by omega),a⟩
def P3.rowF (h:P3 R m P v1 v2 v3 v4 w W){y v'}(f:RB W w.1.size v' y):P3 R { m with F:=y.map (·.1) } y v1 v2 v3 v' w (W.setRow R #[v1,v2,v3,v']):=by have a:=h.hR;have d:M3 W w.1.size v1 v2 v3 v' { m with F:=y.map (·.1) } y:=⟨h.ow.l,h.ow.p,h.ow.r,f,rfl⟩;exact⟨h.bx.row [v1,v2,v3,v'],d.one h.bx fM fM fM fM fM fM (λb k=>setRow_other W R b #[v1,v2,v3,v'] k),below_setRow h.bl (show w.1.size<=R by omega) _,h.r0.row_other (show w.1.size≠R by omega) _,a⟩
section
variable {K:Int->List Tb} {B:Nat} {z1 z2 z3:Value}
def TC.blk (h:TC z1 z2 z3 W W')(k:O6 K W B z1 z2 z3){cs}(c:m0 W q t cs)(z:9≠t):m0 W' q t cs :=
 (h.block q c.lt (PC k.r1 c z) (PC k.r2 c z) (PC k.r3 c z)).trans c
def MQ {base e k c v'}(h:W.ownsRow base e k v n x)(V:W.ownsRow i j p v' c y)(g:e≠j)(b:v.ownBlock=Sm q):v'.ownBlock≠Sm q:=λM=>by rcases X9 h V g with a|a;{rw[a]at b;cases b};exact a (b.trans M.symm)
def TC.own (h:TC z1 z2 z3 W W')(b:O6 K W B z1 z2 z3){base e k}(O:W.ownsRow base e k v n x)(g:e≠9):W'.ownsRow base e k v n x :=
 KI O λq a=>h.block q (QC O a) (MQ O b.r1 g a) (MQ O b.r2 g a) (MQ O b.r3 g a)
def TC.low (h:TC z1 z2 z3 W W')(a:O6 K W B z1 z2 z3){base e k}(O:W.ownsRow base e k v n x)(c:∀q,v.ownBlock=Sm q->q<B):W'.ownsRow base e k v n x := KI O λq b=>by have f:=c q b;have j:∀{z:Value} {l:List Tb},OA W B z l->z.ownBlock≠Sm q:=λd M=>(Fq (C3 d M));exact h.block q (QC O b) (j a.r1) (j a.r2) (j a.r3)
def TC.below (h:TC z1 z2 z3 W W')(k:O6 K W B z1 z2 z3)(b:B<=W.1.size):Below B W W' :=
 ⟨h.os,h.tape,h.output,h.size,λq a=>by
  have j:∀{z:Value} {l:List Tb},OA W B z l->z.ownBlock≠Sm q:=λa M=>by have:=C3 a M;omega
  exact h.block q fK (j k.r1) (j k.r2) (j k.r3)⟩
def Q6.kpt (h:TC z1 z2 z3 W W')(k:O6 K W B z1 z2 z3){base g A}(O:Q6 W base g A):Q6 W' base g A :=
 ⟨h.own k O.b fM,h.own k O.i fM,h.own k O.h fM,h.own k O.v fM,h.own k O.u fM⟩
def P3.kpt (a:P3 R m P v1 v2 v3 v4 w W)(h:TC z1 z2 z3 W W')(k:O6 K W B z1 z2 z3)(b:B<=W.1.size)(g:w.1.size<=B)(c:∀q,v1.ownBlock=Sm q->q<B):P3 R m P v1 v2 v3 v4 w W' :=
 ⟨h.blk k a.bx fM,⟨h.low k a.ow.l c,h.own k a.ow.p fM,h.own k a.ow.r fM,⟨h.own k a.ow.f.row fM,λp d=>Q6.kpt h k (a.ow.f.sub p d)⟩,a.ow.e⟩,a.bl.trans ((h.below k b).mono g),h.blk k a.r0 fM,a.hR⟩
def O6.grow (a:O6 K W B z1 z2 z3){base e k}(O:W.ownsRow base e k v n x)(g:9≠e)(C:W.grownBy W' v.ownBlock):O6 K W' B z1 z2 z3 :=
 ⟨a.r1.kept C (X9 a.r1 O g),a.r2.kept C (X9 a.r2 O g),a.r3.kept C (X9 a.r3 O g),a.a12,a.a13,a.a23⟩
def O6.one (k:O6 K W B z1 z2 z3){g cs}(c:m0 W g t cs)(z:9≠t)(a:∀b,b≠g->W'.heap[b]? = W.heap[b]?):O6 K W' B z1 z2 z3 :=
 ⟨CA k.r1 c z a,CA k.r2 c z a,CA k.r3 c z a,k.a12,k.a13,k.a23⟩
def O6.nil (a:∀i,K i=[]):O6 K W B Ye Ye Ye:=by have z:∀i,OA W B Ye (K i):=λi=>(by rw[a i];exact World.ownsRow_nil _ _ _ _);exact⟨z 1,z 2,z 3,λq h=>gD,λq h=>gD,λq h=>gD⟩
def O6.slices (k:O6 K W B z1 z2 z3):∃f d i S a y b t c,z1=Sl f d i/\z2=Sl S a y/\z3=Sl b t c:=by obtain⟨j,i,X,-,-⟩:=k.r1.strs;obtain⟨N,y,u,-,-⟩:=k.r2.strs;obtain⟨e,c,V,-,-⟩:=k.r3.strs;exact⟨_,_,_,_,_,_,_,_,_,X,u,V⟩
def O6.pick (k:O6 K W B z1 z2 z3):VB K W (.agg #[z1,z2,z3]):=by obtain⟨j,i,rfl,-,a⟩:=k.r1.strs;obtain⟨N,y,rfl,-,p⟩:=k.r2.strs;obtain⟨e,c,rfl,-,b⟩:=k.r3.strs;exact⟨_,_,_,_,_,_,_,_,_,rfl,⟨rfl,a⟩,⟨rfl,p⟩,rfl,b⟩
def O6.low (k:O6 K W B z1 z2 z3):(∀q,z1.ownBlock=Sm q->q<W.1.size)/\(∀q,z2.ownBlock=Sm q->q<W.1.size)/\∀q,z3.ownBlock=Sm q->q<W.1.size:=⟨λ_ h=>QC k.r1 h,λ_ h=>QC k.r2 h,λ_ h=>QC k.r3 h⟩
end
def Xu {w:Tw}{g a}(z)(h:a.block≠g):(w.setRow g z).cell? a=w.cell? a:=by unfold World.cell?;rw[setRow_other _ _ _ _ h]
def Lm {w base c l}(h:zB w base (Sl a n c) l)(b:n=l.length):sB w a l:=by subst b;exact xW h
structure vC (tys:List Int)(KA KB:Int->List Tb)(B B4:Nat)(vt u1 u2 u3 z1 z2 z3:Value)(W:Tw):Prop where
 ty:zB W B vt tys
 ab:m0 W (B+1) 153 [u1,u2,u3]
 ak:O6 KA W B u1 u2 u3
 bb:m0 W B4 153 [z1,z2,z3]
 bk:O6 KB W B4 z1 z2 z3
 lo:B+1<B4
 l1:∀q,u1.ownBlock=Sm q->q<B4
 l2:∀q,u2.ownBlock=Sm q->q<B4
 l3:∀q,u3.ownBlock=Sm q->q<B4
section
variable {tys:List Int} {KA KB KB':Int->List Tb} {B B4:Nat} {vt u1 u2 u3 z1 z2 z3 y1 y2 y3:Value}
def vC.mono (h:vC tys KA KB B B4 vt u1 u2 u3 z1 z2 z3 W)(c:Bw W W'):vC tys KA KB B B4 vt u1 u2 u3 z1 z2 z3 W' :=
 ⟨uA h.ty c,h.ab.mono c h.ab.lt,h.ak.keep c,h.bb.mono c h.bb.lt,h.bk.keep c,h.lo,h.l1,h.l2,h.l3⟩
def vC.grow (h:vC tys KA KB B B4 vt u1 u2 u3 z1 z2 z3 W){base k}(O:W.ownsRow base 56 k v n x)(C:W.grownBy W' v.ownBlock):vC tys KA KB B B4 vt u1 u2 u3 z1 z2 z3 W' :=
 ⟨h.ty.kept C (X9 h.ty O fM),h.ab.grow O fM C,h.ak.grow O fM C,h.bb.grow O fM C,h.bk.grow O fM C,h.lo,h.l1,h.l2,h.l3⟩
def vC.one (h:vC tys KA KB B B4 vt u1 u2 u3 z1 z2 z3 W){cs}(c:m0 W R 28 cs)(g:∀k,k≠R->W'.heap[k]? = W.heap[k]?)(d:B+1≠R)(k:B4≠R):vC tys KA KB B B4 vt u1 u2 u3 z1 z2 z3 W' :=
 ⟨CA h.ty c fM g,(g _ d).trans h.ab,h.ak.one c fM g,(g _ k).trans h.bb,h.bk.one c fM g,h.lo,h.l1,h.l2,h.l3⟩
def vC.kpt (h:vC tys KA KB B B4 vt u1 u2 u3 z1 z2 z3 W)(k:TC z1 z2 z3 W W')(hy:O6 KB' W' B4 y1 y2 y3):vC tys KA KB' B B4 vt u1 u2 u3 y1 y2 y3 (W'.setRow B4 #[y1,y2,y3]):=by have U:=k.blk h.bk h.bb fM;have a:=h.lo;have Y:∀j,j≠B4->(W'.setRow B4 #[y1,y2,y3]).heap[j]? = W'.heap[j]?:=λj s=>setRow_other _ _ _ _ s;have J:O6 KA W' B u1 u2 u3:=⟨k.low h.bk h.ak.r1 h.l1,k.low h.bk h.ak.r2 h.l2,k.low h.bk h.ak.r3 h.l3,h.ak.a12,h.ak.a13,h.ak.a23⟩;exact⟨CA (k.own h.bk h.ty fM) U fM Y,(Y _ fK).trans (k.blk h.bk h.ab fM),J.one U fM Y,U.row [y1,y2,y3],hy.one U fM Y,a,h.l1,h.l2,h.l3⟩
def vC.at (h:vC tys KA KB B B4 vt u1 u2 u3 z1 z2 z3 W){x c k}(D:vt=Sl x tys.length c)(a:k<tys.length):∃b o,x=Sm (Aq b o)/\b<W.1.size/\W.cell? (Aq b (o+k))=Sm (Yd (tys.getD k 0)):=by have:=h.ty;rw[D]at this;exact xW this k a
def P3.four (a:P3 R m P v1 v2 v3 v4 w W)(h:TC z1 z2 z3 W W')(k:O6 KB W B4 z1 z2 z3)(b:B4<=W.1.size)(d:w.1.size<B4)(e:∀q,v1.ownBlock=Sm q->q<B4)(S:m0 W B4 153 [u1,u2,u3])(cs)(p:B4≠R):P3 R m P v1 v2 v3 v4 w (W'.setRow B4 cs):=by have I:=a.kpt h k b fK e;have U:=h.blk k S fM;have Y:=a.hR;exact⟨I.bx.row_other (Ne.symm p) _,I.ow.one U fM fM fM fM fM fM (λc k=>setRow_other W' B4 c cs k),below_setRow I.bl fK _,I.r0.row_other fK _,Y⟩
end
def qmt {a:Type}(l:List a)(s:j<l.length):l.reverse.take (l.length - j)=l.reverse.take (l.length - (j+1))++[l[j]]:=by have h:l.length - j=(l.length - (j+1))+1:=fK;rw[h,Om];congr 1;have p:l.length - (j+1)<l.reverse.length:=(by rw[Zh];omega);rw[Ym p,List.getElem_reverse];simp only[Option.toList_some,List.cons.injEq,and_true];congr 1;omega
def sB.other {l}(h:sB W a l){cs}(c:m0 W R 28 cs)(M:∀(j:Nat) (i:Int),cs[j]?≠Sm (Value.int .i64 i))(d:∀k,k≠R->W'.heap[k]? = W.heap[k]?)(F:W.1.size<=W'.1.size):sB W' a l:=λk O=>by obtain⟨b,o,e,g,p⟩:=h k O;have U:b≠R:=λf=>(by subst f;rw[c.cell]at p;exact M _ _ p);refine⟨b,o,e,fK,?_⟩;rw[<- p];unfold World.cell?;rw[d b U]
def qqp (e a F x d k t n c1 c2 c3 c4):∀(j:Nat) (i:Int),[Value.slice e d c1,Sl a k c2,Sl F t c3,Sl x n c4][j]?≠Sm (Yd i):=λj i h=>by match j,h with|0,h=>cases h|1,h=>cases h|2,h=>cases h|3,h=>cases h|_+4,h=>cases h
end
def qak (w:Tw)(r):w.grownBy w r:=⟨rfl,rfl,rfl,nR _,λ_ _ _=>rfl⟩
def BU {L rest o a Q w}(l:o.guard=.none)(s x t e X z b W) (V:o.op=.call { callee:=.builtin .append,args:=#[s,x],argTypes:=#[t,t] }) (m:prog.underlying t=Sm (.slice e)) (hi:prog.info? e=Sm X) (J:X.zero=Sm z) (S:X.size=b) (M:X.bytes=W) (T:z.cells.size=b) (I:0<b) {base k n i v u y N} (F:a.eval s=v) (c:w.ownsRow base e b v n y) (r:a.eval x=u) (hy:w.ownsRow k e b u i N) (h1:∀f,f∈N->f.oneCell'=Tt) (E:n+i<=1000000) (D:W<=1000) (K:base<=w.1.size) (h:∀g j,j.ownsRow base e b g (n+i) (y++N)->w.grownBy j v.ownBlock->Below base w j->wpList prog L Q rest (a.put o.dst g) j):wpList prog L Q (o :: rest) a w:=by have U:=hy.1;rcases hy.2 with ⟨rfl,rfl⟩|⟨d,R,A,rfl,hg,H,O,P,Y,B⟩;{have Z:N=[]:=Zj.1 (by rw[U,Gq]);subst Z;refine wpList_append_own_none l s x t V base e X b m hi v n y F c r ?_;exact h v w (by simpa using c) (qak _ _) (bR _ _)};have C:m0 w d e A.toList:=(by show w.heap[d]? = _;rw[H]);have G:(n+i)*W<=140737488355328:=Yt (Ov E D) fM;refine wpList_append_own w l s x t V base e X z b W m hi J S M T I v n y F c (Aq d 0) i R N r U (λZ f q=>?_) h1 fS G K (λg j h1 p _=>h g j h1 p ((bR base w).grown p K (λg e=>C3 c e)));rw[Addr.add_mid,Zl,C.cell,<- q,<- B,Vo];have:=(List.getElem?_eq_some_iff.1 q).1;omega
def xE:Tl->Nat->Tl->Tl
 | xs,_,[]=>xs
 | xs,o,c :: r=>xE (xs.set o c) (o+1) r
def Ki:∀(k:Tl) (B:Tl)(o:Nat),(xE B o k).length=B.length
 | [],_,_=>rfl
 | c :: r,B,o=>by rw[xE,Ki r];simp
def Xc:∀(k:Tl) (B zs N:Tl),zs.length=k.length->xE (B++(zs++N)) B.length k=B++(k++N)|[],B,zs,N,h=>by rw[Zj.1 h];rfl|c :: r,B,zs,N,h=>by cases zs with|nil=>cases h|cons z zs=>rw[xE,Vh,List.set_append_right _ _ (nR _),Nat.sub_self,Yw];have:=Xc r (B++[c]) zs N gh;rw[Yk]at this;simpa using this
def qqe {P k}(a:k<P.length)(x):xE (L6 P) (k*9) (N1 x.1 x.2)=L6 (P.set k x):=by have Y:P=P.take k++P[k] :: P.drop (k+1):=(by rw[<- Ok a,Vg]);have e:(L6 (P.take k)).length=k*9:=(by unfold L6;rw[De (s:=9) (λ_=>rfl),Za,Gj fK]);have X:L6 P=L6 (P.take k)++(N1 P[k].1 P[k].2++L6 (P.drop (k+1))):=(by (conv=>lhs;rw[Y]);unfold L6;rw[Vf,Vi]);have u:L6 (P.set k x)=L6 (P.take k)++(N1 x.1 x.2++L6 (P.drop (k+1))):=(by rw[List.set_eq_take_append_cons_drop,Yy a];unfold L6;rw[Vf,Vi]);rw[X,u,<- e];exact Xc _ _ _ _ rfl
def ZZ (b:Nat)(t:TypeId):∀(k:Tl) (o:Nat) (w:Tw) (a:Tl),m0 w b t a->m0 (w.setCells b o k) b t (xE a o k)
 | [],_,_,_,h=>h
 | c :: r,o,w,a,h=>by rw[World.setCells,xE];exact ZZ b t r (o+1) _ _ (h.set o c)
def NP (b:Nat):∀(a:Tl) (o:Nat) (w:Tw) (k:Nat),k≠b->(w.setCells b o a).heap[k]? = w.heap[k]?
 | [],_,_,_,_=>rfl
 | c :: r,o,w,k,h=>by rw[World.setCells,NP b r (o+1) _ k h];exact heap_setCell_other _ _ _ _ h
def RZ {B b:Nat}{a:Tw}(d:B<=b):∀(k:Tl) (o:Nat) (w:Tw),Below B a w->Below B a (w.setCells b o k)
 | [],_,_,h=>h
 | c :: r,o,w,h=>by rw[World.setCells];exact RZ d r (o+1) _ (h.setCell d c)
def If:∀(k:Tl) (B:Tl)(o n:Nat),(xE B o k).take n=xE (B.take n) o k
 | [],_,_,_=>rfl
 | c :: r,B,o,n=>by rw[xE,xE,If r,List.take_set]
def Kf {w:Tw}{base g c k P}(b:w.ownsRow base 56 9 (GX g P.length c) P.length (L6 P))(d:k<P.length)(x):w.there g (k*9) 9/\(w.setCells g (k*9) (N1 x.1 x.2)).ownsRow base 56 9 (GX g P.length c) (P.set k x).length (L6 (P.set k x)):=by rcases b.2 with ⟨e,V⟩|⟨v,R,h,e,C,B,S,q,H,z⟩;{cases e};cases e;have a:m0 w g 56 h.toList:=(by exact uk);refine⟨λj f=>⟨?_,a.free _⟩,by rw[Vk];unfold L6;rw[De (s:=9) (λ_=>rfl),Vk],.inr ⟨g,c,(xE h.toList (k*9) (N1 x.1 x.2)).toArray,by rw[Vk],C,ZZ g _ _ _ _ _ a,by rw[Vk];exact S,q,by simp[Ki,H],?_⟩⟩;{have:k*9+j<h.toList.length:=(by rw[Ge,H];omega);rw[a.cell,Ym this];rfl};rw[Vk,<- qqe d x,<- z,<- If]
def r9 (x:Tb):Nx:=⟨1,⟨0,0,⟨#[]⟩⟩,x⟩
def ZO:Tb:=⟨#[109,117,115,116]⟩
def NK:Tb:=⟨#[110,111,32,114,117,108,101]⟩
def kcI:Tb:=⟨#[110,111,119,104,101,114,101]⟩
def zM:Tb:=⟨#[99,108,101,114,107]⟩
section
variable (what k nl:Nat) (nx:Tb)
def qO (g:Fl):Fl:=if what=0 then { g with nm:=nx } else g
def rO (g:Fl):Fl:=if what=1 then { g with nm:=ZO } else g
def tO (g:Fl):Fl:=if what=2 then { g with lb:=(nl:Int) } else g
def uO (g:Fl):Fl:=if what=3 then { g with ty:=4 - (((k % 2:Nat):Int)*4) } else g
def PR (g:Fl):Fl:=if what=4 then { g with bys:=[0,0]++g.bys } else g
def QR (g:Fl):Fl:=if what=5 then { g with sy:=NK,va:=[] } else g
def SR (g:Fl):Fl:=if what=6 then { g with mu:=[⟨3,⟨0,0,⟨#[]⟩⟩,⟨#[]⟩⟩] } else g
def TR (g:Fl):Fl:=if what=7 then { g with wh:=[r9 kcI] } else g
def WR (g:Fl):Fl:=if what=8\/what=9 then { g with bys:=[],is:=[r9 nx] } else g
def xP (g:Fl):Fl:=if what=10 then { g with wh:=[r9 nx] } else g
def uL (g:Fl):Fl:=if what=11\/what=12 then { g with lb:=0 } else if what=13\/what=14 then { g with lb:=0,mu:=[r9 nx] } else if what=15 then { g with lb:=0,mu:=[r9 nx],bys:=[],is:=[⟨0,⟨1,1,⟨#[]⟩⟩,⟨#[]⟩⟩] } else g
def vO (g:Fl):Fl:=uL what nx (xP what nx (WR what nx (TR what (SR what (QR what (PR what (uO what k (tO what nl (rO what (qO what nx g))))))))))
def QI (l:List (Int × Int)):List (Int × Int):=if what=16/\0<l.length then l.drop 1 else if what=17 then ((nl:Int) - 1,0) :: l else if what=19 then (0,(nl:Int)) :: l else l
def RI (l:List Rl):List Rl:=if what=18 then ⟨zM,0⟩ :: l else l
end
structure UA (v1 v2 v3 v4 vo:Value)(P:List (Fl × FA))(base F X rd:Nat)(nx:Tb)(g:Fl)(A:FA)(w W:Tw):Prop where
 fb:m0 W F 28 [v1,v2,v3,v4]
 r0:m0 W (F+1) 28 J0
 out:W.ownsRow F 56 9 vo P.length (L6 P)
 bx:m0 W X 56 (N1 g A)
 ow:Q6 W base g A
 rr:t5 W base (GX rd 1 1) [r9 nx]
 bl:Below F w W
 ne:vo.ownBlock≠Sm X
 hX:F+1<X
section
variable {v1 v2 v3 v4 vo:Value} {P:List (Fl × FA)} {base F X rd:Nat} {nx:Tb} {g g':Fl} {A A':FA} {w W W':Tw}
def UA.mono (h:UA v1 v2 v3 v4 vo P base F X rd nx g A w W)(c:Bw W W'):UA v1 v2 v3 v4 vo P base F X rd nx g A w W' :=
 ⟨h.fb.mono c h.fb.lt,h.r0.mono c h.r0.lt,uA h.out c,h.bx.mono c h.bx.lt,h.ow.mono c,h.rr.keep c,h.bl.trans (c.mono (Oi h.fb.lt)),h.ne,h.hX⟩
def UA.put (h:UA v1 v2 v3 v4 vo P base F X rd nx g A w W)(j v)(M:(N1 g A).set j v=N1 g' A')(V:Q6 W base g' A'):UA v1 v2 v3 v4 vo P base F X rd nx g' A' w (W.setCell (Aq X j) v):=by have E:=h.hX;exact⟨h.fb.other _ (show F≠X by omega),h.r0.other _ (show F+1≠X by omega),KI h.out λq e=>heap_setCell_other _ _ _ _ (λf=>h.ne (by rw[e,show q=X from f])),by rw[<- M];exact h.bx.set j v,V.one h.bx fM fM (λk a=>heap_setCell_other _ _ _ _ a),CA h.rr h.bx fM (λk a=>heap_setCell_other _ _ _ _ a),h.bl.setCell (show F<=X by omega) _,h.ne,E⟩
end
structure VA (v1 v2 v3 v4:Value)(m:Fm)(P:List (Fl × FA))(base F:Nat)(w W:Tw):Prop where
 fb:m0 W F 28 [v1,v2,v3,v4]
 r0:m0 W (F+1) 28 J0
 om:M3 W base v1 v2 v3 v4 m P
 bl:Below F w W
section
variable {v1 v2 v3 v4 v':Value} {P:List (Fl × FA)} {m:Fm} {base F:Nat} {w W W':Tw}
def VA.mono (h:VA v1 v2 v3 v4 m P base F w W)(c:Bw W W'):VA v1 v2 v3 v4 m P base F w W':=⟨h.fb.mono c h.fb.lt,h.r0.mono c h.r0.lt,h.om.mono c,h.bl.trans (c.mono (Oi h.fb.lt))⟩
def VA.setP (h:VA v1 v2 v3 v4 m P base F w W){l}(a:D8 W base v' l):VA v1 v' v3 v4 { m with P:=l } P base F w (W.setCell (Aq F 1) v'):=by have d:M3 W base v1 v' v3 v4 { m with P:=l } P:=⟨h.om.l,a,h.om.r,h.om.f,h.om.e⟩;exact⟨h.fb.set 1 _,h.r0.other _ (show F+1≠F by omega),d.formSet h.fb 1 _,h.bl.setCell (nR _) _⟩
def VA.setR (h:VA v1 v2 v3 v4 m P base F w W){l}(a:VI W base v' l):VA v1 v2 v' v4 { m with R:=l } P base F w (W.setCell (Aq F 2) v'):=by have d:M3 W base v1 v2 v' v4 { m with R:=l } P:=⟨h.om.l,h.om.p,a,h.om.f,h.om.e⟩;exact⟨h.fb.set 2 _,h.r0.other _ (show F+1≠F by omega),d.formSet h.fb 2 _,h.bl.setCell (nR _) _⟩
def VA.fin (h:VA v1 v2 v3 v4 m P base F w W):M3 (W.setRow (F+1) #[v1,v2,v3,v4]) base v1 v2 v3 v4 m P/\Below F w (W.setRow (F+1) #[v1,v2,v3,v4])/\m0 (W.setRow (F+1) #[v1,v2,v3,v4]) (F+1) 28 [v1,v2,v3,v4] :=
 ⟨h.om.one h.r0 fM fM fM fM fM fM (λk a=>setRow_other W (F+1) k #[v1,v2,v3,v4] a),below_setRow h.bl fK _,h.r0.row [v1,v2,v3,v4]⟩
end
def UA.done {v1 v2 v3 v4 P base F X rd k nx g A w W m}(h:UA v1 v2 v3 v4 (GX n P.length j) P base F X rd nx g A w W)(y:base<=F)(x:w.1.size=F)(D:k<P.length)(s:M3 w base v1 v2 v3 v4 m P):VA v1 v2 v3 (GX n P.length j) { m with F:=m.F.set k g } (P.set k (g,A)) base F w ((W.setCells n (k*9) (N1 g A)).setCell (Aq F 3) (GX n P.length j)):=by have C:=C3 h.out rfl;have c:Below F w (W.setCells n (k*9) (N1 g A)):=RZ C _ _ _ h.bl;have d:∀{q:Nat} {t:TypeId} {a:Tl},m0 W q t a->56≠t->m0 (W.setCells n (k*9) (N1 g A)) q t a:=λB z=>(NP n _ _ _ _ (λe=>PC h.out B z (by rw[<- e];rfl))).trans B;have a:=s.mono (show Bw w (W.setCells n (k*9) (N1 g A)) by rw[Bw,x];exact c);have L:Q6 (W.setCells n (k*9) (N1 g A)) base g A:=(by have o:∀{b e z p:Nat} {v:Value} {t:Tl},W.ownsRow b e z v p t->e≠56->(W.setCells n (k*9) (N1 g A)).ownsRow b e z v p t:=λO b=>KI O λq B=>NP n _ _ _ _ (λe=>MQ O h.out b B (by rw[e];rfl));exact⟨o h.ow.b fM,o h.ow.i fM,o h.ow.h fM,o h.ow.v fM,o h.ow.u fM⟩);have M:=(Kf h.out D (g,A)).2;have N:M3 (W.setCells n (k*9) (N1 g A)) base v1 v2 v3 (GX n P.length j) { m with F:=m.F.set k g } (P.set k (g,A)):=(by refine⟨a.l,a.p,a.r,⟨PB M y,λp b=>?_⟩,?_⟩;{rcases List.mem_or_eq_of_mem_set b with b|rfl;{exact a.f.sub p b};exact L};show m.F.set k g=_;rw[List.map_set,<- s.e]);have v:=d h.fb fM;exact⟨v.set 3 _,(d h.r0 fM).other _ (show F+1≠F by omega),N.formSet v 3 _,c.setCell (nR _) _⟩
