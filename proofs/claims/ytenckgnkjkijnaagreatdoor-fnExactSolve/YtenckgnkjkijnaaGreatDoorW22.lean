import Derived.Test.YtenckgnkjkijnaaGreatDoorW16
import Derived.Test.YtenckgnkjkijnaaGreatDoorW18
import Derived.Test.YtenckgnkjkijnaaGreatDoorW13
set_option maxRecDepth 100000
set_option maxHeartbeats 64000000
namespace Go.Proofs.YtenckgnkjkijnaaGreatDoor
open Go Go.RowKit Go.Proofs.Tryz
variable {w W U:Tw}{n k i:Nat}{v u:Value}{a:To}{s:Tb}
theorem qfe:(prog.info? 190).map (fun a=>(a.zero,a.size,a.bytes))=some (some (.agg #[J6 0,J6 0,J6 0,J8,J8]),5,56):=by kernel_rfl
theorem Blk.of_owns5 {base g:Nat}{xs:Tl}(b:w.ownsRow base k 5 (.slice (some ⟨g,0,none⟩) n n) n xs):Blk w g k xs/\xs.length=n*5:=by
 refine⟨?_,b.1⟩;rcases b.2 with ⟨a,_⟩ | ⟨h,e,f,a,_,d,_,_,i,c⟩
 . simp at a
 . simp only[Value.slice.injEq,Vk,Addr.mk.injEq,and_true,true_and]at a
   obtain⟨rfl,rfl⟩:=a;rw[Yy (by simp;omega)]at c;rw[<- c];simpa [Blk] using d
theorem qd1 (n:Nx)(left:Int)(w:Tw)(h:Fit n)(o:0<=left)(p:left<=1048576) :
 Calls prog 117 #[nv n,J6 left] w fun b c=>∃a:Int,b=.returned (J6 a)/\(0<=a->a<=1048576/\n.v.s.size<=1048576/\n.nm.size<=1048576)/\(a<0->a = -1)/\Below w.heap.size w c:=by
 obtain⟨m,r,-,-⟩:=h;unfold nv;obtain⟨d,a⟩:=oB (Blk.new w 197 #[J6 n.op,J6 n.v.k,J6 n.v.n,.string n.v.s,.string n.nm]) ((bR w.heap.size w).alloc (nR _) (.cells #[J6 n.op,J6 n.v.k,J6 n.v.n,.string n.v.s,.string n.nm] 197));go_enter func117,ntmps117;go_wp2_with fail;refine cQ (q9r n.v.k n.v.n n.v.s left _ m o p) fun x f=>?_;replace d:=mB d f;replace a:=mT a f;obtain⟨y,z,A,B,C⟩:=kaG d;by_cases g:left<n.v.s.size
 . rw[Yr g]
   go_wp2_with fail;go_ret;exact⟨_,rfl,fun c=>absurd c (by decide),fun _=>rfl,a⟩
 . rw[Yl g]
   have j:¬ left - n.v.s.size<0:=by omega
   obtain⟨b,i⟩:=Nq (left - n.v.s.size);have e:Hi (b<=1048576/\n.v.s.size<=1048576/\0<=b):=h_ (by omega);rw[i]at j⊢;have q:=e.1;by_cases t:b<n.nm.size
   . have l:b - n.nm.size<0:=by omega
     go_wp2_with fail;go_ret;exact⟨_,rfl,fun c=>absurd c (by decide),fun _=>rfl,a⟩
   . have l:¬ b - n.nm.size<0:=by omega
     go_wp2_with fail;go_ret;exact⟨_,rfl,fun _=>by have:=e.u;omega,fun c=>by omega,a⟩
theorem q9p (a:To)(m c:Nat)(e:Nat->Nx)(f:Int)(w:Tw)(M:0<=f)(N:f<=1048576)(Q:m<=9223372036854775807)(D:∀b,b<m->Fit (e b))(B:kch w a m e) :
 Calls prog 85 #[.slice a m c,J6 f] w fun u d=>∃g:Int,u=.returned (J6 g)/\(0<=g->g<=1048576/\m<=1048576/\∀b,b<m->(e b).v.s.size<=1048576/\(e b).nm.size<=1048576)/\(g<0->g = -1)/\Below w.heap.size w d:=by
 obtain⟨x,y⟩:=oB B D;have I:wrap64 (f - (m:Int))=f - (m:Int):=q6w (by omega) (by omega);by_cases i:(m:Int)<=f
 . have o:¬ f - (m:Int)<0:=by omega
   obtain⟨r,E⟩:=Nq (f - (m:Int));have l:Hi (0<=r/\r<=1048576):=h_ (by omega);rw[E]at o I;go_enter func85,ntmps85;go_wp2_with fail;go_loopw [1,5] (fun d h wr=>∃(b:Nat) (left:Int),b<=m/\d=J6 left/\h=J6 b/\0<=left/\left<=1048576/\(∀d,d<b->(e d).v.s.size<=1048576/\(e d).nm.size<=1048576)/\Below w.heap.size w wr) (fun _ h _=>m - (intOf h).toNat)
   case atStart=>exact⟨0,_,nZ _,rfl,rfl,l.1,l.2,fun d p=>absurd p (nL _),bR _ _⟩
   case round =>
    obtain⟨b,left,O,rfl,rfl,J,t,C,j⟩:=hrel;obtain⟨k,h,A⟩:=oC C j (x.mono j);by_cases q:b<m
    . have P:(b:Int)<m:=by omega
      obtain⟨K,R,rfl,-,L,c1,c2,c3,c4⟩:=A b q;go_wp2_with fail;refine(qd1 (e b) left _ (y b q) J t).mono ?_;rintro u S ⟨g,rfl,G,H,j⟩;replace h:=mT h j;by_cases F:g<0
      . obtain rfl:=H F
        go_wp2_with fail;go_ret;exact⟨_,rfl,fun i=>absurd i (by decide),fun _=>rfl,h⟩
      . have n:=h_ (G (by omega))
        have z:Hi (∀d,d<b+1->(e d).v.s.size<=1048576/\(e d).nm.size<=1048576):=h_ fun d p=>by
         by_cases p:d=b
         . rw[p];exact n.2
         . exact k d (by omega)
        refine rQ ?_;exact⟨b+1,g,by omega,rfl,by go_num,by omega,n.1,z,h⟩
    . obtain rfl:b=m:=by omega
      go_wp2_with fail;go_ret;exact⟨_,rfl,fun _=>⟨t,by omega,k⟩,fun i=>by omega,h⟩
 . have o:f - (m:Int)<0:=by omega
   go_enter func85,ntmps85;go_wp2_with fail;go_ret;exact⟨_,rfl,fun i=>absurd i (by decide),fun _=>rfl,bR _ _⟩
theorem qd6 (n:Nx)(w:Tw) :
 Calls prog 131 #[nv n] w fun a b=>a=.returned (nv n)/\Below w.heap.size w b:=by
 unfold nv;obtain⟨e,a,b,d⟩:=oD (((Blk.new w 197 #[J6 n.op,J6 n.v.k,J6 n.v.n,.string n.v.s,.string n.nm]).alloc (.cells #[J6 0,J6 0,J6 0,J8,J8] 190)).alloc (.cells #[J6 n.op,J6 0,J6 0,J8,J8] 190)) ((Blk.new (w.alloc (.cells #[J6 n.op,J6 n.v.k,J6 n.v.n,.string n.v.s,.string n.nm] 197)) 190 #[J6 0,J6 0,J6 0,J8,J8]).alloc (.cells #[J6 n.op,J6 0,J6 0,J8,J8] 190)) (Blk.new ((w.alloc (.cells #[J6 n.op,J6 n.v.k,J6 n.v.n,.string n.v.s,.string n.nm] 197)).alloc (.cells #[J6 0,J6 0,J6 0,J8,J8] 190)) 190 #[J6 n.op,J6 0,J6 0,J8,J8]) ((((bR w.heap.size w).alloc (nR _) (.cells #[J6 n.op,J6 n.v.k,J6 n.v.n,.string n.v.s,.string n.nm] 197)).alloc (by simp) (.cells #[J6 0,J6 0,J6 0,J8,J8] 190)).alloc (by simp;omega) (.cells #[J6 n.op,J6 0,J6 0,J8,J8] 190));simp only[Yp]at a b;go_enter func131,ntmps131;go_wp2_with fail;refine cQ (q9u n.v.k n.v.n n.v.s _) fun D c=>?_;replace e:=mB e c;replace a:=mB a c;replace b:=mB b c;replace d:=mT d c;obtain⟨E,F,G,H,I⟩:=kaG e;obtain⟨y,z,A,B,C⟩:=kaG a;obtain⟨q,r,t,u,x⟩:=kaG b;have f:=a.free 0;have g:=a.free 1;have h:=a.free 2;have i:=a.free 3;have j:=a.free 4;have l:=b.free 1;have m:=b.free 2;have o:=b.free 3;have p:=b.free 4;go_wp2_with fail;refine bQ ⟨rfl,?_⟩;exact((((((((d.setCell (by simp;omega) _).setCell (by simp;omega) _).setCell (by simp;omega) _).setCell (by simp;omega) _).setCell (by simp) _).setCell (by simp) _).setCell (by simp) _).setCell (by simp) _).setCell (by simp) _
theorem qd5 (a:To)(e:Nat->Nx)(n c:Nat)(w:Tw)(I:kch w a n e)(hn:n<=1048576) :
 Calls prog 92 #[.slice a n c] w fun d b=>d=.returned (.slice (some ⟨w.heap.size,0,none⟩) n n)/\kch b (some ⟨w.heap.size,0,none⟩) n e/\Bk b w.heap.size 190 (n*5)/\Below w.heap.size w b:=by
 obtain⟨z,M,P,Q,R⟩:=info_parts qfe;obtain⟨k,j⟩:=Nq w.heap.size;have K:z.bytes*n<=281474976710656:=by rw[R];omega
 have B:=h_ I;go_enter func92,ntmps92;go_wp2_with (at_make;refine wpList_make_full _ rfl _ _ 90 rfl w.heap.size 190 z _ 5 underlying90 M P Q .i64 .i64 _ _ n rfl rfl rfl rfl K (by unfold maxLen;omega) (nR _) ?_;intro S y L);have J:Below k w S:=by rw[<- j];exact(bR _ _).grown L (nR _) (fun b g=>by cases g)
 rw[j]at y;obtain⟨l,m⟩:=Blk.of_owns5 y;obtain⟨f,i,C⟩:=oC l m J;go_wp2_with fail;go_loopw [4] (fun o wr=>∃(b:Nat) (h:Tl),b<=n/\o=J6 b/\Blk wr k 190 h/\h.length=n*5/\(∀d,d<b->h[d*5]? = some (J6 (e d).op)/\h[d*5+1]? = some (J6 (e d).v.k)/\h[d*5+2]? = some (J6 (e d).v.n)/\h[d*5+3]? = some (.string (e d).v.s)/\h[d*5+4]? = some (.string (e d).nm))/\Below k w wr) (fun o _=>n - (intOf o).toNat)
 case atStart=>exact⟨0,_,nZ _,rfl,f,i,fun d g=>absurd g (nL _),C⟩
 case round =>
  obtain⟨b,h,hk,rfl,l,m,O,r⟩:=hrel;obtain⟨f,i,q,p,E⟩:=oG l m O r (B.mono (r.mono (by omega)));by_cases N:b<n
  . have ag:(b:Int)<n:=by omega
    obtain⟨T,o1,rfl,af,Z,aa,ac,ad,ae⟩:=E b N;go_wp2_with fail;refine cQ (qd6 (e b) _) fun w3 t=>?_;have g:=f.mono t f.lt;have A:=p.trans (t.mono (by have:=f.lt;omega));have G:=g.cell (b*5);have c1:=g.cell (b*5+1);have c2:=g.cell (b*5+2);have c3:=g.cell (b*5+3);have c4:=g.cell (b*5+4);have U:=g.free (b*5);have V:=g.free (b*5+1);have W:=g.free (b*5+2);have X:=g.free (b*5+3);have Y:=g.free (b*5+4);rw[Yg (by have:=i.u;omega)]at G c1 c2 c3 c4;obtain⟨F,D⟩:=oB g A;unfold nv;go_wp2_with fail;go_roundw
    case rel =>
     refine⟨b+1,_,by omega,by go_num,((((F.set (b*5) (J6 (e b).op)).set (b*5+1) (J6 (e b).v.k)).set (b*5+2) (J6 (e b).v.n)).set (b*5+3) (.string (e b).v.s)).set (b*5+4) (.string (e b).nm),by simpa using i.u,fun d x=>?_,((((D.setCell (nR _) _).setCell (nR _) _).setCell (nR _) _).setCell (nR _) _).setCell (nR _) _⟩;have ah:=i.u;by_cases H:d=b
     . subst H
       simp[List.getElem?_set];omega
     . have:=q d (by omega)
       simp only[Zx]
       (repeat rw[Yl (by omega)])
       exact this
    case measure=>simp[intOf];omega
  . obtain rfl:n=b:=by omega
    go_wp2_with fail;go_ret;refine⟨by rw[j];rfl,?_,?_,?_⟩
    . intro d x
      have:=q d x;exact⟨k,0,by rw[j],f.lt,by rw[Y3,f.u.cell];exact this.1,by rw[Y3,f.u.cell];exact this.2.1,by rw[Y3,f.u.cell];exact this.2.2.1,by rw[Y3,f.u.cell];exact this.2.2.2.1,by rw[Y3,f.u.cell];exact this.2.2.2.2⟩
    . rw[j];exact⟨_,f,i⟩
    . rw[j];exact p
theorem q7l (n:Nx)(w:Tw) :
 Calls prog 146 #[nv n,nv n] w fun a b=>a=.returned (.bool true)/\Below w.heap.size w b:=by
 unfold nv;have e:(n.nm.toList==n.nm.toList)=true:=by simp
 obtain⟨c,a,b⟩:=oC ((Blk.new w 190 #[J6 n.op,J6 n.v.k,J6 n.v.n,.string n.v.s,.string n.nm]).alloc (.cells #[J6 n.op,J6 n.v.k,J6 n.v.n,.string n.v.s,.string n.nm] 190)) (Blk.new (w.alloc (.cells #[J6 n.op,J6 n.v.k,J6 n.v.n,.string n.v.s,.string n.nm] 190)) 190 #[J6 n.op,J6 n.v.k,J6 n.v.n,.string n.v.s,.string n.nm]) (((bR w.heap.size w).alloc (nR _) (.cells #[J6 n.op,J6 n.v.k,J6 n.v.n,.string n.v.s,.string n.nm] 190)).alloc (by simp) (.cells #[J6 n.op,J6 n.v.k,J6 n.v.n,.string n.v.s,.string n.nm] 190));simp only[Yp]at a;go_enter func146,ntmps146;go_wp2_with fail;refine cQ (q56 n.v.k n.v.n n.v.s _) fun l d=>?_;replace c:=mB c d;replace a:=mB a d;replace b:=mT b d;obtain⟨m,o,p,q,r⟩:=kaG c;obtain⟨f,g,h,i,j⟩:=kaG a;go_wp2_with fail;go_ret;exact⟨rfl,b⟩
theorem q53 (a b:To)(g:Nat->Nx)(n I J:Nat)(w:Tw)(N:n<=1048576)(K:kch w a n g)(k:kch w b n g) :
 Calls prog 108 #[.slice a n I,.slice b n J] w fun c e=>c=.returned (.bool true)/\Below w.heap.size w e:=by
 obtain⟨F,G⟩:=oB K k;go_enter func108,ntmps108;go_wp2_with fail;go_loopw [5] (fun c wr=>∃d:Nat,d<=n/\c=J6 d/\Below w.heap.size w wr) (fun c _=>n - (intOf c).toNat)
 case atStart=>exact⟨0,nZ _,rfl,bR _ _⟩
 case round =>
  obtain⟨d,M,rfl,h⟩:=hrel;have v:=h_ h;by_cases B:d<n
  . obtain⟨z,C,rfl,t⟩:=(F.mono h) d B
    obtain⟨A,D,rfl,u⟩:=(G.mono h) d B;obtain⟨c,L⟩:=Nq (g d);rw[L]at t u;obtain⟨x,y⟩:=oB t u;have O:(0:Int)<=d:=(by omega);have P:(d:Int)<n:=(by omega);go_wp2_with fail;refine wp_region_held_drew (S:=fun e=>kft e z (C+d*5) c/\kft e A (D+d*5) c) (by kernel_rfl) ⟨x,y⟩ (fun e=>?_);refine tkA 0 e ?_;refine tkA 1 e ?_;refine tkA 2 e ?_;refine tkL 3 20 (.agg #[J6 c.op,J6 c.v.k,J6 c.v.n,.string c.v.s,.string c.nm]) e ?_ (hy:=fun w j=>by obtain⟨⟨-,l,m,o,p,q⟩,-⟩:=j;simp[execOp,go_sem,l,m,o,p,q]);refine tkA 4 e ?_;refine tkA 5 e ?_;refine tkA 6 e ?_;refine tkL 7 24 (.agg #[J6 c.op,J6 c.v.k,J6 c.v.n,.string c.v.s,.string c.nm]) e ?_ (hy:=fun w j=>by obtain⟨-,⟨-,l,m,o,p,q⟩⟩:=j;simp[execOp,go_sem,l,m,o,p,q]);refine kaL (i:=8) (f:=146) (args:=#[nv c,nv c]) (R:=fun E j=>E=.bool true/\Below wr.heap.size wr j) 25 rfl rfl (by rfl) (by kernel_rfl) ?hrun1 ((q7l c _).mono fun g r ⟨j,k⟩=>⟨_,j,rfl,q36 k⟩) ?_
    case hrun1=>simp[execOp,go_sem,nv]
    rintro E r ⟨rfl,j⟩;have H:=mT v j;replace e:kft r z (C+d*5) c/\kft r A (D+d*5) c:=⟨x.mono j,y.mono j⟩;refine⟨e,?_⟩;refine kaS (by(first | simp only[Ya,Yb] | skip);rfl) (by(first | simp only[Ya,Yb] | skip);rfl) ?_;refine tkL 9 26 (.bool false) e ?_;refine wdQ ?_;refine rQ ?_;exact⟨d+1,by omega,by go_num,H⟩
  . obtain rfl:n=d:=by omega
    go_wp2_with fail;go_ret;exact⟨rfl,v⟩
theorem qar (a b:Nat)(f:Fl):kaq a b f=(decide (1<=f.ty/\f.ty<=3)&&decide (-1<=f.lb/\f.lb<a)&&kbG b f.bys&&decide (f.is.length=0∨f.bys.length=0)&&kaw f.sy&&decide (f.va.length≠0∨f.sy.size=0)&&kac f.is&&kac f.wh&&kac f.va&&kac f.mu):=rfl
theorem q0z (f:Fl)(A:FA)(m:Fm)(M:MA)(w:Tw)(d:kd2 f)(b:FSl w f A) :
 Gv 121 #[fV f A,mV m M] w (.bool (kaq m.L.length m.R.length f)):=by
 obtain⟨ab,I,ai,ac,Z,aa,av,ae,au,ad⟩:=A;obtain⟨al,am,ap,an,ar,T,af,ak,aJ⟩:=M;unfold fV mV;dsimp only;have a:=qar m.L.length m.R.length f;obtain⟨HK,U⟩:=oB ((Blk.new w 92 (Ja f ab I ai ac Z aa av ae au ad)).alloc (.cells (#[.slice al m.L.length am,.slice ap m.P.length an,.slice ar m.R.length T,.slice af m.F.length ak]) 37)) (Blk.new (w.alloc (.cells (Ja f ab I ai ac Z aa av ae au ad) 92)) 37 (#[.slice al m.L.length am,.slice ap m.P.length an,.slice ar m.R.length T,.slice af m.F.length ak]));rw[Yp]at U;have q:=h_ (((bR w.heap.size w).alloc (nR _) (.cells (Ja f ab I ai ac Z aa av ae au ad) 92)).alloc (by simp) (.cells (#[.slice al m.L.length am,.slice ap m.P.length an,.slice ar m.R.length T,.slice af m.F.length ak]) 37));obtain⟨V,c⟩:=Nq ((w.alloc (.cells (Ja f ab I ai ac Z aa av ae au ad) 92)).alloc (.cells (#[.slice al m.L.length am,.slice ap m.P.length an,.slice ar m.R.length T,.slice af m.F.length ak]) 37));rw[c]at HK U q;obtain⟨HS,s⟩:=oB (b.mono q) d;obtain⟨N,e⟩:=Nq m.L.length;obtain⟨l,g⟩:=Nq m.R.length;rw[e]at a U c⊢;rw[g]at a U c⊢;clear e g b d;obtain⟨u,x,y,o,z,B,C,D,E⟩:=kaU HK;obtain⟨Y,z1,X,z3⟩:=kaf U;by_cases h1:f.ty<1
 . rw[show kaq N l f=false by rw[a,Yd (by omega)];rfl]
   go_enter func121,ntmps121;go_wp2_with fail;go_ret;exact⟨rfl,q⟩
 by_cases h2:3<f.ty
 . rw[show kaq N l f=false by rw[a,Yd (by omega)];rfl]
   go_enter func121,ntmps121;go_wp2_with fail;go_ret;exact⟨rfl,q⟩
 by_cases h3:f.lb < -1
 . rw[show kaq N l f=false by rw[a,Yd (show ¬ (-1<=f.lb/\f.lb<N) by omega),Oa];rfl]
   go_enter func121,ntmps121;go_wp2_with fail;go_ret;exact⟨rfl,q⟩
 by_cases h4:(N:Int)<=f.lb
 . rw[show kaq N l f=false by rw[a,Yd (show ¬ (-1<=f.lb/\f.lb<N) by omega),Oa];rfl]
   go_enter func121,ntmps121;go_wp2_with fail;go_ret;exact⟨rfl,q⟩
 rw[Ye (show 1<=f.ty/\f.ty<=3 by omega),Ye (show -1<=f.lb/\f.lb<N by omega),Y9,Y9]at a;obtain⟨n,d⟩:=Nq (kaq N l f);rw[d]at a⊢;have HQ:=h_ a;have aK:=s.bl;have aj:Hi (∀b (i:b<f.bys.length),∃g h,ab=some ⟨g,h,none⟩/\g<V.heap.size/\V.cell? ⟨g,h+b,none⟩=some (J6 f.bys[b])):=h_ fun b i=>by
  obtain⟨g,h,e,W,j⟩:=HS.b b i;refine⟨g,h,e,W,?_⟩;rw[j];show some (Value.int .i64 (f.bys.getD b 0))=_;rw[Yo,Yg i];rfl
 clear d a;go_enter func121,ntmps121;go_wp2_with fail
 try rw[c]
 clear c u x y o z B C D E Y z1 X z3;go_loopw [5,6] (fun d _ wr=>∃b:Nat,b<=f.bys.length/\d=J6 b/\(∀c (i:c<f.bys.length),c<b->inR l f.bys[c]=true/\∀d (O:d<c),f.bys[c]≠f.bys[d])/\Bw V wr) (fun d _ _=>f.bys.length - (intOf d).toNat)
 case atStart=>exact⟨0,nZ _,rfl,fun c _ J=>absurd J (nL _),bR _ _⟩
 case round =>
  obtain⟨b,hk,rfl,a,e⟩:=hrel;obtain⟨HL,G⟩:=oB a e;have r:=mB HK e;have ax:=mB U e;obtain⟨u,x,y,o,z,B,C,D,E⟩:=kaU r;obtain⟨Y,z1,X,z3⟩:=kaf ax;clear a e;by_cases W:b<f.bys.length
  . have aG:(b:Int)<f.bys.length:=by omega
    obtain⟨g,h,rfl,aB,j⟩:=aj b W;have t:=(G.cell (p:=⟨g,h+b,none⟩) aB).trans j;have k:Hi (inR l f.bys[b]=false->n=false):=h_ fun i=>by rw[HQ.u,qdy W i];rfl
    have HT:Hi (∀c (J:c<b),f.bys[b]=f.bys[c]->n=false):=h_ fun c J i=>by rw[HQ.u,q78 W J i];rfl
    have HD:Hi (Bw V wr.drew):=h_ G.drew;have ao:inR l f.bys[b]=decide (0<=f.bys[b]/\f.bys[b]<l):=rfl;clear j;obtain⟨H,K⟩:=Nq (f.bys[b]);by_cases hn:H<0
    . have Q:Hi (n=false):=h_ (k (by rw[ao,K,Yd (by omega)]))
      rw[K]at t;go_wp2_with fail;refine wp_region_held_drew (S:=fun j=>j.cell? ⟨w.heap.size,3,none⟩=some (.slice (some ⟨g,h,none⟩) f.bys.length I)/\j.cell? ⟨g,h+b,none⟩=some (J6 H)/\j.cell? ⟨w.heap.size+1,2,none⟩=some (.slice ar l T)) (by kernel_rfl) ⟨o,t,X⟩ (fun a=>?_);refine tkA 0 a ?_;refine tkA 1 a ?_;refine tkA 2 a ?_;refine tkA 3 a ?_;refine tkA 4 a ?_;refine tkL 5 40 (.bool true) a ?_;refine tkL 6 41 (.bool true) a ?_;refine skL 7 42 a ?_;refine skL 8 43 a ?_;refine skL 9 44 a ?_;refine skL 10 45 a ?_;refine skL 11 46 a ?_;refine skL 12 47 a ?_;refine skL 13 48 a ?_;refine skL 14 49 a ?_;refine skL 15 50 a ?_;refine tkL 16 51 (.bool true) a ?_;refine wdQ ?_;clear a;go_wp2_with fail;go_ret;exact⟨qln Q.symm,q.trans (HD.mono q.size)⟩
    by_cases hg:(l:Int)<=H
    . have Q:Hi (n=false):=h_ (k (by rw[ao,K,Yd (by omega)]))
      rw[K]at t;go_wp2_with fail;refine wp_region_held_drew (S:=fun j=>j.cell? ⟨w.heap.size,3,none⟩=some (.slice (some ⟨g,h,none⟩) f.bys.length I)/\j.cell? ⟨g,h+b,none⟩=some (J6 H)/\j.cell? ⟨w.heap.size+1,2,none⟩=some (.slice ar l T)) (by kernel_rfl) ⟨o,t,X⟩ (fun a=>?_);refine tkA 0 a ?_;refine tkA 1 a ?_;refine tkA 2 a ?_;refine tkA 3 a ?_;refine tkA 4 a ?_;refine tkL 5 40 (.bool false) a ?_;refine tkL 6 41 (.bool false) a ?_;refine tkA 7 a ?_;refine tkA 8 a ?_;refine tkA 9 a ?_;refine tkA 10 a ?_;refine tkA 11 a ?_;refine tkA 12 a ?_;refine tkA 13 a ?_;refine tkA 14 a ?_;refine tkL 15 50 (.bool true) a ?_;refine tkL 16 51 (.bool true) a ?_;refine wdQ ?_;clear a;go_wp2_with fail;go_ret;exact⟨qln Q.symm,q.trans (HD.mono q.size)⟩
    have HI:Hi (inR l f.bys[b]=true):=h_ (by rw[ao,K,Ye (by omega)]);have aI:=h_ t;rw[K]at t;go_wp2_with fail;refine wp_region_held_drew (S:=fun j=>j.cell? ⟨w.heap.size,3,none⟩=some (.slice (some ⟨g,h,none⟩) f.bys.length I)/\j.cell? ⟨g,h+b,none⟩=some (J6 H)/\j.cell? ⟨w.heap.size+1,2,none⟩=some (.slice ar l T)) (by kernel_rfl) ⟨o,t,X⟩ (fun a=>?_);refine tkA 0 a ?_;refine tkA 1 a ?_;refine tkA 2 a ?_;refine tkA 3 a ?_;refine tkA 4 a ?_;refine tkL 5 40 (.bool false) a ?_;refine tkL 6 41 (.bool false) a ?_;refine tkA 7 a ?_;refine tkA 8 a ?_;refine tkA 9 a ?_;refine tkA 10 a ?_;refine tkA 11 a ?_;refine tkA 12 a ?_;refine tkA 13 a ?_;refine tkA 14 a ?_;refine tkL 15 50 (.bool false) a ?_;refine tkL 16 51 (.bool false) a ?_;refine wdQ ?_;clear a;clear u x y o z B C D E Y z1 X z3 t G r ax;go_wp2_with fail;go_loopw [6] (fun X Y=>∃c:Nat,c<=b/\X=J6 c/\(∀d (O:d<b),d<c->f.bys[b]≠f.bys[d])/\Bw V Y) (fun X _=>b - (intOf X).toNat)
    case atStart=>exact⟨0,nZ _,rfl,fun d _ J=>absurd J (nL _),HD⟩
    case round =>
     obtain⟨c,J,rfl,X,e⟩:=hrel;obtain⟨aw,G⟩:=oB X e;have r:=mB HK e;obtain⟨u,x,y,o,z,B,C,D,E⟩:=kaU r;clear X e;by_cases aC:c<b
     . have aD:(c:Int)<b:=by omega
       have aM:(c:Int)<f.bys.length:=(by omega);obtain⟨b2,o2,e2,aE,X⟩:=aj c (by omega);cases e2;obtain⟨b3,o3,e3,aF,ay⟩:=aj b W;cases e3;have c1:=(G.cell (p:=⟨g,h+c,none⟩) aE).trans X;have t:=(G.cell (p:=⟨g,h+b,none⟩) aF).trans ay;have Q:Hi (f.bys[b]=f.bys[c]->n=false):=h_ fun i=>HT c aC i;have Y:Hi (f.bys[b]≠f.bys[c]->∀d (O:d<b),d<c+1->f.bys[b]≠f.bys[d]):=h_ fun i d O aL=>by
        by_cases ei:d=c
        . subst ei;exact i
        . exact aw d O (by omega)
       have aq:Hi (Bw V wr.drew):=h_ G.drew;clear X ay;obtain⟨ag,hu⟩:=Nq (f.bys[c]);rw[K]at t;rw[hu]at c1;by_cases X:H=ag
       . have aA:Hi (n=false):=h_ (Q (by rw[K,hu,X]))
         have aH:(H==ag)=true:=(by simp[X]);clear X Q Y;go_wp2_with fail;refine wp_region_held_drew (S:=fun j=>j.cell? ⟨w.heap.size,3,none⟩=some (.slice (some ⟨g,h,none⟩) f.bys.length I)/\j.cell? ⟨g,h+b,none⟩=some (J6 H)/\j.cell? ⟨g,h+c,none⟩=some (J6 ag)) (by kernel_rfl) ⟨o,t,c1⟩ (fun a=>?_);refine tkA 0 a ?_;refine tkA 1 a ?_;refine tkA 2 a ?_;refine tkA 3 a ?_;refine tkA 4 a ?_;refine tkA 5 a ?_;refine tkA 6 a ?_;refine tkA 7 a ?_;refine tkA 8 a ?_;refine tkA 9 a ?_;refine tkL 10 67 (.bool true) a ?_;refine wdQ ?_;clear a;go_wp2_with fail;go_ret;exact⟨qln aA.symm,q.trans (aq.mono q.size)⟩
       . have az:=h_ (Y (by rw[K,hu];exact X))
         have aH:(H==ag)=false:=Yc.2 X;clear X Q Y;go_wp2_with fail;refine wp_region_held_drew (S:=fun j=>j.cell? ⟨w.heap.size,3,none⟩=some (.slice (some ⟨g,h,none⟩) f.bys.length I)/\j.cell? ⟨g,h+b,none⟩=some (J6 H)/\j.cell? ⟨g,h+c,none⟩=some (J6 ag)) (by kernel_rfl) ⟨o,t,c1⟩ (fun a=>?_);refine tkA 0 a ?_;refine tkA 1 a ?_;refine tkA 2 a ?_;refine tkA 3 a ?_;refine tkA 4 a ?_;refine tkA 5 a ?_;refine tkA 6 a ?_;refine tkA 7 a ?_;refine tkA 8 a ?_;refine tkA 9 a ?_;refine tkL 10 67 (.bool false) a ?_;refine wdQ ?_;clear a;refine rQ ?_;exact⟨c+1,by omega,by go_num,az,aq⟩
     . obtain rfl:c=b:=by omega
       have aD:¬ (c:Int)<(c:Int):=(by omega);have Y:Hi (∀d (i:d<f.bys.length),d<c+1->inR l f.bys[d]=true/\∀m (a:m<d),f.bys[d]≠f.bys[m]):=h_ fun d i O=>by
        by_cases ei:d=c
        . subst ei;exact⟨HI,fun m a=>aw m a a⟩
        . exact HL d i (by omega)
       refine rQ ?_;exact⟨c+1,by omega,by go_num,Y,G⟩
  . have aG:¬ (b:Int)<f.bys.length:=by omega
    have g:kbG l f.bys=true:=qe0 (fun d i=>(HL d i (by omega)).1) (fun d i c J=>(HL d i (by omega)).2 c J);have d:=h_ HQ;rw[g,Y9]at d;obtain⟨c,a⟩:=oB (HS.mono G) (q.trans (G.mono q.size));have X:=s.il;have Y:=s.vl;clear HQ g HL aj HS;by_cases O:0<f.is.length/\0<f.bys.length
    . have g:(0:Int)<f.is.length:=by omega
      have h:(0:Int)<f.bys.length:=(by omega);have k:Hi (n=false):=h_ (by rw[d.u,Yd (show ¬ (f.is.length=0∨f.bys.length=0) by omega)];rfl);clear d O;go_wp2_with fail;go_ret;exact⟨qln k.symm,a⟩
    have g:Hi (n=(kaw f.sy&&decide (f.va.length≠0∨f.sy.size=0)&&kac f.is&&kac f.wh&&kac f.va&&kac f.mu)):=h_ (by rw[d.u,Ye (show f.is.length=0∨f.bys.length=0 by omega),Y9]);clear d;have K:f.is.length=0∨((0:Int)<f.is.length/\f.bys.length=0):=(by omega);clear O;have O:=s.sy;rcases K with d | ⟨d,Q⟩
    all_goals
     go_wp2_with fail;refine cQ (q2k f.sy _ O) fun w4 j=>?_;replace j:=j.symm;subst j;clear d
     try clear Q
     cases d:kaw f.sy
     . have k:Hi (n=false):=h_ (by rw[g.u,d];rfl)
       go_wp2_with fail;go_ret;exact⟨qln k.symm,a⟩
     have h:Hi (n=(decide (f.va.length≠0∨f.sy.size=0)&&kac f.is&&kac f.wh&&kac f.va&&kac f.mu)):=h_ (by rw[g.u,d,Y9]);clear d;have J:(f.va.length=0/\(0:Int)<f.sy.size)∨(f.va.length=0/\f.sy.size=0)∨((f.va.length:Int)==0)=false:=by
      by_cases d:f.va.length=0
      . by_cases i:f.sy.size=0
        . exact .inr (.inl ⟨d,i⟩)
        . exact .inl ⟨d,by omega⟩
      . exact .inr (.inr (Yc.2 (by omega)))
     rcases J with ⟨i,H⟩ | t
     . have k:Hi (n=false):=h_ (by
        rw[h.u,Yd (by omega)];rfl)
       go_wp2_with fail;go_ret;exact⟨qln k.symm,a⟩
     have d:Hi (n=(kac f.is&&kac f.wh&&kac f.va&&kac f.mu)):=h_ (by
      rw[h.u,Ye,Y9];rcases t with ⟨h1,h2⟩ | h1
      . omega
      . have:=Yc.1 h1
        omega)
     clear g h;rcases t with ⟨i,H⟩ | i
     all_goals
      go_wp2_with fail;refine cQ (q5w ai ac f.is _ s.il c.i s.i) fun w5 e=>?_;replace a:=mT a e;replace c:=h_ (c.mono e);replace r:=mB r e;clear e u x y o z B C D E;clear i
      try clear H
      obtain⟨u,x,y,o,z,B,C,D,E⟩:=kaU r;cases h:kac f.is
      . have k:Hi (n=false):=h_ (by rw[d.u,h];simp)
        go_wp2_with fail;go_ret;exact⟨qln k.symm,a⟩
      rw[h]at d;go_wp2_with fail;refine cQ (q5w Z aa f.wh _ s.hl c.h s.h) fun w5 e=>?_;replace a:=mT a e;replace c:=h_ (c.mono e);replace r:=mB r e;clear e u x y o z B C D E;obtain⟨u,x,y,o,z,B,C,D,E⟩:=kaU r;cases g:kac f.wh
      . have k:Hi (n=false):=h_ (by rw[d.u,g];simp)
        go_wp2_with fail;go_ret;exact⟨qln k.symm,a⟩
      rw[g]at d;go_wp2_with fail;refine cQ (q5w av ae f.va _ s.vl c.v s.v) fun w5 e=>?_;replace a:=mT a e;replace c:=h_ (c.mono e);replace r:=mB r e;clear e u x y o z B C D E;obtain⟨u,x,y,o,z,B,C,D,E⟩:=kaU r;cases i:kac f.va
      . have k:Hi (n=false):=h_ (by rw[d.u,i];simp)
        go_wp2_with fail;go_ret;exact⟨qln k.symm,a⟩
      rw[i]at d;go_wp2_with fail;refine cQ (q5w au ad f.mu _ s.ul c.u.u s.u.u) fun w5 e=>?_;replace a:=mT a e;clear e u x y o z B C D E;have k:Hi (n=kac f.mu):=h_ (by rw[d.u];simp);generalize kac f.mu=e at *;cases e
      all_goals
       go_wp2_with fail;go_ret;exact⟨qln k.symm,a⟩
def kbn (z:Int):Vx:=if kby z then kbL z else kax 2
theorem kf5 (z:Int):kgd z=vv (kbn z):=by unfold kgd kbn;split <;> rfl
def kcv (op x y:Int):Vx :=
 if op=4 then kbn (x*y) else if op=7 then kbn (x+y) else if op=8 then kbn (x + -y)
 else if op=5 then (if y=0 then kax 3 else kbn (x.tdiv y))
 else if op=6 then (if y=0 then kax 3 else kbn (x + -(y*x.tdiv y)))
 else if op=10 then kaj (decide (x=y)) else if op=11 then kaj (decide (x≠y))
 else if op=12 then kaj (decide (x<y)) else if op=13 then kaj (decide (x<=y))
 else if op=17 then kbL (if x<y then x else y) else if op=18 then kbL (if x<y then y else x) else kax 1
structure OI (w W:Tw)(b o X5 X6:Nat)(p q:Vx)(v5 v6:Value)(s5 u5 s6 u6:Value):Prop where
 R:Blk W w.heap.size 55 Jl
 B5:Blk W X5 264 [s5,u5]
 B6:Blk W X6 264 [s6,u6]
 e5:v5=.agg #[s5,u5]
 e6:v6=.agg #[s6,u6]
 V5:kbr W v5 p.n
 V6:kbr W v6 q.n
 c0:Cel W b o p
 c1:Cel W b (o+3) q
 low:Bw w W
theorem OI.mono {b o:Nat}{p c:Vx}{d f e g:Value}(a:OI w W b o n i p c v u d f e g)(k:Bw W U):OI w U b o n i p c v u d f e g :=
 ⟨a.R.mono k a.R.lt,a.B5.mono k a.B5.lt,a.B6.mono k a.B6.lt,a.e5,a.e6,a.V5.mono k,a.V6.mono k,a.c0.mono k,a.c1.mono k,a.low.trans (k.mono a.low.size)⟩
theorem kap (low:Bw w W)(x y z:Value):Bw w (((W.setCell ⟨w.heap.size,0,none⟩ x).setCell ⟨w.heap.size,1,none⟩ y).setCell ⟨w.heap.size,2,none⟩ z) :=
 ((low.setCell (by simp) _).setCell (by simp) _).setCell (by simp) _
def kay (f:Nat->Vx)(m:Nat)(kind:Int):Bool:=(List.range m).all fun i=>decide ((f i).k=kind)
theorem qia {f:Nat->Vx}{m:Nat}{b:Int}(c:∀a,a<m->(f a).k=b):kay f m b=true:=by
 rw[kay,Yv];exact fun a d=>Ye (c a (Yu.1 d))
theorem qn3 {f:Nat->Vx}{m:Nat}{a:Int}(hi:i<m)(b:¬ (f i).k=a):kay f m a=false:=by
 rw[kay,Zy];exact⟨i,Yu.2 hi,by simpa using b⟩
theorem q3j (a:To)(m c:Nat)(f:Nat->Vx)(e:Int)(w:Tw)(v:m<=1048576)(o:kaF w a m f) :
 Calls prog 180 #[.slice a m c,J6 e] w fun g b=>g=.returned (.bool (kay f m e))/\b=w:=by
 have l:=h_ o;go_enter func180,ntmps180;go_wp2;go_loopw [5] (fun h wr=>∃b:Nat,b<=m/\h=J6 b/\(∀d,d<b->(f d).k=e)/\wr=w) (fun h _=>m - (intOf h).toNat)
 case atStart=>exact⟨0,nZ _,rfl,fun d i=>absurd i (nL _),rfl⟩
 case round =>
  obtain⟨b,s,rfl,p,rfl⟩:=hrel;have h:=h_ p;by_cases j:b<m
  . have t:(b:Int)<m:=by omega
    obtain⟨q,x,rfl,-,r,-,-⟩:=l b j;by_cases k:(f b).k=e
    . have n:Hi (∀d,d<b+1->(f d).k=e):=h_ fun d i=>by
       by_cases g:d=b
       . rw[g];exact k
       . exact h d (by omega)
      go_wp2;go_roundw
      case rel=>exact⟨b+1,by omega,by go_num,n,trivial⟩
      case measure=>simp[intOf];omega
    . have d:=h_ (qn3 j k)
      go_wp2;go_ret;exact⟨by rw[d.u];rfl,rfl⟩
  . obtain rfl:b=m:=by omega
    have d:=h_ (qia h);go_wp2;go_ret;exact⟨by rw[d.u];rfl,rfl⟩
def kfB (op x:Int):Vx:=if op=2 then kbn (-x) else if op=23 then kbU ⟨(Lib.itoa x).toArray⟩ else kax 1
def kc4 (op:Int)(p:Vx):Vx :=
 if op=3 then kaj (decide (p.n=0)) else if op=23 then (if p.n=1 then kbU ⟨#[116,114,117,101]⟩ else kbU ⟨#[102,97,108,115,101]⟩) else kax 1
def kdK (op x y:Int):Vx:=if op=10 then kaj (decide (x=y)) else if op=11 then kaj (!decide (x=y)) else kax 1
def kcx (op:Int)(s t:Tb):Vx :=
 if op=9 then (if 1000<s.size+t.size then kax 4 else kbU (s++t)) else if op=10 then kaj (decide (s=t)) else if op=11 then kaj (!decide (s=t))
 else if op=12 then kaj (tl s.data.toList t.data.toList) else if op=13 then kaj (!tl t.data.toList s.data.toList) else if op=20 then kaj (kaR s t 0) else kax 1
def kc5 (op:Int)(p:Vx):Vx :=
 if op=21 then kbL p.s.size else if op=22 then (if (rd p.s.data.toList).2 then kbL (rd p.s.data.toList).1 else kax 5) else if op=23 then p else kax 1
def kdp (p q:Vx):Vx:=if p.k=0 then q else p
def ifX (p q r:Vx):Vx:=if p.k=4∨p.k=0 then p else if p.k=2/\p.n=1 then q else if p.k=2/\p.n=0 then r else kax 1
def kbq (f:Nat->Vx)(m:Nat):Option Vx:=((List.range m).map f).find? fun u=>decide (u.k=4)
theorem q7r {f:Nat->Vx}{m:Nat}(e:k<m)(b:∀a,a<k->¬ (f a).k=4)(c:(f k).k=4):kbq f m=some (f k):=by
 rw[kbq,List.find?_eq_some_iff_getElem];refine⟨Ye c,k,by simpa using e,by simp,fun a d=>?_⟩;simpa using b a d
theorem q7q {f:Nat->Vx}{m:Nat}(b:∀a,a<m->¬ (f a).k=4):kbq f m=none:=by
 rw[kbq,Ov];intro e c;obtain⟨d,a,rfl⟩:=Y4.1 c;simpa using b d (Yu.1 a)
def kd4 (f:Nat->Vx)(m:Nat):Bool:=(List.range m).any fun i=>decide ((f i).k=0)
theorem qib {f:Nat->Vx}{m:Nat}(b:k<m)(a:(f k).k=0):kd4 f m=true:=by
 rw[kd4,Z8];exact⟨k,Yu.2 b,Ye a⟩
theorem qn8 {f:Nat->Vx}{m:Nat}(b:∀a,a<m->¬ (f a).k=0):kd4 f m=false:=by
 rw[kd4,Vp];exact fun c a=>by simpa using b c (Yu.1 a)
def kbD (f:Nat->Vx)(m:Nat)(R1 R3 R2:Vx):Vx :=
 match kbq f m with
 | some u=>u
 | none=>if kd4 f m then kak else if kay f m 1 then R1 else if kay f m 3 then R3 else if kay f m 2 then R2 else kax 1
section
variable {f:Nat->Vx} {m:Nat} {R1 R3 R2:Vx}
end
def kaX (f:Nat->Vx)(m:Nat)(R:Vx):Vx :=
 match kbq f m with
 | some u=>u
 | none=>R
def kbg (p:Vx):Bool:=decide (p.k=2)&&decide (p.n=1)
def kdl (p:Vx):Bool:=decide (p.k=2)&&decide (p.n=0)
def kd5 (p q:Vx):Vx:=if p.k=1∨p.k=3∨q.k=1∨q.k=3 then kax 1 else if kdl p||kdl q then kaj false else if kbg p&&kbg q then kaj true else kak
def orX (p q:Vx):Vx:=if p.k=1∨p.k=3∨q.k=1∨q.k=3 then kax 1 else if kbg p||kbg q then kaj true else if kdl p&&kdl q then kaj false else kak
def R1 (op:Int)(m:Nat)(f:Nat->Vx):Vx:=if m=1 then kfB op (f 0).n else kcv op (f 0).n (f 1).n
def R3 (op:Int)(m:Nat)(f:Nat->Vx):Vx:=if m=1 then kc5 op (f 0) else kcx op (f 0).s (f 1).s
def R2 (op:Int)(m:Nat)(f:Nat->Vx):Vx:=if m=1 then kc4 op (f 0) else kdK op (f 0).n (f 1).n
theorem qj1 (a:s.size=0):s=⟨#[]⟩:=ByteArray.ext (Array.eq_empty_of_size_eq_zero a)
theorem kfC {u:Vx}(a:kah u.k u.n u.s=true)(b:u.k=1):u=kbL u.n:=by
 obtain⟨e,g,d⟩:=u;dsimp only at b a⊢;subst b;have c:d.size=0:=by simpa [kah] using a
 rw[qj1 c];rfl
theorem kcQ {u:Vx}(a:kah u.k u.n u.s=true)(b:u.k=3):u.s.size<=1000:=by
 rw[b]at a;have:kaw u.s=true:=by
  simp[kah]at a;exact a.2
 exact(qc3.1 this).1
theorem qn1 {f:Nat->Vx}{m:Nat}{a:Int}(b:kay f m a=true)(hi:i<m):(f i).k=a:=Y6 (Yv.1 b i (Yu.2 hi))
theorem kd6 {m:Nat}{f:Nat->Vx}(h:kaF w a m f)(g:0<m):∃b c,a=some ⟨b,c,none⟩/\Cel w b c (f 0):=by
 obtain⟨b,c,d,e⟩:=h 0 g;exact⟨b,c,d,by simpa using e⟩
theorem kf7 {m:Nat}{f:Nat->Vx}(g:kaF w a m f)(j:1<m):∃b c,a=some ⟨b,c,none⟩/\Cel w b c (f 0)/\Cel w b (c+3) (f 1):=by
 obtain⟨b,c,d,h⟩:=g 0 (by omega);obtain⟨k,l,e,i⟩:=g 1 j;rw[d]at e;cases e;exact⟨b,c,d,by simpa using h,by simpa using i⟩
def apY (op:Int)(m:Nat)(f:Nat->Vx):Vx :=
 if op=25 then kaj ((f 0).k==4) else if op=16 then ifX (f 0) (f 1) (f 2) else if op=19 then kdp (f 0) (f 1)
 else if op=24 then kaX f m (kaj ((f 0).k==0)) else if op=14 then kaX f m (kd5 (f 0) (f 1)) else if op=15 then kaX f m (orX (f 0) (f 1))
 else kbD f m (R1 op m f) (R3 op m f) (R2 op m f)
def kcn (f:Nat->Vx)(m:Nat):Bool:=(List.range m).all fun i=>kah (f i).k (f i).n (f i).s
theorem qdq {f:Nat->Vx}{m:Nat}:kcn f m=true ↔ ∀a,a<m->kah (f a).k (f a).n (f a).s=true:=by
 rw[kcn,Yv];exact⟨fun b a c=>b a (Yu.2 c),fun b a c=>b a (Yu.1 c)⟩
theorem kf8 (a:Int):ar a=0∨(ar a=1/\(a=2∨a=3∨a=21∨a=22∨a=23∨a=24∨a=25))∨(ar a=3/\a=16)∨(ar a=2/\4<=a/\a<=20/\a≠16):=by
 unfold ar;split
 . omega
 . split
   . omega
   . split <;> omega
structure RW (w W:Tw):Prop where
 R:Blk W w.heap.size 55 Jl
 B:Bw w W
theorem RW.mono (a:RW w W)(k:Bw W U):RW w U:=⟨a.R.mono k a.R.lt,a.B.trans (k.mono a.B.size)⟩
theorem RW.start (w:Tw):∃a,w.alloc (.cells Jf 55)=a/\RW w a :=
 ⟨_,rfl,Blk.new w 55 Jf,(bR _ _).alloc (nR _) _⟩
theorem RW.val (a:RW w W):(W.cell? ⟨w.heap.size,0,none⟩=some (J6 0)/\W.cell? ⟨w.heap.size,1,none⟩=some (J6 0)/\W.cell? ⟨w.heap.size,2,none⟩=some J8)/\W.frozen? ⟨w.heap.size,0,none⟩=false/\W.frozen? ⟨w.heap.size,1,none⟩=false/\W.frozen? ⟨w.heap.size,2,none⟩=false :=
 ⟨kag a.R,a.R.free 0,a.R.free 1,a.R.free 2⟩
theorem RW.out (a:RW w W)(x y z:Value):Bw w (((W.setCell ⟨w.heap.size,0,none⟩ x).setCell ⟨w.heap.size,1,none⟩ y).setCell ⟨w.heap.size,2,none⟩ z):=kap a.B x y z
theorem exS {w b:World}{G:Prop}(H:Hi (RW w b))(t:Hi (RW w b)->G:=by intro H;rintro e d ⟨rfl,a⟩;obtain⟨⟨i,j,k⟩,f,g,h⟩:=(H.u.mono a).val;have c:=h_ (H.u.mono a);clear a;go_wp2;exact bQ ⟨rfl,c.u.out _ _ _⟩):G:=t H
def Gvs (F:FuncId)(args:Ta)(z:Vx):Prop:=∀w,Gv F args w (.agg #[.int .i64 z.k,.int .i64 z.n,.string z.s])
theorem kbo {b:Bool}(z:Vx)(a:kaj b=z):Gvs 178 #[.bool b] z:=by subst a;exact qbd b
theorem kdk {n:Int}(z:Vx)(a:kax n=z):Gvs 112 #[J6 n] z:=by subst a;exact qfr n
theorem gInt {n:Int}(z:Vx)(a:kbL n=z):Gvs 221 #[J6 n] z:=by subst a;exact qft n
theorem keU (z:Vx)(a:kbU s=z):Gvs 215 #[.string s] z:=by subst a;exact qbf s
theorem kcw (z:Vx)(a:kak=z):Gvs 149 #[] z:=by subst a;exact q84
theorem khl (x y:Int):(x==y)=decide (x=y):=rfl
theorem nq {x y:Int}(a:¬ x=y):(x==y)=false:=Yc.2 a
theorem q5q (u:Vx)(w:Tw):Gv 111 #[.agg (Jc u.k u.n u.s)] w (.bool (kbg u)):=by
 have b:∀a,Hi (Bw w (w.alloc a)):=fun a=>h_ ((bR _ _).alloc (nR _) _);obtain⟨f,d⟩:=Nq (kbg u);rw[d];have c:=h_ d;by_cases a:u.k=2
 . have e:(u.k==2)=true:=beq_iff_eq.2 a
   go_enter func111,ntmps111;go_wp2;go_ret;exact⟨by rw[<- c.u,kbg,a];simp[khl],u_ (b _)⟩
 . have e:=nq a
   go_enter func111,ntmps111;go_wp2;go_ret;exact⟨by rw[<- c.u,kbg,Yd a];rfl,u_ (b _)⟩
theorem q3o (u:Vx)(w:Tw):Gv 179 #[.agg (Jc u.k u.n u.s)] w (.bool (kdl u)):=by
 have b:∀a,Hi (Bw w (w.alloc a)):=fun a=>h_ ((bR _ _).alloc (nR _) _);obtain⟨f,d⟩:=Nq (kdl u);rw[d];have c:=h_ d;by_cases a:u.k=2
 . have e:(u.k==2)=true:=beq_iff_eq.2 a
   go_enter func179,ntmps179;go_wp2;go_ret;exact⟨by rw[<- c.u,kdl,a];simp[khl],u_ (b _)⟩
 . have e:=nq a
   go_enter func179,ntmps179;go_wp2;go_ret;exact⟨by rw[<- c.u,kdl,Yd a];rfl,u_ (b _)⟩
