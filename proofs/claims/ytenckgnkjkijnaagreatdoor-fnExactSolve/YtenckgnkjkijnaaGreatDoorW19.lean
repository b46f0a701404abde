import Derived.Test.YtenckgnkjkijnaaGreatDoorW16
import Derived.Test.YtenckgnkjkijnaaGreatDoorW15
set_option maxRecDepth 100000
set_option maxHeartbeats 64000000
namespace Go.Proofs.YtenckgnkjkijnaaGreatDoor
open Go Go.RowKit Go.Proofs.Tryz
variable {w:Tw}{n:Nat}{t:TypeId}{v u:Value}{a:To}
theorem q6a (l:List Ph)(k:Nat)(a:k<l.length):mx (l.take (k+1))=max (mx (l.take k)) l[k].d:=by
 rw[Ys a,qg5];simp[mx]
theorem q6d (n:Nx)(a:To)(c:Nat)(l:List Ph)(w:Tw)(ag:kao n=true)(hf:Fit n)(hl:l.length=arn n)(ha:Phs w a l)(hs:tot l<=2000000)(hd:mx l<=1000)(y:kdW w)(G:Pow w) :
 Gv 346 #[nv n,.slice a (arn n) c] w (pv (phr n l)):=by
 unfold nv;obtain⟨E,B,q⟩:=oC ((Blk.new w 190 #[J6 n.op,J6 n.v.k,J6 n.v.n,.string n.v.s,.string n.nm]).alloc (.cells #[J8,J6 0,J6 0] 331)) (Blk.new (w.alloc (.cells #[J6 n.op,J6 n.v.k,J6 n.v.n,.string n.v.s,.string n.nm] 190)) 331 #[J8,J6 0,J6 0]) (((bR w.heap.size w).alloc (nR _) (.cells #[J6 n.op,J6 n.v.k,J6 n.v.n,.string n.v.s,.string n.nm] 190)).alloc (by simp) (.cells #[J8,J6 0,J6 0] 331));rw[Yp]at B;obtain⟨W0,ad⟩:=Nq ((w.alloc (.cells #[J6 n.op,J6 n.v.k,J6 n.v.n,.string n.v.s,.string n.nm] 190)).alloc (.cells #[J8,J6 0,J6 0] 331));rw[ad]at E q B;obtain⟨X,HP,HW⟩:=oC (ha.mono q) (G.mono q) (y.mono q);obtain⟨A,HS,Y,HF,HO⟩:=oG hl hs hd hf ag;have ae:=kbQ n;obtain⟨u,U⟩:=Nq (arn n);rw[U]at ae A⊢;have P:=h_ U;have Q:Hi (∀b,b<=u->mx (l.take b)<=1000):=h_ fun b _=>by
  have:mx l=max (mx (l.take b)) (mx (l.drop b)):=by rw[<- qg5,Vc]
  have:=Y.u;omega
 go_enter func346,ntmps346;go_wp2_with fail;go_loopw [5,7,10] (fun d _ p wr=>∃b:Nat,b<=u/\d=J6 (mx (l.take b))/\p=J6 b/\Bw W0 wr) (fun _ _ p _=>u - (intOf p).toNat)
 case atStart=>exact⟨0,nZ _,rfl,rfl,bR _ _⟩
 case round =>
  obtain⟨b,hk,rfl,rfl,h⟩:=hrel;obtain⟨m,O⟩:=oB h (X.mono h);have F:=Q b hk;by_cases ah:b<u
  . have af:(b:Int)<u:=by omega
    have j:b<l.length:=(by have:=A.u;omega);obtain⟨x,D,rfl,-,o,c1,c2⟩:=O b j;have d:Hi (mx (l.take (b+1))=max (mx (l.take b)) l[b].d):=h_ (q6a l b j);have g:=Q (b+1) (by omega);obtain⟨e,G⟩:=Nq (l[b]);rw[G]at d o c1 c2;rw[d.u]at g;have r:=h_ (m.alloc m.size (.cells #[.string e.t,J6 e.lv,J6 e.d] 331));obtain⟨k,C⟩:=Nq (mx (l.take b));rw[C]at d F g⊢;obtain⟨z,t⟩:=Nq e.d;rw[t]at d g c2 r;go_wp2_with fail;go_roundw
    case rel=>exact⟨b+1,by omega,by rw[d.u];exact congrArg (Value.int .i64) (by omega),by go_num,r⟩
    case measure=>simp[intOf];omega
  . obtain rfl:b=u:=by omega
    have af:¬ (b:Int)<(b:Int):=(by omega);rw[Yy (by have:=A.u;omega)]at F⊢;obtain⟨z,o,aa,ac,r⟩:=oG (E.mono m E.lt) (B.mono m B.lt) (HP.mono m) (HW.mono m) (q.trans (m.mono q.size));obtain⟨J,K,L,M,N⟩:=kaG z;obtain⟨k,C⟩:=Nq (mx l);rw[C]at F⊢;have HQ:=h_ C;go_wp2_with fail;refine wp_region_held_drew (S:=fun g=>g.cell? ⟨w.heap.size,0,none⟩=some (J6 n.op)/\g.cell? ⟨w.heap.size,1,none⟩=some (J6 n.v.k)/\g.cell? ⟨w.heap.size,2,none⟩=some (J6 n.v.n)/\g.cell? ⟨w.heap.size,3,none⟩=some (.string n.v.s)/\g.cell? ⟨w.heap.size,4,none⟩=some (.string n.nm)) (by kernel_rfl) ⟨J,K,L,M,N⟩ (fun e=>?_);refine tkA 0 e ?_;refine tkA 1 e ?_;refine tkA 3 e ?_;refine tkA 4 e ?_;refine tkA 6 e ?_;refine tkL 7 26 (J6 ((k:Int)+1)) e ?_ (hy:=fun w d=>by simp[execOp,go_sem, *];rw[IntKind.wrap_i64];omega);have D:Hi (Bw wr wr.drew):=h_ ((bR _ _).drew);have V:=q2y n a c l wr.drew HO HF (A.trans P.symm) (O.mono D) HS (ac.mono D) (aa.mono D);rw[P.u]at V;refine kaL (i:=2) (f:=360) (args:=#[.agg #[J6 n.op,J6 n.v.k,J6 n.v.n,.string n.v.s,.string n.nm],.slice a b c]) (R:=fun t x=>t=.string (phT n l)/\Bw wr x) 21 rfl rfl (by rfl) (by kernel_rfl) ?hrun1 (V.mono fun H I ⟨d,h⟩=>⟨_,d,rfl,q36 h⟩) ?_
    case hrun1=>simp[execOp,go_sem]
    rintro r3 j ⟨rfl,h⟩;replace z:=mB z h;replace o:=mB o h;replace r:=mT r h;obtain⟨J,K,L,M,N⟩:=kaG z;have e:j.cell? ⟨w.heap.size,0,none⟩=some (J6 n.op)/\j.cell? ⟨w.heap.size,1,none⟩=some (J6 n.v.k)/\j.cell? ⟨w.heap.size,2,none⟩=some (J6 n.v.n)/\j.cell? ⟨w.heap.size,3,none⟩=some (.string n.v.s)/\j.cell? ⟨w.heap.size,4,none⟩=some (.string n.nm):=⟨J,K,L,M,N⟩;refine⟨e,?_⟩;refine kaS (by(first | simp only[Ya,Yb] | skip);rfl) (by(first | simp only[Ya,Yb] | skip);rfl) ?_;refine kaL (i:=5) (f:=361) (args:=#[J6 n.op]) (R:=fun t x=>t=J6 (lvl n.op)/\x=j) 24 rfl rfl (by rfl) (by kernel_rfl) ?hrun2 ((q8o _ _).mono fun H I ⟨d,h⟩=>⟨_,d,rfl,h⟩) ?_
    case hrun2=>simp[execOp,go_sem]
    rintro r3 W5 ⟨rfl,y⟩;replace y:=y.symm;subst y;refine⟨e,?_⟩;refine kaS (by(first | simp only[Ya,Yb] | skip);rfl) (by(first | simp only[Ya,Yb] | skip);rfl) ?_;obtain⟨x,W⟩:=Nq (phT n l);obtain⟨t,T⟩:=Nq (lvl n.op);have Z:Hi (phr n l=⟨x,t,k+1⟩):=h_ (by rw[<- W,<- T,<- HQ.u];rfl);rw[W,T];refine tkA 8 e ?_;obtain⟨r0,r1,r2⟩:=kag o;have f0:=o.free 0;have f1:=o.free 1;have f2:=o.free 2;have d:∀(g:Tw) (H p:Nat) (I:Value),(g.setCell ⟨w.heap.size+1,H,none⟩ I).cell? ⟨w.heap.size,p,none⟩=g.cell? ⟨w.heap.size,p,none⟩:=fun g H p I=>World.cell?_of_block (w:=g) (heap_setCell_other g ⟨w.heap.size+1,H,none⟩ w.heap.size I (by simp));refine ka0 (i:=9) (w':=((j.setCell ⟨w.heap.size+1,0,none⟩ (.string x)).setCell ⟨w.heap.size+1,1,none⟩ (J6 t)).setCell ⟨w.heap.size+1,2,none⟩ (J6 ((k:Int)+1))) rfl (by rfl) (by kernel_rfl) rfl ?hrunS rfl ⟨by rw[d,d,d];exact e.1,by rw[d,d,d];exact e.2.1,by rw[d,d,d];exact e.2.2.1,by rw[d,d,d];exact e.2.2.2.1,by rw[d,d,d];exact e.2.2.2.2⟩ ?_
    case hrunS=>simp[execOp,go_sem,r0,r1,r2,f0,f1,f2]
    refine wpAnyH_done (by kernel_rfl) ?_ _;have H:=(((o.set 0 (.string x)).set 1 (J6 t)).set 2 (J6 ((k:Int)+1)));have p:=h_ (((r.setCell (show w.heap.size<=(⟨w.heap.size+1,0,none⟩:Addr).block by simp) (.string x)).setCell (show w.heap.size<=(⟨w.heap.size+1,1,none⟩:Addr).block by simp) (J6 t)).setCell (show w.heap.size<=(⟨w.heap.size+1,2,none⟩:Addr).block by simp) (J6 ((k:Int)+1)));obtain⟨W9,I⟩:=Nq (((j.setCell ⟨w.heap.size+1,0,none⟩ (.string x)).setCell ⟨w.heap.size+1,1,none⟩ (J6 t)).setCell ⟨w.heap.size+1,2,none⟩ (J6 ((k:Int)+1)));rw[I]at H p⊢;obtain⟨k0,k1,k2⟩:=kag H;go_wp2;exact bQ (v:=.agg #[.string x,J6 t,J6 ((k:Int)+1)]) ⟨by rw[Z.u];rfl,p⟩
def phV (l:List Ph):Tl:=l.flatMap fun p=>[.string p.t,.int .i64 p.lv,.int .i64 p.d]
theorem qrb (l:List Ph):(phV l).length=l.length*3:=by
 induction l with
 | nil=>rfl
 | cons b c a=>simp only[phV,Va,Yj,Yt,Y2]at *;omega
theorem qcf (l r:List Ph):phV (l++r)=phV l++phV r:=by simp[phV]
theorem qra (l:List Ph)(k:Nat)(a:k<l.length):(phV l)[k*3]? = some (.string l[k].t)/\(phV l)[k*3+1]? = some (J6 l[k].lv)/\(phV l)[k*3+2]? = some (J6 l[k].d):=by
 induction l generalizing k with
 | nil=>cases a
 | cons c e b =>
  cases k with
  | zero=>exact⟨rfl,rfl,rfl⟩
  | succ k =>
   have:=b k (by simpa using a);rw[show(k+1)*3=k*3+1+1+1 by omega];simpa [phV] using this
theorem ql3 (l:List Ph)(k:Nat):(phV l).take (k*3)=phV (l.take k):=by
 induction l generalizing k with
 | nil=>simp[phV]
 | cons b c a =>
  cases k with
  | zero=>simp[phV]
  | succ k =>
   rw[show(k+1)*3=k*3+1+1+1 by omega];have:=a k;simp only[phV,Va,Gf]at *;simp[this]
theorem qpd:(prog.info? 331).map (fun a=>(a.zero,a.size,a.bytes))=some (some (.agg Ju),3,32):=by kernel_rfl
def kcF (w:Tw)(B:Nat)(v:Value)(l:List Ph):Prop:=w.ownsRow B 331 3 v l.length (phV l)
theorem kcF.shape {B:Nat}{l:List Ph}(a:kcF w B v l):∃d b,v=.slice d l.length b/\l.length<=b/\(d=none->l=[]/\b=0)/\(∀c f e,d=some ⟨c,f,e⟩->f=0/\e=none/\B<=c/\c<w.heap.size):=by
 rcases a.2 with ⟨rfl,d⟩ | ⟨c,b,j,rfl,g,i,h,-,m,n⟩
 . exact⟨none,0,by rw[d],by omega,fun _=>⟨Za.1 d,rfl⟩,fun _ _ _ a=>by cases a⟩
 . exact⟨_,b,rfl,h,fun a=>(by cases a),fun k f e a=>by cases a;exact⟨rfl,rfl,g,(Yq.1 i).1⟩⟩
theorem kcF.cell {B g:Nat}{l:List Ph}(a:kcF w B (.slice (some ⟨g,0,none⟩) l.length n) l)(j:Nat)(b:j<l.length*3):w.cell? ⟨g,j,none⟩=(phV l)[j]?:=World.ownsRow.cellAt (show w.ownsRow B 331 3 _ _ _ from a) j b
theorem kcF.from {B:Nat}{l:List Ph}(b:kcF w B (.slice a l.length n) l)(r:Nat)(t:r<=l.length) :
 Phs w (if n=r then a else a.map (·.add (r*3))) (l.drop r):=by
 intro m f;rw[List.length_drop]at f;obtain⟨p,q,d,s,j,k⟩:=b.shape;simp only[Value.slice.injEq,true_and]at d;obtain⟨rfl,rfl⟩:=d;cases a with
 | none=>obtain⟨rfl,-⟩:=j rfl;simp at f
 | some g =>
  obtain⟨e,o,h⟩:=g;obtain⟨rfl,rfl,-,i⟩:=k e o h rfl;rw[Yl (by omega)];refine⟨e,r*3,by simp[Addr.add];omega,?_⟩;have c:=qra l (r+m) (by omega);rw[List.getElem_drop];exact⟨i,by rw[<- Od,b.cell _ (by omega)];exact c.1,by rw[<- Od,b.cell _ (by omega)];exact c.2.1,by rw[<- Od,b.cell _ (by omega)];exact c.2.2⟩
theorem kcF.upto {B:Nat}{l:List Ph}(f:kcF w B (.slice a l.length n) l)(r:Nat)(q:r<=l.length):kcF w B (.slice a r n) (l.take r):=by
 have c:(l.take r).length=r:=by rw[Zb];omega
 unfold kcF;rw[c];refine⟨by rw[qrb,c],?_⟩;rcases f.2 with ⟨b,o⟩ | ⟨e,m,d,b,g,h,p,k,i,j⟩
 . simp only[Value.slice.injEq]at b
   obtain⟨rfl,-,rfl⟩:=b;exact .inl ⟨by rw[show r=0 by omega],by omega⟩
 . simp only[Value.slice.injEq,true_and]at b
   obtain⟨rfl,rfl⟩:=b;refine .inr ⟨e,n,d,rfl,g,h,by omega,k,i,?_⟩;rw[<- ql3,<- j,List.take_take,Nat.min_eq_left (by omega)]
theorem kcF.mono {w':Tw}{B:Nat}{l:List Ph}(b:kcF w B v l)(i:Bw w w'):kcF w' B v l:=by
 refine⟨b.1,?_⟩;rcases b.2 with g | ⟨a,d,e,f,h,c,j,n,k,m⟩
 . exact .inl g
 . exact .inr ⟨a,d,e,f,h,(i.block a (Yq.1 c).1).trans c,j,n,k,m⟩
theorem kcF.other {B b:Nat}{l:List Ph}(d:kcF w B v l)(i:v.ownBlock≠some b)(j:Nat)(u:Value):kcF (w.setCell ⟨b,j,none⟩ u) B v l:=by
 refine⟨d.1,?_⟩;rcases d.2 with g | ⟨c,e,f,a,h,m,k,p,n,o⟩
 . exact .inl g
 . refine .inr ⟨c,e,f,a,h,(heap_setCell_other w ⟨b,j,none⟩ c u ?_).trans m,k,p,n,o⟩
   rintro rfl;exact i (by rw[a];rfl)
theorem q0o {a:Type}(l:List a)(k:Nat)(b:k<=l.length):l.reverse.drop (l.length - k)=(l.take k).reverse:=by
 rw[List.drop_reverse];congr 1;congr 1;omega
theorem q0p {a:Type}(l:List a)(k:Nat)(b:k<=l.length):l.reverse.take (l.length - k)=(l.drop k).reverse:=by
 rw[List.take_reverse];congr 1;congr 1;omega
theorem q6t (a:Nat->Nx)(k A:Nat):tot ((pst a k).take A).reverse<=tot (pst a k):=by rw[q9v];exact qmn _ _
theorem q8u (a:Nat->Nx)(k A:Nat):mx ((pst a k).take A).reverse<=k:=by rw[qbz];exact qc0 a k A
theorem qin (w:Tw)(p:Ph):∀(b:Nat) (a:Value),(phV [p])[b]? = some a->(w.alloc (.cells #[.string p.t,J6 p.lv,J6 p.d] 331)).cell? ((⟨w.heap.size,0,none⟩:Addr).add b)=some a:=fun b a a=>by
 have c:=Blk.new w 331 #[.string p.t,J6 p.lv,J6 p.d]
 match b,a with
 | 0,a=>simp[phV]at a;subst a;exact c.cell 0
 | 1,a=>simp[phV]at a;subst a;exact c.cell 1
 | 2,a=>simp[phV]at a;subst a;exact c.cell 2
theorem q4d {P:Program}{a:Act}{o:Oper}{w':Tw}{s x:Operand}{b:Value}(c:o.op=.call { callee:=.builtin .append,args:=#[s,x],argTypes:=#[t,t] })(e:a.eval s=v)(f:a.eval x=u)(d:(Builtin.append_ #[t,t] o.type #[v,u]).run P w=.ok b w'):(execOp a.eval o).run P w=.ok (.value b) w':=by
 unfold execOp;simp only[c,resolve,invoke,builtin,Sem.run_bind,Sem.run_pure,Result.andThen_ok,List.map_toArray,Z5,Oq,e,f,d]
theorem q9a (a:To)(m c:Nat)(e:Nat->Nx)(w:Tw)(hm:m<=9223372036854775807)(ha:kch w a m e)(hf:∀b,b<m->Fit (e b))(hw:kdW w)(hp:Pow w) :
 Calls prog 334 #[.slice a m c] w fun F r=>F=.returned (.tuple #[.string (if vxB e m then (top e m).t else ⟨#[]⟩),.bool (vxB e m)])/\Below w.heap.size w r:=by
 by_cases I:1000<m
 . rw[kcm fun x=>by have:=x.2.1;omega]
   go_enter func334,ntmps334;go_wp2_with fail
   go_ret2
   exact⟨rfl,bR _ _⟩
 obtain⟨HA,HF,HW,HP⟩:=oD ha hf hw hp;obtain⟨F,Z⟩:=Nq (vxB e m);obtain⟨aT,ht⟩:=Nq ((if vxB e m then (top e m).t else ⟨#[]⟩));rw[ht,Z];have HR:=h_ Z;have HN:Hi (¬ vEx e m->F=false/\aT=⟨#[]⟩):=h_ fun x=>by rw[<- Z,<- ht,kcm x];exact⟨rfl,rfl⟩
 have HY:Hi (vEx e m->F=true/\aT=(top e m).t):=h_ fun x=>by rw[<- Z,<- ht,(qsw e m).2 x];exact⟨rfl,rfl⟩
 go_enter func334,ntmps334;go_wp2_with fail;obtain⟨E,Y⟩:=Nq w.heap.size;go_loopw [4,6,7,8,14] (fun g _ _ _ W wr=>∃b:Nat,b<=m/\W=J6 b/\kcF wr E g (pst e b).reverse/\kcf e b/\kbN e b/\(∀o,1<=o->o<=b->(top e o).d<=64/\(top e o).t.size<=4000)/\Below E w wr) (fun _ _ _ _ W _=>m - (intOf W).toNat)
 case atStart=>exact⟨0,nZ _,rfl,⟨rfl,.inl ⟨rfl,rfl⟩⟩,fun b hk=>absurd hk (nL _),fun b hk=>absurd hk (nL _),fun o y g=>by omega,by rw[<- Y];exact bR _ _⟩
 case round =>
  obtain⟨b,hk,rfl,br,bn,bp,bj,j⟩:=hrel;obtain⟨aD,ak,am,ay,X,HV⟩:=oF br bn bp bj j (HA.mono (j.mono (by omega)));obtain⟨a7,a0⟩:=oB (HW.mono (j.mono (by omega))) (HP.mono (j.mono (by omega)));have bA:=j.size;have ae:(pst e b).reverse.length=(stk e b).length:=by rw[Zf,qrh]
  obtain⟨G,C,rfl,aP,bJ,bq⟩:=aD.shape;rw[ae]at aP;rw[ae];have al:Hi (kcF wr E (.slice G (stk e b).length C) (pst e b).reverse):=h_ (by have:=aD.u;rw[ae]at this;exact this);have a4:=h_ bq;have bo:=qs8 e b;obtain⟨z,hL⟩:=Nq ((stk e b).length);rw[hL]at al aP bo⊢;have N:=h_ hL;by_cases af:b<m
  . have bk:(b:Int)<m:=by omega
    obtain⟨bz,bK,rfl,-,c0,c1,c2,c3,c4⟩:=HV b af;obtain⟨Wn,bF,u,D⟩:=nw wr 190 #[J6 (e b).op,J6 (e b).v.k,J6 (e b).v.n,.string (e b).v.s,.string (e b).nm];obtain⟨y0,y1,y2,y3,y4⟩:=kaG u;go_wp2_with fail;refine cQ (qb7 (e b) _ (HF b af)) fun w1 j=>?_;replace u:=mB u j;replace D:=mT D j;obtain⟨y0,y1,y2,y3,y4⟩:=kaG u;cases hg:kao (e b)
    . have A:=h_ (HN fun x=>by have:=x.2.2.1 b af;rw[hg]at this;cases this)
      go_wp2_with fail
      go_ret2
      exact⟨by rw[A.u.1,A.u.2];rfl,by rw[Y];exact X.trans (D.mono (by omega))⟩
    have aZ:Hi (kcf e (b+1)):=h_ fun o hj=>by
     by_cases ej:o=b
     . subst ej;exact hg
     . exact ak o (by omega)
    have HG:=h_ hg;go_wp2_with fail;refine cQ (q0m (e b) _) fun w2 j=>?_;replace u:=mB u j;replace D:=mT D j;obtain⟨y0,y1,y2,y3,y4⟩:=kaG u;have bg:=kbQ (e b);obtain⟨q,hA⟩:=Nq (arn (e b));by_cases bI:z<q
    . have bi:(z:Int)<q:=by omega
      have A:=h_ (HN fun x=>by have:=x.2.2.2.1 b af;rw[N.u,hA]at this;omega);rw[hA];go_wp2_with fail
      go_ret2
      exact⟨by rw[A.u.1,A.u.2];rfl,by rw[Y];exact X.trans (D.mono (by omega))⟩
    have bi:¬ (z:Int)<q:=(by omega);have a5:Hi (kbN e (b+1)):=h_ fun o hj=>by
     by_cases ej:o=b
     . subst ej;rw[N.u,hA];omega
     . exact am o (by omega)
    rw[hA]at bg⊢;have L:=h_ hA;go_wp2_with fail;refine(show Calls prog 143 #[nv (e b)] w2 fun F r=>F=.returned (J6 (q:Int))/\Below w2.heap.size w2 r from by rw[<- L.u];exact q0m (e b) _).mono ?_;rintro bL t ⟨rfl,j⟩;replace u:=mB u j;replace D:=mT D j;obtain⟨y0,y1,y2,y3,y4⟩:=kaG u;have bu:wrap64 ((z:Int) - (q:Int))=((z - q:Nat):Int):=(by rw[q6w (by omega) (by omega)];omega);obtain⟨k,hR⟩:=Nq (z - q);rw[hR]at bu;have bB:(z:Int) - (q:Int)=(k:Int):=(by omega);have aY:Hi (z - k=q):=h_ (by omega);have bE:k<=z:=(by omega);have aU:Hi (((pst e b).take q).reverse=(pst e b).reverse.drop k):=h_ (by
     have y:(pst e b).length=z:=(by rw[qrh];exact N);rw[<- q0o (pst e b) q (by omega),y,hR])
    have a1:Hi (((pst e b).drop q).reverse=(pst e b).reverse.take k):=h_ (by
     have y:(pst e b).length=z:=(by rw[qrh];exact N);rw[<- q0p (pst e b) q (by omega),y,hR])
    have a6:Hi (top e (b+1)=phr (e b) ((pst e b).take q).reverse):=h_ (by rw[qml,L.u]);have aA:Hi ((pst e (b+1)).reverse=(pst e b).reverse.take k++[top e (b+1)]):=h_ (by
     rw[show pst e (b+1)=top e (b+1) :: (pst e b).drop (arn (e b)) from rfl,Oi,L.u,a1.u])
    have aF:Hi (tot ((pst e b).take q).reverse<=2000000/\mx ((pst e b).take q).reverse<=1000):=h_ (by
     have y:=q6t e b q;have I:=(qsk e b am ak (fun o hj=>(HF o (by omega)).2.2.2)).2;have B:=q8u e b q;omega)
    have aW:Hi (((pst e b).take q).reverse.length=arn (e b)):=h_ (by rw[Zf,Zb,qrh,N.u,L.u];omega);have an:=h_ (al.mono D);have aG:=h_ (a7.mono D);have aC:=h_ (a0.mono D);have ag:=h_ (X.trans (D.mono (show E<=wr.heap.size by omega)));obtain⟨O,bf⟩:∃O,(if C=k then G else G.map (·.add (k*3)))=O:=⟨_,rfl⟩;have aB:Hi (Phs t O ((pst e b).take q).reverse):=h_ (by
     have y:(pst e b).reverse.length=z:=(by rw[Zf,qrh];exact N);have I:=an.u;rw[<- y]at I;have B:=I.from k (by omega);rw[bf]at B;rw[aU.u];exact B)
    have bD:=D.size;have aM:wr.heap.size<t.heap.size:=u.lt;have az:Hi (∀h,wr.heap.size<=h->(Value.slice G z C).ownBlock≠some h):=h_ fun h hX x=>by
     cases G with
     | none=>cases x
     | some ad=>obtain⟨ai,o',ap⟩:=ad;have x:ai=h:=(by simpa [Value.ownBlock] using x);have:=(a4 ai o' ap rfl).2.2.2;omega
    have a8:E<=wr.heap.size:=(by omega);obtain⟨M,hN⟩:=Nq wr.heap.size;rw[hN]at a8 u az aM y0 y1 y2 y3 y4⊢;go_wp2_with fail;refine wp_region_held_drew (S:=fun r=>r.cell? ⟨M,0,none⟩=some (J6 (e b).op)/\r.cell? ⟨M,1,none⟩=some (J6 (e b).v.k)/\r.cell? ⟨M,2,none⟩=some (J6 (e b).v.n)/\r.cell? ⟨M,3,none⟩=some (.string (e b).v.s)/\r.cell? ⟨M,4,none⟩=some (.string (e b).nm)) (by kernel_rfl) ⟨y0,y1,y2,y3,y4⟩ (fun K=>?_);refine tkA 0 K ?_;refine tkA 1 K ?_;refine tkA 2 K ?_;refine tkL 3 36 (.slice O q (C - k)) K ?_ (hy:=fun w hS=>by have bC:=aY.u;simp[execOp,go_sem, *]);have bh:∀g:Tw,Phs g O ((pst e b).take q).reverse->kdW g->Pow g->Calls prog 346 #[.agg #[J6 (e b).op,J6 (e b).v.k,J6 (e b).v.n,.string (e b).v.s,.string (e b).nm],.slice O q (C - k)] g fun F r=>F=.returned (pv (top e (b+1)))/\Below g.heap.size g r:=fun g y I B=>by
     rw[a6.u,<- L.u];rw[<- L.u]at y;have H:=q6d (e b) O (C - k) ((pst e b).take (arn (e b))).reverse g HG (HF b af) (by rw[L.u];exact aW.trans L) y (by rw[L.u];exact aF.1) (by rw[L.u];exact aF.2) I B;exact H
    have HC:=h_ bh;obtain⟨g,hp⟩:=Nq (top e (b+1));rw[hp]at HC aA;have aE:=h_ hp;have ah:Hi (Below t.heap.size t t.drew):=h_ ((bR _ _).drew);refine wpAnyH_ready (rs:=[4,5]) (by kernel_rfl) (by simp) (ka7 (f:=346) (args:=#[.agg #[J6 (e b).op,J6 (e b).v.k,J6 (e b).v.n,.string (e b).v.s,.string (e b).nm],.slice O q (C - k)]) (R:=fun F wz=>F=pv g/\Below t.heap.size t wz) 37 rfl rfl (by rfl) ?hrun1 ((HC _ (aB.mono ah) (aG.mono ah) (aC.mono ah)).mono fun e w6 ⟨he,j⟩=>⟨_,he,rfl,q36 j⟩) ?pB (kaD (v:=J9 t.heap.size 0) (w':=t.drew.alloc (.cells #[J8,J6 0,J6 0] 331)) 8 rfl rfl (by rfl) ?hrun2 ?hS2 ?pA AllReadyH.nil))
    case hrun1=>simp[execOp,go_sem]
    case hrun2=>simp[execOp,go_sem]
    case hS2 =>
     obtain⟨J,Q,T,U,V⟩:=kaG ((u.mono ah u.lt).alloc (.cells #[J8,J6 0,J6 0] 331));exact⟨J,Q,T,U,V⟩
    case' pB =>
     rintro r3 B ⟨rfl,j⟩;have aL:=u.mono j u.lt;have ba:=an.mono j;have aI:=ag.trans (j.mono (by have:=ag.size;omega));have au:t.heap.size<=B.heap.size:=j.size;obtain⟨J,Q,T,U,V⟩:=kaG aL;refine⟨⟨J,Q,T,U,V⟩,?_⟩;refine kaS (by(first | simp only[Ya,Yb] | skip);rfl) (by(first | simp only[Ya,Yb] | skip);rfl) ?_;have aa:=aL.alloc (.cells #[J8,J6 0,J6 0] 331);have H:=Blk.new B 331 #[J8,J6 0,J6 0];have av:=ba.mono ((bR B.heap.size B).alloc (nR _) (.cells #[J8,J6 0,J6 0] 331));have aq:=aI.alloc (by have:=aI.size;omega) (.cells #[J8,J6 0,J6 0] 331);obtain⟨J,Q,T,U,V⟩:=kaG aa;refine wpAnyH_ready (rs:=[5]) (by kernel_rfl) (by simp) (kaD (v:=J9 B.heap.size 0) (w':=B.alloc (.cells #[J8,J6 0,J6 0] 331)) 8 rfl rfl (by rfl) ?hrun3 ⟨J,Q,T,U,V⟩ ?pB2 AllReadyH.nil)
     case hrun3=>simp[execOp,go_sem]
     refine kaS (by(first | simp only[Ya,Yb] | skip);rfl) (by(first | simp only[Ya,Yb] | skip);rfl) ?_;obtain⟨h,hX⟩:=Nq B.heap.size;obtain⟨W6,bc⟩:=Nq (B.alloc (.cells #[J8,J6 0,J6 0] 331));rw[bc]at aa H av aq⊢;rw[hX]at H au⊢;have a9:M<h:=by omega
    case' pA =>
     refine kaS (by(first | simp only[Ya,Yb] | skip);rfl) (by(first | simp only[Ya,Yb] | skip);rfl) ?_;have B:Below t.heap.size t (t.drew.alloc (.cells #[J8,J6 0,J6 0] 331)):=q36 ((bR t.heap.size t.drew).alloc (nR _) _);have ac:=Blk.new t.drew 331 #[J8,J6 0,J6 0];obtain⟨W5,bb⟩:=Nq (t.drew.alloc (.cells #[J8,J6 0,J6 0] 331));rw[bb]at B ac⊢;replace ac:Blk W5 t.heap.size 331 [J8,J6 0,J6 0]:=ac;refine wpAnyH_ready (rs:=[4]) (by kernel_rfl) (by simp) (ka7 (f:=346) (args:=#[.agg #[J6 (e b).op,J6 (e b).v.k,J6 (e b).v.n,.string (e b).v.s,.string (e b).nm],.slice O q (C - k)]) (R:=fun F wz=>F=pv g/\Below W5.heap.size W5 wz) 37 rfl rfl (by rfl) ?hrun4 ((HC _ (aB.mono B) (aG.mono B) (aC.mono B)).mono fun e w6 ⟨he,j⟩=>⟨_,he,rfl,j⟩) ?pA2 AllReadyH.nil)
     case hrun4=>simp[execOp,go_sem]
     rintro r3 W6 ⟨rfl,j⟩;have aa:=(u.mono B u.lt).mono j (u.mono B u.lt).lt;have H:=ac.mono j ac.lt;have av:=(an.mono B).mono j;have aK:=ag.trans (B.mono (by have:=ag.size;omega));have aq:=aK.trans (j.mono (by have:=aK.size;omega));obtain⟨J,Q,T,U,V⟩:=kaG aa;refine⟨⟨J,Q,T,U,V⟩,?_⟩;refine kaS (by(first | simp only[Ya,Yb] | skip);rfl) (by(first | simp only[Ya,Yb] | skip);rfl) ?_;have au:t.heap.size<=t.heap.size:=nR _;obtain⟨h,hX⟩:=Nq t.heap.size;rw[hX]at H au aM⊢;have a9:M<h:=by omega
    all_goals
     obtain⟨J,Q,T,U,V⟩:=kaG aa;obtain⟨r0,r1,r2⟩:=kag H;have f0:=H.free 0;have f1:=H.free 1;have f2:=H.free 2;have B:∀(r:Tw) (o W:Nat) (ax:Value),(r.setCell ⟨h,o,none⟩ ax).cell? ⟨M,W,none⟩=r.cell? ⟨M,W,none⟩:=fun r o W ax=>World.cell?_of_block (w:=r) (heap_setCell_other r ⟨h,o,none⟩ M ax (by simp;omega));unfold pv;refine ka0 (i:=6) (w':=(((W6.setCell ⟨h,0,none⟩ (.string g.t)).setCell ⟨h,1,none⟩ (J6 g.lv)).setCell ⟨h,2,none⟩ (J6 g.d))) rfl (by rfl) (by kernel_rfl) rfl (by simp[execOp,go_sem,r0,r1,r2,f0,f1,f2]) rfl ⟨by rw[B,B,B];exact J,by rw[B,B,B];exact Q,by rw[B,B,B];exact T,by rw[B,B,B];exact U,by rw[B,B,B];exact V⟩ ?_;refine wdQ ?_;have aj:=az h (by omega);have aw:=(((H.set 0 (.string g.t)).set 1 (J6 g.lv)).set 2 (J6 g.d));have aN:=((av.other aj 0 (.string g.t)).other aj 1 (J6 g.lv)).other aj 2 (J6 g.d);have aJ:=(((aq.setCell (p:=⟨h,0,none⟩) (show E<=h by omega) (.string g.t)).setCell (p:=⟨h,1,none⟩) (show E<=h by omega) (J6 g.lv)).setCell (p:=⟨h,2,none⟩) (show E<=h by omega) (J6 g.d));obtain⟨H,bd⟩:=Nq ((((W6.setCell ⟨h,0,none⟩ (.string g.t)).setCell ⟨h,1,none⟩ (J6 g.lv)).setCell ⟨h,2,none⟩ (J6 g.d)));rw[bd]at aw aN aJ⊢;obtain⟨aH,a3,W⟩:=oC aw aN aJ;obtain⟨r0,r1,r2⟩:=kag aw;by_cases bG:64<g.d∨4000<g.t.size
     . have A:=h_ (HN fun x=>by have:=x.part (fun o hj=>(HF o hj).2.2.2) (show 1<=b+1 by omega) (show b+1<=m by omega);rw[aE.u]at this;omega)
       by_cases hd:64<g.d
       . have aQ:(64:Int)<g.d:=by omega
         go_wp2_with fail
         go_ret2
         exact⟨by rw[A.u.1,A.u.2];rfl,by first | exact W | (rw[Y];exact W)⟩
       . have aQ:¬ (64:Int)<g.d:=by omega
         have bt:(4000:Int)<g.t.size:=(by omega);go_wp2_with fail
         go_ret2
         exact⟨by rw[A.u.1,A.u.2];rfl,by first | exact W | (rw[Y];exact W)⟩
     have aQ:¬ (64:Int)<g.d:=(by omega);have bt:¬ (4000:Int)<g.t.size:=(by omega);have aX:Hi (∀o,1<=o->o<=b+1->(top e o).d<=64/\(top e o).t.size<=4000):=h_ fun o y I=>by
      by_cases ej:o=b+1
      . subst ej;rw[aE.u];omega
      . exact ay o y (by omega)
     go_wp2_with fail;refine wp_region_held_drew (S:=fun o=>o.cell? ⟨h,0,none⟩=some (.string g.t)/\o.cell? ⟨h,1,none⟩=some (J6 g.lv)/\o.cell? ⟨h,2,none⟩=some (J6 g.d)) (by kernel_rfl) ⟨r0,r1,r2⟩ (fun K=>?_);refine tkA 0 K ?_;refine tkA 1 K ?_;refine tkL 2 49 (.slice G k C) K ?_ (hy:=fun w hS=>by have bH:(k:Int)<=C:=(by omega);simp[execOp,go_sem, *]);refine tkA 3 K ?_;have hD:Below H.heap.size H (H.drew.alloc (.cells #[.string g.t,J6 g.lv,J6 g.d] 331)):=q36 ((bR H.heap.size H.drew).alloc (nR _) _);have aO:=aH.mono hD aH.lt;obtain⟨r0,r1,r2⟩:=kag aO;refine wpAnyH_ready (rs:=[4]) (by kernel_rfl) (by simp) (kaD (v:=.slice (some ⟨H.heap.size,0,none⟩) 1 1) (w':=H.drew.alloc (.cells #[.string g.t,J6 g.lv,J6 g.d] 331)) 51 rfl rfl (by rfl) (by simp[execOp,go_sem]) ⟨r0,r1,r2⟩ ?_ AllReadyH.nil);refine kaS (by(first | simp only[Ya,Yb] | skip);rfl) (by(first | simp only[Ya,Yb] | skip);rfl) ?_;have ae:(pst e b).reverse.length=z:=(by rw[Zf,qrh];exact N);have aS:(H.drew.alloc (.cells #[.string g.t,J6 g.lv,J6 g.d] 331)).ownsRow E 331 3 (.slice G k C) k (phV ((pst e b).reverse.take k)):=by
      have y:=a3.u;rw[<- ae]at y;have I:=(y.upto k (by omega)).mono hD;unfold kcF at I;rw[show((pst e b).reverse.take k).length=k by rw[Zb];omega]at I;exact I
     have bl:=qin H.drew g;obtain⟨i0,hi,bv,bw,bx⟩:=info_parts qpd;obtain⟨v',r,Z,bm,aR,-⟩:=run_append_own (P:=prog) (H.drew.alloc (.cells #[.string g.t,J6 g.lv,J6 g.d] 331)) E 329 329 331 i0 _ 3 32 underlying329 hi bv bw bx rfl (by omega) (.slice G k C) k _ aS ⟨H.heap.size,0,none⟩ 1 1 (phV [g]) rfl bl (by simp[phV,Value.oneCell']) (by unfold maxLen;omega) (by omega) (by have:=W.size;simp;omega);have be:=aO.grown aR (fun x=>aj (by rw[show(Value.slice G z C).ownBlock=(Value.slice G k C).ownBlock by cases G <;> rfl];exact x.symm));have aV:Hi (Below E w r):=h_ ((W.trans (hD.mono (by have:=W.size;omega))).grown aR (by have:=W.size;simp;omega) (fun q' hq=>qc8 aS hq));have a2:Hi (kcF r E v' (pst e (b+1)).reverse):=h_ (by
      unfold kcF;rw[aA.u,qcf,Yj,show((pst e b).reverse.take k).length=k by rw[Zb];omega];exact bm)
     obtain⟨q0,q1,q2⟩:=kag be;refine wpAnyH_ready (rs:=[5]) (by kernel_rfl) (by simp) (kaD (v:=v') (w':=r) 52 rfl rfl (by rfl) (q4d rfl rfl rfl Z) ⟨q0,q1,q2⟩ ?_ AllReadyH.nil);refine kaS (by(first | simp only[Ya,Yb] | skip);rfl) (by(first | simp only[Ya,Yb] | skip);rfl) ?_;replace K:r.cell? ⟨h,0,none⟩=some (.string g.t)/\r.cell? ⟨h,1,none⟩=some (J6 g.lv)/\r.cell? ⟨h,2,none⟩=some (J6 g.d):=⟨q0,q1,q2⟩;refine tkA 6 K ?_;refine wdQ ?_;refine rQ ?_;exact⟨b+1,by omega,by go_num,a2,aZ,a5,aX,aV⟩
  . obtain rfl:b=m:=by omega
    have bk:¬ (b:Int)<(b:Int):=(by omega);by_cases y:z=1
    . subst y
      have o:=N.u;have h:1<=b:=(by omega);have k:=ay b h (nR _);have A:=h_ (HY ⟨h,by omega,ak,am,o,k.1,k.2⟩);have r:(pst e b).reverse=[top e b]:=(by rw[qrj o];rfl);have hS:=al.u;rw[r]at hS;obtain⟨u,B,g,-,q,t⟩:=hS.shape;simp only[Yt,Y2,Value.slice.injEq,true_and]at g;obtain⟨rfl,rfl⟩:=g;cases G with
      | none=>exact absurd (q rfl).1 (by simp)
      | some ad =>
       obtain⟨ai,o',ap⟩:=ad;obtain⟨rfl,rfl,-,-⟩:=t ai o' ap rfl;have J:=kcF.cell (l:=[top e b]) hS 0 (by simp);simp only[phV,Va,List.flatMap_nil,List.append_nil,Yf]at J;go_wp2_with fail
       go_ret2
       exact⟨by rw[A.u.1,A.u.2];rfl,by first | exact X | (rw[Y];exact X)⟩
    . have A:=h_ (HN fun x=>y (by rw[<- N.u];exact x.2.2.2.2.1))
      have g:((z:Int) != 1)=true:=(by simp;omega);go_wp2_with fail
      go_ret2
      exact⟨by rw[A.u.1,A.u.2];rfl,by first | exact X | (rw[Y];exact X)⟩
