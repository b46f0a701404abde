import Derived.Test.YtenckgnkjkijnaaGreatDoorW11
set_option maxRecDepth 100000
set_option maxHeartbeats 64000000
namespace Go.Proofs.YtenckgnkjkijnaaGreatDoor
open Go Go.RowKit Go.Proofs.Tryz
def zv (u:Vx):Bool:=decide (u.k=0/\u.n=0/\u.s.size=0)
theorem kfR (u:Vx):eqX u kak=zv u:=by
 have:(u.s.toList=[]) ↔ u.s.size=0:=by
  have:=kdj u.s;rw[Zh]at this;simpa using this
 unfold eqX zv kak;by_cases a:u.k=0
 . by_cases b:u.n=0
   . simp[a,b,this]
   . simp[a,b]
 . simp[a]
theorem q2e (u:Vx)(w:Tw)(j:u.s.size<=9223372036854775807):Gv 359 #[vv u] w (.bool (kah u.k u.n u.s&&decide (u.k≠4)&&decide (0<=u.n))):=by
 unfold vv;obtain⟨e,b⟩:=oB (Blk.new w 55 #[J6 u.k,J6 u.n,.string u.s]) ((bR w.heap.size w).alloc (nR _) (.cells #[J6 u.k,J6 u.n,.string u.s] 55));obtain⟨h,a⟩:=Nq ((kah u.k u.n u.s&&decide (u.k≠4)&&decide (0<=u.n)));rw[a];go_enter func359,ntmps359;go_wp2_with fail;refine cQ (q2d _ _ _ _ j) fun m g=>?_;replace e:=mB e g;replace b:=mT b g;obtain⟨l,o,p⟩:=kag e;cases f:kah u.k u.n u.s
 . rw[f]at a
   have c:Hi (false=h):=h_ a;go_wp2_with fail;go_ret;exact⟨qln c,b⟩
 . rw[f,Y9]at a
   by_cases d:u.k=4
   . have c:Hi (false=h):=h_ (by rw[<- a,Yd (fun i=>i d)];rfl);clear a f
     rw[d]at l e;go_wp2_with fail;go_ret;exact⟨qln c,b⟩
   . rw[Ye d,Y9]at a
     have i:(u.k != 4)=true:=(by simp[d]);have c:=h_ a;clear a f d;go_wp2_with fail;go_ret;exact⟨qln c,b⟩
theorem q0m (n:Nx)(w:Tw):Gv 143 #[nv n] w (J6 (arn n)):=by
 rw[qig,keA];unfold nv;obtain⟨e,c⟩:=oB (Blk.new w 190 #[J6 n.op,J6 n.v.k,J6 n.v.n,.string n.v.s,.string n.nm]) ((bR w.heap.size w).alloc (nR _) (.cells #[J6 n.op,J6 n.v.k,J6 n.v.n,.string n.v.s,.string n.nm] 190));by_cases b:2<=n.op/\n.op<=25
 . rw[Yr b]
   go_enter func143,ntmps143;go_wp2_with (first | (go_at_call 171;refine cQ (q2h _ _) fun d a=>?_;replace a:=a.symm;subst a;rw[Ye b]) | (go_at_call 172;refine cQ (q2w _ _) fun d a=>?_;replace a:=a.symm;subst a));go_ret;exact⟨rfl,c⟩
 . rw[Yl b]
   go_enter func143,ntmps143;go_wp2_with (go_at_call 171;refine cQ (q2h _ _) fun d a=>?_;replace a:=a.symm;subst a;rw[Yd b]);go_ret;exact⟨rfl,c⟩
theorem qb7 (n:Nx)(w:Tw)(I:Fit n):Gv 345 #[nv n] w (.bool (kao n)):=by
 obtain⟨K,J,-,-⟩:=I;unfold nv;obtain⟨z,a⟩:=Nq (w.alloc (.cells #[J6 n.op,J6 n.v.k,J6 n.v.n,.string n.v.s,.string n.nm] 190));obtain⟨g,c⟩:=oB (Blk.new w 190 #[J6 n.op,J6 n.v.k,J6 n.v.n,.string n.v.s,.string n.nm]) ((bR w.heap.size w).alloc (nR _) (.cells #[J6 n.op,J6 n.v.k,J6 n.v.n,.string n.v.s,.string n.nm] 190));rw[a]at g c;have D:=kdj n.nm;rcases kg1 n.op with j | j | ⟨j,E⟩
 . have b:=key j
   rw[j]at g a⊢;clear j;obtain⟨t,m,o,p,q⟩:=kaG g;by_cases d:n.nm.size=0
   . rw[Ye d]at D b
     rw[Y9]at b;have e:=h_ b;clear b;go_enter func345,ntmps345;go_wp2_with fail
     try rw[a]
     refine cQ (q2e n.v _ K) fun l h=>?_;replace c:=mT c h;clear h;generalize (kah n.v.k n.v.n n.v.s&&decide (n.v.k≠4)&&decide (0<=n.v.n))=r at *;cases r
     all_goals
      go_wp2_with fail;go_ret;exact⟨qln e.symm,c⟩
   . rw[Yd d]at D b
     have e:Hi (kao n=false):=h_ b;clear b d;go_enter func345,ntmps345;go_wp2_with fail;go_ret;exact⟨qln e.symm,c⟩
 . have b:=kez j
   rw[j]at g a⊢;clear j;obtain⟨t,m,o,p,q⟩:=kaG g;go_enter func345,ntmps345;go_wp2_with fail
   try rw[a]
   clear a;refine wp_region_held_drew (S:=fun l=>l.cell? ⟨w.heap.size,1,none⟩=some (J6 n.v.k)/\l.cell? ⟨w.heap.size,2,none⟩=some (J6 n.v.n)/\l.cell? ⟨w.heap.size,3,none⟩=some (.string n.v.s)/\l.cell? ⟨w.heap.size,4,none⟩=some (.string n.nm)) (by kernel_rfl) ⟨m,o,p,q⟩ (fun a=>?_);clear t m o p q;refine tkA 0 a ?_;refine tkA 1 a ?_;refine kaL (i:=2) (f:=145) (args:=#[]) (R:=fun r x=>r=vv kak/\Bw z x) 19 rfl rfl (by rfl) (by kernel_rfl) ?hrun2 ((q21 _).mono fun A C ⟨u,d⟩=>⟨_,u,rfl,q36 d⟩) ?_
   case hrun2=>simp[execOp,go_sem]
   rintro B h ⟨rfl,d⟩;replace g:=mB g d;replace c:=mT c d;clear d;obtain⟨t,m,o,p,q⟩:=kaG g;replace a:h.cell? ⟨w.heap.size,1,none⟩=some (J6 n.v.k)/\h.cell? ⟨w.heap.size,2,none⟩=some (J6 n.v.n)/\h.cell? ⟨w.heap.size,3,none⟩=some (.string n.v.s)/\h.cell? ⟨w.heap.size,4,none⟩=some (.string n.nm):=⟨m,o,p,q⟩;clear t m o p q;refine⟨a,?_⟩;refine kaS (by(first | simp only[Ya,Yb] | skip);rfl) (by(first | simp only[Ya,Yb] | skip);rfl) ?_;unfold vv;refine tkL 3 20 (.bool (eqX n.v kak)) a ?_ (hy:=fun w H=>by simp[execOp,go_sem, *];unfold eqX kak;(repeat' split) <;> simp_all);rw[kfR];rw[show decide (n.v.k=0/\n.v.n=0/\n.v.s.size=0)=zv n.v from rfl]at b;cases y:zv n.v
   . have e:Hi (kao n=false):=h_ (by rw[b,y];rfl)
     clear b y;refine tkL 4 21 (.bool false) a ?_;refine skL 5 22 a ?_;refine skL 6 23 a ?_;refine skL 7 24 a ?_;refine tkL 8 25 (.bool false) a ?_;refine tkL 9 2 (.bool false) a ?_;refine wpAnyH_done (by kernel_rfl) ?_ _;clear a;go_wp2;go_ret;exact⟨qln e.symm,c⟩
   . have e:Hi (kao n=kaQ n.nm):=h_ (by rw[b,y];rfl)
     clear b y;refine tkL 4 21 (.bool true) a ?_;refine tkA 5 a ?_;refine tkA 6 a ?_;refine kaL (i:=7) (f:=295) (args:=#[.string n.nm]) (R:=fun r x=>r=.bool (kaQ n.nm)/\x=h) 24 rfl rfl (by rfl) (by kernel_rfl) ?hrun7 ((q2f _ _ J).mono fun A C ⟨u,d⟩=>⟨_,u,rfl,d⟩) ?_
     case hrun7=>simp[execOp,go_sem]
     rintro B F ⟨rfl,y⟩;replace y:=y.symm;subst y;refine⟨a,?_⟩;refine kaS (by(first | simp only[Ya,Yb] | skip);rfl) (by(first | simp only[Ya,Yb] | skip);rfl) ?_;refine tkL 8 25 (.bool (kaQ n.nm)) a ?_;refine tkL 9 2 (.bool (kaQ n.nm)) a ?_;refine wpAnyH_done (by kernel_rfl) ?_ _;go_wp2;go_ret;exact⟨qln e.symm,c⟩
 . have b:=kcW j E
   have L:(n.op==0)=false:=Yc.2 j;have M:(n.op==1)=false:=Yc.2 E;obtain⟨t,m,o,p,q⟩:=kaG g;go_enter func345,ntmps345;go_wp2_with fail;refine wp_region_held_drew (S:=fun l=>l.cell? ⟨w.heap.size,0,none⟩=some (J6 n.op)/\l.cell? ⟨w.heap.size,1,none⟩=some (J6 n.v.k)/\l.cell? ⟨w.heap.size,2,none⟩=some (J6 n.v.n)/\l.cell? ⟨w.heap.size,3,none⟩=some (.string n.v.s)/\l.cell? ⟨w.heap.size,4,none⟩=some (.string n.nm)) (by kernel_rfl) ⟨t,m,o,p,q⟩ (fun a=>?_);refine tkA 0 a ?_;refine tkA 1 a ?_;refine kaL (i:=2) (f:=171) (args:=#[J6 n.op]) (R:=fun r x=>r=.bool (decide (2<=n.op/\n.op<=25))/\x=z.drew) 28 rfl rfl (by rfl) (by kernel_rfl) ?hrun2 ((q2h _ _).mono fun A C ⟨u,d⟩=>⟨_,u,rfl,d⟩) ?_
   case hrun2=>simp[execOp,go_sem]
   rintro B h ⟨rfl,y⟩;subst y;refine⟨a,?_⟩;refine kaS (by(first | simp only[Ya,Yb] | skip);rfl) (by(first | simp only[Ya,Yb] | skip);rfl) ?_;cases F:decide (2<=n.op/\n.op<=25)
   . have e:Hi (kao n=false):=h_ (by rw[b,F];rfl)
     refine tkL 3 29 (.bool false) a ?_;refine skL 4 30 a ?_;refine skL 5 31 a ?_;refine skL 6 32 a ?_;refine tkL 7 33 (.bool false) a ?_;refine tkL 8 34 (.bool false) a ?_;refine skL 9 35 a ?_;refine skL 10 36 a ?_;refine skL 11 37 a ?_;refine skL 12 38 a ?_;refine tkL 13 39 (.bool false) a ?_;refine tkL 14 2 (.bool false) a ?_;refine wpAnyH_done (by kernel_rfl) ?_ _;go_wp2;go_ret;exact⟨qln e.symm,c.drew⟩
   rw[F,Y9]at b;refine tkL 3 29 (.bool true) a ?_;refine tkA 4 a ?_;refine tkA 5 a ?_;refine tkL 6 32 (.bool (decide (n.nm.size=0))) a ?_;refine tkL 7 33 (.bool (decide (n.nm.size=0))) a ?_;refine tkL 8 34 (.bool (decide (n.nm.size=0))) a ?_;rw[show decide (n.v.k=0/\n.v.n=0/\n.v.s.size=0)=zv n.v from rfl]at b;cases G:decide (n.nm.size=0)
   . have e:Hi (kao n=false):=h_ (by rw[b,G,Oa])
     refine skL 9 35 a ?_;refine skL 10 36 a ?_;refine skL 11 37 a ?_;refine skL 12 38 a ?_;refine tkL 13 39 (.bool false) a ?_;refine tkL 14 2 (.bool false) a ?_;refine wpAnyH_done (by kernel_rfl) ?_ _;go_wp2;go_ret;exact⟨qln e.symm,c.drew⟩
   rw[G,Bool.and_true]at b;have e:=h_ b;refine tkA 9 a ?_;refine tkA 10 a ?_;refine kaL (i:=11) (f:=145) (args:=#[]) (R:=fun r x=>r=vv kak/\Bw z x) 37 rfl rfl (by rfl) (by kernel_rfl) ?hrun3 ((q21 _).mono fun A C ⟨u,d⟩=>⟨_,u,rfl,q36 d⟩) ?_
   case hrun3=>simp[execOp,go_sem]
   rintro B h ⟨rfl,d⟩;replace g:=mB g d;replace c:=mT c d;obtain⟨t,m,o,p,q⟩:=kaG g;replace a:h.cell? ⟨w.heap.size,0,none⟩=some (J6 n.op)/\h.cell? ⟨w.heap.size,1,none⟩=some (J6 n.v.k)/\h.cell? ⟨w.heap.size,2,none⟩=some (J6 n.v.n)/\h.cell? ⟨w.heap.size,3,none⟩=some (.string n.v.s)/\h.cell? ⟨w.heap.size,4,none⟩=some (.string n.nm):=⟨t,m,o,p,q⟩;refine⟨a,?_⟩;refine kaS (by(first | simp only[Ya,Yb] | skip);rfl) (by(first | simp only[Ya,Yb] | skip);rfl) ?_;unfold vv;refine tkL 12 38 (.bool (eqX n.v kak)) a ?_ (hy:=fun w H=>by simp[execOp,go_sem, *];unfold eqX kak;(repeat' split) <;> simp_all);rw[kfR];refine tkL 13 39 (.bool (zv n.v)) a ?_;refine tkL 14 2 (.bool (zv n.v)) a ?_;refine wpAnyH_done (by kernel_rfl) ?_ _;go_wp2;go_ret;exact⟨qln e.symm,c⟩
def pv (p:Ph):Value:=.agg #[.string p.t,.int .i64 p.lv,.int .i64 p.d]
def kdo (w:Tw)(b o:Nat)(p:Ph):Prop:=b<w.heap.size/\w.cell? ⟨b,o,none⟩=some (.string p.t)/\w.cell? ⟨b,o+1,none⟩=some (.int .i64 p.lv)/\w.cell? ⟨b,o+2,none⟩=some (.int .i64 p.d)
theorem kdo.mono {w w':Tw}{b o:Nat}{p:Ph}(a:kdo w b o p)(c:Below w.heap.size w w'):kdo w' b o p :=
 ⟨Yn a.1 c.size,(c.cell a.1).trans a.2.1,(c.cell a.1).trans a.2.2.1,(c.cell a.1).trans a.2.2.2⟩
def Phs (w:Tw)(a:To)(l:List Ph):Prop:=∀k (h:k<l.length),∃b o,a=some ⟨b,o,none⟩/\kdo w b (o+k*3) l[k]
theorem Phs.mono {w w':Tw}{a:To}{l:List Ph}(d:Phs w a l)(e:Below w.heap.size w w'):Phs w' a l:=fun h g=>by
 obtain⟨b,i,c,f⟩:=d h g;exact⟨b,i,c,f.mono e⟩
theorem q74 (p:Ph)(l:Int)(w:Tw)(f:p.t.size<=2000000):Calls prog 373 #[pv p,J6 l] w fun a b=>a=.returned (.string (wrap l p))/\Below w.heap.size w b:=by
 unfold pv;have b:=h_ ((bR w.heap.size w).alloc (nR _) (.cells (J1 p.t p.lv p.d) 331));have a:Hi (wrap l p=if p.lv<l then ⟨#[40]⟩++p.t++⟨#[41]⟩ else p.t):=h_ rfl;obtain⟨g,e⟩:=Nq (wrap l p);rw[e]at a⊢;by_cases c:p.lv<l
 . rw[Yr c]at a
   go_enter func373,ntmps373;go_wp2_with fail;go_ret;exact⟨qrt a.u.symm,b.u⟩
 . rw[Yl c]at a
   go_enter func373,ntmps373;go_wp2_with fail;go_ret;exact⟨qrt a.u.symm,b.u⟩
theorem qpq (r:List Tb):(jt r).data.toList=Lib.joinTail [44,32] (r.map (·.data.toList)):=by
 induction r with
 | nil=>rfl
 | cons b r a=>simp only[jt,Vv,Array.toList_append,a,Z5,Lib.joinTail,List.flatten_cons]
theorem qpn (l:List Tb):jn l=⟨(Lib.join (l.map (·.data.toList)) [44,32]).toArray⟩:=by
 refine qd0 ?_;cases l with
 | nil=>rfl
 | cons b a=>rw[Z5,Lib.join_cons];simp only[jn,Vv,Array.toList_append,qpq]
def stV (l:List Tb):Tl:=l.map .string
theorem qjq:(prog.info? 9).map (fun a=>(a.zero,a.size,a.bytes))=some (some J8,1,16):=by kernel_rfl
theorem qbu (a:To)(c:Nat)(l:List Ph)(w:Tw)(V:1<=l.length)(W:l.length<=3)(S:Phs w a l)(hs:tot l<=2000000) :
 Calls prog 374 #[.slice a l.length c] w fun o x=>o=.returned (.string (jn (l.map (·.t))))/\Below w.heap.size w x:=by
 have P:=h_ S;have s:=(qpo l).2;have B:=h_ (qpn (l.map (·.t)));obtain⟨f,L⟩:=Nq l.length;rw[L]at V W s⊢;have p:=h_ L;obtain⟨O,X⟩:=Nq (jn (l.map (·.t)));rw[X]at B s⊢;obtain⟨v,r,z,t,A⟩:=info_parts qjq;have T:v.bytes*f<=281474976710656:=by rw[A];omega
 obtain⟨e,H⟩:=Nq w.heap.size;go_enter func374,ntmps374;go_wp2_with (at_make;refine wpList_make_own _ rfl _ _ 22 rfl w.heap.size 9 v _ 1 underlying22 r z t .i64 .i64 _ f rfl rfl rfl T (by unfold maxLen;omega) (nR _) ?_;intro w1 N U);have h:=h_ ((bR w.heap.size w).grown U (nR _) (fun b g=>by cases g));rw[H]at N h;have m:=h_ N;go_wp2_with fail;go_loopw [3,5,11] (fun i _ g wr=>∃b:Nat,b<=f/\i=.slice (some ⟨e,0,none⟩) b f/\g=J6 b/\wr.ownsRow e 9 1 (.slice (some ⟨e,0,none⟩) b f) b (stV ((l.take b).map (·.t)))/\Below e w wr) (fun _ _ g _=>f - (intOf g).toNat)
 case atStart=>exact⟨0,nZ _,rfl,rfl,m.u,h.u⟩
 case round =>
  obtain⟨b,hk,rfl,rfl,i,j⟩:=hrel;obtain⟨m,k,R⟩:=oC i j (P.u.mono (j.mono (by omega)));clear i j;by_cases ac:b<f
  . have ad:(b:Int)<f:=by omega
    have K:b<l.length:=(by have:=p.u;omega);obtain⟨aa,ae,rfl,-,F,c1,c2⟩:=R.u b K;have E:Hi ((l.take (b+1)).map (·.t)=(l.take b).map (·.t)++[l[b].t]):=h_ (by rw[Ys K,Zl];rfl);obtain⟨g,n⟩:=Nq (l[b]);rw[n]at E F c1 c2;clear n;obtain⟨v,r,z,t,A⟩:=info_parts qjq;obtain⟨n,q⟩:=Nq (wr.alloc (.cells (J1 g.t g.lv g.d) 331));have D:Hi (n.ownsRow e 9 1 (.slice (some ⟨e,0,none⟩) b f) b (stV ((l.take b).map (·.t)))):=h_ (by rw[<- q];exact m.u.alloc _);have h:Hi (Below e w n):=h_ (by rw[<- q];exact k.u.alloc (by have:=k.u.size;omega) _);have C:Hi (Blk n wr.heap.size 331 [.string g.t,J6 g.lv,J6 g.d]):=h_ (by rw[<- q];exact Blk.new wr 331 (J1 g.t g.lv g.d));obtain⟨Z,y1,y2⟩:=kag C.u;go_wp2_with (at_builtin;refine wpList_append_fits _ rfl _ _ 22 rfl e 9 v 1 underlying22 r t e b f _ rfl (D.u.alloc _) ⟨n.heap.size,0,none⟩ 1 1 [.string g.t] rfl rfl (qim n 9 _) (by simp[Value.oneCell']) (by omega) ?_);intro Y M J;have I:=(h.u.alloc (by have:=h.u.size;omega) (.cells #[.string g.t] 9)).grown J (by have:=h.u.size;simp;omega) (fun y G=>by cases G;exact nR _);have Q:Hi (Y.ownsRow e 9 1 (.slice (some ⟨e,0,none⟩) (b+1) f) (b+1) (stV ((l.take (b+1)).map (·.t)))):=h_ (by rw[E.u];simpa [stV] using M);have y:=h_ I;clear M J I r z t A m k D h C F c1 c2 Z y1 y2 q;refine rQ ?_;exact⟨b+1,by omega,rfl,by go_num,Q.u,y.u⟩
  . obtain rfl:b=f:=by omega
    have i:=m.u;rw[Yy (by have:=p.u;omega)]at i;have n:Hi (∀(g:Nat) h,(l.map (·.t))[g]? = some h->wr.cell? ⟨e,0+g,none⟩=some (.string h)):=h_ fun g h h=>by
     have s:g<(l.map (·.t)).length:=(List.getElem?_eq_some_iff.1 h).1;have:=i.cellAt g (by rw[Zp]at s;have:=p.u;omega);rw[Y3];rw[show(⟨e,g,none⟩:Addr)=⟨e,g,none⟩ from rfl];rw[this];simp only[stV,Zj,h,Gd]
    have t:(l.map (·.t)).length=b:=(by rw[Zp];exact p.u);have r:e<wr.heap.size:=by
     rcases i.2 with ⟨g,_⟩ | ⟨A,q,z,g,_,h,_⟩
     . simp at g
     . simp only[Value.slice.injEq,Vk,Addr.mk.injEq,and_true,true_and]at g
       obtain⟨rfl,-⟩:=g;exact(Yq.1 h).1
    clear i;go_wp2_with fail;have g:=B.u;refine(show Calls prog 300 #[.slice (some ⟨e,0,none⟩) b b,.string ⟨#[44,32]⟩] wr fun o x=>o=.returned (.string O)/\Below wr.heap.size wr x from ?_).mono ?_
    . have h:=Tryz.strings_Join e 0 b (l.map (·.t)) ⟨#[44,32]⟩ wr n.u r (by omega) (by omega) (by
       have G:O.size=(Lib.join ((l.map (·.t)).map (·.data.toList)) [44,32]).length:=(by rw[g];rfl);show(Lib.join ((l.map (·.t)).map (·.data.toList)) [44,32]).length<=_;omega)
      rw[t]at h;refine h.mono fun o x ⟨i,q⟩=>⟨?_,q⟩;rw[i,g]
    rintro o h ⟨rfl,j⟩;have y:=h_ (k.u.trans (j.mono (by have:=k.u.size;omega)));clear j g;go_wp2_with fail;go_ret;exact⟨rfl,by rw[H];exact y.u⟩
