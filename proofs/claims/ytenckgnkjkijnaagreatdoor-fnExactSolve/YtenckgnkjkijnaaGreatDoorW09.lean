import Derived.Test.YtenckgnkjkijnaaGreatDoorW04
set_option maxRecDepth 100000
set_option maxHeartbeats 64000000
namespace Go.Proofs.YtenckgnkjkijnaaGreatDoor
open Go Go.RowKit Go.Shelf Go.Proofs.Tryz
variable {w:Tw}{n k:Nat}{f g:Nat->Nat}{l:List Nat}
attribute [local go_sem] Oper.semAt_some
def kaE (g:Nat->Nat)(a b:Nat):Prop:=∀C:Nat->Prop,C a->(∀x y,C x->x<32->(g x).testBit y=true->C y)->C b
theorem kaE.refl (g:Nat->Nat)(a:Nat):kaE g a a:=fun _ b _=>b
theorem kaE.step {a x y:Nat}(d:kaE g a x)(f:x<32)(hy:(g x).testBit y=true):kaE g a y:=fun c e b=>b x y (d c e b) f hy
structure ke9 (g:Nat->Nat)(a todo done:Nat)(pre:List Nat):Prop where
 t32:todo<4294967296
 d32:done<4294967296
 came:∀i,i∈pre ↔ done.testBit i=true
 apart:∀i,todo.testBit i=true->done.testBit i=false
 reach:∀i,(todo.testBit i=true∨done.testBit i=true)->kaE g a i
 start:todo.testBit a=true∨done.testBit a=true
 shut:∀x y,done.testBit x=true->(g x).testBit y=true->todo.testBit y=true∨done.testBit y=true
theorem ke9.init (g:Nat->Nat)(a:Nat)(c:a<32):ke9 g a (2 ^ a) 0 [] where
 t32:=kbP c
 d32:=by decide
 came:=fun b=>by simp
 apart:=fun b _=>by simp
 reach:=fun b b=>by
  rw[Z9]at b;simp at b;subst b;exact kaE.refl _ _
 start:=.inl (by simp)
 shut:=fun d d b=>by simp at b
theorem ke9.next {a done x:Nat}(e:ke9 g a n done l)(r:∀a,a<32->g a<4294967296)(j:x<32)(m:n.testBit x=true) :
 ke9 g a (kaz (n ||| g x) (done ||| 2 ^ x)) (done ||| 2 ^ x) (l++[x]):=by
 have p:=kdq e.t32 (r x j);have q:=kdq e.d32 (kbP j);have tb:∀b,(kaz (n ||| g x) (done ||| 2 ^ x)).testBit b=((n.testBit b||(g x).testBit b)&&!(done.testBit b||decide (x=b))):=fun b=>by
  rw[qbx p q,Oz,Oz,Z9]
 have h:∀b,(done ||| 2 ^ x).testBit b=(done.testBit b||decide (x=b)):=fun b=>by rw[Oz,Z9]
 refine⟨qg3 p,q,fun b=>?_,fun b d=>?_,fun b d=>?_,?_,fun s k f o=>?_⟩
 . rw[Zk,Zz,e.came b,h,Ze,decide_eq_true_iff]
   exact or_congr_right ⟨Eq.symm,Eq.symm⟩
 . rw[tb]at d;rw[h];simp at d⊢;exact d.2
 . rw[tb,h]at d
   cases c:(done.testBit b||decide (x=b))
   . rw[c]at d;simp at d
     rcases d with d | d
     . exact e.reach b (.inl d)
     . exact(e.reach x (.inl m)).step j d
   . simp at c
     rcases c with c | c
     . exact e.reach b (.inr c)
     . subst c;exact e.reach x (.inl m)
 . rw[tb,h]
   cases c:(done.testBit a||decide (x=a))
   . simp at c
     rcases e.start with i | i
     . simp[i]
     . rw[i]at c;simp at c
   . exact .inr rfl
 . rw[tb,h]
   rw[h]at f;cases c:(done.testBit k||decide (x=k))
   . simp at c f
     rcases f with f | f
     . rcases e.shut s k f o with i | i
       . simp[i]
       . rw[i]at c;simp at c
     . subst f;simp[o]
   . exact .inr rfl
theorem ke9.finish {a done:Nat}(c:ke9 g a 0 done l):∀b,b∈l ↔ kaE g a b:=fun b=>by
 rw[c.came b];constructor
 . exact fun d=>c.reach b (.inr d)
 . intro d
   refine d (fun b=>done.testBit b=true) ?_ ?_
   . rcases c.start with b | b
     . simp at b
     . exact b
   . intro h i e _ f
     rcases c.shut h i e f with b | b
     . simp at b
     . exact b
theorem qqu {x:Nat}(b:n.testBit x=false):n<n ||| 2 ^ x:=by
 apply Nat.lt_of_le_of_ne Nat.left_le_or;intro a;have:(n ||| 2 ^ x).testBit x=true:=by rw[Oz,Z9];simp
 rw[<- a,b]at this;cases this
theorem qlx {c:Value}(b:Blk w n 235 [c])(v:Value)(d e f g:Obj) :
 Blk (((((w.alloc d).alloc e).alloc f).alloc g).setCell ⟨n,0,none⟩ v).drew n 235 [v]/\kaH (fun j=>j=n) w (((((w.alloc d).alloc e).alloc f).alloc g).setCell ⟨n,0,none⟩ v).drew /\
  (∀h,h<=n->n<w.heap.size->Below h w (((((w.alloc d).alloc e).alloc f).alloc g).setCell ⟨n,0,none⟩ v).drew):=by
 have i:=kbd w d e f g;exact⟨(b.mono i b.lt).set 0 v,((kaH.of_below i).trans (kaH.set (X:=fun j=>j=n) (a:=⟨n,0,none⟩) v rfl)).trans ⟨nR _,fun _ _ _ _ _ b=>b⟩,fun h h j=>((i.mono (by omega)).setCell (p:=⟨n,0,none⟩) h v).drew⟩
theorem kew (w:Tw)(a b c d e f:Obj):Bw w ((((((w.alloc a).alloc b).alloc c).alloc d).alloc e).alloc f):=((kbd w a b c d).alloc (by simp;omega) e).alloc (by simp;omega) f
theorem qgx {c:Value}(b:Blk w n 235 [c])(v:Value)(d e f g h i:Obj) :
 Blk (((((((w.alloc d).alloc e).alloc f).alloc g).alloc h).alloc i).setCell ⟨n,0,none⟩ v).drew n 235 [v]/\kaH (fun l=>l=n) w (((((((w.alloc d).alloc e).alloc f).alloc g).alloc h).alloc i).setCell ⟨n,0,none⟩ v).drew /\
  (∀j,j<=n->n<w.heap.size->Below j w (((((((w.alloc d).alloc e).alloc f).alloc g).alloc h).alloc i).setCell ⟨n,0,none⟩ v).drew):=by
 have k:=kew w d e f g h i;exact⟨(b.mono k b.lt).set 0 v,((kaH.of_below k).trans (kaH.set (X:=fun l=>l=n) (a:=⟨n,0,none⟩) v rfl)).trans ⟨nR _,fun _ _ _ _ _ b=>b⟩,fun j j l=>((k.mono (by omega)).setCell (p:=⟨n,0,none⟩) j v).drew⟩
theorem q6x (K Bs a:Nat)(g:Nat->Nat)(A:Tw)(X:Nat->Prop)(Z:a<32)(hg:∀a,a<32->g a<4294967296)(S:Blk A K 3 [J6 (a:Int)])(T:Blk A Bs 237 (us g))(ht:Tab A)(av:¬ X Bs)(au:¬ X 1) :
 kfT prog 249 #[J9 K 0,J9 Bs 0] (fun b=>b<32) (fun d=>∀c,c∈d ↔ kaE g a c) (fun _=>True) X A:=by
 intro aA aH ah Jx f D q aE Y hY h0;have W:=ht.mono D;have bA:=S.mono D S.lt;have h:=T.mono D T.lt;have c0:=bA.cell 0;simp only[Yf]at c0;have aF:=W.pos;have HY:=h_ hY;refine callsIn_of_wp func249 rfl trivial ?_ rfl;simp only[ntmps249,Zg,Yt,Y2,Nat.reduceAdd,Nat.reduceSub,Vi,Vh,Vo,Vl,Vr,Zw];gi_wp2_with fail;refine kbl ((qqs _ _ Z).mono ?_);rintro i J ⟨rfl,rfl⟩;gi_wp2_with fail;have e:=(Blk.new (f.alloc (.cells (#[.int .u32 ((2 ^ a:Nat):Int)]) 235)) 235 (#[.int .u32 ((2 ^ a:Nat):Int)])).alloc (.cells #[.int .u32 0] 235);have d:=Blk.new ((f.alloc (.cells (#[.int .u32 ((2 ^ a:Nat):Int)]) 235)).alloc (.cells (#[.int .u32 ((2 ^ a:Nat):Int)]) 235)) 235 #[.int .u32 0];have u:=kcO f (.cells (#[.int .u32 ((2 ^ a:Nat):Int)]) 235) (.cells (#[.int .u32 ((2 ^ a:Nat):Int)]) 235) (.cells #[.int .u32 0] 235);simp only[Yp,Ge,Zq]at e d u;gi_loopw [6] (fun _ wr=>∃(c done:Nat) (m:List Nat),Blk wr (f.heap.size+1) 235 [.int .u32 (c:Int)]/\Blk wr (f.heap.size+1+1) 235 [.int .u32 (done:Int)]/\Blk wr Bs 237 (us g)/\Tab wr/\ah m wr/\ke9 g a c done m) (fun _ wr=>4294967296 - ke8 wr (J9 (f.heap.size+1+1) 0))
 case atStart=>exact⟨2 ^ a,0,[],by simpa using e,d,h.mono u h.lt,W.mono u,q _ _ _ h0 u,ke9.init g a Z⟩
 case round =>
  have lS:=h.lt;obtain⟨c,done,m,v,V,am,ap,hj,hw⟩:=hrel;have c1:=v.cell 0;simp only[Yf]at c1;have z:=hw.t32;have sD:=V.lt;have sT:=v.lt;have K1:=fun j=>(v.alloc j).cell 0;simp only[Yf]at K1;have ac:f.heap.size<=wr.heap.size:=by omega
  obtain⟨N,B,M,O,L,t⟩:=oF v V am ap hj hw;by_cases y:c=0
  . subst y
    have az:((0:Nat)==0)=true:=rfl;gi_wp2_with fail;refine kbl ((qeq _ _).mono ?_);rintro i J ⟨rfl,rfl⟩;gi_wp2_with fail
    go_end0
    exact⟨⟨_,rfl⟩,.inl ⟨m,t.finish,q _ _ _ L (((bR wr.heap.size _).alloc (nR _) _).mono ac)⟩⟩
  . have az:(c==0)=false:=by simpa using y
    have E:=qo1 z y;have aa:=qbv c (wr.alloc (.cells #[.int .u32 (c:Int)] 235)) z y (O.mono ((bR _ _).alloc (nR _) _));obtain⟨b,hx⟩:=Nq (Lib.ctz 32 c);rw[hx]at E aa;have ae:=h_ aa;have p:=E.1;have P:=h_ E.2;have U:Bw wr ((wr.alloc (.cells #[.int .u32 (c:Int)] 235)).alloc (.cells #[.int .u32 (c:Int)] 235)):=((bR _ _).alloc (nR _) _).alloc (by simp) _;have ay:=HY (aA - 1) m b _ (q _ _ _ L (U.mono ac)) p;have s:=h_ U;obtain⟨fn,aI,aC,aD,hy,al⟩:=ay;have af:=h_ al;gi_wp2_with fail;refine kbl ((qeq _ _).mono ?_);rintro i J ⟨rfl,rfl⟩;gi_wp2_with fail;refine kbl (ae.mono ?_);rintro i J ⟨rfl,rfl⟩;gi_wp2_with fail;refine⟨kcC,af.mono ?_⟩;rintro i W3 (⟨rfl,aw,w⟩ | ⟨rfl,ax⟩)
    . have e:=w.blk (N.mono s N.lt) (fun j=>by have:=Y _ j;omega)
      have d:=w.blk (B.mono s B.lt) (fun j=>by have:=Y _ j;omega);have h:=w.blk (M.mono s M.lt) av;have an:=(O.mono s).keep w au;have Q:=t.d32;have c2:=d.cell 0;simp only[Yf]at c2;have f2:=d.free 0;have l2:=d.lt;have K4:=d.cell4 0;have F4:=d.free4 0;simp only[Yf]at K4;have aG:prog.follows .mixedOrders=true:=(by kernel_rfl);have x2:=kbP p;obtain⟨BT,BD,BS,ag,ad⟩:=oG e d h an aw;gi_wp2_with fail
      gi_region_with_o (first | (refine kbl ((qqs _ _ p).mono ?_);rintro i I ⟨rfl,rfl⟩) | (refine kbl ((qhv _ _ _ Q x2).mono ?_);rintro i I ⟨rfl,rfl⟩))
      all_goals
       gi_wp2_with fail;have x:=qlx BD (.int .u32 ((done ||| 2 ^ b:Nat):Int)) (.cells (#[.int .u32 ((2 ^ b:Nat):Int)]) 235) (.cells #[.int .u32 (done:Int)] 235) (.cells (#[.int .u32 ((2 ^ b:Nat):Int)]) 235) (.cells (#[.int .u32 ((done ||| 2 ^ b:Nat):Int)]) 235);simp only[Ge,Zq]at x;obtain⟨n,j,o⟩:=x;replace o:=o f.heap.size (by omega) l2;obtain⟨C,aq⟩:=Nq ((((((W3.alloc (.cells #[.int .u32 (2 ^ b)] 235)).alloc (.cells #[.int .u32 (done:Int)] 235)).alloc (.cells #[.int .u32 (2 ^ b)] 235)).alloc (.cells (#[.int .u32 ((done ||| 2 ^ b:Nat):Int)]) 235)).setCell ⟨f.heap.size+1+1,0,none⟩ (.int .u32 ((done ||| 2 ^ b:Nat):Int))).drew);rw[aq]at n j o⊢;have e:=j.blk BT (by omega);have h:=j.blk BS (by omega);have ao:=ag.keep j (by omega);have ak:=q _ _ _ ad o;have R:=hg b p;have cT:=e.cell 0;have cD:=n.cell 0;have cS:=h.cell b;simp only[Yf]at cT cD;rw[kaT g p]at cS;have ai:=fun k l r=>(n.mono (kcO C k l r) n.lt).cell 0;have aj:=fun k l r F G H=>(e.mono (kew C k l r F G H) e.lt).cell 0;have aB:=fun k l r F G H=>(e.mono (kew C k l r F G H) e.lt).free 0;simp only[Yf]at ai aj;have k:=kdq z R;have l:=kdq Q x2;have lT:=e.lt;have aJ:(0:Int)<=b:=(by omega);have aK:(b:Int)<32:=(by omega);obtain⟨G,H,B3,B4,B5⟩:=oG n e h ao ak
       gi_region_with_o (first | (refine kbl ((qhv _ _ _ z R).mono ?_);rintro i I ⟨rfl,rfl⟩) | (refine kbl ((qg4 _ _ _ k l).mono ?_);rintro i I ⟨rfl,rfl⟩))
       all_goals
        gi_wp2_with fail;have x:=qgx H (.int .u32 ((kaz (c ||| g b) (done ||| 2 ^ b):Nat):Int)) (.cells #[.int .u32 (c:Int)] 235) (.cells #[.int .u32 (g b:Int)] 235) (.cells (#[.int .u32 ((c ||| g b:Nat):Int)]) 235) (.cells (#[.int .u32 ((c ||| g b:Nat):Int)]) 235) (.cells (#[.int .u32 ((done ||| 2 ^ b:Nat):Int)]) 235) (.cells (#[.int .u32 ((kaz (c ||| g b) (done ||| 2 ^ b):Nat):Int)]) 235);obtain⟨n,j,o⟩:=x;have d:=j.blk G (by omega);refine⟨⟨_,_,m++[b],n,d,j.blk B3 (by omega),B4.keep j (by omega),q _ _ _ B5 (o f.heap.size (by omega) lT),t.next hg p P⟩,?_⟩;have r:=d.cell 0;have F:=B.cell 0;simp only[Yf]at r F;rw[qkg r,qkg F];have:=qqu (t.apart b P);omega
    . gi_wp2_with fail
      exact bodyPost_ret (results_none rfl _ _ _) rfl ⟨⟨_,rfl⟩,.inr ⟨m++[b],trivial,ax⟩⟩
theorem qdn (g:Nat->Nat)(a:Nat)(w:Tw) :
 Calls prog 206 #[.agg (us g).toArray,J6 (a:Int)] w fun b c=>b=.returned (.func (.func 249) #[] #[J9 (w.heap.size+1) 0,J9 w.heap.size 0])/\c=(w.alloc (.cells (us g).toArray 237)).alloc (.cells #[J6 (a:Int)] 3):=by
 go_enter func206,ntmps206;go_wp2;go_ret;exact⟨rfl,rfl⟩
attribute [local go_sem] Oper.semAt_some
theorem qmo {P:Nat->Nat->Bool}{x:Nat}(d:kau f (fun b a=>P b a||(decide (a=k)&&decide (b∈l))))(g:x<32)(e:k<32) :
 kau (fun c=>if c=x then f x ||| 2 ^ k else f c) (fun b a=>P b a||(decide (a=k)&&decide (b∈l++[x]))) :=
 (d.add g e).congr fun b a _=>by
  by_cases c:a=k
  . by_cases a:b=x <;> simp[c,a]
  . simp[c]
theorem qhs {R:Nat->Nat->Bool}{xs:List Nat}(e:kau f (fun b a=>(decide (a<k)&&R a b)||(decide (a=k)&&decide (b∈xs))))(i:kau g R)(j:k<32)(l:∀c,c∈xs ↔ (g k).testBit c=true) :
 kau f (fun b a=>decide (a<k+1)&&R a b):=e.congr fun b a _=>by
 have d:=(i k j).2 b;by_cases c:a=k
 . subst c
   rw[show decide (b∈xs)=R a b by rw[<- d];cases h:(g a).testBit b <;> simp[l,h]];simp
 . rw[show decide (a<k+1)=decide (a<k) by simp;omega]
   simp[c]
theorem qht (m:Nat)(g:Nat->Nat)(R:Nat->Nat->Bool)(n:Nat)(w:Tw)(hn:n<=32)(hg:kau g R)(ht:Tab w) :
 CallsIn Fence.wide m prog 198 #[.agg (us g).toArray,J6 n] w fun l w'=>∃h,l=.returned (.agg (us h).toArray)/\kau h (fun k c=>decide (c<n)&&R c k)/\Bw w w':=by
 refine callsIn_of_wp_marks func198 rfl trivial ?_ rfl;simp only[ntmps198,Zg,Yt,Y2,Nat.reduceAdd,Nat.reduceSub,Vi,Vh,Vo,Vl,Vr,Zw];gi_wp2_with (refine q06 rfl _ _ rfl (w.heap.size+1+1) (fun _=>0) (fun _=>0) rfl rfl (khG _ _ _ _ _ rfl) ?_;intro w1 f b i;have d:=(khF _ _ _ _ _).grown b (by simp;omega);have e:=(khH _ _ _ _ (fun _=>0) rfl).grown b (by simp);have o:=(kcO _ _ _ _).trans ((bR w.heap.size _).grown b (by simp;omega) (fun a l=>by cases l;omega));replace d:=h_ d;replace e:=h_ e;replace o:=h_ o;replace f:=h_ f;clear b i);refine wpIn_loop (fun c b=>∃(a:Nat) (h:Nat->Nat) (r:List Nat) (u6 u7 u8 u11 u12 u13 u14 u15 u16 u17 u18 u19 u20 u21 u22 u23 u24 u25 u26 ad:Value),c = { tmps:=#[.agg (us g).toArray,J6 (n:Int),J9 w.heap.size 0,undef,J9 (w.heap.size+1) 0,J9 (w.heap.size+1+1) 0,u6,u7,u8,J6 (n:Int),J6 (a:Int),u11,u12,u13,u14,u15,u16,u17,u18,u19,u20,u21,u22,u23,u24,u25,u26,ad],defers:=kfD r }/\a<=n/\kau h (fun k c=>decide (c<a)&&R c k)/\Blk b (w.heap.size+1+1) 237 (us h)/\Blk b w.heap.size 237 (us g)/\Blk b (w.heap.size+1) 237 (us fun _=>0)/\Tab b/\Bw w b/\kcE w.heap.size b r) (fun c _=>n - (intOf (c.tmps.getD 10 undef)).toNat) ?_ ?_
 . refine⟨0,fun _=>0,[],_,_,_,_,_,_,_,_,_,_,_,_,_,_,_,_,_,_,_,_,rfl,nZ _,fun c _=>⟨by simp,fun k=>by simp⟩,f.u,d.u,e.u,ht.mono o.u,o.u,kcE.nil _ _⟩
 . clear f d e o
   rintro c b ⟨a,h,r,u6,u7,u8,u11,u12,u13,u14,u15,u16,u17,u18,u19,u20,u21,u22,u23,u24,u25,u26,ad,rfl,hk,hrel,Y,O,N,hT,o,Z⟩;by_cases aj:a<n
   . have dk:decide ((a:Int)<n)=true:=by simp;omega
     have v:a<32:=(by omega);have cS:=O.cell a;rw[kaT g v]at cS;have am:(0:Int)<=a:=(by omega);have an:(a:Int)<32:=(by omega);have sS:=O.lt;obtain⟨V,K,HS,F,W,x⟩:=oF hrel Y O N hT o;have L:=h_ Z;have K1:∀j,(b.alloc j).cell? ⟨w.heap.size,a,none⟩=some (.int .u32 (g a:Int)):=fun j=>((HS.alloc j).cell a).trans (kaT g v);gi_wp2_with fail;refine kbl ((qbq _ _).mono ?_);rintro l w2 ⟨rfl,rfl⟩;gi_wp2_with fail;have bA:=(Blk.new b 3 #[J6 (a:Int)]).alloc (.cells #[.int .u32 (g a:Int)] 235);have X:=Blk.new (b.alloc (.cells #[J6 (a:Int)] 3)) 235 #[.int .u32 (g a:Int)];have p:Bw b ((b.alloc (.cells #[J6 (a:Int)] 3)).alloc (.cells #[.int .u32 (g a:Int)] 235)):=((bR _ _).alloc (nR _) _).alloc (by simp) _;have z5:((b.alloc (.cells #[J6 (a:Int)] 3)).alloc (.cells #[.int .u32 (g a:Int)] 235)).heap.size=b.heap.size+1+1:=(by simp);simp only[Yp]at X;obtain⟨W5,af⟩:=Nq ((b.alloc (.cells #[J6 (a:Int)] 3)).alloc (.cells #[.int .u32 (g a:Int)] 235));rw[af]at bA X p z5⊢;have lO:=K.lt;have aa:=L.lt;have w0:=W.pos;have nX:¬ (1=w.heap.size+1+1):=(by have:=ht.pos;omega);refine qgo (gf:=304) (lb:=#[J9 (b.heap.size+1) 0]) rfl (enters_of func304 (by kernel_rfl) rfl)
      (q62 (b.heap.size+1) (g a) W5 (fun I=>I=w.heap.size+1+1) (hg a v).1 X (W.mono p) nX) (bR _ _) (fun I H=>by omega) rfl
      (fun ac f=>∃e,kau e (fun k c=>(decide (c<a)&&R c k)||(decide (c=a)&&decide (k∈ac)))/\Blk f (w.heap.size+1+1) 237 (us e)/\Blk f w.heap.size 237 (us g)/\Blk f (w.heap.size+1) 237 (us fun _=>0)/\Blk f b.heap.size 3 [J6 (a:Int)]/\Tab f/\Bw w f/\kcE w.heap.size f r)
      (fun _ _=>False) ?hI (fun _ _ _ G _=>G)
      ⟨h,V.congr fun k c _=>by simp,K.mono p lO,HS.mono p sS,F.mono p F.lt,bA,W.mono p,x.trans (p.mono x.size),L.below p aa⟩
      (fun d=>{ tmps:=#[.agg (us g).toArray,J6 (n:Int),J9 w.heap.size 0,undef,J9 (w.heap.size+1) 0,J9 (w.heap.size+1+1) 0,J9 b.heap.size 0,J6 (d:Int),u8,J6 (n:Int),J6 (a:Int),.bool true,J6 (a:Int),J6 (a:Int),J9 w.heap.size a,.agg #[.int .u32 (g a:Int)],.func (.func 304) #[] #[J9 (b.heap.size+1) 0],J6 (d:Int),u18,u19,u20,u21,u22,u23,u24,u25,u26,ad],defers:=[] })
      ?assign ?body ?done (fun _ _ _ _ _ G _=>G.elim)
     case hI =>
      rintro ac J M ⟨e,s,i,y,z,t,A,C,D⟩ q;rw[z5]at q;exact⟨e,s,i.mono q (by omega),y.mono q (by omega),z.mono q (by omega),t.mono q (by omega),A.at0 (q.block 1 (by omega)),C.trans (q.mono (by omega)),D.below q (fun E hD=>by have:=aa E hD;omega)⟩
     case assign =>
      intro m ag d f q M
      gi_wp2
      exact M
     case body =>
      rintro m ag ac d f ⟨e,s,i,y,z,t,A,C,D⟩ ⟨q,al⟩;have ak:prog.follows .mixedOrders=true:=(by kernel_rfl);have cO:=i.cell d;rw[kaT e q]at cO;have fO:=i.free d;have sO:=i.lt;have cA:=t.cell 0;simp only[Yf]at cA;have gx:=(s d q).1;have k2:=kbP v;have K4:=fun J P Q S=>(i.cell4 d J P Q S).trans (kaT e q);have F4:=i.free4 d;have ah:∀j,(f.alloc j).cell? ⟨w.heap.size+1+1,d,none⟩=some (.int .u32 (e d:Int)):=fun j=>((i.alloc j).cell d).trans (kaT e q);have ai:∀j,(f.alloc j).cell? ⟨b.heap.size,0,none⟩=some (J6 (a:Int)):=fun j=>(t.alloc j).cell 0;have ao:(0:Int)<=d:=(by omega);have ap:(d:Int)<32:=(by omega);obtain⟨H1,P,Q,S,H5,T⟩:=oF s i y z t A;obtain⟨U,H8⟩:=oB C D;gi_wp2_with fail
      gi_region_with_o (first | (refine kcZ ((qqs _ _ v).mono ?_);rintro l w' ⟨rfl,rfl⟩) | (refine kcZ ((qhv _ _ _ gx k2).mono ?_);rintro l w' ⟨rfl,rfl⟩))
      all_goals
       gi_wp2_with fail;have ae:=qlc P q (e d ||| 2 ^ a) (.cells (#[.int .u32 ((2 ^ a:Nat):Int)]) 235) (.cells #[.int .u32 (e d:Int)] 235) (.cells (#[.int .u32 ((2 ^ a:Nat):Int)]) 235) (.cells (#[.int .u32 ((e d ||| 2 ^ a:Nat):Int)]) 235);simp only[Ge,Zq]at ae;obtain⟨s1,J,s3,s4⟩:=ae;exact⟨s1,J,_,qmo H1 q v,s3,J.blk Q (by omega),J.blk S (by omega),J.blk H5 (by omega),T.keep J nX,U.trans (s4 _ (by omega) sO),H8.keep s1⟩
     case done =>
      rintro E xs f hD d ⟨e,s,i,y,z,t,A,C,D⟩ M;have q:Hi (kau e (fun k c=>decide (c<a+1)&&R c k)):=qhs s hg v d;have k:Hi (kcE w.heap.size f (E :: r)):=D.cons (by have:=x.size;omega) M (fun J=>by have:=aa E J;omega);obtain⟨P,Q,S,T,U⟩:=oG i y z A C;clear s i y z t A C D M d;gi_wp2_with fail;refine⟨⟨a+1,e,E :: r,⟨by omega,rfl⟩,by omega,q,P,Q,S,T,U,k⟩,?_⟩;simp[intOf];omega
   . obtain rfl:a=n:=by omega
     have dk:decide ((a:Int)<a)=false:=(by simp);have V:=h_ hrel;have K:=h_ Y;have F:=h_ N;have x:=h_ o;have L:=h_ Z;have q:=N.lt;clear hrel Y O N hT o Z;gi_wp2_with (first | (refine q0a rfl _ rfl (w.heap.size+1+1) h rfl K ?_) | (refine q06 rfl _ _ rfl (w.heap.size+1) (fun _=>0) h rfl rfl F ?_;intro w2 e d p;replace e:=h_ e;replace d:=h_ d));refine q65 (B:=w.heap.size) r w2 (L.keep ⟨by omega,fun I j H o=>?_⟩) fun f k i=>?_
     . refine(d.u.block I (Yq.1 H).1 (fun l=>?_)).trans H
       cases l;rw[show b.heap[w.heap.size+1]? = _ from F.u]at H;cases H;simp[Obj.isCells]at o
     . refine⟨.agg (us h).toArray,results_cell_row rfl _ _ (w.heap.size+1) 237 (us h).toArray (0,0) _ rfl (k.blk e.u (fun G=>G)) underlying237 rfl (qs1 h),h,rfl,V,?_⟩
       exact(x.trans ((bR w.heap.size _).grown d.u x.size (fun I l=>by cases l;omega))).trans i
theorem qdc (g:Nat->Nat)(R:Nat->Nat->Bool)(n:Nat)(w:Tw)(d:n<=32)(c:kau g R)(e:Tab w) :
 Calls prog 198 #[.agg (us g).toArray,J6 n] w fun b f=>∃a,b=.returned (.agg (us a).toArray)/\kau a (fun b a=>decide (a<n)&&R a b)/\Bw w f :=
 (callsIn_wide (n:=9)).1 (qht 9 g R n w d c e)
attribute [local go_sem] Oper.semAt_some
def kaP (g':Nat->Nat)(P:Nat->Nat->Prop):Prop:=∀a,a<32->g' a<4294967296/\∀b,((g' a).testBit b=true ↔ P a b)
theorem kaP.congr {P Q:Nat->Nat->Prop}(c:kaP f P)(e:∀a b,P a b ↔ Q a b):kaP f Q:=fun a d=>⟨(c a d).1,fun b=>((c a d).2 b).trans (e a b)⟩
theorem qe6 {P:Nat->Nat->Prop}{x:Nat}(d:kaP f (fun a c=>P a c∨(a=k/\c∈l)))(i:k<32)(h:x<32) :
 kaP (fun b=>if b=k then f k ||| 2 ^ x else f b) (fun a c=>P a c∨(a=k/\c∈l++[x])):=fun a e=>by
 by_cases g:a=k
 . subst g
   simp only[if_true];refine⟨kdq (d a e).1 (kbP h),fun c=>?_⟩;rw[Oz,Ze,(d a e).2 c,Z9,decide_eq_true_iff,Zk,Zz];constructor
   . rintro ((b | b) | b)
     . exact .inl b
     . exact .inr ⟨by simp,.inl b.2⟩
     . exact .inr ⟨by simp,.inr b.symm⟩
   . rintro (b | ⟨-,b | b⟩)
     . exact .inl (.inl b)
     . exact .inl (.inr ⟨by simp,b⟩)
     . exact .inr b.symm
 . simp only[Yl g]
   refine⟨(d a e).1,fun c=>?_⟩;rw[(d a e).2 c];simp[g]
theorem qac {xs:List Nat}(h:kaP f (fun a b=>(a<k/\kaE g a b)∨(a=k/\b∈xs)))(d:∀c,c∈xs ↔ kaE g k c):kaP f (fun a b=>a<k+1/\kaE g a b) :=
 h.congr fun a b=>by
  constructor
  . rintro (⟨i,c⟩ | ⟨rfl,c⟩)
    . exact⟨by omega,c⟩
    . exact⟨by omega,(d b).1 c⟩
  . rintro⟨i,c⟩
    by_cases e:a=k
    . subst e;exact .inr ⟨rfl,(d b).2 c⟩
    . exact .inl ⟨by omega,c⟩
theorem qe7 (m:Nat)(g:Nat->Nat)(n:Nat)(w:Tw)(hn:n<=32)(hg:∀c,c<32->g c<4294967296)(ht:Tab w) :
 CallsIn Fence.wide m prog 167 #[.agg (us g).toArray,J6 n] w fun j w'=>∃f,j=.returned (.agg (us f).toArray)/\kaP f (fun c i=>c<n/\kaE g c i)/\Bw w w':=by
 refine callsIn_of_wp_marks func167 rfl trivial ?_ rfl;simp only[ntmps167,Zg,Yt,Y2,Nat.reduceAdd,Nat.reduceSub,Vi,Vh,Vo,Vl,Vr,Zw];gi_wp2_with (refine q06 rfl _ _ rfl (w.heap.size+1+1) (fun _=>0) (fun _=>0) rfl rfl (khG _ _ _ _ _ rfl) ?_;intro w1 h b l;have d:=(khF _ _ _ _ _).grown b (by simp;omega);have e:=(khH _ _ _ _ (fun _=>0) rfl).grown b (by simp);have k:=(kcO _ _ _ _).trans ((bR w.heap.size _).grown b (by simp;omega) (fun a j=>by cases j;omega));replace d:=h_ d;replace e:=h_ e;replace k:=h_ k;replace h:=h_ h;clear b l);refine wpIn_loop (fun c b=>∃(a:Nat) (f:Nat->Nat) (r:List Nat) (u6 u7 u8 u11 u12 u13 u14 u15 u16 u17 u18 u19 u20 u21 u22 u23 u24 u25 ac:Value),c = { tmps:=#[.agg (us g).toArray,J6 (n:Int),J9 w.heap.size 0,undef,J9 (w.heap.size+1) 0,J9 (w.heap.size+1+1) 0,u6,u7,u8,J6 (n:Int),J6 (a:Int),u11,u12,u13,u14,u15,u16,u17,u18,u19,u20,u21,u22,u23,u24,u25,ac],defers:=kfD r }/\a<=n/\kaP f (fun c i=>c<a/\kaE g c i)/\Blk b (w.heap.size+1+1) 237 (us f)/\Blk b w.heap.size 237 (us g)/\Blk b (w.heap.size+1) 237 (us fun _=>0)/\Tab b/\Bw w b/\kcE w.heap.size b r) (fun c _=>n - (intOf (c.tmps.getD 10 undef)).toNat) ?_ ?_
 . refine⟨0,fun _=>0,[],_,_,_,_,_,_,_,_,_,_,_,_,_,_,_,_,_,_,_,rfl,nZ _,fun c _=>⟨by simp,fun i=>by simp⟩,h.u,d.u,e.u,ht.mono k.u,k.u,kcE.nil _ _⟩
 . clear h d e k
   rintro c b ⟨a,f,r,u6,u7,u8,u11,u12,u13,u14,u15,u16,u17,u18,u19,u20,u21,u22,u23,u24,u25,ac,rfl,hk,hrel,W,X,M,hT,k,Y⟩;by_cases ak:a<n
   . have dk:decide ((a:Int)<n)=true:=by simp;omega
     have t:a<32:=(by omega);have sS:=X.lt;obtain⟨S,J,HS,E,T,v⟩:=oF hrel W X M hT k;have K:=h_ Y;gi_wp2_with (refine q0a rfl _ rfl w.heap.size g rfl (HS.alloc _) ?_);refine kbl ((qdn _ _ _).mono ?_);rintro j w2 ⟨rfl,rfl⟩;gi_wp2_with fail;have bA:=((Blk.new b 3 #[J6 (a:Int)]).alloc (.cells (us g).toArray 237)).alloc (.cells #[J6 (a:Int)] 3);have U:=(Blk.new (b.alloc (.cells #[J6 (a:Int)] 3)) 237 (us g).toArray).alloc (.cells #[J6 (a:Int)] 3);have V:=Blk.new ((b.alloc (.cells #[J6 (a:Int)] 3)).alloc (.cells (us g).toArray 237)) 3 #[J6 (a:Int)];have l:=kcO b (.cells #[J6 (a:Int)] 3) (.cells (us g).toArray 237) (.cells #[J6 (a:Int)] 3);have z5:(((b.alloc (.cells #[J6 (a:Int)] 3)).alloc (.cells (us g).toArray 237)).alloc (.cells #[J6 (a:Int)] 3)).heap.size=b.heap.size+1+1+1:=(by simp);simp only[Yp]at U V;obtain⟨W5,ag⟩:=Nq (((b.alloc (.cells #[J6 (a:Int)] 3)).alloc (.cells (us g).toArray 237)).alloc (.cells #[J6 (a:Int)] 3));rw[ag]at bA U V l z5⊢;have lO:=J.lt;have Z:=K.lt;have w0:=T.pos;have nX:¬ (1=w.heap.size+1+1):=(by have:=ht.pos;omega);refine qgo (gf:=249) (lb:=#[J9 (b.heap.size+1+1) 0,J9 (b.heap.size+1) 0]) rfl (enters_of func249 (by kernel_rfl) rfl)
      (q6x (b.heap.size+1+1) (b.heap.size+1) a g W5 (fun H=>H=w.heap.size+1+1) t hg V U (T.mono l) (by omega) nX) (bR _ _) (fun H G=>by omega) rfl
      (fun aa e=>∃d,kaP d (fun c i=>(c<a/\kaE g c i)∨(c=a/\i∈aa))/\Blk e (w.heap.size+1+1) 237 (us d)/\Blk e w.heap.size 237 (us g)/\Blk e (w.heap.size+1) 237 (us fun _=>0)/\Blk e b.heap.size 3 [J6 (a:Int)]/\Tab e/\Bw w e/\kcE w.heap.size e r)
      (fun _ _=>False) ?hI (fun _ _ _ F _=>F)
      ⟨f,S.congr fun c i=>by simp,J.mono l lO,HS.mono l sS,E.mono l E.lt,bA,T.mono l,v.trans (l.mono v.size),K.below l Z⟩
      (fun q=>{ tmps:=#[.agg (us g).toArray,J6 (n:Int),J9 w.heap.size 0,undef,J9 (w.heap.size+1) 0,J9 (w.heap.size+1+1) 0,J9 b.heap.size 0,J6 (q:Int),u8,J6 (n:Int),J6 (a:Int),.bool true,J6 (a:Int),.agg (us g).toArray,J6 (a:Int),.func (.func 249) #[] #[J9 (b.heap.size+1+1) 0,J9 (b.heap.size+1) 0],J6 (q:Int),u17,u18,u19,u20,u21,u22,u23,u24,u25,ac],defers:=[] })
      ?assign ?body ?done (fun _ _ _ _ _ F _=>F.elim)
     case hI =>
      rintro aa I L ⟨d,s,h,x,y,o,z,A,C⟩ p;rw[z5]at p;exact⟨d,s,h.mono p (by omega),x.mono p (by omega),y.mono p (by omega),o.mono p (by omega),z.at0 (p.block 1 (by omega)),A.trans (p.mono (by omega)),C.below p (fun D hD=>by have:=Z D hD;omega)⟩
     case assign =>
      intro m ah q e p L
      gi_wp2
      exact L
     case body =>
      rintro m ah aa q e ⟨d,s,h,x,y,o,z,A,C⟩ ad;have al:prog.follows .mixedOrders=true:=(by kernel_rfl);have cO:=h.cell a;rw[kaT d t]at cO;have fO:=h.free a;have sO:=h.lt;have cA:=o.cell 0;simp only[Yf]at cA;have gx:=(s a t).1;have k2:=kbP ad;have K4:=fun p I N O=>(h.cell4 a p I N O).trans (kaT d t);have F4:=h.free4 a;have ai:∀p,(e.alloc p).cell? ⟨w.heap.size+1+1,a,none⟩=some (.int .u32 (d a:Int)):=fun p=>((h.alloc p).cell a).trans (kaT d t);have aj:∀p,(e.alloc p).cell? ⟨b.heap.size,0,none⟩=some (J6 (a:Int)):=fun p=>(o.alloc p).cell 0;have af:=o.cell4 0;simp only[Yf]at af;have am:(0:Int)<=a:=(by omega);have an:(a:Int)<32:=(by omega);obtain⟨H1,N,O,P,H5,Q⟩:=oF s h x y o z;obtain⟨R,H8⟩:=oB A C;gi_wp2_with fail
      gi_region_with_o (first | (refine kcZ ((qqs _ _ ad).mono ?_);rintro j w' ⟨rfl,rfl⟩) | (refine kcZ ((qhv _ _ _ gx k2).mono ?_);rintro j w' ⟨rfl,rfl⟩))
      all_goals
       gi_wp2_with fail;have ae:=qlc N t (d a ||| 2 ^ q) (.cells (#[.int .u32 ((2 ^ q:Nat):Int)]) 235) (.cells #[.int .u32 (d a:Int)] 235) (.cells (#[.int .u32 ((2 ^ q:Nat):Int)]) 235) (.cells (#[.int .u32 ((d a ||| 2 ^ q:Nat):Int)]) 235);simp only[Ge,Zq]at ae;obtain⟨s1,I,s3,s4⟩:=ae;exact⟨s1,I,_,qe6 H1 t ad,s3,I.blk O (by omega),I.blk P (by omega),I.blk H5 (by omega),Q.keep I nX,R.trans (s4 _ (by omega) sO),H8.keep s1⟩
     case done =>
      rintro D xs e hD q ⟨d,s,h,x,y,o,z,A,C⟩ L;have I:Hi (kaP d (fun c i=>c<a+1/\kaE g c i)):=qac s q;have i:Hi (kcE w.heap.size e (D :: r)):=C.cons (by have:=v.size;omega) L (fun hm=>by have:=Z D hm;omega);obtain⟨N,O,P,Q,R⟩:=oG h x y z A;clear s h x y o z A C L q;gi_wp2_with fail;refine⟨⟨a+1,d,D :: r,⟨by omega,rfl⟩,by omega,I,N,O,P,Q,R,i⟩,?_⟩;simp[intOf];omega
   . obtain rfl:a=n:=by omega
     have dk:decide ((a:Int)<a)=false:=(by simp);have S:=h_ hrel;have J:=h_ W;have E:=h_ M;have v:=h_ k;have K:=h_ Y;have q:=M.lt;clear hrel W X M hT k Y;gi_wp2_with (first | (refine q0a rfl _ rfl (w.heap.size+1+1) f rfl J ?_) | (refine q06 rfl _ _ rfl (w.heap.size+1) (fun _=>0) f rfl rfl E ?_;intro w2 h d o;replace h:=h_ h;replace d:=h_ d));refine q65 (B:=w.heap.size) r w2 (K.keep ⟨by omega,fun H p G l=>?_⟩) fun e k i=>?_
     . refine(d.u.block H (Yq.1 G).1 (fun j=>?_)).trans G
       cases j;rw[show b.heap[w.heap.size+1]? = _ from E.u]at G;cases G;simp[Obj.isCells]at l
     . refine⟨.agg (us f).toArray,results_cell_row rfl _ _ (w.heap.size+1) 237 (us f).toArray (0,0) _ rfl (k.blk h.u (fun F=>F)) underlying237 rfl (qs1 f),f,rfl,S,?_⟩
       exact(v.trans ((bR w.heap.size _).grown d.u v.size (fun H j=>by cases j;omega))).trans i
theorem qad (g:Nat->Nat)(n:Nat)(w:Tw)(e:n<=32)(d:∀a,a<32->g a<4294967296)(f:Tab w) :
 Calls prog 167 #[.agg (us g).toArray,J6 n] w fun c h=>∃b,c=.returned (.agg (us b).toArray)/\kaP b (fun a b=>a<n/\kaE g a b)/\Bw w h :=
 (callsIn_wide (n:=9)).1 (qe7 9 g n w e d f)
