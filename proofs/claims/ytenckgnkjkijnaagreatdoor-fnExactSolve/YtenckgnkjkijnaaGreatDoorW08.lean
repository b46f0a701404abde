import Derived.Test.YtenckgnkjkijnaaGreatDoorW04
set_option maxRecDepth 100000
set_option maxHeartbeats 64000000
namespace Go.Proofs.YtenckgnkjkijnaaGreatDoor
open Go Go.RowKit Go.Proofs.Tryz
theorem q81 (a n:Int)(w:Tw)(d:0<=a)(e:a<n) :
 Calls prog 197 (Jr a n) w fun b c=>b=.returned (.bool true)/\c=w:=by
 go_enter func197,ntmps197;go_wp2;go_ret;exact⟨qln (by simp <;> omega),rfl⟩
theorem qb4 (a n:Int)(w:Tw)(c:a<0∨n<=a) :
 Calls prog 197 (Jr a n) w fun b d=>b=.returned (.bool false)/\d=w:=by
 by_cases b:0<=a
 . have d:n<=a:=by omega
   go_enter func197,ntmps197;go_wp2;go_ret;exact⟨qln (by simp <;> omega),rfl⟩
 . clear c
   go_enter func197,ntmps197;go_wp2;go_ret;exact⟨qln (by simp <;> omega),rfl⟩
theorem qnf (m:Nat)(F:Nat->Bool):bs (m+1) F=bs m F++[.bool (F m)]:=by simp[bs,List.range_succ]
theorem qph (m:Nat)(F:Nat->Int):is (m+1) F=is m F++[J6 (F m)]:=by simp[is,List.range_succ]
theorem qdx (m:Nat)(F:Nat->Bool):(bs m F).length=m:=by simp[bs]
def kbO (n:Nat)(R:Nat->Nat->Bool)(i:Nat):Bool:=R (i / n) (i % n)
theorem qse {n a b:Nat}(R:Nat->Nat->Bool)(c:b<n):kbO n R (a*n+b)=R a b:=by
 unfold kbO;rw[Oe,Vb _ _ (by omega),Zv c,Zt,Zs c,Y3]
theorem qhk (n:Nat)(g:Nat->Nat)(R:Nat->Nat->Bool)(w:Tw)(M:1<=n)(t:n<=32)(p:kau g R) :
 Calls prog 202 #[.agg (us g).toArray,J6 n] w fun j o=>∃a,j=.returned (.slice (some ⟨a,0,none⟩) (n*n) (n*n))/\Blk o a 4 (bs (n*n) (kbO n R))/\w.heap.size<=a/\Bw w o:=by
 obtain⟨l,r,H,v,I⟩:=info_parts qfc;have U:(n:Int)*n<=1024:=by rw[<- Zd];have:=kc0 t;omega
 have T:0<=(n:Int)*n:=by rw[<- Zd];omega
 have V:=kc0 t;have k:l.bytes*(n*n)<=281474976710656:=by rw[I];omega
 have hC:((n:Int)*n)=((n*n:Nat):Int):=by simp
 have y:=h_ hC;clear hC;go_enter func202,ntmps202;go_wp2_with (at_make;refine wpList_make_own _ rfl _ (.tmp 10) 94 rfl w.heap.size 4 l (.bool false) 1 underlying94 r H v .i64 .i64 _ (n*n) rfl rfl y k (by unfold maxLen;omega) (by simp) ?_;intro L h b);have i:Bw w L:=((bR _ w).alloc (nR _) _).trans ((bR w.heap.size _).grown b (by simp) (fun a j=>by cases j));have c:=(Blk.new w 237 (us g).toArray).grown b (by simp);obtain⟨d,f,e⟩:=oC h i c;clear h i c b k;go_loopw [5,13] (fun m i wr=>∃a:Nat,a<=n/\i=J6 a/\m=.slice (some ⟨w.heap.size+1,0,none⟩) (a*n) (n*n)/\wr.ownsRow w.heap.size 4 1 (.slice (some ⟨w.heap.size+1,0,none⟩) (a*n) (n*n)) (a*n) (bs (a*n) (kbO n R))/\Blk wr w.heap.size 237 (us g)/\Bw w wr) (fun _ i _=>n - (intOf i).toNat)
 case atStart=>exact⟨0,nZ _,rfl,by simp,by simpa [bs] using d.u,e,f⟩
 case round =>
  clear d e f;obtain⟨a,P,rfl,rfl,h,c,k⟩:=hrel;obtain⟨d,e,f⟩:=oC h c k;clear h c k;by_cases G:a<n
  . go_wp2_with fail
    go_loopw [5,17] (fun m i wr=>∃b:Nat,b<=n/\i=J6 b/\m=.slice (some ⟨w.heap.size+1,0,none⟩) (a*n+b) (n*n)/\wr.ownsRow w.heap.size 4 1 (.slice (some ⟨w.heap.size+1,0,none⟩) (a*n+b) (n*n)) (a*n+b) (bs (a*n+b) (kbO n R))/\Blk wr w.heap.size 237 (us g)/\Bw w wr) (fun _ i _=>n - (intOf i).toNat)
    case atStart=>exact⟨0,nZ _,rfl,by simp,by simpa using d.u,e,f⟩
    case round =>
     obtain⟨b,O,rfl,rfl,h,c,k⟩:=hrel;by_cases s:b<n
     . have m:a<32:=by omega
       have J:b<32:=(by omega);have B:=c.cell a;rw[kaT _ m]at B;have K:=c.lt;have C:=(p a m).1;have F:=kbS G s;have Q:(0:Int)<=a:=(by omega);have S:(a:Int)<32:=(by omega);have d:=h_ h;have e:=h_ c;have f:=h_ k;have N:(g a).testBit b=kbO n R (a*n+b):=(by rw[(p a m).2 b,qse R s]);go_wp2_with (first | (go_at_call 246;refine(qp0 _ _ _ C J).mono ?_;rintro j o ⟨rfl,rfl⟩) | (at_builtin;refine wpList_append_fits _ rfl _ _ 94 rfl w.heap.size 4 l 1 underlying94 r v (w.heap.size+1) (a*n+b) (n*n) _ rfl ((d.alloc _).alloc _) ⟨wr.heap.size+1,0,none⟩ 1 1 [.bool (kbO n R (a*n+b))] rfl rfl ?c1 (by simp[Value.oneCell']) F ?_))
       case c1 =>
        intro x q i
        match x,i with
        | 0,i=>simp at i;subst i;simp[Addr.add]
       . intro W u q
         rw[<- qnf]at u;have i:Bw wr ((wr.alloc (.cells #[.int .u32 (g a:Int)] 235)).alloc (.cells #[.bool (kbO n R (a*n+b))] 4)):=((bR _ _).alloc (nR _) _).alloc (by simp) _;have D:=(e.mono i K).grown q (by simp);have E:=(f.trans (i.mono f.size)).grown q (by have:=f.size;simp;omega) (fun x j=>by cases j;omega);obtain⟨z,x,A⟩:=oC u D E;go_wp2;go_roundw
         case rel=>exact⟨b+1,by omega,by go_num,rfl,z,x,A⟩
         case measure=>simp[intOf];omega
     . obtain rfl:b=n:=by omega
       obtain⟨d,e,f⟩:=oC h c k;go_wp2_with fail;go_roundw
       case rel=>exact⟨a+1,by omega,by go_num,by rw[Z2],by rw[Z2];exact d,e,f⟩
       case measure=>simp[intOf];omega
  . obtain rfl:a=n:=by omega
    go_wp2;go_ret;exact⟨_,rfl,Blk.of_owns d,by omega,f⟩
end Go.Proofs.YtenckgnkjkijnaaGreatDoor
namespace Go.Proofs.YtenckgnkjkijnaaGreatDoor
open Go Go.RowKit Go.Shelf Go.Proofs.Tryz
attribute [local go_sem] Oper.semAt_some
def kcT (g:Nat->Nat)(s:Nat)(v:Int):Prop:=(∃c:Nat,c<32/\v=(c:Int)/\s.testBit c=true/\kaz s (g c)=0)∨(v = -1/\∀c:Nat,s.testBit c=true->¬ kaz s (g c)=0)
theorem qbs (n:Nat)(g:Nat->Nat)(s:Nat)(w:Tw)(R:∀a,a<32->g a<4294967296)(v:s<4294967296)(S:Tab w) :
 CallsIn Fence.wide n prog 203 #[.agg (us g).toArray,.agg #[.int .u32 (s:Int)]] w fun o r=>∃a,o=.returned (J6 a)/\kcT g s a/\Bw w r:=by
 refine callsIn_of_wp_marks func203 rfl trivial ?_ rfl;simp only[ntmps203,Zg,Yt,Y2,Nat.reduceAdd,Nat.reduceSub,Vi,Vh,Vo,Vl,Vr,Zw];gi_wp2_with fail;refine kbl ((qbq _ _).mono ?_);rintro o w1 ⟨rfl,rfl⟩;gi_wp2_with fail;have H:=((Blk.new w 237 (us g).toArray).alloc (.cells #[.int .u32 (s:Int)] 235)).alloc (.cells #[J6 0] 3) |>.alloc (.cells #[.int .u32 (s:Int)] 235)
 have x:=((Blk.new (w.alloc (.cells (us g).toArray 237)) 235 #[.int .u32 (s:Int)]).alloc (.cells #[J6 0] 3)).alloc (.cells #[.int .u32 (s:Int)] 235);have y:=(Blk.new ((w.alloc (.cells (us g).toArray 237)).alloc (.cells #[.int .u32 (s:Int)] 235)) 3 #[J6 0]).alloc (.cells #[.int .u32 (s:Int)] 235);have z:=Blk.new (((w.alloc (.cells (us g).toArray 237)).alloc (.cells #[.int .u32 (s:Int)] 235)).alloc (.cells #[J6 0] 3)) 235 #[.int .u32 (s:Int)];have A:=kbd w (.cells (us g).toArray 237) (.cells #[.int .u32 (s:Int)] 235) (.cells #[J6 0] 3) (.cells #[.int .u32 (s:Int)] 235);simp only[Yp]at x y z;have J:=S.mono A;have G:((((w.alloc (.cells (us g).toArray 237)).alloc (.cells #[.int .u32 (s:Int)] 235)).alloc (.cells #[J6 0] 3)).alloc (.cells #[.int .u32 (s:Int)] 235)).heap.size=w.heap.size+1+1+1+1:=by simp
 obtain⟨M,Q⟩:=Nq ((((w.alloc (.cells (us g).toArray 237)).alloc (.cells #[.int .u32 (s:Int)] 235)).alloc (.cells #[J6 0] 3)).alloc (.cells #[.int .u32 (s:Int)] 235));rw[Q]at H x y z A J G⊢;refine qgo (gf:=304) (lb:=#[J9 (w.heap.size+1+1+1) 0]) rfl (enters_of func304 (by kernel_rfl) rfl)
  (q62 (w.heap.size+1+1+1) s M (fun _=>False) v z J (fun f=>f)) (bR _ _) (fun _ f=>f.elim) rfl
  (fun m b=>(∀a∈m,¬ kaz s (g a)=0)/\Blk b w.heap.size 237 (us g)/\Blk b (w.heap.size+1) 235 [.int .u32 (s:Int)]/\Blk b (w.heap.size+1+1) 3 [J6 0]/\Bw w b)
  (fun m b=>∃a,a∈m/\a<32/\kaz s (g a)=0/\Blk b (w.heap.size+1+1) 3 [J6 (a:Int)]/\Bw w b)
  ?hI ?hIx ⟨fun _ f=>(by cases f),H,x,y,A⟩
  (fun d=>{ tmps:=#[.agg (us g).toArray,.agg #[.int .u32 (s:Int)],J9 w.heap.size 0,J9 (w.heap.size+1) 0,J9 (w.heap.size+1+1) 0,J6 (d:Int),.agg #[.int .u32 (s:Int)],.func (.func 304) #[] #[J9 (w.heap.size+1+1+1) 0],J6 (d:Int),undef,undef,undef,undef,undef,undef,undef],defers:=[] })
  ?assign ?body ?done ?stop
 case hI =>
  rintro m b l ⟨h,i,j,c,k⟩ e;rw[G]at e;exact⟨h,i.mono e (by omega),j.mono e (by omega),c.mono e (by omega),k.trans (e.mono (by omega))⟩
 case hIx =>
  rintro m b l ⟨a,h,i,j,c,k⟩ e;rw[G]at e;exact⟨a,h,i,j,c.mono e (by omega),k.trans (e.mono (by omega))⟩
 case assign =>
  intro V U d b e q
  gi_wp2
  exact q
 case body =>
  rintro V U m d b ⟨h,i,j,c,k⟩ ⟨F,T⟩;have aa:prog.follows .mixedOrders=true:=by kernel_rfl
  have N:=i.cell d;rw[kaT g F]at N;have O:=j.cell 0;simp only[Yf]at O;have D:=c.cell 0;have P:=c.free 0;simp only[Yf]at D;have K:=R d F;have ac:(0:Int)<=d:=by omega
  have ad:(d:Int)<32:=by omega
  have Y:=c.lt;obtain⟨B,I,u,e,l,X⟩:=oF h i j c k T;have Z:=qg3 (t:=g d) v;cases L:(kaz s (g d)==0)
  . have C:Hi (¬ kaz s (g d)=0):=by simpa [Hi] using L
    gi_wp2_with fail
    gi_region_with_o (first | (refine kcZ ((qg4 _ _ _ v K).mono ?_);rintro o r ⟨rfl,rfl⟩) | (refine kcZ ((qeq _ _).mono ?_);rintro o r ⟨rfl,rfl⟩))
    all_goals
     gi_wp2
     refine⟨keH (kbd _ _ _ _ _).drew,kaH.of_below (kbd _ _ _ _ _).drew,fun a E=>?_,I.mono (kbd _ _ _ _ _).drew I.lt,u.mono (kbd _ _ _ _ _).drew u.lt,e.mono (kbd _ _ _ _ _).drew e.lt,l.trans ((kbd b _ _ _ _).drew.mono l.size)⟩;rcases Zk.1 E with f | f
     . exact B a f
     . rw[Zz.1 f];exact C
  . have C:Hi (kaz s (g d)=0):=by simpa [Hi] using L
    have f:=e.cell4 0;have W:=e.free4 0;simp only[Yf]at f;gi_wp2_with fail
    gi_region_with_o (first | (refine kcZ ((qg4 _ _ _ v K).mono ?_);rintro o r ⟨rfl,rfl⟩) | (refine kcZ ((qeq _ _).mono ?_);rintro o r ⟨rfl,rfl⟩))
    all_goals
     gi_wp2
     refine⟨(keH (kbd _ _ _ _ _)).trans ((KeepsOthers.setCell _ _ _).trans (KeepsOthers.drew _)),d,by simp,F,C,?_,?_⟩
     . exact(e.mono (kbd _ _ _ _ _) e.lt).set 0 (J6 (d:Int))
     . exact((l.trans ((kbd b _ _ _ _).mono l.size)).setCell (p:=⟨w.heap.size+1+1,0,none⟩) (by simp;omega) _).drew
 case done =>
  rintro f N b K L ⟨h,i,j,c,k⟩ q;have D:=c.cell 0;have P:=c.free 0;simp only[Yf]at D;obtain⟨B,e,l,r,F⟩:=oG h c k q L
  gi_wp2
  have C:=(KeepsOthers.setCell b ⟨w.heap.size+1+1,0,none⟩ (J6 (-1))).same f _ r rfl;have I:=(e.set 0 (J6 (-1))).put (.deferred none) C rfl;refine⟨by simp,.inl ⟨_,_,rfl,run_takeDeferred C,?_⟩⟩;have d:=I.cell 0;simp only[Ya,Yf]at d;refine⟨J6 (-1),?_,-1,rfl,.inr ⟨rfl,fun a E=>B a ((F a).2 E)⟩,?_⟩
  . simp[results,Tryz.f203,go_sem,d]
  . exact(l.setCell (p:=⟨w.heap.size+1+1,0,none⟩) (by simp;omega) _).trans (qdv _ f _ (by omega))
 case stop =>
  rintro f m b K C ⟨a,h,i,j,c,k⟩ q;obtain⟨r,e,l,u,B⟩:=oG q c k j C
  gi_wp2
  refine⟨by simp,.inl ⟨_,_,rfl,run_takeDeferred r,?_⟩⟩;have d:=(e.put (.deferred none) r rfl).cell 0;simp only[Yf]at d;refine⟨J6 (a:Int),?_,a,rfl,.inl ⟨a,i,rfl,B a h,u⟩,?_⟩
  . simp[results,Tryz.f203,go_sem,d]
  . exact l.trans (qdv _ f _ (by omega))
theorem q8n (g:Nat->Nat)(s:Nat)(w:Tw)(c:∀a,a<32->g a<4294967296)(d:s<4294967296)(e:Tab w) :
 Calls prog 203 #[.agg (us g).toArray,.agg #[.int .u32 (s:Int)]] w fun b f=>∃a,b=.returned (J6 a)/\kcT g s a/\Bw w f :=
 (callsIn_wide (n:=9)).1 (qbs 9 g s w c d e)
end Go.Proofs.YtenckgnkjkijnaaGreatDoor
namespace Go.Proofs.YtenckgnkjkijnaaGreatDoor
open Go Go.RowKit Go.Proofs.Tryz
theorem qlu {w:Tw}{b:Nat}{g:Nat->Nat}(a:Blk w b 237 (us g)):(Instr.loadAt 237 (J9 b 0)).run prog w=.ok (.agg (us g).toArray) w:=by
 simp only[Instr.loadAt,Instr.sureAddr,Sem.run_bind,Sem.run_pure,Result.andThen_ok,run_loadVar_row w b 237 237 (us g).toArray (0,0) _ a underlying237 rfl (qs1 g)]
theorem Blk.range {w:Tw}{b:Nat}{t:TypeId}{cs:Tl}(a:Blk w b t cs):w.rangeAt b 0 cs:=fun c c c=>by rw[Y3,a.cell,c]
theorem kgh (g:Nat->Nat):(prog.info? 237).map (·.size)=some (us g).length:=by rw[qgz,qhx]
def kf0 (w':Tw)(B k j:Nat)(g:Nat->Nat):Prop:=Blk w' B 237 (us g)/\Tab w'/\w'.cell? ⟨B,k,none⟩=some (.int .u32 (g k:Int))/\w'.cell? ⟨B,j,none⟩=some (.int .u32 (g j:Int))/\w'.rangeAt B 0 (us g)
theorem kf0.mono {w w':Tw}{B k j:Nat}{g:Nat->Nat}(a:kf0 w B k j g)(b:Bw w w'):kf0 w' B k j g :=
 have c:=a.1.mono b a.1.lt
 ⟨c,a.2.1.mono b,(b.cell (p:=⟨B,k,none⟩) a.1.lt).trans a.2.2.1,(b.cell (p:=⟨B,j,none⟩) a.1.lt).trans a.2.2.2.1,c.range⟩
theorem _root_.Go.World.ownsRow.mono3 {w w':Tw}{base k g n i:Nat}{xs:Tl}(b:w.ownsRow base k 1 (.slice (some ⟨g,0,none⟩) n i) n xs)(a:Bw w w'):w'.ownsRow base k 1 (.slice (some ⟨g,0,none⟩) n i) n xs :=
 b.kept (row:=none) ⟨a.os,a.tape,a.output,a.size,fun d c _=>a.block d c⟩ (.inr (by simp[Value.ownBlock]))
def kbF (g:Nat->Nat)(a b:Nat)(v:Int):Prop:=kcT g (kan (g a) (g b)) v
theorem qa9 (n:Nat)(g:Nat->Nat)(w:Tw)(h1:1<=n)(U:n<=32)(D:∀d,d<32->g d<4294967296)(ht:Tab w) :
 Calls prog 200 #[.agg (us g).toArray,J6 n] w fun f l=>Bw w l /\
  ((∃a e,f=.returned (.tuple #[.slice (some ⟨a,0,none⟩) (n*n) (n*n),.bool true])/\Blk l a 3 (is (n*n) e)/\w.heap.size<=a/\∀d,d<n->∀b,b<n->0<=e (d*n+b)/\kbF g d b (e (d*n+b))) ∨
   (f=.returned (.tuple #[J7,.bool false])/\∃d b,d<n/\b<n/\kbF g d b (-1))):=by
 obtain⟨G,R,ak,V,al⟩:=info_parts qjo;have q1:(n:Int)*n<=1024:=by rw[<- Zd];have:=kc0 U;omega
 have q0:0<=(n:Int)*n:=by rw[<- Zd];omega
 have q2:=kc0 U;have i:G.bytes*(n*n)<=281474976710656:=by rw[al];omega
 have hC:((n:Int)*n)=((n*n:Nat):Int):=by simp
 have HC:=h_ hC;clear hC;go_enter func200,ntmps200;go_wp2_with (at_make;refine wpList_make_own _ rfl _ (.tmp 12) 89 rfl w.heap.size 3 G (J6 0) 1 underlying89 R ak V .i64 .i64 _ (n*n) rfl rfl HC i (by unfold maxLen;omega) (by simp) ?_;intro w1 p c);have h:Bw w w1:=((bR _ w).alloc (nR _) _).trans ((bR w.heap.size _).grown c (by simp) (fun a f=>by cases f));have j:=(Blk.new w 237 (us g).toArray).grown c (by simp);obtain⟨k,o,m⟩:=oC p h j;clear p h j c i;go_loopw [6,15] (fun i h wr=>∃(a:Nat) (e:Nat->Int),a<=n/\h=J6 a/\i=.slice (some ⟨w.heap.size+1,0,none⟩) (a*n) (n*n)/\wr.ownsRow w.heap.size 3 1 (.slice (some ⟨w.heap.size+1,0,none⟩) (a*n) (n*n)) (a*n) (is (a*n) e)/\Blk wr w.heap.size 237 (us g)/\Bw w wr/\(∀d,d<a->∀b,b<n->0<=e (d*n+b)/\kbF g d b (e (d*n+b)))) (fun _ h _=>n - (intOf h).toNat)
 case atStart=>exact⟨0,fun _=>0,nZ _,rfl,by simp,by simpa [is] using k.u,m,o,fun d r=>absurd r (nL _)⟩
 case round =>
  clear k m o;obtain⟨a,e,hk,rfl,rfl,p,j,s,x⟩:=hrel;obtain⟨k,m,o,q⟩:=oD p j s x;clear p j s x;by_cases T:a<n
  . go_wp2_with fail
    go_loopw [6,19] (fun i h wr=>∃(c:Nat) (e:Nat->Int),c<=n/\h=J6 c/\i=.slice (some ⟨w.heap.size+1,0,none⟩) (a*n+c) (n*n)/\wr.ownsRow w.heap.size 3 1 (.slice (some ⟨w.heap.size+1,0,none⟩) (a*n+c) (n*n)) (a*n+c) (is (a*n+c) e)/\Blk wr w.heap.size 237 (us g)/\Bw w wr/\(∀d,d<a->∀b,b<n->0<=e (d*n+b)/\kbF g d b (e (d*n+b)))/\(∀b,b<c->0<=e (a*n+b)/\kbF g a b (e (a*n+b)))) (fun _ h _=>n - (intOf h).toNat)
    case atStart=>exact⟨0,e,nZ _,rfl,by simp,by simpa using k.u,m,o,q,fun b r=>absurd r (nL _)⟩
    case round =>
     clear k m o q;obtain⟨c,e,hj,rfl,rfl,p,j,s,x,hG⟩:=hrel;obtain⟨k,m,o,q,I⟩:=oG p j s x hG;by_cases S:c<n
     . have X:a<32:=by omega
       have W:c<32:=(by omega);have N:=j.cell a;have M:=j.cell c;rw[kaT _ X]at N;rw[kaT _ W]at M;have O:=D a X;have gj:=D c W;have gc:=qaf (t:=g c) O;have l0:=j.lt;have hT:=ht.mono s;have K:Hi (kf0 wr w.heap.size a c g):=⟨j,hT,N,M,j.range⟩;have ao:=underlying237;have an:=kgh g;have au:(0:Int)<=a:=(by omega);have av:(a:Int)<32:=(by omega);have ap:(0:Int)<=c:=(by omega);have aq:(c:Int)<32:=(by omega);go_wp2_with fail;go_region_held3 (fun l=>Blk l w.heap.size 237 (us g)/\Tab l/\l.cell? ⟨w.heap.size,a,none⟩=some (.int .u32 (g a:Int))/\l.cell? ⟨w.heap.size,c,none⟩=some (.int .u32 (g c:Int))/\l.rangeAt w.heap.size 0 (us g)) (first | exact K | exact B | exact L) (first | (go_at_call 245;refine cQ (qag _ _ _ O gj) fun w2 u=>?_;have B:Hi (kf0 w2 w.heap.size a c g):=K.mono (q36 u);replace u:=h_ (q36 u)) | (go_at_call 203;refine(q8n g _ _ D gc B.2.1).mono ?_;rintro f H ⟨i,rfl,E,y⟩;have L:Hi (kf0 H w.heap.size a c g):=B.mono y;replace y:=h_ (u.u.trans (y.mono u.u.size));replace E:=h_ E));have A:Hi (kbF g a c i):=E;have J:Hi (Bw wr H):=y;have am:=k.mono3 J;have ae:=L.1;have F:i = -1∨0<=i:=by
        rcases A.u with ⟨r,-,rfl,-⟩ | ⟨rfl,-⟩
        . exact .inr (by omega)
        . exact .inl rfl
       have ai:=kbS T S;have ah:=o.trans (J.mono o.size);obtain⟨aa,Y,v⟩:=oC am ae ah;rcases F with rfl | F
       . have r:Hi (∃d b,d<n/\b<n/\kbF g d b (-1)):=⟨a,c,T,S,A.u⟩
         go_wp2
         go_ret2
         exact⟨v,.inr ⟨rfl,r⟩⟩
       . go_wp2_with (at_builtin;refine wpList_append_fits _ rfl _ _ 89 rfl w.heap.size 3 G 1 underlying89 R V (w.heap.size+1) (a*n+c) (n*n) _ rfl (aa.alloc _) ⟨H.heap.size,0,none⟩ 1 1 [J6 i] rfl rfl ?c1 (by simp[Value.oneCell']) ai ?_)
         case c1 =>
          intro z C r
          match z,r with
          | 0,r=>simp at r;subst r;simp[Addr.add]
         . intro w4 aj Q
           have af:=(Y.alloc (.cells #[J6 i] 3)).grown Q (by simp);have ag:=(v.alloc v.size (.cells #[J6 i] 3)).grown Q (by have:=v.size;simp;omega) (fun z f=>by cases f;omega);obtain⟨ac,Z,ad⟩:=oC aj af ag;go_wp2;go_roundw
           case rel =>
            refine⟨c+1,fun h=>if h=a*n+c then i else e h,by omega,by go_num,rfl,?_,Z,ad,fun d C b P=>?_,fun b P=>?_⟩
            . have f:is (a*n+(c+1)) (fun h=>if h=a*n+c then i else e h)=is (a*n+c) e++[J6 i]:=by
               rw[<- Gb,qph];simp only[if_true]
               congr 1
               unfold is;refine Zm fun z r=>?_;simp only[Yl (show ¬ z=a*n+c by have:=Yu.1 r;omega)]
              rw[f];exact ac
            . have:¬ d*n+b=a*n+c:=by
               have r:(d+1)*n<=a*n:=Vf _ C;rw[Z2]at r;omega
              simp only[Yl this];exact q d C b P
            . by_cases f:b=c
              . subst f;simp only[if_true];exact⟨F,A.u⟩
              . simp only[Yl (show ¬ a*n+b=a*n+c by omega)]
                exact I b (by omega)
           case measure=>simp[intOf];omega
     . obtain rfl:c=n:=by omega
       go_wp2_with fail;go_roundw
       case rel =>
        refine⟨a+1,e,by omega,by go_num,by rw[Z2],by rw[Z2];exact k,m,o,fun d C=>?_⟩;by_cases f:d=a
        . subst f;exact I
        . exact q d (by omega)
       case measure=>simp[intOf];omega
  . obtain rfl:a=n:=by omega
    go_wp2
    go_ret2
    exact⟨o,.inl ⟨_,e,rfl,Blk.of_owns k,by omega,q⟩⟩
section
variable {md:Region.Mode} {ops:Array Oper} {Q:Exit->Act->Tw->Prop} {S:Tw->Prop} {o:Oper} {a:Act}
theorem qa1 (h:Region.wanted o (yielded ops a.tmps)=true)(x:Operand)(f:o.op=.load 237 x)(b:Nat)(g:Nat->Nat)(i:a.eval x=J9 b 0)(e:∀c,S c->Blk c b 237 (us g)):YieldsIf prog ops S o (.agg (us g).toArray) a :=
 .inl ⟨h,fun c d=>by simp only[execOp,f,i,Sem.run_bind,Sem.run_pure,qlu (e c d),Result.andThen_ok]⟩
theorem qa0 (c:Region.wanted o (yielded ops a.tmps)=true)(x:Operand)(v:Value)(b:o.op=.move x)(d:a.eval x=v):YieldsIf prog ops S o v a :=
 .inl ⟨c,fun e _=>by rw[BigFrame.run_move x b,d]⟩
theorem qdm (i:Region.wanted o (yielded ops a.tmps)=true)(x:Operand)(h:o.op=.load 235 x)(b d:Nat)(v:Value)(j:a.eval x=J9 b d)(g:∀c,S c->c.cell? ⟨b,d,none⟩=some v):YieldsIf prog ops S o (.agg #[v]) a :=
 .inl ⟨i,fun c e=>by have f:=g c e;simp only[execOp,h,j];simp[go_sem,f]⟩
theorem qlb {a:Act}{o:Oper}{b:Tmp}{v:Value}(c:o.dst=some b):a.put o.dst v = { tmps:=a.tmps.setIfInBounds b v,defers:=a.defers }:=by rw[c];rfl
theorem take {i fuel:Nat}{v:Value}{d:Array Bool}{w:Tw}(e:Tmp)(hi:ops[i]? = some o)(f:o.dst=some e)(l:Region.noSelect ops=true)(j:Region.free md ops d i=true)(k:(Region.ready md ops d).contains i=true)
 (g:∀b (c:Act) (h:Ta) w,Q (.panic b) { tmps:=h,defers:=c.defers } w->Q (.panic b) c w) (hy:YieldsIf prog ops S o v a) (h:S w) (c:wpAnyH prog md ops Q S fuel (d.setIfInBounds i true) { tmps:=a.tmps.setIfInBounds e v,defers:=a.defers } w):wpAnyH prog md ops Q S (fuel+1) d a w :=
 wpAnyH_take hi l j k (fun b a w c=>g b a _ w (by rw[qlb f]at c;exact c)) hy h (by rw[qlb f];exact c)
theorem kfY {i fuel:Nat}{d:Array Bool}{w:Tw}{f:FuncId}{args:Ta}{R:Value->Tw->Prop}(e:Tmp)(hi:ops[i]? = some o)(q:o.dst=some e)(s:Region.wanted o (yielded ops a.tmps)=true)(r:Region.ready md ops d=[i])
 (hrun:(execOp a.eval o).run prog w=.ok (.enter f args) w) (p:Calls prog f args w fun g c=>∃b,g=.returned b/\R b c)
 (j:∀b c,R b c->S c/\wpAnyH prog md ops Q S fuel (d.setIfInBounds i true) { tmps:=a.tmps.setIfInBounds e b,defers:=a.defers } c):wpAnyH prog md ops Q S (fuel+1) d a w:=by
 refine wpAnyH_ready r (by simp) (AllReadyH.cons hi (fun h m=>?_) AllReadyH.nil);rw[Yr s];unfold Oper.wp;rw[hrun,Oper.upon_enter];refine p.mono ?_;rintro g c ⟨b,rfl,n⟩;obtain⟨k,l⟩:=j b c n;show h (a.put o.dst b) c;rw[qlb q];exact m.out _ _ k (fun _=>l)
theorem runH {i fuel:Nat}{b:Array Bool}{w w':Tw}{v:Next}(hi:ops[i]? = some o)(j:Region.wanted o (yielded ops a.tmps)=true)(g:Region.ready md ops b=[i])
 (f:o.dst=none) (hrun:(execOp a.eval o).run prog w=.ok v w') (h:v=.skip) (e:S w') (c:wpAnyH prog md ops Q S fuel (b.setIfInBounds i true) a w'):wpAnyH prog md ops Q S (fuel+1) b a w:=by
 subst h;refine wpAnyH_ready g (by simp) (AllReadyH.cons hi (fun k d=>?_) AllReadyH.nil);rw[Yr j];unfold Oper.wp;rw[hrun,Oper.upon_skip,f];exact d.out _ _ e (fun _=>c)
end
def rowP (f:Nat->Bool)(n bt tp a:Nat):Prop :=
 f (a*n+a)=true/\f (bt*n+a)=true/\f (a*n+tp)=true /\
  ∀b,b<n->¬ (a≠b/\f (a*n+b)=true/\f (b*n+a)=true)/\∀c,c<n->f (a*n+b)=true->f (b*n+c)=true->f (a*n+c)=true
def entP (f:Nat->Bool)(g h:Nat->Int)(n a b:Nat):Prop :=
 ∃j m:Nat,g (a*n+b)=j/\h (a*n+b)=m/\j<n/\m<n/\kaN f n a b j/\kaO f n a b m
structure kcD (N:Int)(n1 n2 n3:Nat)(f:Nat->Bool)(g h:Nat->Int)(bot top:Int)(n bt tp:Nat):Prop where
 hN:N=n
 h1:1<=n
 h32:n<=32
 l1:n1=n*n
 l2:n2=n*n
 l3:n3=n*n
 hb:bot=bt
 ht:top=tp
 bb:bt<n
 tt:tp<n
 rows:∀a,a<n->rowP f n bt tp a
 ents:∀a,a<n->∀b,b<n->entP f g h n a b
def kfX (N:Int)(n1 n2 n3:Nat)(f:Nat->Bool)(g h:Nat->Int)(bot top:Int):Prop:=∃n bt tp,kcD N n1 n2 n3 f g h bot top n bt tp
theorem qa8 {a:Bool}{p:Prop}(c:a=true ↔ p)(b:¬ p):a=false:=by
 cases a
 . rfl
 . exact absurd (c.1 rfl) b
theorem q9w (n:Nat)(g c:Nat->Nat)(w:Tw)(L:n<=32)(G:∀a,a<32->g a<4294967296)(F:∀a,a<32->c a<4294967296)(o:Bool)(D:o=true ↔ ∃a,a<n/\¬ kan (g a) (c a)=2 ^ a) :
 Gv 199 #[J6 n,.agg (us g).toArray,.agg (us c).toArray] w (.bool o):=by
 have s:=h_ D;have y:=(Blk.new w 237 (us g).toArray).alloc (.cells (us c).toArray 237);have q:=Blk.new (w.alloc (.cells (us g).toArray 237)) 237 (us c).toArray;have z:Bw w ((w.alloc (.cells (us g).toArray 237)).alloc (.cells (us c).toArray 237)):=((bR _ _).alloc (nR _) _).alloc (by simp) _;simp only[Yp]at q;obtain⟨l,m,e⟩:=oC y q z;go_enter func199,ntmps199;go_wp2_with fail;go_loopw [9] (fun d wr=>∃b:Nat,b<=n/\d=J6 b/\(∀a,a<b->kan (g a) (c a)=2 ^ a)/\Blk wr w.heap.size 237 (us g)/\Blk wr (w.heap.size+1) 237 (us c)/\Bw w wr) (fun d _=>n - (intOf d).toNat)
 case atStart=>exact⟨0,nZ _,rfl,fun a d=>absurd d (nL _),l,m,e⟩
 case round =>
  obtain⟨b,K,rfl,E,t,p,v⟩:=hrel;have r:=h_ E;by_cases H:b<n
  . have j:b<32:=by omega
    have B:=t.cell b;have c1:=p.cell b;rw[kaT _ j]at B c1;have O:=p.lt;have x:=G b j;have d1:=F b j;have M:(0:Int)<=b:=(by omega);have N:(b:Int)<32:=(by omega);have J:=fun (a d:Int) w=>kff 9998 a d w;obtain⟨l,m,e⟩:=oC t p v;cases i:((kan (g b) (c b):Nat)==(2 ^ b:Nat))
    . have I:(((kan (g b) (c b):Nat):Int)==2 ^ b)=false:=by
       rw[show(2:Int) ^ b=((2 ^ b:Nat):Int) by simp];simp at i⊢;exact_mod_cast i
      have A:Hi (o=true):=s.2 ⟨b,H,by simpa using i⟩;go_wp2_with fail
      go_region_with (first | (go_at_call 245;refine cQ (qag _ _ _ x d1) fun k d=>?_;replace d:Hi (Bw wr k):=⟨d.os,d.tape,d.output,d.size,d.block⟩) | (go_at_call 205;refine(qqs _ _ j).mono ?_;rintro C k ⟨rfl,rfl⟩))
      all_goals
       have h:=‹Hi (Bw wr _)›;go_wp2;go_ret;exact⟨qln A.symm,(e.trans (h.u.mono e.size)).alloc (by have:=h.u.size;have:=e.size;omega) _⟩
    . have I:(((kan (g b) (c b):Nat):Int)==2 ^ b)=true:=by
       rw[show(2:Int) ^ b=((2 ^ b:Nat):Int) by simp];simp at i⊢;exact_mod_cast i
      have A:Hi (∀a,a<b+1->kan (g a) (c a)=2 ^ a):=qhw (f:=fun a=>kan (g a) (c a)) (g:=fun a=>2 ^ a) r (by simpa using i);go_wp2_with fail
      go_region_with (first | (go_at_call 245;refine cQ (qag _ _ _ x d1) fun k d=>?_;replace d:Hi (Bw wr k):=⟨d.os,d.tape,d.output,d.size,d.block⟩) | (go_at_call 205;refine(qqs _ _ j).mono ?_;rintro C k ⟨rfl,rfl⟩))
      all_goals
       have h:=‹Hi (Bw wr _)›;go_wp2;go_roundw
       case rel=>exact⟨b+1,by omega,by go_num,A,(l.mono h.u l.lt).alloc _,(m.mono h.u m.lt).alloc _,(e.trans (h.u.mono e.size)).alloc (by have:=h.u.size;have:=e.size;omega) _⟩
       case measure=>simp[intOf];omega
  . have d:Hi (o=false):=qa8 s fun⟨a,i,h⟩=>h (r a (by omega))
    have e:=h_ v;go_wp2;go_ret;exact⟨qln d.symm,e⟩
