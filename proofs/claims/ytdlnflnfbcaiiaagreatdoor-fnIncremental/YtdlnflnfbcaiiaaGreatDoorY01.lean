import Derived.Test.YtdlnflnfbcaiiaaGreatDoorY00
import Derived.RangeFuncNested
import Derived.RangeFuncBound
import Derived.Shelf.RegionOpen
import Derived.OwnWalkIn
import Derived.LoopNIn
import Derived.LoopIn
import Derived.Laws.DeepBits32
import Derived.Lib.TrailingZeros
import Derived.Deep.WholeRow
set_option linter.all false
set_option maxRecDepth 100000
set_option maxHeartbeats 0
namespace Go.Proofs.YtdlnflnfbcaiiaaGreatDoor
open Value renaming bool->Bo
open Obj renaming cells->Cl
open Ending renaming returned->Rt
open Option renaming none->Nn,some->Sm
open Bool renaming true->Tt,false->Ff
section
open Go Go.RowKit Go.Proofs.Tryz
def nx:List Bool->Nat
 | true :: l=>nx l+1
 | _=>0
section
variable {md:Region.Mode} {ops:Array Oper} {Q:Exit->Act->Tw->Prop} {S:Tw->Prop} {o:Oper} {l l':Tl} {lb lb':List Bool} {d:Tmp} {v:Value} {i fuel:Nat} {w:Tw}
def RF (n){a}(h:wpAnyH prog md ops Q S n (List.replicate n Ff).toArray a w)(P:ops.size=n:=by kernel_rfl):wpAnyH prog md ops Q S ops.size (Gx ops.size Ff) a w:=by subst P;simpa using h
def UF (N:S w)(h:wpAnyH prog md ops Q S fuel lb'.toArray ⟨l'.toArray,[]⟩ w)
 (_hn:nx lb=i:=by(first|simp only[Oo,On,nx,Nat.reduceAdd]|skip);rfl) (hi:ops[i]? = Sm o:=by exact rfl) (a:o.dst=Sm d:=by exact rfl) (W:Region.wanted o (yielded ops l.toArray)=Tt:=by rfl) (F:Region.noSelect ops=Tt:=by kernel_rfl) (e:Region.free md ops lb.toArray i=Tt:=by kernel_rfl) (O:(Region.ready md ops lb.toArray).contains i=Tt:=by kernel_rfl)
 (T:∀c (b:Act) (t:Ta) w,Q (.panic c) { tmps:=t,defers:=b.defers } w->Q (.panic c) b w:=by exact λ_ _ _ _ h=>h)
 (hy:∀w,S w->(execOp (Act.eval ⟨l.toArray,[]⟩) o).run prog w=.ok (.value v) w:=by intro w N;first|(simp[execOp,go_sem,N, *] <;> rfl)|rfl)
 (b:l.set d v=l':=by(first|simp only[Yw,Y2]|skip);rfl) (c:lb.set i Tt=lb':=by(first|simp only[Oo,On,Yw,Y2]|skip);rfl):wpAnyH prog md ops Q S (fuel+1) lb.toArray ⟨l.toArray,[]⟩ w :=
 nP d hi a F e O T W hy N b c h
def WW (N:S w)(h:wpAnyH prog md ops Q S fuel lb'.toArray ⟨l'.toArray,[]⟩ w)
 (_hn:nx lb=i:=by(first|simp only[Oo,On,nx,Nat.reduceAdd]|skip);rfl) (hi:ops[i]? = Sm o:=by exact rfl) (a:o.dst=Sm d:=by exact rfl) (W:Region.wanted o (yielded ops l.toArray)=Ff:=by rfl) (F:Region.noSelect ops=Tt:=by kernel_rfl) (e:Region.free md ops lb.toArray i=Tt:=by kernel_rfl) (O:(Region.ready md ops lb.toArray).contains i=Tt:=by kernel_rfl)
 (T:∀c (b:Act) (t:Ta) w,Q (.panic c) { tmps:=t,defers:=b.defers } w->Q (.panic c) b w:=by exact λ_ _ _ _ h=>h)
 (b:l.set d undef=l':=by(first|simp only[Yw,Y2]|skip);rfl) (c:lb.set i Tt=lb':=by(first|simp only[Oo,On,Yw,Y2]|skip);rfl):wpAnyH prog md ops Q S (fuel+1) lb.toArray ⟨l.toArray,[]⟩ w :=
 US d hi a F e O T W N b c h
def rp {n a}(h:wpAnyH prog md ops Q S n (List.replicate n Ff).toArray a w)(P:ops.size=n:=by simp only[Zq,Y4,Ze,Nat.reduceAdd];rfl):wpAnyH prog md ops Q S ops.size (Gx ops.size Ff) a w:=RF n h P
def N4 (N:S w)(h:wpAnyH prog md ops Q S fuel lb'.toArray ⟨l'.toArray,[]⟩ w) (_hn:nx lb=i:=by(first|simp only[Oo,On,nx,Nat.reduceAdd]|skip);rfl) (hi:ops[i]? = Sm o:=by exact rfl) (a:o.dst=Sm d:=by exact rfl) (W:(Region.wanted o (yielded ops l.toArray)=Tt/\∀w,S w->(execOp (Act.eval ⟨l.toArray,[]⟩) o).run prog w=.ok (.value v) w)\/(Region.wanted o (yielded ops l.toArray)=Ff/\v=undef):=by first|exact .inl ⟨fT,by intro w N;first|(simp[execOp,go_sem,N, *] <;> rfl)|rfl⟩|exact .inr ⟨fT,fT⟩) (F:Region.noSelect ops=Tt:=by kernel_rfl) (e:Region.free md ops lb.toArray i=Tt:=by kernel_rfl) (O:(Region.ready md ops lb.toArray).contains i=Tt:=by kernel_rfl) (T:∀c (b:Act) (t:Ta) w,Q (.panic c) { tmps:=t,defers:=b.defers } w->Q (.panic c) b w:=by exact λ_ _ _ _ h=>h) (b:l.set d v=l':=by(first|simp only[Yw,Y2]|skip);rfl) (c:lb.set i Tt=lb':=by(first|simp only[Oo,On,Yw,Y2]|skip);rfl):wpAnyH prog md ops Q S (fuel+1) lb.toArray ⟨l.toArray,[]⟩ w:=by rcases W with ⟨W,f⟩|⟨W,rfl⟩;{exact nP d hi a F e O T W f N b c h};exact US d hi a F e O T W N b c h
end
end
section
open Go Go.RowKit Go.Shelf Go.Proofs.Tryz
def AO {β:Type}(B:Nat)(J:β->Tw->Prop):Prop:=∀s W W',J s W->Below B W W'->J s W'
structure Q5 (X:Nat->Prop)(W W':Tw):Prop where
 size:W.1.size<=W'.1.size
 same:∀k cs t fr,¬ X k->W.heap[k]? = Sm (Cl cs t fr)->W'.heap[k]? = Sm (Cl cs t fr)
def Q5.refl (X W):Q5 X W W:=⟨nR _,λ_ _ _ _ _ h=>h⟩
def Q5.trans {X A B C}(h:Q5 X A B)(k:Q5 X B C):Q5 X A C:=⟨Yt h.size k.size,λi a b N t y=>k.same i a b N t (h.same i a b N t y)⟩
def Q5.put {X W l o o'}(a:W.heap[l]? = Sm o)(V:o.isCells=Ff):Q5 X W (W.putObj l o') :=
 ⟨fN,λb k t N _ k=>by
  by_cases e:b=l
  . subst e;rw[a]at k;cases k;simp[Obj.isCells]at V
  . exact(World.putObj_heap_other e).trans k⟩
def Q5.of_below {X W W'}(h:Below W.1.size W W'):Q5 X W W' :=
 ⟨h.size,λa _ _ _ _ k=>(h.block a (Yp.1 k).1).trans k⟩
def Q5.set {X W a}(v)(t:X a.block):Q5 X W (W.setCell a v) :=
 ⟨fN,λb _ _ _ k h=>(heap_setCell_other W a b v (λe=>k (e ▸ t))).trans h⟩
def Q5.blk {X W W' g t cs}(h:Q5 X W W')(c:m0 W g t cs)(C:¬ X g):m0 W' g t cs:=h.same g _ t _ C c
def tJ {W W'}(h:Below W.1.size W W'):KeepsOthers W W':=⟨h.size,λa _ k _=>(h.block a (Yp.1 k).1).trans k⟩
def m0.put {W g l t cs}(h:m0 W g t cs){o}(o')(e:W.heap[l]? = Sm o)(V:o.isCells=Ff):m0 (W.putObj l o') g t cs:=(Q5.put (X:=λ_=>False) e V).same g _ t _ (λh=>h) h
def SS (P:Program)(gf:Nat)(lb:Ta)(T:Nat->Prop)(S Sp:List Nat->Prop)(X:Nat->Prop)(w0:Tw):Prop :=
 ∀(n l:Nat) (J Jx:List Nat->Tw->Prop) (W:Tw),Below w0.1.size w0 W->AO W.1.size J->AO W.1.size Jx->(∀k,X k->k<W.1.size) ->
  (∀(m:Nat) (pre:List Nat) (x:Nat) (W1:Tw),J pre W1->T x->YieldAt Fence.wide m P l #[Yd (x:Int)] W1 λe W' =>
   (e=Rt (Bo Tt)/\J (pre++[x]) W'/\Q5 X W1 W')\/(e=Rt (Bo Ff)/\Jx (pre++[x]) W')) ->
  J [] W ->
  CallsIn Fence.wide n P gf (#[.func (.yield l) #[] #[]]++lb) W λe W'=>(∃v,e=Rt v)/\((∃xs,S xs/\J xs W')\/(∃pre,Sp pre/\Jx pre W'))
def mJ {n}:Fence.wide.depth.isSome=Tt->1<=n:=λh=>by simp[Fence.wide]at h
def wA {P f args w R n}(h:Calls P f args w R):Fence.wide.fn f/\(Fence.wide.depth.isSome=Tt->1<=n)/\CallsIn Fence.wide (n - 1) P f args w R :=
 ⟨trivial,mJ,callsIn_wide.2 h⟩
def ZH {P f args w R n l}(h:Calls P f args w R):(Fence.wide.inRound l).fn f/\((Fence.wide.inRound l).depth.isSome=Tt->1<=n)/\CallsIn (Fence.wide.inRound l) (n - 1) P f args w R :=
 ⟨trivial,mJ,CallsIn.inRound l (callsIn_wide.2 h)⟩
def Il (X:Nat->Prop)(I Ix:List Nat->Tw->Prop)(xs:List Nat)(W:Tw):Exit->Act->Tw->Prop
 | .normal,_,W'=>KeepsOthers W W'/\Q5 X W W'/\I xs W'
 | .ret,_,W'=>KeepsOthers W W'/\Ix xs W'
 | _,_,_=>False
def VJ {B}(W l o)(h:B<=l):Below B W (W.putObj l o) :=
 ⟨rfl,rfl,rfl,fN,λ_ k=>World.putObj_heap_other fK⟩
variable {p:Prop}
def hH(h:p:=by have:=World.alloc_heap_new (w.alloc (.deferred (Sm []))) (.loop (mk .ready Nn));rw[Yz,A,C]at this;exact this):p:=h
def hP(h:p:=by have:=World.alloc_heap_new w (.deferred (Sm []));rw[<- C,<- A];exact(Below.heap_alloc _ _ _ fN).trans this):p:=h
def hZ(h:p:=by rw[G];exact World.putObj_heap_same (Yp.1 t).1):p:=h
def YU {P g p assign body q a w n gf lb}
 (hg:a.eval g=.func (.func gf) #[] lb) (Y:∀args w,(callFunc gf args).run P w=.ok (.enter gf args) w)
 {T S v X W} (ai:SS P gf lb T S v X W) (L:Below W.1.size W w) (hX:∀e,X e->e<w.1.size) (ah:p.size=1)
 (I i) (r:AO w.1.size I) (H:AO w.1.size i) (h0:I [] w) (Z:Nat->Act)
 (aa:∀(k l x:Nat) (b:Tw) (K:Act->Tw->Prop),K (Z x) b ->
  assign.wpIn (Fence.wide.inRound l) k P (Exit.then K (λ_ _ _=>False)) { tmps:=(p.zip #[Yd (x:Int)]).foldl (λU (d,V)=>U.setIfInBounds d V) a.tmps,defers:=[] } b)
 (ac:∀(k l:Nat) (j:List Nat) (x:Nat) (b:Tw),I j b->T x->body.wpIn (Fence.wide.inRound l) k P (Il X I i (j++[x]) b) (Z x) b)
 (ae:∀(D:Nat) (B:List Nat) (b:Tw),w.1.size<=D->S B->I B b->b.heap[D]? = Sm (.deferred (Sm []))->q .normal { a with defers:={ target:=.collected D,args:=#[] } :: a.defers } b)
 (aj:∀(D:Nat) (j:List Nat) (b:Tw),w.1.size<=D->v j->i j b->b.heap[D]? = Sm (.deferred (Sm []))->q .ret { a with defers:={ target:=.collected D,args:=#[] } :: a.defers } b) :
 (Code.rangeFunc g p assign body).wpIn Fence.wide n P q a w:=by
 refine wpIn_rangeFunc λfn _=>?_;obtain⟨D,A⟩:=Nq w.1.size;obtain⟨mk,G⟩:∃mk:LoopState->Option Code->Loop,mk=λs d=>{ state:=s,pending:=d,fn,tmps:=a.tmps,params:=p,assign,body,defers:=D }:=⟨_,rfl⟩;obtain⟨m,C⟩:=Nq ((w.alloc (.deferred (Sm []))).alloc (.loop (mk .ready Nn)));have R:m.1.size=D+1+1:=by rw[<- C];simp[A]
 have z:Below D w m:=by rw[<- C,<- A];exact((bR _ w).alloc (nR _) _).alloc fN _
 have af:m.heap[D+1]? = Sm (.loop (mk .ready Nn)):=by
  exact hH
 have ad:m.heap[D]? = Sm (.deferred (Sm [])):=by
  exact hP
 have F:=run_enterLoop_outer (P:=P) (w:=w) fn a.tmps p assign body;rw[A]at F;refine⟨D+1,[{ target:=.collected D,args:=#[] }],m,{ target:=.fn (.func gf) lb,args:=#[.func (.yield (D+1)) #[] #[]] },m,gf,#[.func (.yield (D+1)) #[] #[]]++lb,m,?_,?_,?_,?_,λh=>by simp[Fence.wide]at h,?_⟩
 . rw[<- C,G];exact F
 . simp only[resolve,hg];simp[go_sem]
 . intro _ _;trivial
 . simp[invoke,go_sem,Y]
 have s:∀B b l d,D<=l->I B b->I B (b.putObj l d):=λB b l d h y=>r B b _ y (by rw[A];exact VJ b l d h);have J:∀B b l d,D<=l->i B b->i B (b.putObj l d):=λB b l d h y=>H B b _ y (by rw[A];exact VJ b l d h);refine(ai (n - 1) (D+1) (λj b=>I j b/\b.heap[D+1]? = Sm (.loop (mk .ready Nn))/\b.heap[D]? = Sm (.deferred (Sm [])))
  (λj b=>i j b/\b.heap[D+1]? = Sm (.loop (mk .done (Sm .ret)))/\b.heap[D]? = Sm (.deferred (Sm []))) m (L.trans ((A ▸ z:Below w.1.size w m).mono L.size)) ?_ ?_ (λe d=>Fq (hX e d)) ?_ ⟨r _ _ _ h0 (A ▸ z),af,ad⟩).mono ?_
 . rintro B b l ⟨h,e,f⟩ d
   rw[R]at d;exact⟨r B b l h (d.mono fK),(d.block _ fK).trans e,(d.block _ fK).trans f⟩
 . rintro B b l ⟨h,e,f⟩ d
   rw[R]at d;exact⟨H B b l h (d.mono fK),(d.block _ fK).trans e,(d.block _ fK).trans f⟩
 . -- one round
   rintro k j x b ⟨y,e,f⟩ hT;have ag:=(Yp.1 e).1;have N:=run_yield (P:=P) (args:=#[Yd (x:Int)]) e (by rw[G];simp[ah]);rw[G]at N;refine⟨fn,_,assign,body,N,roundIn_of_wpIn trivial (aa k _ x b _ ⟨_,run_beginRound e (by rw[G]),?_⟩)⟩;refine wpIn_mono (ac k _ j x _ (s _ _ _ _ fK y) hT) ?_;have M:=World.putObj_heap_same (w:=b) (o:=.loop { mk .ready Nn with state:=.busy }) ag;have K:(b.putObj (D+1) (.loop { mk .ready Nn with state:=.busy })).heap[D]? = Sm (.deferred (Sm [])):=(World.putObj_heap_other fK).trans f;have ak:Q5 X b (b.putObj (D+1) (.loop { mk .ready Nn with state:=.busy })):=Q5.put e rfl;intro E a3 W3 d;cases E with
   | normal =>
    obtain⟨Q,kx,u⟩:=d;have t:=Q.same _ _ M rfl;have l:=Q.same _ _ K rfl;have O:=run_endRound (P:=P) Nn t;rw[G]at O;refine⟨_,_,O,.inl ⟨rfl,⟨s _ _ _ _ fK u,?_,(World.putObj_heap_other fK).trans l⟩,(ak.trans kx).trans (Q5.put t rfl)⟩⟩;exact hZ
   | ret =>
    obtain⟨Q,u⟩:=d;have t:=Q.same _ _ M rfl;have l:=Q.same _ _ K rfl;have O:=run_endRound (P:=P) (Sm .ret) t;rw[G]at O;refine⟨_,_,O,.inr ⟨rfl,J _ _ _ _ fK u,?_,(World.putObj_heap_other fK).trans l⟩⟩;exact hZ
   | exit id=>exact d.elim
   | goto U=>exact d.elim
   | panic c=>exact d.elim
   | outgrown=>exact d.elim
 . -- behind the iterator
   rintro E d ⟨⟨V,rfl⟩,(⟨B,N,y,e,f⟩|⟨j,Q,y,e,f⟩)⟩
   . have O:=run_endLoop (P:=P) e (by rw[G];simp)
     rw[G]at O;exact⟨Nn,_,O,ae D B _ fK N (s _ _ _ _ fK y) ((World.putObj_heap_other fK).trans f)⟩
   . have O:=run_endLoop (P:=P) e (by rw[G];simp)
     rw[G]at O;exact⟨Sm .ret,_,O,wpIn_ret (aj D j _ fK Q (J _ _ _ _ fK y) ((World.putObj_heap_other fK).trans f))⟩
structure E7 (lo hi:Nat)(W W':Tw):Prop where
 os:W'.os=W.os
 tape:W'.tape=W.tape
 output:W'.output=W.output
 size:W.1.size<=W'.1.size
 block:∀b,b<W.1.size->¬ (lo<=b/\b<hi)->W'.heap[b]? = W.heap[b]?
def E7.mono {lo n hi W W'}(h:E7 lo hi W W')(e:n<=lo):E7 n hi W W':=⟨h.os,h.tape,h.output,h.size,λb c P=>h.block b c (λc=>P ⟨fK,c.2⟩)⟩
def E7.refl (lo hi W):E7 lo hi W W:=⟨rfl,rfl,rfl,nR _,λ_ _ _=>rfl⟩
def E7.trans {lo hi A B C}(h:E7 lo hi A B)(k:E7 lo hi B C):E7 lo hi A C:=⟨k.os.trans h.os,k.tape.trans h.tape,k.output.trans h.output,Yt h.size k.size,λb c P=>(k.block b (Fq h.size) P).trans (h.block b c P)⟩
def E7.set {lo hi W a}(v)(h1:lo<=a.block)(p:a.block<hi):E7 lo hi W (W.setCell a v):=⟨rfl,rfl,rfl,fN,λb _ P=>heap_setCell_other W a b v (λe=>P ⟨fK,fK⟩)⟩
def E7.put {lo hi l}(W o)(h1:lo<=l)(p:l<hi):E7 lo hi W (W.putObj l o):=⟨rfl,rfl,rfl,fN,λb _ P=>World.putObj_heap_other (λe=>P ⟨fK,fK⟩)⟩
def E7.below {lo hi B W W'}(h:E7 lo hi W W')(a:B<=lo)(F:B<=W.1.size):Below B W W':=⟨h.os,h.tape,h.output,h.size,λb c=>h.block b fK (λc=>by omega)⟩
def E7.blk {lo hi g W W' t cs}(h:E7 lo hi W W')(c:m0 W g t cs)(C:¬ (lo<=g/\g<hi)):m0 W' g t cs:=(h.block g c.lt C).trans c
def E7.owns {lo hi base n k W W' e v x}(a:E7 lo hi W W')(V:W.ownsRow base e k v n x)(B:∀q,v.ownBlock=Sm q->¬ (lo<=q/\q<hi)):W'.ownsRow base e k v n x:=by refine⟨V.1,?_⟩;rcases V.2 with p|⟨g,R,h,m,c,C,r⟩;{exact .inl p};exact .inr ⟨g,R,h,m,c,(a.block g (Yp.1 C).1 (B g gL)).trans C,r⟩
structure S6 (X:Nat->Prop)(hi:Nat)(W W':Tw):Prop where
 size:W.1.size<=W'.1.size
 same:∀k cs t fr,k<hi->¬ X k->W.heap[k]? = Sm (Cl cs t fr)->W'.heap[k]? = Sm (Cl cs t fr)
def S6.refl (X hi W):S6 X hi W W:=⟨nR _,λ_ _ _ _ _ _ h=>h⟩
def S6.trans {X hi A B C}(h:S6 X hi A B)(k:S6 X hi B C):S6 X hi A C:=⟨Yt h.size k.size,λi a b N e t hi=>k.same i a b N e t (h.same i a b N e t hi)⟩
def S6.put {X hi l W o o'}(a:W.heap[l]? = Sm o)(V:o.isCells=Ff):S6 X hi W (W.putObj l o') :=
 ⟨fN,λb k t N _ _ k=>by
  by_cases e:b=l
  . subst e;rw[a]at k;cases k;simp[Obj.isCells]at V
  . exact(World.putObj_heap_other e).trans k⟩
def S6.of_below {X hi B W W'}(h:Below B W W')(b:hi<=B):S6 X hi W W':=⟨h.size,λa _ _ _ e _ k=>(h.block a fK).trans k⟩
def S6.set {X hi W a}(v)(t:X a.block):S6 X hi W (W.setCell a v):=⟨fN,λb _ _ _ _ k h=>(heap_setCell_other W a b v (λe=>k (e ▸ t))).trans h⟩
def S6.grown {X hi W W' row}(h:W.grownBy W' row)(O:∀q,row=Sm q->hi<=q\/X q):S6 X hi W W' :=
 ⟨h.size,λa _ _ _ e t k=>(h.block a (Yp.1 k).1 (λe=>by
  rcases O a e.symm with m|m
  . omega
  . exact t m)).trans k⟩
def S6.blk {X hi g W W' t cs}(h:S6 X hi W W')(c:m0 W g t cs)(C:g<hi)(a:¬ X g):m0 W' g t cs:=h.same g _ t _ C a c
def S6.owns {X hi base n k W W' e v x}(a:S6 X hi W W')(V:W.ownsRow base e k v n x)(B:∀q,v.ownBlock=Sm q->q<hi/\¬ X q):W'.ownsRow base e k v n x:=by refine⟨V.1,?_⟩;rcases V.2 with p|⟨g,R,h,m,c,C,r⟩;{exact .inl p};exact .inr ⟨g,R,h,m,c,a.same g h e _ (B g gL).1 (B g gL).2 C,r⟩
def qY (P:Program)(gf:Nat)(lb:Ta)(T:List Nat->Nat->Prop)(S:List Nat->Prop)(X:Nat->Prop)(w0:Tw):Prop :=
 ∀(n l:Nat) (J:Nat->List Nat->Tw->Prop) (W:Tw),Below w0.1.size w0 W->(∀hi pre W1 W2,J hi pre W1->E7 W.1.size hi W1 W2->J hi pre W2)->(∀W2,Below W.1.size W W2->J W2.1.size [] W2)->(∀k,X k->k<W.1.size) ->
  (∀(m hi:Nat) (pre:List Nat) (x:Nat) (W1:Tw),J hi pre W1->T pre x->YieldAt Fence.wide m P l #[Yd (x:Int)] W1 λe W'=>e=Rt (Bo Tt)/\J hi (pre++[x]) W'/\S6 X hi W1 W') ->
  CallsIn Fence.wide n P gf (#[.func (.yield l) #[] #[]]++lb) W λe W'=>(∃v,e=Rt v)/\∃hi xs,S xs/\J hi xs W'
def Sk (X:Nat->Prop)(hi:Nat)(I:List Nat->Tw->Prop)(xs:List Nat)(W:Tw):Exit->Act->Tw->Prop
 | .normal,_,W'=>KeepsOthers W W'/\S6 X hi W W'/\I xs W'
 | _,_,_=>False
def Ib {P g p assign body Q a w n gf lb}
 (hg:a.eval g=.func (.func gf) #[] lb) (M:∀args w,(callFunc gf args).run P w=.ok (.enter gf args) w)
 {T S X W} (ak:qY P gf lb T S X W) (J:Below W.1.size W w) (U:∀d,X d->d<w.1.size) (aj:p.size=1)
 (I:Nat->List Nat->Tw->Prop) (z:∀y j b q,I y j b->E7 w.1.size y b q->I y j q) (N:∀b,Below w.1.size w b->I b.1.size [] b) (Z:Nat->Act)
 (V:∀(h l x:Nat) (b:Tw) (K:Act->Tw->Prop),K (Z x) b ->
  assign.wpIn (Fence.wide.inRound l) h P (Exit.then K (λ_ _ _=>False)) { tmps:=(p.zip #[Yd (x:Int)]).foldl (λK (e,L)=>K.setIfInBounds e L) a.tmps,defers:=[] } b)
 (Y:∀(h l y:Nat) (j:List Nat) (x:Nat) (b:Tw),w.1.size<y->I y j b->T j x->body.wpIn (Fence.wide.inRound l) h P (Sk X y (I y) (j++[x]) b) (Z x) b)
 (ae:∀(D y:Nat) (B:List Nat) (b:Tw),w.1.size<=D->D<y->S B->I y B b->b.heap[D]? = Sm (.deferred (Sm []))->Q .normal { a with defers:={ target:=.collected D,args:=#[] } :: a.defers } b) :
 (Code.rangeFunc g p assign body).wpIn Fence.wide n P Q a w:=by
 refine wpIn_rangeFunc λfn _=>?_;obtain⟨D,A⟩:=Nq w.1.size;obtain⟨mk,G⟩:∃mk:LoopState->Option Code->Loop,mk=λs e=>{ state:=s,pending:=e,fn,tmps:=a.tmps,params:=p,assign,body,defers:=D }:=⟨_,rfl⟩;obtain⟨m,C⟩:=Nq ((w.alloc (.deferred (Sm []))).alloc (.loop (mk .ready Nn)));have H:m.1.size=D+1+1:=by rw[<- C];simp[A]
 have s:Below D w m:=by rw[<- C,<- A];exact((bR _ w).alloc (nR _) _).alloc fN _
 have ag:m.heap[D+1]? = Sm (.loop (mk .ready Nn)):=by
  exact hH
 have aa:m.heap[D]? = Sm (.deferred (Sm [])):=by
  exact hP
 have v:=run_enterLoop_outer (P:=P) (w:=w) fn a.tmps p assign body;rw[A]at v;refine⟨D+1,[{ target:=.collected D,args:=#[] }],m,{ target:=.fn (.func gf) lb,args:=#[.func (.yield (D+1)) #[] #[]] },m,gf,#[.func (.yield (D+1)) #[] #[]]++lb,m,?_,?_,?_,?_,λi=>by simp[Fence.wide]at i,?_⟩
 . rw[<- C,G];exact v
 . simp only[resolve,hg];simp[go_sem]
 . intro _ _;trivial
 . simp[invoke,go_sem,M]
 have r:∀y B b l e,D<=l->l<y->I y B b->I y B (b.putObj l e):=λy B b l e i f k=>z y B b _ k (by rw[A];exact E7.put b e i f);refine(ak (n - 1) (D+1) (λy j b=>I y j b/\D+1<y/\b.heap[D+1]? = Sm (.loop (mk .ready Nn))/\b.heap[D]? = Sm (.deferred (Sm []))) m (J.trans ((A ▸ s:Below w.1.size w m).mono J.size)) ?_ ?_ (λd e=>Fq (U d e)) ?_).mono ?_
 . rintro y B b q ⟨i,l,e,f⟩ d
   rw[H]at d;exact⟨z y B b q i (d.mono fK),l,(d.block _ (Yp.1 e).1 fK).trans e,(d.block _ (Yp.1 f).1 fK).trans f⟩
 . intro q d
   have t:=d.size;rw[H]at d t;refine⟨N q ?_,fK,(d.block _ fK).trans ag,(d.block _ fK).trans aa⟩;rw[A];exact s.trans (d.mono fK)
 . -- one round
   rintro h y j x b ⟨k,l,e,f⟩ R;have ai:=(Yp.1 e).1;have E:=run_yield (P:=P) (args:=#[Yd (x:Int)]) e (by rw[G];simp[aj]);rw[G]at E;refine⟨fn,_,assign,body,E,roundIn_of_wpIn trivial (V h _ x b _ ⟨_,run_beginRound e (by rw[G]),?_⟩)⟩;refine wpIn_mono (Y h _ y j x _ fK (r _ _ _ _ _ fK fK k) R) ?_;have ah:=World.putObj_heap_same (w:=b) (o:=.loop { mk .ready Nn with state:=.busy }) ai;have ac:(b.putObj (D+1) (.loop { mk .ready Nn with state:=.busy })).heap[D]? = Sm (.deferred (Sm [])):=(World.putObj_heap_other fK).trans f;have al:S6 X y b (b.putObj (D+1) (.loop { mk .ready Nn with state:=.busy })):=S6.put e rfl;intro u a3 W3 d;cases u with
   | normal =>
    obtain⟨F,kx,af⟩:=d;have t:=F.same _ _ ah rfl;have ad:=F.same _ _ ac rfl;have O:=run_endRound (P:=P) Nn t;rw[G]at O;refine⟨_,_,O,rfl,⟨r _ _ _ _ _ fK fK af,l,?_,(World.putObj_heap_other fK).trans ad⟩,(al.trans kx).trans (S6.put t rfl)⟩;exact hZ
   | ret=>exact d.elim
   | exit id=>exact d.elim
   | goto K=>exact d.elim
   | panic c=>exact d.elim
   | outgrown=>exact d.elim
 . -- behind the iterator
   rintro u q ⟨⟨L,rfl⟩,y,B,d,k,l,e,f⟩;have O:=run_endLoop (P:=P) e (by rw[G];simp);rw[G]at O;exact⟨Nn,_,O,ae D y B _ fK fK d (r _ _ _ _ _ fK fK k) ((World.putObj_heap_other fK).trans f)⟩
end
section
open Go Go.RowKit Go.Proofs.Tryz
def m0.row {w g t cs}(h:m0 w g t cs)(z):m0 (w.setRow g z.toArray) g t z:=setRow_heap w g cs.toArray z.toArray t (0,0) h
def m0.row_other {w g g' t cs}(h:m0 w g' t cs)(U:g'≠g)(z):m0 (w.setRow g z) g' t cs:=(setRow_other w g g' z U).trans h
def IR {lo hi g}(W z)(h1:lo<=g)(p:g<hi):E7 lo hi W (W.setRow g z):=⟨rfl,rfl,rfl,by simp[World.setRow],λb _ P=>setRow_other W g b z (λe=>P fK)⟩
def qi8 {K:Type}{f g:Nat->K}{k}(h:∀j,j<k->f j=g j)(V:f k=g k):∀j,j<k+1->f j=g j:=λj s=>by by_cases e:j=k;{rw[e];exact V};exact h j fK
def Kg {V p}(k:V=Tt ↔ p)(h:¬ p):V=Ff:=by grind
def qA (w:Tw)(a:To)(n:Nat)(f g:Nat->Int):Prop :=
 ∀k,k<n->∃b off,a=Sm (Aq b off)/\b<w.1.size/\w.cell? (Aq b (off+k*2))=Sm (Yd (f k))/\w.cell? (Aq b (off+k*2+1))=Sm (Yd (g k))
def qA.mono {w w' a n f g}(h:qA w a n f g)(c:Bw w w'):qA w' a n f g:=λk d=>by obtain⟨b,A,rfl,e,M,o⟩:=h k d;exact⟨b,A,rfl,Yv e c.size,(c.cell (p:=(Aq b (A+k*2))) e).trans M,(c.cell (p:=(Aq b (A+k*2+1))) e).trans o⟩
def Fu (N a m c w)(d:m<=9223372036854775807)(e:¬ (1<=N/\N<=32/\m<=256)):Gv 27 #[.agg (Jn N a m c)] w (Bo Ff):=by have q:N<1\/(1<=N/\32<N)\/(1<=N/\N<=32/\256<m):=fK;rcases q with h|⟨h,V⟩|⟨h,V,b⟩;all_goals go_enter func27,ntmps27;go_wp2;go_ret;exact⟨rfl,Bq⟩
def gY {p:Prop}(h:p:=by go_wp2;go_ret;exact⟨M2 (s fK).symm,l.trans ⟨rfl,rfl,rfl,nR _,λ_ _=>rfl⟩⟩):p:=h
def EZ (N a m c f g w)(h1:1<=N)(v:N<=32)(B:m<=256)(H:qA w a m f g)(V)(o:V=Tt ↔ ∀k,k<m->0<=f k/\f k<N/\0<=g k/\g k<N):Gv 27 #[.agg (Jn N a m c)] w (Bo V):=by have b:=h_ o;go_enter func27,ntmps27;go_wp2;have p:Bw w (w.alloc (Cl (Jn N a m c) 41)):=Bq;have l:=h_ p;have O:=m0.new w 41 (Jn N a m c);have e:=O.cell 0;have c1:=O.cell 1;simp only[Yq,Yi]at e c1;have F:w.1.size<(w.alloc (Cl (Jn N a m c) 41)).1.size:=fN;have D:=H.mono l;generalize (w.alloc (Cl (Jn N a m c) 41))=W at *;go_loopw [3] (λi wr=>∃k:Nat,k<=m/\i=Yd k/\(∀j,j<k->0<=f j/\f j<N/\0<=g j/\g j<N)/\∃n,wr=W.drewN n) (λi _=>m - (intOf i).toNat);exact⟨0,nZ _,rfl,λj h=>absurd h (nL _),0,rfl⟩;obtain⟨k,z,rfl,q,n,rfl⟩:=hrel;obtain⟨d,t⟩:=oB q (KF W n);by_cases Y:k<m;{obtain⟨u,C,rfl,A,M,y⟩:=D k Y;have i:¬ (0<=f k/\f k<N/\0<=g k/\g k<N)->V=Ff:=λP=>Kg b λx=>P (x k Y);have s:=h_ i;by_cases x:f k<0;{exact uQ};by_cases S:N<=f k;{exact uQ};by_cases E:g k<0;{go_wp2;(go_quiet (fail));exact uQ};by_cases G:N<=g k;{go_wp2;(go_quiet (fail));exact uQ};go_wp2;(go_quiet (fail));go_wp2;(go_quiet (fail));go_wp2;go_roundw;exact⟨k+1,fK,fP,λj r=>by by_cases h:j=k;{subst h;omega};exact d j fK,_,rfl⟩;exact kv};go_wp2;go_ret;exact⟨M2 (b.2 λj r=>d j fK).symm,l.trans ⟨rfl,rfl,rfl,nR _,λ_ _=>rfl⟩⟩
def bs (n:Nat)(f:Nat->Bool):Tl:=(List.range n).map λk=>Bo (f k)
def is (n:Nat)(f:Nat->Int):Tl:=(List.range n).map λk=>.int .i64 (f k)
def Bb {n}{x:Tl}{g}(e:x.length=n)(h:∀j,j<n->x[j]? = Sm (g j)):x=(List.range n).map g:=by apply Gl;intro j;by_cases s:j<n;{rw[h j s];simp[s]};rw[Vn fK,Vn fQ]
def m0.bools {w g n t f}(h:m0 w g t (bs n f)):o9 w (Sm (Aq g 0)) n f:=λk k =>
 ⟨g,0,rfl,h.lt,by rw[Zl,h.cell];simp[bs,k]⟩
def m0.ints {w g n t f}(h:m0 w g t (is n f)):F5 w (Sm (Aq g 0)) n f:=λk k =>
 ⟨g,0,rfl,h.lt,by rw[Zl,h.cell];simp[is,k]⟩
def Mc:(prog.info? 4).map (λi=>(i.zero,i.size,i.bytes))=Sm (Sm (Bo Ff),1,1):=by kernel_rfl
def RQ:(prog.info? 3).map (λi=>(i.zero,i.size,i.bytes))=Sm (Sm (Yd 0),1,8):=by kernel_rfl
def V7 (s t:Nat):Nat:=s &&& (4294967295 - t)
def T7 (s t:Nat):Nat:=V7 s (V7 s t)
def wJ {s t}(F:s<4294967296)(z:t<4294967296):s ||| t<4294967296:=Nat.or_lt_two_pow (n:=32) F z
theorem yI {s t}(F:s<4294967296):V7 s t<4294967296:=Vz Nat.and_le_left F
def DU {s t}(F:s<4294967296):T7 s t<4294967296:=yI F
theorem GE {a}(H:a<32):2 ^ a<4294967296:=Nat.pow_lt_pow_right fM H
def In {s i}(F:s<4294967296)(h:s.testBit i=Tt):i<32:=by apply Ou;intro y;have:s.testBit i=Ff:=Nat.testBit_lt_two_pow (Yv F (by have:2 ^ 32<=2 ^ i:=Zn fK y;simpa using this));exact Bool.false_ne_true (this.symm.trans h)
theorem IL {s t}(F:s<4294967296)(z:t<4294967296)(i):(V7 s t).testBit i=(s.testBit i&&!t.testBit i):=by unfold V7;rw[Nat.testBit_and,show 4294967295 - t=2 ^ 32 - (t+1) by omega,Nat.testBit_two_pow_sub_succ fK];cases h:s.testBit i;{simp};simp[In F h]
def uN {s t}(F:s<4294967296)(z:t<4294967296)(i):(T7 s t).testBit i=(s.testBit i&&t.testBit i):=by grind[T7,IL,yI]
def NT (n)(G:0<=n)(h1:n<4294967296):IntKind.u32.wrap n=n:=by simp[IntKind.wrap,IntKind.bits,IntKind.signed];omega
def Kn (s t:Nat)(F:s<4294967296)(z:t<4294967296):bits .or .u32 (s:Int) (t:Int)=((s ||| t:Nat):Int):=by show IntKind.u32.wrap ((BitVec.ofInt 32 (s:Int) ||| BitVec.ofInt 32 (t:Int)).toNat:Int)=_;rw[BitVec.toNat_or,ofInt_u32 s F,ofInt_u32 t z];exact NT _ fK (Fq (wJ F z))
def qd2 (s t:Nat)(F:s<4294967296)(z:t<4294967296):bits .andNot .u32 (s:Int) (t:Int)=((V7 s t:Nat):Int):=by show IntKind.u32.wrap ((BitVec.ofInt 32 (s:Int) &&& ~~~BitVec.ofInt 32 (t:Int)).toNat:Int)=_;rw[BitVec.toNat_and,BitVec.toNat_not,ofInt_u32 s F,ofInt_u32 t z,show 2 ^ 32 - 1 - t=4294967295 - t by omega];exact NT _ fK (by have:=yI (t:=t) F;unfold V7 at this;omega)
def Lj (s t:Nat)(F:s<4294967296)(z:t<4294967296):bits .and .u32 (s:Int) (t:Int)=((s &&& t:Nat):Int):=by show IntKind.u32.wrap ((BitVec.ofInt 32 (s:Int) &&& BitVec.ofInt 32 (t:Int)).toNat:Int)=_;rw[BitVec.toNat_and,ofInt_u32 s F,ofInt_u32 t z];exact NT _ fK (by have:s &&& t<=s:=Nat.and_le_left;omega)
def LN (s t:Nat)(w)(F:s<4294967296)(z:t<4294967296):GZ 113 #[.agg #[.int .u32 s],.agg #[.int .u32 t]] w λe j=>e=Rt (.agg (#[.int .u32 ((s ||| t:Nat):Int)]))/\j=((w.alloc (Cl #[.int .u32 (s:Int)] 143)).alloc (Cl #[.int .u32 (t:Int)] 143)).alloc (Cl (#[.int .u32 ((s ||| t:Nat):Int)]) 143):=by have h:=Kn s t F z;go_enter func113,ntmps113;go_wp2;refine bQ ⟨rfl,rfl⟩
def IN (s t:Nat)(w)(F:s<4294967296)(z:t<4294967296):GZ 233 #[.agg #[.int .u32 s],.agg #[.int .u32 t]] w λe j=>e=Rt (.agg (#[.int .u32 ((V7 s t:Nat):Int)]))/\j=((w.alloc (Cl #[.int .u32 (s:Int)] 143)).alloc (Cl #[.int .u32 (t:Int)] 143)).alloc (Cl (#[.int .u32 ((V7 s t:Nat):Int)]) 143):=by have h:=qd2 s t F z;go_enter func233,ntmps233;go_wp2;refine bQ ⟨rfl,rfl⟩
def qu0 {a}(H:a<32):(2:Int) ^ a % 4294967296=((2 ^ a:Nat):Int):=by rw[show(2:Int) ^ a=((2 ^ a:Nat):Int) by simp,show(4294967296:Int)=((4294967296:Nat):Int) from rfl,<- Int.natCast_emod,Zw (GE H)]
def II (a:Nat)(w)(F:a<32):GZ 114 #[Yd a] w λe j=>e=Rt (.agg (#[.int .u32 ((2 ^ a:Nat):Int)]))/\j=w.alloc (Cl (#[.int .u32 ((2 ^ a:Nat):Int)]) 143):=by have f:=qu0 F;go_enter func114,ntmps114;go_wp2;refine bQ ⟨rfl,fN⟩
def qqx (s a:Nat)(w)(F:s<4294967296)(z:a<32):GZ 72 #[.agg #[.int .u32 s],Yd a] w λe j=>e=Rt (Bo (s.testBit a))/\j=w.alloc (Cl #[.int .u32 (s:Int)] 143):=by have e:(bits .and .u32 ((s:Int) / 2 ^ a) 1==1)=s.testBit a:=(by rw[show(s:Int) / 2 ^ a=((s / 2 ^ a:Nat):Int) by simp,show(1:Int)=((1:Nat):Int) from rfl,Lj _ 1 (Vz (Vp _ _) F) fM];rw[Nat.and_one_is_mod,Nat.testBit_eq_decide_div_mod_eq];generalize s / 2 ^ a=q;rw[Z2];simp;omega);have E:=h_ e;clear e;go_enter func72,ntmps72;go_wp2;go_ret;exact⟨M2 E,rfl⟩
def qke:(prog.info? 141).map (λi=>(i.zero,i.size,i.bytes))=Sm (Sm (.int .u32 0),1,4):=by kernel_rfl
def qdx:prog.cellsOf 141=1:=by kernel_rfl
def zX (d a b w):(Op.equalIn (d+2) 143 (.agg #[.int .u32 a]) (.agg #[.int .u32 b])).run prog w=.ok (a==b) w:=by obtain⟨X,y,-⟩:=info_parts qke;rw[run_equalIn_array w (d+1) _ _ underlying143 y,qdx];simp[Op.eqItems,part,show List.range 1=[0] from rfl,run_equalIn_int w d 141 .u32 .u32 a b underlying141];cases h:a==b <;> simp_all
def hU {p:Prop}(h:p:=by go_wp2;go_ret;exact kZ):p:=h
def NL (s:Nat)(w):GZ 234 #[.agg #[.int .u32 s]] w λe j=>e=Rt (Bo (s==0))/\j=w.alloc (Cl #[.int .u32 (s:Int)] 143):=by have g:=λ(a b:Int) w=>zX 9998 a b w;have Y:((s:Int)==0)=(s==0):=(by rw[Z2];simp);go_enter func234,ntmps234;exact hU
def EU (s t:Nat)(w)(F:s<4294967296)(z:t<4294967296):Gv 232 #[.agg #[.int .u32 s],.agg #[.int .u32 t]] w (.agg (#[.int .u32 ((T7 s t:Nat):Int)])):=by go_enter func232,ntmps232;go_wp2_with fail;go_region_held3 (λj=>j.cell? (zw w 0)=Sm (.int .u32 (s:Int))/\j.cell? (zQ w 1 0)=Sm (.int .u32 (t:Int))) (simp[go_sem,World.cell?_alloc_past]) (first|(go_at_call 233;refine(IN _ _ _ (by first|assumption|exact yI F) (by first|assumption|exact yI F)).mono ?_;rintro e j ⟨rfl,rfl⟩));go_wp2;refine bodyPost_ret (v:=.agg (#[.int .u32 ((T7 s t:Nat):Int)])) (by simp[results,results232,go_sem,T7]) rfl ⟨rfl,?_⟩;refine Below.drew ?_;(iterate 9 refine Below.alloc ?_ gg _);exact bR _ _
def qov:∀n,n<33->((2:Int) ^ n - 1) % 4294967296=((2 ^ n - 1:Nat):Int):=by decide +kernel
def qos (n:Nat)(w)(F:n<=32):Gv 202 #[Yd n] w (.agg (#[.int .u32 ((2 ^ n - 1:Nat):Int)])):=by have E:=h_ (qov n fK);go_enter func202,ntmps202;go_wp2;refine bodyPost_ret (v:=.agg (#[.int .u32 ((2 ^ n - 1:Nat):Int)])) (by simp[results,results202,go_sem];rw[E.u]) rfl ⟨rfl,?_⟩;exact(bR _ w).alloc (nR _) _
def F3 (w:Tw):Prop:=∀j,j<32->w.cell? (Aq 1 j)=Sm (.int .u8 ((Lib.deBruijn32tab.getD j 0:Nat):Int))
def F3.pos {w}(h:F3 w):1<w.1.size:=by apply Ou;intro G;have:=h 0 fM;simp only[World.cell?]at this;rw[Ow gq]at this;cases this
def F3.mono {w w'}(h:F3 w)(c:Bw w w'):F3 w':=λj s=>(c.cell (p:=Aq 1 j) h.pos).trans (h j s)
def qsv (s:Nat)(F:s<4294967296)(G:s≠0):bits .and .u32 (s:Int) (-(s:Int) % 4294967296)=((2 ^ Lib.ctz 32 s:Nat):Int):=by rw[show -(s:Int) % 4294967296=((2 ^ 32 - s:Nat):Int) by omega,Lj s _ F fK,(Lib.lowest_bit 32 s G F).1]
def Ln (s:Nat)(w)(F:s<4294967296)(G:s≠0)(z:F3 w):GZ 289 #[.int .u32 s] w λe j=>e=Rt (Yd (Lib.ctz 32 s))/\j=w:=by have k:=(Lib.lowest_bit 32 s G F).2;obtain⟨O,c⟩:=Lib.deBruijn32_at _ k;have X:=qsv s F G;have M:=z _ O;rw[c]at M;obtain⟨e,b⟩:=Nq (Lib.ctz 32 s);obtain⟨p,f⟩:=Nq (2 ^ Lib.ctz 32 s);obtain⟨j,a⟩:=Nq (2 ^ Lib.ctz 32 s*125613361 % 4294967296 / 134217728);have u:(p:Int)*125613361 % 4294967296 / 134217728=(j:Int):=(by rw[<- a,f];omega);rw[a]at M O;rw[f]at X;rw[b]at M k|-;have d:((s:Int)==0)=Ff:=(by simp;omega);go_enter func289,ntmps289;exact hU
def Cb (s:Nat)(w)(F:s<4294967296)(G:s≠0)(z:F3 w):GZ 236 #[.agg #[.int .u32 s]] w λe j=>e=Rt (Yd (Lib.ctz 32 s))/\j=w.alloc (Cl #[.int .u32 (s:Int)] 143):=by have a:∀o,F3 (w.alloc o):=λo=>z.mono ((bR _ w).alloc (nR _) o);obtain⟨Y,Z⟩:=oB a G;go_enter func236,ntmps236;go_wp2_with (go_at_call 289;refine(Ln _ _ F Z (Y _)).mono ?_;rintro e j ⟨rfl,rfl⟩);go_ret;exact kZ
def us (g:Nat->Nat):Tl:=(List.range 32).map λk=>.int .u32 (g k:Int)
def lV (g):(us g).length=32:=by simp[us]
def YA (g){k}(h:k<32):(us g)[k]? = Sm (.int .u32 (g k:Int)):=by grind[us]
def wS (g){k}(v:Nat)(h:k<32):(us g).set k (.int .u32 (v:Int))=us (λj=>if j=k then v else g j):=by apply Gl;intro j;by_cases s:j<32;{rw[YA _ s];by_cases e:j=k;{subst e;rw[List.getElem?_set_self (by rw[lV];exact h)];simp};rw[List.getElem?_set_ne (λh=>e h.symm),YA _ s];simp[e]};rw[Vn (by simp[lV];omega),Vn (by rw[lV];omega)]
def xX (g):(us g).toArray.all (·.oneCell')=Tt:=by rw[Array.all_eq_true_iff_forall_mem];intro v D;simp only[us,List.mem_toArray,Y9]at D;obtain⟨k,-,rfl⟩:=D;rfl
def Fd:(prog.info? 228).map (·.size)=Sm 32:=by kernel_rfl
def PI (g):(prog.info? 228).map (·.size)=Sm (us g).toArray.size:=by simp[us,Fd]
section
variable {ops:Array Oper} {rest:List Oper} {o:Oper} {a:Act} {w:Tw} {Q:Exit->Act->Tw->Prop}
def AL (d:o.guard=Nn)(x)(V:o.op=.load 228 x)(b g)(t:a.eval x=Yg b 0)(c:m0 w b 228 (us g))
 (h:wpList prog ops Q rest (a.put o.dst (.agg (us g).toArray)) w):wpList prog ops Q (o :: rest) a w :=
 wpList_load_row d 228 x V b t 228 (us g).toArray (0,0) _ c underlying228 rfl (PI g) h
def AT (d:o.guard=Nn)(x y)(V:o.op=.store 228 x y)(b g g')(t:a.eval x=Yg b 0)(hy:a.eval y=.agg (us g').toArray)(c:m0 w b 228 (us g))
 (h:∀j,m0 j b 228 (us g')->w.grownBy j (Sm b)->j.1.size=w.1.size->wpList prog ops Q rest (a.put o.dst undef) j):wpList prog ops Q (o :: rest) a w :=
 wpList_plain d λ_ K=>wp_store_row 228 x y V b (us g').toArray t hy _ _ c (PI g') (by simp[us]) (xX g')
  (K _ _ (h _ (setRow_heap w b _ _ _ _ c) ⟨rfl,rfl,rfl,fN,λe _ k=>setRow_other w b e _ (λe=>k (by rw[e]))⟩ fN))
end
def JE {n x y:Nat}(t:x<n)(hy:y<n):x*n+y<n*n:=by have:(x+1)*n<=n*n:=Z4 _ t;rw[Z8]at this;omega
def BJ {n}(P:n<=32):n*n<=1024:=Ov P P
def YJ (a)(m c n x y:Nat)(f w)(g:n*n<=m)(t:x<n)(hy:y<n)(P:n<=32)(H:o9 w a m f):GZ 29 #[.slice a m c,Yd n,Yd x,Yd y] w λe j=>e=Rt (Bo (f (x*n+y)))/\j=w:=by have d:=JE t hy;have p:=BJ P;obtain⟨b,o,rfl,-,M⟩:=H (x*n+y) fK;have e:0<=(x:Int)*n:=(by rw[<- Zr];omega);have S:(x:Int)*n+y<m:=(by rw[<- Zr];omega);have q:(x:Int)*n<=1024:=(by rw[<- Zr];omega);go_enter func29,ntmps29;exact hU
def JK (p:Nat->Nat->Bool)(n a b c:Nat):Prop:=p a c=Tt/\p b c=Tt/\∀d,d<n->p a d=Tt->p b d=Tt->p c d=Tt
def AD (p:Nat->Nat->Bool)(n a b c:Nat):Bool:=p a c&&p b c&&(List.range n).all λd=>!p a d||!p b d||p c d
def KM {p n a b c}:AD p n a b c=Tt ↔ JK p n a b c:=by grind [AD,JK]
def SQ {p n a b c}(h:¬ JK p n a b c):AD p n a b c=Ff:=by grind [AD,JK]
def BC (f:Nat->Bool)(n a b c:Nat):Prop:=JK (λx y=>f (x*n+y)) n a b c
def qJ (f:Nat->Bool)(n a b c:Nat):Bool:=AD (λx y=>f (x*n+y)) n a b c
def Ia {f n a b c}:qJ f n a b c=Tt ↔ BC f n a b c:=KM
def q7n {f n a b c}(h:BC f n a b c):qJ f n a b c=Tt:=KM.2 h
def Sy {f n a b c}(h:¬ BC f n a b c):qJ f n a b c=Ff:=SQ h
def CC (f:Nat->Bool)(n a b c:Nat):Prop:=JK (λx y=>f (y*n+x)) n a b c
def rJ (f:Nat->Bool)(n a b c:Nat):Bool:=AD (λx y=>f (y*n+x)) n a b c
def Ka {f n a b c}:rJ f n a b c=Tt ↔ CC f n a b c:=KM
def q7p {f n a b c}(h:CC f n a b c):rJ f n a b c=Tt:=KM.2 h
def Ty {f n a b c}(h:¬ CC f n a b c):rJ f n a b c=Ff:=SQ h
def hh {p:Prop}(h:p:=by go_wp2_with (go_at_call 29;refine(YJ _ _ _ _ _ _ f _ l gM gM P z).mono ?_;rintro e j ⟨rfl,rfl⟩;rw[I.u]);go_ret;exact⟨M2 v.symm,rfl⟩):p:=h
def La {F p}(t m R n a b c f w)(C:n*n<=m)(P:n<=32)(H:a<n)(D:b<n)(M:c<n)(z:o9 w t m f) (B:(F=59/\∀x y,f (x*n+y)=p x y)\/F=60/\∀x y,f (y*n+x)=p x y):GZ F #[.slice t m R,Yd n,Yd a,Yd b,Yd c] w λe j=>e=Rt (Bo (AD p n a b c))/\j=w:=by have l:=h_ C;by_cases G:p a c=Tt/\p b c=Tt;{obtain⟨q,s⟩:=G;rcases B with ⟨rfl,g⟩|⟨rfl,g⟩;(case' inl=>go_enter func59,ntmps59);(case' inr=>go_enter func60,ntmps60);all_goals have I:=h_ g;clear g;go_wp2_with (go_at_call 29;refine(YJ _ _ _ _ _ _ f _ l gM gM P z).mono ?_;rintro e j ⟨rfl,rfl⟩;rw[I.u]);go_loop [11] (λi=>∃k:Nat,k<=n/\i=Yd k/\∀d,d<k->p a d=Tt->p b d=Tt->p c d=Tt) (λi=>n - (intOf i).toNat);exact⟨0,nZ _,rfl,λd h=>absurd h (nL _)⟩;obtain⟨k,J,rfl,y⟩:=hrel;have r:=h_ y;by_cases Y:k<n;{have i:(p a k=Tt/\p b k=Tt/\p c k=Ff)\/p a k=Ff\/(p a k=Tt/\p b k=Ff)\/(p a k=Tt/\p b k=Tt/\p c k=Tt):=(by cases p a k <;> cases p b k <;> cases p c k <;> simp);rcases i with ⟨o,S,x⟩|i;{have v:Hi (AD p n a b c=Ff):=SQ (λh=>Bool.false_ne_true (x.symm.trans (h.2.2 k Y o S)));exact hh};have E:Hi (∀d,d<k+1->p a d=Tt->p b d=Tt->p c d=Tt):=λd A=>(by by_cases e:d=k;{subst e;grind};exact r d fK);rcases i with o|⟨o,S⟩|⟨o,S,x⟩;all_goals go_wp2_with (go_at_call 29;refine(YJ _ _ _ _ _ _ f _ l gM gM P z).mono ?_;rintro e j ⟨rfl,rfl⟩;rw[I.u]);go_round;exact⟨k+1,fK,fP,E⟩;exact kv};have v:Hi (AD p n a b c=Tt):=KM.2 ⟨q,s,λd A=>r d fK⟩;go_wp2;go_ret;exact⟨M2 v.symm,rfl⟩};have v:Hi (AD p n a b c=Ff):=SQ λh=>G ⟨h.1,h.2.1⟩;have i:p a c=Ff\/(p a c=Tt/\p b c=Ff):=(by cases e:p a c <;> cases d:p b c <;> simp_all);rcases i with q|⟨q,s⟩;all_goals rcases B with ⟨rfl,g⟩|⟨rfl,g⟩;(case' inl=>go_enter func59,ntmps59);(case' inr=>go_enter func60,ntmps60);all_goals have I:=h_ g;clear g;exact hh
def qT (w:Tw)(N I c t):m0 (((w.alloc (Cl c t)).alloc N).alloc I) w.1.size t c.toList:=((m0.new w t c).alloc N).alloc I
def rT (w:Tw)(m N c g)(h:c.toList=us g):m0 (((w.alloc m).alloc N).alloc (Cl c 228)) (w.1.size+1+1) 228 (us g):=by rw[<- h];simpa using m0.new ((w.alloc m).alloc N) 228 c
def tT (w:Tw)(m I c g)(h:c.toList=us g):m0 (((w.alloc m).alloc (Cl c 228)).alloc I) (w.1.size+1) 228 (us g):=by rw[<- h];simpa using (m0.new (w.alloc m) 228 c).alloc I
def QK (w m N I):Bw w (((w.alloc m).alloc N).alloc I):=(((bR _ w).alloc (nR _) m).alloc fN N).alloc fQ I
def A4 (g:Nat->Nat)(R:Nat->Nat->Bool):Prop:=∀a,a<32->g a<4294967296/\∀b,(g a).testBit b=R a b
def qtz (b i):(2 ^ b).testBit i=decide (b=i):=by grind
def A4.add {g R}(h:A4 g R){x y}(t:x<32)(hy:y<32):A4 (λj=>if j=x then g x ||| 2 ^ y else g j) (λa b=>R a b||(decide (a=x)&&decide (b=y))):=λa H=>by by_cases e:a=x;{subst e;simp only[if_true];refine⟨wJ (h a H).1 (GE hy),λb=>?_⟩;rw[Gn,(h a H).2 b,qtz];cases R a b <;> simp[eq_comm]};simp only[Ys e];refine⟨(h a H).1,λb=>?_⟩;rw[(h a H).2 b];simp[e]
def A4.congr {g R e}(h:A4 g R)(p:∀a b,a<32->R a b=e a b):A4 g e:=λa H=>⟨(h a H).1,λb=>((h a H).2 b).trans (p a b H)⟩
def part (f:Nat->Bool)(n i:Nat):Nat->Nat->Bool:=λa b=>decide (b<n)&&decide (a*n+b<i)&&f (a*n+b)
end
section
open Go Go.RowKit Go.Shelf Go.Proofs.Tryz
attribute [local go_sem] Oper.semAt_some
def F3.keep {X W W'}(h:F3 W)(k:Q5 X W W')(E:¬ X 1):F3 W':=λj s=>by have G:=h j s;unfold World.cell? at G|-;simp only at G|-;cases e:W.heap[1]? with|none=>rw[e]at G;cases G|some o=>cases o with|cells cs t fr=>rw[k.same 1 cs t fr E e];rw[e]at G;exact G|_=>rw[e]at G;cases G
def lP (w:Tw):Value->Nat
 | .pointer (Sm a)=>match w.cell? a with|some (.int _ v)=>v.toNat|_=>0
 | _=>0
def WQ {w b v k}(h:w.cell? (Aq b 0)=Sm (.int k (v:Int))):lP w (Yg b 0)=v:=by grind[lP]
def Ch {s}(F:s<4294967296)(G:s≠0):Lib.ctz 32 s<32/\s.testBit (Lib.ctz 32 s)=Tt:=by obtain⟨m,p⟩:=Lib.lowest_bit 32 s G F;refine⟨p,?_⟩;have:(s &&& (2 ^ 32 - s)).testBit (Lib.ctz 32 s)=Tt:=(by rw[m];simp);rw[Nat.testBit_and,Yr]at this;exact this.1
def q8c {s x}(F:s<4294967296)(t:x<32)(h:s.testBit x=Tt):V7 s (2 ^ x)<s:=by apply Nat.lt_of_le_of_ne Nat.and_le_left;intro e;have p:=IL F (GE t) x;rw[show V7 s (2 ^ x)=s from e,h]at p;simp at p
def q8d {s x}(F:s<4294967296)(t:x<32)(i):(V7 s (2 ^ x)).testBit i=Tt ↔ s.testBit i=Tt/\i≠x:=by grind[V7,IL,GE]
def F3.at0 {w w'}(h:F3 w)(e:w'.heap[1]? = w.heap[1]?):F3 w':=λj s=>(World.cell?_of_block (a:=Aq 1 j) e).trans (h j s)
def q88 (N A R m a I X v t)(b:N<=R)(Q:N<=A.1.size):m0 ((((((A.alloc m).alloc a).alloc I).alloc X).setCell (Aq R 0) v).alloc (Cl #[v] t)).drew (A.1.size+1+1+1+1) t [v]/\Below N A ((((((A.alloc m).alloc a).alloc I).alloc X).setCell (Aq R 0) v).alloc (Cl #[v] t)).drew:=by constructor;{have:=m0.new (((((A.alloc m).alloc a).alloc I).alloc X).setCell (Aq R 0) v) t #[v];simp only[World.size_setCell,Yz]at this;exact this};exact((((kC A m a I X).mono Q).setCell (p:=Aq R 0) b v).alloc fQ _).drew
def n_ (Bs s:Nat)(Q X)(hs:s<4294967296)(k:m0 Q Bs 143 [.int .u32 (s:Int)])(ht:F3 Q)(aa:¬ X 1):SS prog 288 #[Yg Bs 0] (λx=>x<32/\s.testBit x=Tt) (λB=>∀i,i∈B ↔ s.testBit i=Tt) (λj=>∀i∈j,s.testBit i=Tt) X Q:=by intro ak au z Jx W n L ao hX hY G;have H:=k.mono n k.lt;have o:=ht.mono n;have D:=H.cell 0;simp only[Yi]at D;have V:=o.pos;have I:=h_ hY;refine callsIn_of_wp func288 rfl trivial ?_ rfl;simp only[ntmps288,Zq,Y4,Ze,Nat.reduceAdd,Nat.reduceSub,Vt,Vs,Oc,Vw,Od,Vh];gi_wp2;have r:Bw W (W.alloc (Cl #[.int .u32 (s:Int)] 143)):=Bq;have ag:=m0.new W 143 #[.int .u32 (s:Int)];gi_loopw [3] (λp wr=>∃(R rest:Nat) (j:List Nat),p=Yg R 0/\W.1.size<=R/\m0 wr R 143 [.int .u32 (rest:Int)]/\F3 wr/\z j wr/\W.1.size<=wr.1.size/\rest<4294967296/\(∀i,s.testBit i=Tt ↔ i∈j\/rest.testBit i=Tt)) (λp wr=>lP wr p);exact⟨W.1.size,s,[],rfl,nR _,ag,o.mono r,L _ _ _ G r,r.size,hs,λi=>fN⟩;obtain⟨R,rest,j,rfl,K,N,o,hj,q,O,ac⟩:=hrel;have c1:=N.cell 0;simp only[Yi]at c1;obtain⟨f,Y,J,T⟩:=oD N o hj ac;have af:=N.lt;by_cases b:rest=0;{subst b;have aj:((0:Nat)==0)=Tt:=rfl;gi_wp2_with fail;refine wA ((NL _ _).mono ?_);rintro e Z ⟨rfl,rfl⟩;gi_wp2_with fail;go_end0;refine⟨⟨_,rfl⟩,.inl ⟨j,λi=>?_,L _ _ _ J (((bR wr.1.size _).alloc (nR _) _).mono q)⟩⟩;rw[T.u i];simp};have aj:(rest==0)=Ff:=(by simpa using b);have p:=Ch O b;have d:=Cb rest (wr.alloc (Cl #[.int .u32 (rest:Int)] 143)) O b (Y.mono (Bq));obtain⟨x,hx⟩:=Nq (Lib.ctz 32 rest);rw[hx]at p d;have w:=h_ d;have a:=p.1;have F:=h_ p.2;have l:Bw wr ((wr.alloc (Cl #[.int .u32 (rest:Int)] 143)).alloc (Cl #[.int .u32 (rest:Int)] 143)):=(Bq).alloc fN _;have ai:=I (ak - 1) j x _ (L _ _ _ J (l.mono q)) ⟨a,(T x).2 (.inr F)⟩;have U:=h_ l;obtain⟨fn,av,am,an,hy,P⟩:=ai;have M:=h_ P;gi_wp2_with fail;refine wA ((NL _ _).mono ?_);rintro e Z ⟨rfl,rfl⟩;gi_wp2_with fail;refine wA (w.mono ?_);rintro e Z ⟨rfl,rfl⟩;gi_wp2_with fail;refine⟨mJ,M.mono ?_⟩;rintro e A (⟨rfl,ad,c⟩|⟨rfl,ae⟩);{have N:=c.blk (f.mono U af) (λh=>Fq (hX R h));have S:=(Y.mono U).keep c aa;have aq:wr.1.size<=A.1.size:=Yt U.size c.size;have c2:=N.cell 0;simp only[Yi]at c2;have f2:=N.free 0;have d:=N.lt;have C:=N.cell4 0;have F4:=N.free4 0;simp only[Yi]at C;obtain⟨al,y,v⟩:=oC N S ad;have ap:prog.follows .mixedOrders=Tt:=fL;have ah:=yI (t:=2 ^ x) O;have E:=GE a;gi_wp2_with fail;gi_region_with_o (first|(refine wA ((II _ _ a).mono ?_);rintro e w' ⟨rfl,rfl⟩)|(refine wA ((IN _ _ _ O E).mono ?_);rintro e w' ⟨rfl,rfl⟩));all_goals gi_wp2_with fail;have B:=q88 W.1.size A R (Cl (#[.int .u32 ((2 ^ x:Nat):Int)]) 143) (Cl #[.int .u32 (rest:Int)] 143) (Cl (#[.int .u32 ((2 ^ x:Nat):Int)]) 143) (Cl (#[.int .u32 ((V7 rest (2 ^ x):Nat):Int)]) 143) (.int .u32 ((V7 rest (2 ^ x):Nat):Int)) 143 K fK;simp only[Gw,Gk]at B;refine⟨⟨A.1.size+1+1+1+1,V7 rest (2 ^ x),j++[x],rfl,fK,B.1,y.at0 (B.2.block 1 V),L _ _ _ v B.2,Fq B.2.size,ah,λi=>?_⟩,?_⟩;{rw[T.u i,q8d O a,Zb,Y7];have g:=F.u;by_cases e:i=x;{subst e;simp[g]};simp[e]};have m:=B.1.cell 0;have g:=f.cell 0;simp only[Yi]at m g;rw[WQ m,WQ g];exact q8c O a F};gi_wp2_with fail;refine bodyPost_ret (results_none rfl _ _ _) rfl ⟨⟨_,rfl⟩,.inr ⟨j++[x],λi y=>?_,ae⟩⟩;rw[T.u i];rcases Zb.1 y with h|h;{exact .inl h};rw[Y7.1 h];exact .inr F
def Ab (s:Nat)(w):GZ 231 #[.agg #[.int .u32 (s:Int)]] w λe j=>e=Rt (.func (.func 288) #[] #[Yg w.1.size 0])/\j=w.alloc (Cl #[.int .u32 (s:Int)] 143):=by go_enter func231,ntmps231;exact hU
attribute [local go_sem] Oper.semAt_some
def A7 (g:Nat->Nat)(a b:Nat):Prop:=∀C:Nat->Prop,C a->(∀x y,C x->x<32->(g x).testBit y=Tt->C y)->C b
def A7.refl (g a):A7 g a a:=λ_ h _=>h
def A7.step {g a x y}(h:A7 g a x)(t:x<32)(hy:(g x).testBit y=Tt):A7 g a y:=λC G F=>F x y (h C G F) t hy
structure sH (g:Nat->Nat)(a todo done:Nat)(pre:List Nat):Prop where
 t32:todo<4294967296
 d32:done<4294967296
 came:∀i,i∈pre ↔ done.testBit i=Tt
 apart:∀i,todo.testBit i=Tt->done.testBit i=Ff
 reach:∀i,(todo.testBit i=Tt\/done.testBit i=Tt)->A7 g a i
 start:todo.testBit a=Tt\/done.testBit a=Tt
 shut:∀x y,done.testBit x=Tt->(g x).testBit y=Tt->todo.testBit y=Tt\/done.testBit y=Tt
def sH.init (g:Nat->Nat)(a:Nat)(H:a<32):sH g a (2 ^ a) 0 [] where
 t32:=GE H
 d32:=fM
 came:=λi=>fN
 apart:=λi _=>fN
 reach:=λi h=>by
  rw[Oe]at h;simp at h;subst h;exact A7.refl _ _
 start:=.inl fN
 shut:=λx y h=>by simp at h
def sH.next {g a n done x l}(h:sH g a n done l)(C:∀a,a<32->g a<4294967296)(t:x<32)(d:n.testBit x=Tt):sH g a (V7 (n ||| g x) (done ||| 2 ^ x)) (done ||| 2 ^ x) (l++[x]):=by have e:=wJ h.t32 (C x t);have N:=wJ h.d32 (GE t);have tb:∀i,(V7 (n ||| g x) (done ||| 2 ^ x)).testBit i=((n.testBit i||(g x).testBit i)&&!(done.testBit i||decide (x=i))):=λi=>(by rw[IL e N,Gn,Gn,Oe]);have c:∀i,(done ||| 2 ^ x).testBit i=(done.testBit i||decide (x=i)):=λi=>(by rw[Gn,Oe]);refine⟨yI e,N,λi=>?_,λi y=>?_,λi y=>?_,?_,λf z b j=>?_⟩;{rw[Zb,Y7,h.came i,c,Zm,decide_eq_true_iff];exact or_congr_right ⟨Eq.symm,Eq.symm⟩};{rw[tb]at y;rw[c];simp at y|-;exact y.2};{rw[tb,c]at y;cases o:(done.testBit i||decide (x=i));{rw[o]at y;simp at y;rcases y with y|y;{exact h.reach i (.inl y)};exact(h.reach x (.inl d)).step t y};simp at o;rcases o with o|o;{exact h.reach i (.inr o)};subst o;exact h.reach x (.inl d)};{rw[tb,c];cases o:(done.testBit a||decide (x=a));{simp at o;rcases h.start with F|F;{simp[F]};rw[F]at o;simp at o};exact .inr rfl};rw[tb,c];rw[c]at b;cases o:(done.testBit z||decide (x=z));{simp at o b;rcases b with b|b;{rcases h.shut f z b j with m|m;{simp[m]};rw[m]at o;simp at o};subst b;simp[j]};exact .inr rfl
def sH.finish {g a done l}(h:sH g a 0 done l):∀i,i∈l ↔ A7 g a i:=λi=>by rw[h.came i];constructor;{exact λy=>h.reach i (.inr y)};intro O;refine O (λi=>done.testBit i=Tt) ?_ ?_;{rcases h.start with F|F;{simp at F};exact F};intro x y t _ b;rcases h.shut x y t b with m|m;{simp at m};exact m
def qt5 {n x}(h:n.testBit x=Ff):n<n ||| 2 ^ x:=by apply Nat.lt_of_le_of_ne Nat.left_le_or;intro e;have:(n ||| 2 ^ x).testBit x=Tt:=(by rw[Gn,Oe];simp);rw[<- e,h]at this;cases this
def gZ {p:Prop}(h:p:=by exact⟨(h.mono d h.lt).set 0 v,((Q5.of_below d).trans (Q5.set (X:=λj=>j=n) (a:=Aq n 0) v rfl)).trans ⟨nR _,λ_ _ _ _ _ h=>h⟩,λB e f=>((d.mono fK).setCell (p:=Aq n 0) e v).drew⟩):p:=h
def qnd {W' n c}(h:m0 W' n 143 [c])(v m N I b):m0 (((((W'.alloc m).alloc N).alloc I).alloc b).setCell (Aq n 0) v).drew n 143 [v]/\Q5 (λj=>j=n) W' (((((W'.alloc m).alloc N).alloc I).alloc b).setCell (Aq n 0) v).drew /\ (∀B,B<=n->n<W'.1.size->Below B W' (((((W'.alloc m).alloc N).alloc I).alloc b).setCell (Aq n 0) v).drew):=by have d:=kC W' m N I b;exact gZ
def kfh (w m N I X L M):Bw w ((((((w.alloc m).alloc N).alloc I).alloc X).alloc L).alloc M):=((kC w m N I X).alloc fQ L).alloc fQ M
def qh7 {W' n c}(h:m0 W' n 143 [c])(v m N I b L M):m0 (((((((W'.alloc m).alloc N).alloc I).alloc b).alloc L).alloc M).setCell (Aq n 0) v).drew n 143 [v]/\Q5 (λj=>j=n) W' (((((((W'.alloc m).alloc N).alloc I).alloc b).alloc L).alloc M).setCell (Aq n 0) v).drew /\ (∀B,B<=n->n<W'.1.size->Below B W' (((((((W'.alloc m).alloc N).alloc I).alloc b).alloc L).alloc M).setCell (Aq n 0) v).drew):=by have d:=kfh W' m N I b L M;exact gZ
def q6r (w Bs a:Nat)(g Q X)(V:a<32)(Y:∀a,a<32->g a<4294967296)(H:m0 Q w 3 [Yd (a:Int)])(K:m0 Q Bs 228 (us g))(ht:F3 Q)(av:¬ X Bs)(au:¬ X 1):SS prog 235 #[Yg w 0,Yg Bs 0] (λx=>x<32) (λB=>∀i,i∈B ↔ A7 g a i) (λ_=>True) X Q:=by intro aA aG ah Jx W q L aE T hY h0;have hT:=ht.mono q;have bA:=H.mono q H.lt;have M:=K.mono q K.lt;have c0:=bA.cell 0;simp only[Yi]at c0;have HY:=h_ hY;refine callsIn_of_wp func235 rfl trivial ?_ rfl;simp only[ntmps235,Zq,Y4,Ze,Nat.reduceAdd,Nat.reduceSub,Vt,Vs,Oc,Vw,Od,Vh];gi_wp2_with fail;refine wA ((II _ _ V).mono ?_);rintro e Z ⟨rfl,rfl⟩;gi_wp2_with fail;have E:=(m0.new (W.alloc (Cl (#[.int .u32 ((2 ^ a:Nat):Int)]) 143)) 143 (#[.int .u32 ((2 ^ a:Nat):Int)])).alloc (Cl #[.int .u32 0] 143);have k:=m0.new ((W.alloc (Cl (#[.int .u32 ((2 ^ a:Nat):Int)]) 143)).alloc (Cl (#[.int .u32 ((2 ^ a:Nat):Int)]) 143)) 143 #[.int .u32 0];have S:=QK W (Cl (#[.int .u32 ((2 ^ a:Nat):Int)]) 143) (Cl (#[.int .u32 ((2 ^ a:Nat):Int)]) 143) (Cl #[.int .u32 0] 143);simp only[Yz,Gw,Gk]at E k S;gi_loopw [6] (λ_ wr=>∃(D done:Nat) (j:List Nat),m0 wr (W.1.size+1) 143 [.int .u32 (D:Int)]/\m0 wr (W.1.size+1+1) 143 [.int .u32 (done:Int)]/\m0 wr Bs 228 (us g)/\F3 wr/\ah j wr/\sH g a D done j) (λ_ wr=>4294967296 - lP wr (Yg (W.1.size+1+1) 0));exact⟨2 ^ a,0,[],by simpa using E,k,M.mono S M.lt,hT.mono S,L _ _ _ h0 S,sH.init g a V⟩;have lS:=M.lt;obtain⟨D,done,j,h,R,am,ap,hj,hw⟩:=hrel;have c1:=h.cell 0;simp only[Yi]at c1;have n:=hw.t32;have sD:=R.lt;have sT:=h.lt;have K1:=λo=>(h.alloc o).cell 0;simp only[Yi]at K1;have ac:W.1.size<=wr.1.size:=fK;obtain⟨F,o,y,z,J,O⟩:=oF h R am ap hj hw;by_cases l:D=0;{subst l;have az:((0:Nat)==0)=Tt:=rfl;gi_wp2_with fail;refine wA ((NL _ _).mono ?_);rintro e Z ⟨rfl,rfl⟩;gi_wp2_with fail;go_end0;exact⟨⟨_,rfl⟩,.inl ⟨j,O.finish,L _ _ _ J (((bR wr.1.size _).alloc (nR _) _).mono ac)⟩⟩};have az:(D==0)=Ff:=(by simpa using l);have r:=Ch n l;have aa:=Cb D (wr.alloc (Cl #[.int .u32 (D:Int)] 143)) n l (z.mono (Bq));obtain⟨x,hx⟩:=Nq (Lib.ctz 32 D);rw[hx]at r aa;have ae:=h_ aa;have f:=r.1;have A:=h_ r.2;have P:Bw wr ((wr.alloc (Cl #[.int .u32 (D:Int)] 143)).alloc (Cl #[.int .u32 (D:Int)] 143)):=(Bq).alloc fN _;have ay:=HY (aA - 1) j x _ (L _ _ _ J (P.mono ac)) f;have U:=h_ P;obtain⟨fn,aH,aC,aD,hy,al⟩:=ay;have af:=h_ al;gi_wp2_with fail;refine wA ((NL _ _).mono ?_);rintro e Z ⟨rfl,rfl⟩;gi_wp2_with fail;refine wA (ae.mono ?_);rintro e Z ⟨rfl,rfl⟩;gi_wp2_with fail;refine⟨mJ,af.mono ?_⟩;rintro e W3 (⟨rfl,aw,i⟩|⟨rfl,ax⟩);{have E:=i.blk (F.mono U F.lt) (λb=>Fq (T _ b));have k:=i.blk (o.mono U o.lt) (λb=>Fq (T _ b));have M:=i.blk (y.mono U y.lt) av;have an:=(z.mono U).keep i au;have C:=O.d32;have c2:=k.cell 0;simp only[Yi]at c2;have f2:=k.free 0;have l2:=k.lt;have K4:=k.cell4 0;have F4:=k.free4 0;simp only[Yi]at K4;have aF:prog.follows .mixedOrders=Tt:=fL;have x2:=GE f;obtain⟨BT,BD,BS,ag,ad⟩:=oG E k M an aw;gi_wp2_with fail;gi_region_with_o (first|(refine wA ((II _ _ f).mono ?_);rintro e v ⟨rfl,rfl⟩)|(refine wA ((LN _ _ _ C x2).mono ?_);rintro e v ⟨rfl,rfl⟩));all_goals gi_wp2_with fail;have B:=qnd BD (.int .u32 ((done ||| 2 ^ x:Nat):Int)) (Cl (#[.int .u32 ((2 ^ x:Nat):Int)]) 143) (Cl #[.int .u32 (done:Int)] 143) (Cl (#[.int .u32 ((2 ^ x:Nat):Int)]) 143) (Cl (#[.int .u32 ((done ||| 2 ^ x:Nat):Int)]) 143);simp only[Gw,Gk]at B;obtain⟨c,N,d⟩:=B;have d:=d W.1.size fK l2;obtain⟨p,aq⟩:=Nq ((((((W3.alloc (Cl #[.int .u32 (2 ^ x)] 143)).alloc (Cl #[.int .u32 (done:Int)] 143)).alloc (Cl #[.int .u32 (2 ^ x)] 143)).alloc (Cl (#[.int .u32 ((done ||| 2 ^ x:Nat):Int)]) 143)).setCell (Aq (W.1.size+1+1) 0) (.int .u32 ((done ||| 2 ^ x:Nat):Int))).drew);rw[aq]at c N d|-;have E:=N.blk BT fK;have M:=N.blk BS fK;have ao:=ag.keep N fK;have ak:=L _ _ _ ad d;have G:=Y x f;have cT:=E.cell 0;have cD:=c.cell 0;have cS:=M.cell x;simp only[Yi]at cT cD;rw[YA g f]at cS;have ai:=λm b I=>(c.mono (QK p m b I) c.lt).cell 0;have aj:=λm b I s t u=>(E.mono (kfh p m b I s t u) E.lt).cell 0;have aB:=λm b I s t u=>(E.mono (kfh p m b I s t u) E.lt).free 0;simp only[Yi]at ai aj;have m:=wJ n G;have b:=wJ C x2;have lT:=E.lt;have aI:(0:Int)<=x:=fK;have aJ:(x:Int)<32:=fK;obtain⟨u,I,B3,B4,B5⟩:=oG c E M ao ak;gi_region_with_o (first|(refine wA ((LN _ _ _ n G).mono ?_);rintro e v ⟨rfl,rfl⟩)|(refine wA ((IN _ _ _ m b).mono ?_);rintro e v ⟨rfl,rfl⟩));all_goals gi_wp2_with fail;have B:=qh7 I (.int .u32 ((V7 (D ||| g x) (done ||| 2 ^ x):Nat):Int)) (Cl #[.int .u32 (D:Int)] 143) (Cl #[.int .u32 (g x:Int)] 143) (Cl (#[.int .u32 ((D ||| g x:Nat):Int)]) 143) (Cl (#[.int .u32 ((D ||| g x:Nat):Int)]) 143) (Cl (#[.int .u32 ((done ||| 2 ^ x:Nat):Int)]) 143) (Cl (#[.int .u32 ((V7 (D ||| g x) (done ||| 2 ^ x):Nat):Int)]) 143);obtain⟨c,N,d⟩:=B;have k:=N.blk u fK;refine⟨⟨_,_,j++[x],c,k,N.blk B3 fK,B4.keep N fK,L _ _ _ B5 (d W.1.size fK lT),O.next Y f A⟩,?_⟩;have s:=k.cell 0;have t:=o.cell 0;simp only[Yi]at s t;rw[WQ s,WQ t];have:=qt5 (O.apart x A);omega};gi_wp2_with fail;exact bodyPost_ret (results_none rfl _ _ _) rfl ⟨⟨_,rfl⟩,.inr ⟨j++[x],trivial,ax⟩⟩
def qdc (g)(a:Nat)(w):GZ 205 #[.agg (us g).toArray,Yd (a:Int)] w λe j=>e=Rt (.func (.func 235) #[] #[Yg (w.1.size+1) 0,Yg w.1.size 0])/\j=(w.alloc (Cl (us g).toArray 228)).alloc (Cl #[Yd (a:Int)] 3):=by go_enter func205,ntmps205;exact hU
section
variable {n:Nat} {ops:Array Oper} {rest:List Oper} {o:Oper} {a:Act} {w:Tw} {Q:Exit->Act->Tw->Prop}
theorem yT (d:o.guard=none)(x)(V:o.op=.load 228 x)(b g)(t:a.eval x=.pointer (some (.mk b 0 .none)))(c:m0 w b 228 (us g))
 (h:wpListIn Fence.wide n prog ops Q rest (a.put o.dst (.agg (us g).toArray)) w):wpListIn Fence.wide n prog ops Q (o :: rest) a w :=
 wpListIn_plain d λ_ K=>⟨λ_ _=>trivial,by
  simp only[Fence.wide,Oper.semAt,execOp,V,t,Instr.loadAt,Instr.sureAddr,Sem.run_bind,Sem.run_pure,Result.andThen_ok,run_loadVar_row w b 228 228 (us g).toArray (0,0) _ c underlying228 rfl (PI g)];exact K _ _ h⟩
def IP (d:o.guard=Nn)(x y)(V:o.op=.store 228 x y)(b g g')(t:a.eval x=Yg b 0)(hy:a.eval y=.agg (us g').toArray)(c:m0 w b 228 (us g))
 (h:∀j,m0 j b 228 (us g')->w.grownBy j (Sm b)->j.1.size=w.1.size->wpListIn Fence.wide n prog ops Q rest (a.put o.dst undef) j):wpListIn Fence.wide n prog ops Q (o :: rest) a w :=
 wpListIn_plain d λ_ K=>⟨λ_ _=>trivial,by
  simp only[Fence.wide,Oper.semAt,execOp,V,t,hy,Instr.storeAt,Instr.sureAddr,Sem.run_bind,Sem.run_pure,Result.andThen_ok,run_storeVar_row w b 228 228 _ (us g').toArray c (PI g') (by simp[us]) (xX g')];exact K _ _ (h _ (setRow_heap w b _ _ _ _ c) ⟨rfl,rfl,rfl,fN,λe _ k=>setRow_other w b e _ (λe=>k (by rw[e]))⟩ fN)⟩
end
def XS (Ds:List Nat):List Deferred:=Ds.map λD=>{ target:=.collected D,args:=#[] }
def zA (B:Nat)(W:Tw)(Ds:List Nat):Prop:=Ds.Nodup/\∀D∈Ds,B<=D/\W.heap[D]? = Sm (.deferred (Sm []))
def zA.nil (B W):zA B W []:=⟨List.nodup_nil,λ_ h=>gD⟩
def zA.keep {B W W' l}(h:zA B W l)(k:KeepsOthers W W'):zA B W' l:=⟨h.1,λD A=>⟨(h.2 D A).1,k.same D _ (h.2 D A).2 rfl⟩⟩
def zA.below {B N W W' l}(h:zA B W l)(c:Below N W W')(b:∀D∈l,D<N):zA B W' l:=⟨h.1,λD A=>⟨(h.2 D A).1,(c.block D (b D A)).trans (h.2 D A).2⟩⟩
def zA.lt {B W l}(h:zA B W l):∀D∈l,D<W.1.size:=λD A=>(Yp.1 (h.2 D A).2).1
def zA.cons {B D W l}(h:zA B W l)(A:B<=D)(b:W.heap[D]? = Sm (.deferred (Sm [])))(P:D ∉ l):zA B W (D :: l) :=
 ⟨Ol.2 ⟨P,h.1⟩,λE v=>by
  rcases Vc.1 v with rfl|v
  . exact⟨A,b⟩
  . exact h.2 E v⟩
def nU {P:Program}{c:Func}{d:Ta}{R:Ending->Tw->Prop}{n B:Nat}:∀(x:List Nat) (W:Tw),zA B W x -> (∀C,Q5 (λ_=>False) W C->Below B W C->∃v,(results c d).run P C=.ok v C/\R (Rt v) C)->LeavesInM Fence.wide n P c d R (XS x) .returning W|[],W,_,h=>h W (Q5.refl _ _) (bR _ _)|D :: x,W,hs,h=>by have b:=hs.2 D (Zk ..);refine⟨fN,.inl ⟨D,_,rfl,run_takeDeferred b.2,nU x _ ⟨(Ol.1 hs.1).2,λE v=>?_⟩ λC f e=>h C ((Q5.put b.2 rfl).trans f) ((VJ _ D _ b.1).trans e)⟩⟩;have u:=hs.2 E (Z5 _ v);exact⟨u.1,(World.putObj_heap_other (k:=E) (r:=D) (λe=>(Ol.1 hs.1).1 (by rw[<- e];exact v))).trans u.2⟩
def Pf {W' k x f}(h:m0 W' k 228 (us f))(t:x<32)(u:Nat)(m N I b):KeepsOthers W' (((((W'.alloc m).alloc N).alloc I).alloc b).setCell (Aq k x) (.int .u32 (u:Int))).drew/\Q5 (λj=>j=k) W' (((((W'.alloc m).alloc N).alloc I).alloc b).setCell (Aq k x) (.int .u32 (u:Int))).drew /\ m0 (((((W'.alloc m).alloc N).alloc I).alloc b).setCell (Aq k x) (.int .u32 (u:Int))).drew k 228 (us λj=>if j=x then u else f j) /\ (∀B,B<=k->k<W'.1.size->Below B W' (((((W'.alloc m).alloc N).alloc I).alloc b).setCell (Aq k x) (.int .u32 (u:Int))).drew):=by have c:=kC W' m N I b;refine⟨(tJ c).trans ((KeepsOthers.setCell _ _ _).trans (KeepsOthers.drew _)),((Q5.of_below c).trans (Q5.set (X:=λj=>j=k) (a:=Aq k x) (.int .u32 (u:Int)) rfl)).trans ⟨nR _,λ_ _ _ _ _ h=>h⟩,?_,λB d e=>((c.mono fK).setCell (p:=Aq k x) d _).drew⟩;rw[<- wS f u t];exact(h.mono c h.lt).set x _
end
section
open Go Go.RowKit Go.Proofs.Tryz
def hE {p:Prop}(h:p:=by go_enter func198,ntmps198;go_wp2;go_ret;exact⟨M2 gg,rfl⟩):p:=h
theorem WP (a n w)(G:0<=a)(h1:a<n):GZ 198 (Jr a n) w λe j=>e=Rt (Bo Tt)/\j=w:=by exact hE
theorem JU (a n w)(h:a<0\/n<=a):GZ 198 (Jr a n) w λe j=>e=Rt (Bo Ff)/\j=w:=by by_cases G:0<=a;{have m:n<=a:=fK;exact hE};clear h;exact hE
def Bk (w:Tw)(g:Nat)(t:TypeId)(n:Nat):Prop:=∃cs,m0 w g t cs/\cs.length=n
def Bk.lt {w g n t}(h:Bk w g t n):g<w.1.size:=h.elim λ_ h=>h.1.lt
def Bk.mono {w w' B g n t}(h:Bk w g t n)(c:Below B w w')(C:g<B):Bk w' g t n:=h.elim λk h=>⟨k,h.1.mono c C,h.2⟩
def Bk.keep {w w' g n t}(h:Bk w g t n)(a:w'.heap[g]? = w.heap[g]?):Bk w' g t n:=h.elim λk h=>⟨k,a.trans h.1,h.2⟩
def Bk.other {w g n R t}(h:Bk w g t n)(p:g≠R)(j v):Bk (w.setCell (Aq R j) v) g t n:=h.elim λk h=>⟨k,h.1.other v p,h.2⟩
def Bk.set {w g n t}(h:Bk w g t n)(j v):Bk (w.setCell (Aq g j) v) g t n:=h.elim λk h=>⟨k.set j v,h.1.set j v,by rw[Vk];exact h.2⟩
def Bk.cell {w g n j t}(h:Bk w g t n)(s:j<n):∃v,w.cell? (Aq g j)=Sm v:=h.elim λk h=>⟨_,(h.1.cell j).trans (Ym (by rw[h.2];exact s))⟩
def Bk.free {w g n t}(h:Bk w g t n)(j):w.frozen? (Aq g j)=Ff:=h.elim λ_ h=>h.1.free j
structure ZB (lo hi:Nat)(W W':Tw):Prop where
 out:E7 lo hi W W'
 bk:∀g t n,Bk W g t n->Bk W' g t n
def ZB.refl (lo hi W):ZB lo hi W W:=⟨E7.refl _ _ _,λ_ _ _ h=>h⟩
def ZB.trans {lo hi A B C}(h:ZB lo hi A B)(k:ZB lo hi B C):ZB lo hi A C:=⟨h.out.trans k.out,λg t n c=>k.bk g t n (h.bk g t n c)⟩
def ZB.below {lo hi W W'}(h:Bw W W'):ZB lo hi W W':=⟨⟨h.os,h.tape,h.output,h.size,λb c _=>h.block b c⟩,λ_ _ _ c=>c.mono h c.lt⟩
def ZB.set {lo hi g W}(j v)(h1:lo<=g)(p:g<hi):ZB lo hi W (W.setCell (Aq g j) v) :=
 ⟨E7.set (a:=Aq g j) v h1 p,λb c q c=>by
  by_cases e:b=g
  . subst e;exact c.set j v
  . exact c.other e j v⟩
def ZB.lower {lo n hi W W'}(h:ZB lo hi W W')(e:n<=lo):ZB n hi W W':=⟨h.out.mono e,h.bk⟩
def Bk.cell_ne {w g n p q t}(h:Bk w g t n)(Z:p≠q)(v):(w.setCell (Aq g p) v).cell? (Aq g q)=w.cell? (Aq g q):=by obtain⟨k,m,-⟩:=h;rw[(m.set p v).cell q,m.cell q,List.getElem?_set_ne Z]
