import Derived.Test.YtcnjbclpncidnaaGreatDoorW00
import Derived.RangeFuncNested
import Derived.RangeFuncBound
import Derived.Shelf.RegionOpen
import Derived.OwnWalkIn
import Derived.LoopNIn
import Derived.LoopIn
import Derived.Laws.DeepBits32
import Derived.Lib.TrailingZeros
import Derived.Deep.WholeRow
set_option linter.all false
set_option maxRecDepth 100000
set_option maxHeartbeats 0
namespace Go.Proofs.YtcnjbclpncidnaaGreatDoor
open Value renaming slice->Sl,bool->Bo
open Obj renaming cells->Cl
open Ending renaming returned->Rt
open Option renaming none->Nn,some->Sm
open Bool renaming true->Tt,false->Ff
section
open Go Go.RowKit Go.Proofs.Tryz
def mZ {D:Type}{f g:Nat->D}{k}(h:∀j,j<k->f j=g j)(Y:f k=g k):∀j,j<k+1->f j=g j:=λj y=>by by_cases e:j=k;{rw[e];exact Y};exact h j dN
def Sg {a b:Int}(h:(a != b)=Ff):a=b:=by grind
def Tg {a b:Int}(h:(a != b)=Tt):¬ a=b:=by grind
def Lq (a b f g n X t w)(d:L6 w a n f)(e:L6 w b n g)(l:n<=140737488355328):Gv 177 #[Sl a n X,Sl b n t] w (Bo (rL n f g)):=by go_enter func177,ntmps177;go_wp2;go_loopw [5] (λi wr=>∃k:Nat,k<=n/\i=Yj k/\(∀j,j<k->f j=g j)/\∃n,wr=w.drewN n) (λi _=>n - (intOf i).toNat);exact⟨0,nZ _,rfl,λj h=>absurd h (nL _),0,rfl⟩;obtain⟨k,i,rfl,y,m,rfl⟩:=hrel;have c:=h_ y;by_cases R:k<n;{obtain⟨q,o,rfl,-,K⟩:=d k R;obtain⟨C,p,rfl,-,h⟩:=e k R;go_wp2;(go_quiet (fail));go_wp2;{have M:(f k != g k)=Tt:=eT;go_ret;exact⟨O1 (Ks k R (Tg M)).symm,⟨rfl,rfl,rfl,nR _,λ_ _=>rfl⟩⟩};have M:(f k != g k)=Ff:=eT;go_roundw;exact⟨k+1,dN,dR,mZ c (Sg M),_,rfl⟩;exact kq};go_wp2;go_ret;exact⟨O1 (vY λj h=>c j dN).symm,⟨rfl,rfl,rfl,nR _,λ_ _=>rfl⟩⟩
def bs (n:Nat)(f:Nat->Bool):Tl:=(List.range n).map λk=>Bo (f k)
def is (n:Nat)(f:Nat->Int):Tl:=(List.range n).map λk=>.int .i64 (f k)
def nY {n}{xs:Tl}{g}(P:xs.length=n)(h:∀j,j<n->xs[j]? = Sm (g j)):xs=(List.range n).map g:=by apply List.ext_getElem?;intro j;by_cases y:j<n;{rw[h j y];simp[y]};rw[Vv dN,Vv dS]
def j0.bools {w g n t f}(h:j0 w g t (bs n f)):uC w (Sm (Aq g 0)) n f:=λk a =>
 ⟨g,0,rfl,h.lt,by rw[Z9,h.cell];simp[bs,a]⟩
def j0.ints {w g n t f}(h:j0 w g t (is n f)):L6 w (Sm (Aq g 0)) n f:=λk a =>
 ⟨g,0,rfl,h.lt,by rw[Z9,h.cell];simp[is,a]⟩
def NY:(prog.info? 4).map (λi=>(i.zero,i.size,i.bytes))=Sm (Sm (Bo Ff),1,1):=by kernel_rfl
def TO:(prog.info? 3).map (λi=>(i.zero,i.size,i.bytes))=Sm (Sm (Yj 0),1,8):=by kernel_rfl
end
section
open Go Go.RowKit Go.Shelf Go.Proofs.Tryz
def JM {β:Type}(B:Nat)(J:β->Tw->Prop):Prop:=∀s W W',J s W->Below B W W'->J s W'
structure B7 (X:Nat->Prop)(W W':Tw):Prop where
 size:W.1.size<=W'.1.size
 same:∀k cs t fr,¬ X k->W.heap[k]? = Sm (Cl cs t fr)->W'.heap[k]? = Sm (Cl cs t fr)
def B7.refl (X W):B7 X W W:=⟨nR _,λ_ _ _ _ _ h=>h⟩
def B7.trans {X w B C}(h:B7 X w B)(k:B7 X B C):B7 X w C:=⟨Y9 h.size k.size,λi o t j r a=>k.same i o t j r (h.same i o t j r a)⟩
def B7.put {X W l o c}(P:W.heap[l]? = Sm o)(Z:o.isCells=Ff):B7 X W (W.putObj l c) :=
 ⟨dQ,λk a t j _ n=>by
  by_cases e:k=l
  . subst e;rw[P]at n;cases n;simp[Obj.isCells]at Z
  . exact(World.putObj_heap_other e).trans n⟩
def B7.of_below {X W W'}(h:Below W.1.size W W'):B7 X W W' :=
 ⟨h.size,λk _ _ _ _ n=>(h.block k (Y3.1 n).1).trans n⟩
def B7.set {X W a}(v)(r:X a.block):B7 X W (W.setCell a v) :=
 ⟨dQ,λk _ _ _ n h=>(heap_setCell_other W a k v (λe=>n (e ▸ r))).trans h⟩
def B7.blk {X W W' g t x}(h:B7 X W W')(c:j0 W g t x)(H:¬ X g):j0 W' g t x:=h.same g _ t _ H c
def ZP {W W'}(h:Below W.1.size W W'):KeepsOthers W W':=⟨h.size,λk _ n _=>(h.block k (Y3.1 n).1).trans n⟩
def j0.put {W g l t x}(h:j0 W g t x){o}(c)(P:W.heap[l]? = Sm o)(Z:o.isCells=Ff):j0 (W.putObj l c) g t x:=(B7.put (X:=λ_=>False) P Z).same g _ t _ (λh=>h) h
def yQ (P:Program)(gf:Nat)(lb:Ta)(T:Nat->Prop)(S Sp:List Nat->Prop)(X:Nat->Prop)(w0:Tw):Prop :=
 ∀(n l:Nat) (J Jx:List Nat->Tw->Prop) (W:Tw),Below w0.1.size w0 W->JM W.1.size J->JM W.1.size Jx->(∀k,X k->k<W.1.size) ->
  (∀(m:Nat) (pre:List Nat) (x:Nat) (W1:Tw),J pre W1->T x->YieldAt Fence.wide m P l #[Yj (x:Int)] W1 λe W' =>
   (e=Rt (Bo Tt)/\J (pre++[x]) W'/\B7 X W1 W')\/(e=Rt (Bo Ff)/\Jx (pre++[x]) W')) ->
  J [] W ->
  CallsIn Fence.wide n P gf (#[.func (.yield l) #[] #[]]++lb) W λe W'=>(∃v,e=Rt v)/\((∃xs,S xs/\J xs W')\/(∃pre,Sp pre/\Jx pre W'))
def qH {n}:Fence.wide.depth.isSome=Tt->1<=n:=λh=>by simp[Fence.wide]at h
def L9 {P f args w R n}(h:Calls P f args w R):Fence.wide.fn f/\(Fence.wide.depth.isSome=Tt->1<=n)/\CallsIn Fence.wide (n - 1) P f args w R :=
 ⟨trivial,qH,callsIn_wide.2 h⟩
def yH {P f args w R n l}(h:Calls P f args w R):(Fence.wide.inRound l).fn f/\((Fence.wide.inRound l).depth.isSome=Tt->1<=n)/\CallsIn (Fence.wide.inRound l) (n - 1) P f args w R :=
 ⟨trivial,qH,CallsIn.inRound l (callsIn_wide.2 h)⟩
def Td (X:Nat->Prop)(I Ix:List Nat->Tw->Prop)(xs:List Nat)(W:Tw):Exit->Act->Tw->Prop
 | .normal,_,W'=>KeepsOthers W W'/\B7 X W W'/\I xs W'
 | .ret,_,W'=>KeepsOthers W W'/\Ix xs W'
 | _,_,_=>False
def WI {B}(W l o)(h:B<=l):Below B W (W.putObj l o) :=
 ⟨rfl,rfl,rfl,dQ,λ_ n=>World.putObj_heap_other dN⟩
def fN {p:Prop}(h:p:=by exact(Below.heap_alloc _ _ _ dQ).trans this):p:=h
def xS {P g q assign body Q a w n gf lb}
 (hg:a.eval g=.func (.func gf) #[] lb) (eg:∀args w,(callFunc gf args).run P w=.ok (.enter gf args) w)
 {T S t X W} (ah:yQ P gf lb T S t X W) (H:Below W.1.size W w) (hX:∀i,X i->i<w.1.size) (ag:q.size=1)
 (I s) (U:JM w.1.size I) (C:JM w.1.size s) (h0:I [] w) (u:Nat->Act)
 (aa:∀(p l x:Nat) (b:Tw) (K:Act->Tw->Prop),K (u x) b ->
  assign.wpIn (Fence.wide.inRound l) p P (Exit.then K (λ_ _ _=>False)) { tmps:=(q.zip #[Yj (x:Int)]).foldl (λO (e,R)=>O.setIfInBounds e R) a.tmps,defers:=[] } b)
 (ab:∀(p l:Nat) (d:List Nat) (x:Nat) (b:Tw),I d b->T x->body.wpIn (Fence.wide.inRound l) p P (Td X I s (d++[x]) b) (u x) b)
 (ad:∀(D:Nat) (v:List Nat) (b:Tw),w.1.size<=D->S v->I v b->b.heap[D]? = Sm (.deferred (Sm []))->Q .normal { a with defers:={ target:=.collected D,args:=#[] } :: a.defers } b)
 (ai:∀(D:Nat) (d:List Nat) (b:Tw),w.1.size<=D->t d->s d b->b.heap[D]? = Sm (.deferred (Sm []))->Q .ret { a with defers:={ target:=.collected D,args:=#[] } :: a.defers } b) :
 (Code.rangeFunc g q assign body).wpIn Fence.wide n P Q a w:=by
 refine wpIn_rangeFunc λfn _=>?_;obtain⟨D,f⟩:=Nq w.1.size;obtain⟨mk,z⟩:∃mk:LoopState->Option Code->Loop,mk=λh e=>{ state:=h,pending:=e,fn,tmps:=a.tmps,params:=q,assign,body,defers:=D }:=⟨_,rfl⟩;obtain⟨m,V⟩:=Nq ((w.alloc (.deferred (Sm []))).alloc (.loop (mk .ready Nn)));have Z:m.1.size=D+1+1:=by rw[<- V];simp[f]
 have y:Below D w m:=by rw[<- V,<- f];exact((bR _ w).alloc (nR _) _).alloc dQ _
 have ae:m.heap[D+1]? = Sm (.loop (mk .ready Nn)):=by
  have:=World.alloc_heap_new (w.alloc (.deferred (Sm []))) (.loop (mk .ready Nn));rw[Y7,f,V]at this;exact this
 have ac:m.heap[D]? = Sm (.deferred (Sm [])):=by
  have:=World.alloc_heap_new w (.deferred (Sm []));rw[<- V,<- f];exact fN
 have B:=run_enterLoop_outer (P:=P) (w:=w) fn a.tmps q assign body;rw[f]at B;refine⟨D+1,[{ target:=.collected D,args:=#[] }],m,{ target:=.fn (.func gf) lb,args:=#[.func (.yield (D+1)) #[] #[]] },m,gf,#[.func (.yield (D+1)) #[] #[]]++lb,m,?_,?_,?_,?_,λh=>by simp[Fence.wide]at h,?_⟩
 . rw[<- V,z];exact B
 . simp only[resolve,hg];simp[go_sem]
 . intro _ _;trivial
 . simp[invoke,go_sem,eg]
 have F:∀v b l e,D<=l->I v b->I v (b.putObj l e):=λv b l e h k=>U v b _ k (by rw[f];exact WI b l e h);have M:∀v b l e,D<=l->s v b->s v (b.putObj l e):=λv b l e h k=>C v b _ k (by rw[f];exact WI b l e h);refine(ah (n - 1) (D+1) (λd b=>I d b/\b.heap[D+1]? = Sm (.loop (mk .ready Nn))/\b.heap[D]? = Sm (.deferred (Sm [])))
  (λd b=>s d b/\b.heap[D+1]? = Sm (.loop (mk .done (Sm .ret)))/\b.heap[D]? = Sm (.deferred (Sm []))) m (H.trans ((f ▸ y:Below w.1.size w m).mono H.size)) ?_ ?_ (λi e=>Fq (hX i e)) ?_ ⟨U _ _ _ h0 (f ▸ y),ae,ac⟩).mono ?_
 . rintro v b Y ⟨h,e,j⟩ i
   rw[Z]at i;exact⟨U v b Y h (i.mono dN),(i.block _ dN).trans e,(i.block _ dN).trans j⟩
 . rintro v b Y ⟨h,e,j⟩ i
   rw[Z]at i;exact⟨C v b Y h (i.mono dN),(i.block _ dN).trans e,(i.block _ dN).trans j⟩
 . -- one round
   rintro p d x b ⟨k,e,j⟩ Y;have af:=(Y3.1 e).1;have N:=run_yield (P:=P) (args:=#[Yj (x:Int)]) e (by rw[z];simp[ag]);rw[z]at N;refine⟨fn,_,assign,body,N,roundIn_of_wpIn trivial (aa p _ x b _ ⟨_,run_beginRound e (by rw[z]),?_⟩)⟩;refine wpIn_mono (ab p _ d x _ (F _ _ _ _ dN k) Y) ?_;have K:=World.putObj_heap_same (w:=b) (o:=.loop { mk .ready Nn with state:=.busy }) af;have J:(b.putObj (D+1) (.loop { mk .ready Nn with state:=.busy })).heap[D]? = Sm (.deferred (Sm [])):=(World.putObj_heap_other dN).trans j;have aj:B7 X b (b.putObj (D+1) (.loop { mk .ready Nn with state:=.busy })):=B7.put e rfl;intro A a3 W3 l;cases A with
   | normal =>
    obtain⟨G,kx,L⟩:=l;have i:=G.same _ _ K rfl;have r:=G.same _ _ J rfl;have E:=run_endRound (P:=P) Nn i;rw[z]at E;refine⟨_,_,E,.inl ⟨rfl,⟨F _ _ _ _ dN L,?_,(World.putObj_heap_other dN).trans r⟩,(aj.trans kx).trans (B7.put i rfl)⟩⟩;rw[z];exact World.putObj_heap_same (Y3.1 i).1
   | ret =>
    obtain⟨G,L⟩:=l;have i:=G.same _ _ K rfl;have r:=G.same _ _ J rfl;have E:=run_endRound (P:=P) (Sm .ret) i;rw[z]at E;refine⟨_,_,E,.inr ⟨rfl,M _ _ _ _ dN L,?_,(World.putObj_heap_other dN).trans r⟩⟩;rw[z];exact World.putObj_heap_same (Y3.1 i).1
   | exit id=>exact l.elim
   | goto O=>exact l.elim
   | panic c=>exact l.elim
   | outgrown=>exact l.elim
 . -- behind the iterator
   rintro A p ⟨⟨R,rfl⟩,(⟨v,i,k,e,j⟩|⟨d,l,k,e,j⟩)⟩
   . have E:=run_endLoop (P:=P) e (by rw[z];simp)
     rw[z]at E;exact⟨Nn,_,E,ad D v _ dN i (F _ _ _ _ dN k) ((World.putObj_heap_other dN).trans j)⟩
   . have E:=run_endLoop (P:=P) e (by rw[z];simp)
     rw[z]at E;exact⟨Sm .ret,_,E,wpIn_ret (ai D d _ dN l (M _ _ _ _ dN k) ((World.putObj_heap_other dN).trans j))⟩
structure o8 (lo hi:Nat)(W W':Tw):Prop where
 os:W'.os=W.os
 tape:W'.tape=W.tape
 output:W'.output=W.output
 size:W.1.size<=W'.1.size
 block:∀b,b<W.1.size->¬ (lo<=b/\b<hi)->W'.heap[b]? = W.heap[b]?
def o8.mono {lo lo' hi W W'}(h:o8 lo hi W W')(P:lo'<=lo):o8 lo' hi W W':=⟨h.os,h.tape,h.output,h.size,λb c G=>h.block b c (λc=>G ⟨dN,c.2⟩)⟩
def o8.refl (lo hi W):o8 lo hi W W:=⟨rfl,rfl,rfl,nR _,λ_ _ _=>rfl⟩
def o8.trans {lo hi w B C}(h:o8 lo hi w B)(k:o8 lo hi B C):o8 lo hi w C:=⟨k.os.trans h.os,k.tape.trans h.tape,k.output.trans h.output,Y9 h.size k.size,λb c G=>(k.block b dZ G).trans (h.block b c G)⟩
def o8.set {lo hi W a}(v)(h1:lo<=a.block)(i:a.block<hi):o8 lo hi W (W.setCell a v):=⟨rfl,rfl,rfl,dQ,λb _ G=>heap_setCell_other W a b v (λe=>G ⟨dN,dN⟩)⟩
def o8.put {lo hi l}(W o)(h1:lo<=l)(i:l<hi):o8 lo hi W (W.putObj l o):=⟨rfl,rfl,rfl,dQ,λb _ G=>World.putObj_heap_other (λe=>G ⟨dN,dN⟩)⟩
def o8.below {lo hi B W W'}(h:o8 lo hi W W')(f:B<=lo)(J:B<=W.1.size):Below B W W':=⟨h.os,h.tape,h.output,h.size,λb c=>h.block b dN (λc=>by omega)⟩
def o8.blk {lo hi g W W' t x}(h:o8 lo hi W W')(c:j0 W g t x)(H:¬ (lo<=g/\g<hi)):j0 W' g t x:=(h.block g c.lt H).trans c
def o8.owns {lo hi base n k W W' e v xs}(h:o8 lo hi W W')(Z:W.ownsRow base e k v n xs)(s:∀q,v.ownBlock=Sm q->¬ (lo<=q/\q<hi)):W'.ownsRow base e k v n xs:=by refine⟨Z.1,?_⟩;rcases Z.2 with i|⟨g,q,p,j,c,H,r⟩;{exact .inl i};exact .inr ⟨g,q,p,j,c,(h.block g (Y3.1 H).1 (s g fH)).trans H,r⟩
structure rA (X:Nat->Prop)(hi:Nat)(W W':Tw):Prop where
 size:W.1.size<=W'.1.size
 same:∀k cs t fr,k<hi->¬ X k->W.heap[k]? = Sm (Cl cs t fr)->W'.heap[k]? = Sm (Cl cs t fr)
def rA.refl (X hi W):rA X hi W W:=⟨nR _,λ_ _ _ _ _ _ h=>h⟩
def rA.trans {X hi w B C}(h:rA X hi w B)(k:rA X hi B C):rA X hi w C:=⟨Y9 h.size k.size,λi o t j P r hi=>k.same i o t j P r (h.same i o t j P r hi)⟩
def rA.put {X hi l W o c}(P:W.heap[l]? = Sm o)(Z:o.isCells=Ff):rA X hi W (W.putObj l c) :=
 ⟨dQ,λk a t j _ _ n=>by
  by_cases e:k=l
  . subst e;rw[P]at n;cases n;simp[Obj.isCells]at Z
  . exact(World.putObj_heap_other e).trans n⟩
def rA.of_below {X hi B W W'}(h:Below B W W')(f:hi<=B):rA X hi W W':=⟨h.size,λk _ _ _ P _ n=>(h.block k dN).trans n⟩
def rA.set {X hi W a}(v)(r:X a.block):rA X hi W (W.setCell a v):=⟨dQ,λk _ _ _ _ n h=>(heap_setCell_other W a k v (λe=>n (e ▸ r))).trans h⟩
def rA.grown {X hi W W' row}(h:W.grownBy W' row)(E:∀q,row=Sm q->hi<=q\/X q):rA X hi W W' :=
 ⟨h.size,λk _ _ _ P r n=>(h.block k (Y3.1 n).1 (λe=>by
  rcases E k e.symm with j|j
  . omega
  . exact r j)).trans n⟩
def rA.blk {X hi g W W' t x}(h:rA X hi W W')(c:j0 W g t x)(H:g<hi)(r:¬ X g):j0 W' g t x:=h.same g _ t _ H r c
def rA.owns {X hi base n k W W' e v xs}(h:rA X hi W W')(Z:W.ownsRow base e k v n xs)(s:∀q,v.ownBlock=Sm q->q<hi/\¬ X q):W'.ownsRow base e k v n xs:=by refine⟨Z.1,?_⟩;rcases Z.2 with i|⟨g,q,p,j,c,H,r⟩;{exact .inl i};exact .inr ⟨g,q,p,j,c,h.same g p e _ (s g fH).1 (s g fH).2 H,r⟩
def CU (P:Program)(gf:Nat)(lb:Ta)(T:List Nat->Nat->Prop)(S:List Nat->Prop)(X:Nat->Prop)(w0:Tw):Prop :=
 ∀(n l:Nat) (J:Nat->List Nat->Tw->Prop) (W:Tw),Below w0.1.size w0 W->(∀hi pre W1 W2,J hi pre W1->o8 W.1.size hi W1 W2->J hi pre W2)->(∀W2,Below W.1.size W W2->J W2.1.size [] W2)->(∀k,X k->k<W.1.size) ->
  (∀(m hi:Nat) (pre:List Nat) (x:Nat) (W1:Tw),J hi pre W1->T pre x->YieldAt Fence.wide m P l #[Yj (x:Int)] W1 λe W'=>e=Rt (Bo Tt)/\J hi (pre++[x]) W'/\rA X hi W1 W') ->
  CallsIn Fence.wide n P gf (#[.func (.yield l) #[] #[]]++lb) W λe W'=>(∃v,e=Rt v)/\∃hi xs,S xs/\J hi xs W'
def Hc (X:Nat->Prop)(hi:Nat)(I:List Nat->Tw->Prop)(xs:List Nat)(W:Tw):Exit->Act->Tw->Prop
 | .normal,_,W'=>KeepsOthers W W'/\rA X hi W W'/\I xs W'
 | _,_,_=>False
def Ew {P g q assign body r a w n gf lb}
 (hg:a.eval g=.func (.func gf) #[] lb) (L:∀args w,(callFunc gf args).run P w=.ok (.enter gf args) w)
 {T S X W} (aj:CU P gf lb T S X W) (B:Below W.1.size W w) (O:∀e,X e->e<w.1.size) (ai:q.size=1)
 (I:Nat->List Nat->Tw->Prop) (U:∀d f b Y,I d f b->o8 w.1.size d b Y->I d f Y) (M:∀b,Below w.1.size w b->I b.1.size [] b) (t:Nat->Act)
 (aa:∀(k l x:Nat) (b:Tw) (K:Act->Tw->Prop),K (t x) b ->
  assign.wpIn (Fence.wide.inRound l) k P (Exit.then K (λ_ _ _=>False)) { tmps:=(q.zip #[Yj (x:Int)]).foldl (λH (p,J)=>H.setIfInBounds p J) a.tmps,defers:=[] } b)
 (K:∀(k l d:Nat) (f:List Nat) (x:Nat) (b:Tw),w.1.size<d->I d f b->T f x->body.wpIn (Fence.wide.inRound l) k P (Hc X d (I d) (f++[x]) b) (t x) b)
 (ad:∀(D d:Nat) (v:List Nat) (b:Tw),w.1.size<=D->D<d->S v->I d v b->b.heap[D]? = Sm (.deferred (Sm []))->r .normal { a with defers:={ target:=.collected D,args:=#[] } :: a.defers } b) :
 (Code.rangeFunc g q assign body).wpIn Fence.wide n P r a w:=by
 refine wpIn_rangeFunc λfn _=>?_;obtain⟨D,i⟩:=Nq w.1.size;obtain⟨mk,z⟩:∃mk:LoopState->Option Code->Loop,mk=λs p=>{ state:=s,pending:=p,fn,tmps:=a.tmps,params:=q,assign,body,defers:=D }:=⟨_,rfl⟩;obtain⟨m,V⟩:=Nq ((w.alloc (.deferred (Sm []))).alloc (.loop (mk .ready Nn)));have Z:m.1.size=D+1+1:=by rw[<- V];simp[i]
 have u:Below D w m:=by rw[<- V,<- i];exact((bR _ w).alloc (nR _) _).alloc dQ _
 have af:m.heap[D+1]? = Sm (.loop (mk .ready Nn)):=by
  have:=World.alloc_heap_new (w.alloc (.deferred (Sm []))) (.loop (mk .ready Nn));rw[Y7,i,V]at this;exact this
 have ab:m.heap[D]? = Sm (.deferred (Sm [])):=by
  have:=World.alloc_heap_new w (.deferred (Sm []));rw[<- V,<- i];exact fN
 have A:=run_enterLoop_outer (P:=P) (w:=w) fn a.tmps q assign body;rw[i]at A;refine⟨D+1,[{ target:=.collected D,args:=#[] }],m,{ target:=.fn (.func gf) lb,args:=#[.func (.yield (D+1)) #[] #[]] },m,gf,#[.func (.yield (D+1)) #[] #[]]++lb,m,?_,?_,?_,?_,λp=>by simp[Fence.wide]at p,?_⟩
 . rw[<- V,z];exact A
 . simp only[resolve,hg];simp[go_sem]
 . intro _ _;trivial
 . simp[invoke,go_sem,L]
 have F:∀d v b l h,D<=l->l<d->I d v b->I d v (b.putObj l h):=λd v b l h p j R=>U d v b _ R (by rw[i];exact o8.put b h p j);refine(aj (n - 1) (D+1) (λd f b=>I d f b/\D+1<d/\b.heap[D+1]? = Sm (.loop (mk .ready Nn))/\b.heap[D]? = Sm (.deferred (Sm []))) m (B.trans ((i ▸ u:Below w.1.size w m).mono B.size)) ?_ ?_ (λe h=>Fq (O e h)) ?_).mono ?_
 . rintro d v b Y ⟨p,Q,h,j⟩ e
   rw[Z]at e;exact⟨U d v b Y p (e.mono dN),Q,(e.block _ (Y3.1 h).1 dN).trans h,(e.block _ (Y3.1 j).1 dN).trans j⟩
 . intro s e
   have l:=e.size;rw[Z]at e l;refine⟨M s ?_,dN,(e.block _ dN).trans af,(e.block _ dN).trans ab⟩;rw[i];exact u.trans (e.mono dN)
 . -- one round
   rintro k d f x b ⟨R,Q,h,j⟩ N;have ah:=(Y3.1 h).1;have C:=run_yield (P:=P) (args:=#[Yj (x:Int)]) h (by rw[z];simp[ai]);rw[z]at C;refine⟨fn,_,assign,body,C,roundIn_of_wpIn trivial (aa k _ x b _ ⟨_,run_beginRound h (by rw[z]),?_⟩)⟩;refine wpIn_mono (K k _ d f x _ dN (F _ _ _ _ _ dN dN R) N) ?_;have ag:=World.putObj_heap_same (w:=b) (o:=.loop { mk .ready Nn with state:=.busy }) ah;have Y:(b.putObj (D+1) (.loop { mk .ready Nn with state:=.busy })).heap[D]? = Sm (.deferred (Sm [])):=(World.putObj_heap_other dN).trans j;have ak:rA X d b (b.putObj (D+1) (.loop { mk .ready Nn with state:=.busy })):=rA.put h rfl;intro y a3 W3 e;cases y with
   | normal =>
    obtain⟨G,kx,ae⟩:=e;have l:=G.same _ _ ag rfl;have ac:=G.same _ _ Y rfl;have E:=run_endRound (P:=P) Nn l;rw[z]at E;refine⟨_,_,E,rfl,⟨F _ _ _ _ _ dN dN ae,Q,?_,(World.putObj_heap_other dN).trans ac⟩,(ak.trans kx).trans (rA.put l rfl)⟩;rw[z];exact World.putObj_heap_same (Y3.1 l).1
   | ret=>exact e.elim
   | exit id=>exact e.elim
   | goto H=>exact e.elim
   | panic c=>exact e.elim
   | outgrown=>exact e.elim
 . -- behind the iterator
   rintro y s ⟨⟨J,rfl⟩,d,v,e,R,Q,h,j⟩;have E:=run_endLoop (P:=P) h (by rw[z];simp);rw[z]at E;exact⟨Nn,_,E,ad D d v _ dN dN e (F _ _ _ _ _ dN dN R) ((World.putObj_heap_other dN).trans j)⟩
end
section
open Go Go.RowKit Go.Proofs.Tryz
def N8 (s t:Nat):Nat:=s &&& (4294967295 - t)
def M8 (s t:Nat):Nat:=N8 s (N8 s t)
def DI {s t}(J:s<4294967296)(M:t<4294967296):s ||| t<4294967296:=Nat.or_lt_two_pow (n:=32) J M
theorem RH {s t}(J:s<4294967296):N8 s t<4294967296:=Nat.lt_of_le_of_lt Nat.and_le_left J
def UR {s t}(J:s<4294967296):M8 s t<4294967296:=RH J
theorem LE {a}(w:a<32):2 ^ a<4294967296:=Nat.pow_lt_pow_right dO w
def Ae {s i}(J:s<4294967296)(h:s.testBit i=Tt):i<32:=by apply Gf;intro X;have:s.testBit i=Ff:=Nat.testBit_lt_two_pow (Zc J (by have:2 ^ 32<=2 ^ i:=Oy dN X;simpa using this));exact Bool.false_ne_true (this.symm.trans h)
theorem oK {s t}(J:s<4294967296)(M:t<4294967296)(i):(N8 s t).testBit i=(s.testBit i&&!t.testBit i):=by unfold N8;rw[Nat.testBit_and,show 4294967295 - t=2 ^ 32 - (t+1) by omega,Nat.testBit_two_pow_sub_succ dN];cases h:s.testBit i;{simp};simp[Ae J h]
def JL {s t}(J:s<4294967296)(M:t<4294967296)(i):(M8 s t).testBit i=(s.testBit i&&t.testBit i):=by grind[M8,oK,RH]
def qR (n)(I:0<=n)(h1:n<4294967296):IntKind.u32.wrap n=n:=by exact uq
def Be (s t:Nat)(J:s<4294967296)(M:t<4294967296):bits .or .u32 (s:Int) (t:Int)=((s ||| t:Nat):Int):=by show IntKind.u32.wrap ((BitVec.ofInt 32 (s:Int) ||| BitVec.ofInt 32 (t:Int)).toNat:Int)=_;rw[BitVec.toNat_or,ofInt_u32 s J,ofInt_u32 t M];exact qR _ dN (Fq (DI J M))
def Cx (s t:Nat)(J:s<4294967296)(M:t<4294967296):bits .andNot .u32 (s:Int) (t:Int)=((N8 s t:Nat):Int):=by show IntKind.u32.wrap ((BitVec.ofInt 32 (s:Int) &&& ~~~BitVec.ofInt 32 (t:Int)).toNat:Int)=_;rw[BitVec.toNat_and,BitVec.toNat_not,ofInt_u32 s J,ofInt_u32 t M,show 2 ^ 32 - 1 - t=4294967295 - t by omega];exact qR _ dN (by have:=RH (t:=t) J;unfold N8 at this;omega)
def Ha (s t:Nat)(J:s<4294967296)(M:t<4294967296):bits .and .u32 (s:Int) (t:Int)=((s &&& t:Nat):Int):=by show IntKind.u32.wrap ((BitVec.ofInt 32 (s:Int) &&& BitVec.ofInt 32 (t:Int)).toNat:Int)=_;rw[BitVec.toNat_and,ofInt_u32 s J,ofInt_u32 t M];exact qR _ dN (by have:s &&& t<=s:=Nat.and_le_left;omega)
def XL (s t:Nat)(w)(J:s<4294967296)(M:t<4294967296):GZ 291 #[.agg #[.int .u32 s],.agg #[.int .u32 t]] w λe k=>e=Rt (.agg (#[.int .u32 ((s ||| t:Nat):Int)]))/\k=((w.alloc (Cl #[.int .u32 (s:Int)] 258)).alloc (Cl #[.int .u32 (t:Int)] 258)).alloc (Cl (#[.int .u32 ((s ||| t:Nat):Int)]) 258):=by have h:=Be s t J M;go_enter func291,ntmps291;go_wp2;refine bQ ⟨rfl,rfl⟩
def TL (s t:Nat)(w)(J:s<4294967296)(M:t<4294967296):GZ 311 #[.agg #[.int .u32 s],.agg #[.int .u32 t]] w λe k=>e=Rt (.agg (#[.int .u32 ((N8 s t:Nat):Int)]))/\k=((w.alloc (Cl #[.int .u32 (s:Int)] 258)).alloc (Cl #[.int .u32 (t:Int)] 258)).alloc (Cl (#[.int .u32 ((N8 s t:Nat):Int)]) 258):=by have h:=Cx s t J M;go_enter func311,ntmps311;go_wp2;refine bQ ⟨rfl,rfl⟩
def qrz {a}(w:a<32):(2:Int) ^ a % 4294967296=((2 ^ a:Nat):Int):=by rw[show(2:Int) ^ a=((2 ^ a:Nat):Int) by simp,show(4294967296:Int)=((4294967296:Nat):Int) from rfl,<- Int.natCast_emod,Vw (LE w)]
def jI (a:Nat)(w)(J:a<32):GZ 292 #[Yj a] w λe k=>e=Rt (.agg (#[.int .u32 ((2 ^ a:Nat):Int)]))/\k=w.alloc (Cl (#[.int .u32 ((2 ^ a:Nat):Int)]) 258):=by have W:=qrz J;go_enter func292,ntmps292;go_wp2;refine bQ ⟨rfl,dQ⟩
def qp9 (s a:Nat)(w)(J:s<4294967296)(M:a<32):GZ 310 #[.agg #[.int .u32 s],Yj a] w λe k=>e=Rt (Bo (s.testBit a))/\k=w.alloc (Cl #[.int .u32 (s:Int)] 258):=by have e:(bits .and .u32 ((s:Int) / 2 ^ a) 1==1)=s.testBit a:=(by rw[show(s:Int) / 2 ^ a=((s / 2 ^ a:Nat):Int) by simp,show(1:Int)=((1:Nat):Int) from rfl,Ha _ 1 (Nat.lt_of_le_of_lt (Nat.div_le_self _ _) J) dO];rw[Nat.and_one_is_mod,Nat.testBit_eq_decide_div_mod_eq];generalize s / 2 ^ a=q;rw[Zv];simp;omega);have E:=h_ e;clear e;go_enter func310,ntmps310;go_wp2;go_ret;exact⟨O1 E,rfl⟩
def qj8:(prog.info? 256).map (λi=>(i.zero,i.size,i.bytes))=Sm (Sm (.int .u32 0),1,4):=by kernel_rfl
def Ey:prog.cellsOf 256=1:=by kernel_rfl
def LU (d a b w):(Op.equalIn (d+2) 258 (.agg #[.int .u32 a]) (.agg #[.int .u32 b])).run prog w=.ok (a==b) w:=by obtain⟨c,X,-⟩:=info_parts qj8;rw[run_equalIn_array w (d+1) _ _ underlying258 X,Ey];simp[Op.eqItems,part,show List.range 1=[0] from rfl,run_equalIn_int w d 256 .u32 .u32 a b underlying256];cases h:a==b <;> simp_all
def tK (s:Nat)(w):GZ 312 #[.agg #[.int .u32 s]] w λe k=>e=Rt (Bo (s==0))/\k=w.alloc (Cl #[.int .u32 (s:Int)] 258):=by have c:=λ(a b:Int) w=>LU 9998 a b w;have Y:((s:Int)==0)=(s==0):=(by rw[Zv];simp);go_enter func312,ntmps312;go_wp2;go_ret;exact kw
def VR (s t:Nat)(w)(J:s<4294967296)(M:t<4294967296):Gv 309 #[.agg #[.int .u32 s],.agg #[.int .u32 t]] w (.agg (#[.int .u32 ((M8 s t:Nat):Int)])):=by go_enter func309,ntmps309;go_wp2_with fail;go_region_held3 (λk=>k.cell? (zw w 0)=Sm (.int .u32 (s:Int))/\k.cell? (zQ w 1 0)=Sm (.int .u32 (t:Int))) (simp[go_sem,World.cell?_alloc_past]) (first|(go_at_call 311;refine(TL _ _ _ (by first|assumption|exact RH J) (by first|assumption|exact RH J)).mono ?_;rintro e k ⟨rfl,rfl⟩));go_wp2;refine bodyPost_ret (v:=.agg (#[.int .u32 ((M8 s t:Nat):Int)])) (by simp[results,results309,go_sem,M8]) rfl ⟨rfl,?_⟩;refine Below.drew ?_;(iterate 9 refine Below.alloc ?_ eC _);exact bR _ _
def qnl:∀n,n<33->((2:Int) ^ n - 1) % 4294967296=((2 ^ n - 1:Nat):Int):=by decide +kernel
def qnj (n:Nat)(w)(J:n<=32):Gv 288 #[Yj n] w (.agg (#[.int .u32 ((2 ^ n - 1:Nat):Int)])):=by have E:=h_ (qnl n dN);go_enter func288,ntmps288;go_wp2;refine bodyPost_ret (v:=.agg (#[.int .u32 ((2 ^ n - 1:Nat):Int)])) (by simp[results,results288,go_sem];rw[E.u]) rfl ⟨rfl,?_⟩;exact(bR _ w).alloc (nR _) _
def j5 (w:Tw):Prop:=∀j,j<32->w.cell? (Aq 7 j)=Sm (.int .u8 ((Lib.deBruijn32tab.getD j 0:Nat):Int))
def j5.pos {w}(h:j5 w):7<w.1.size:=by apply Gf;intro I;have:=h 0 dO;simp only[World.cell?]at this;rw[Gh (by simpa using I)]at this;cases this
def j5.mono {w w'}(h:j5 w)(c:Bw w w'):j5 w':=λj y=>(c.cell (p:=Aq 7 j) h.pos).trans (h j y)
def qra (s:Nat)(J:s<4294967296)(I:s≠0):bits .and .u32 (s:Int) (-(s:Int) % 4294967296)=((2 ^ Lib.ctz 32 s:Nat):Int):=by rw[show -(s:Int) % 4294967296=((2 ^ 32 - s:Nat):Int) by omega,Ha s _ J dN,(Lib.lowest_bit 32 s I J).1]
def Ce (s:Nat)(w)(J:s<4294967296)(I:s≠0)(M:j5 w):GZ 330 #[.int .u32 s] w λe k=>e=Rt (Yj (Lib.ctz 32 s))/\k=w:=by have n:=(Lib.lowest_bit 32 s I J).2;obtain⟨k,m⟩:=Lib.deBruijn32_at _ n;have g:=qra s J I;have v:=M _ k;rw[m]at v;obtain⟨b,u⟩:=Nq (Lib.ctz 32 s);obtain⟨p,W⟩:=Nq (2 ^ Lib.ctz 32 s);obtain⟨j,y⟩:=Nq (2 ^ Lib.ctz 32 s*125613361 % 4294967296 / 134217728);have c:(p:Int)*125613361 % 4294967296 / 134217728=(j:Int):=(by rw[<- y,W];omega);rw[y]at v k;rw[W]at g;rw[u]at v n|-;have a:((s:Int)==0)=Ff:=(by simp;omega);go_enter func330,ntmps330;go_wp2;go_ret;exact kw
def oY (s:Nat)(w)(J:s<4294967296)(I:s≠0)(M:j5 w):GZ 314 #[.agg #[.int .u32 s]] w λe k=>e=Rt (Yj (Lib.ctz 32 s))/\k=w.alloc (Cl #[.int .u32 (s:Int)] 258):=by have N:∀o,j5 (w.alloc o):=λo=>M.mono ((bR _ w).alloc (nR _) o);obtain⟨v,n⟩:=oB N I;go_enter func314,ntmps314;go_wp2_with (go_at_call 330;refine(Ce _ _ J n (v _)).mono ?_;rintro e k ⟨rfl,rfl⟩);go_ret;exact kw
def us (g:Nat->Nat):Tl:=(List.range 32).map λk=>.int .u32 (g k:Int)
def AS (g):(us g).length=32:=by simp[us]
def BB (g){k}(h:k<32):(us g)[k]? = Sm (.int .u32 (g k:Int)):=by grind[us]
def lQ (g){k}(v:Nat)(h:k<32):(us g).set k (.int .u32 (v:Int))=us (λj=>if j=k then v else g j):=by apply List.ext_getElem?;intro j;by_cases y:j<32;{rw[BB _ y];by_cases e:j=k;{subst e;rw[Gx (by rw[AS];exact h)];simp};rw[Oz (λh=>e h.symm),BB _ y];simp[e]};rw[Vv (by simp[AS];omega),Vv (by rw[AS];omega)]
def KU (g):(us g).toArray.all (·.oneCell')=Tt:=by rw[Array.all_eq_true_iff_forall_mem];intro v b;simp only[us,List.mem_toArray,Zo]at b;obtain⟨k,-,rfl⟩:=b;rfl
def XY:(prog.info? 260).map (·.size)=Sm 32:=by kernel_rfl
def mI (g):(prog.info? 260).map (·.size)=Sm (us g).toArray.size:=by simp[us,XY]
section
variable {ops:Array Oper} {rest:List Oper} {o:Oper} {a:Act} {w:Tw} {Q:Exit->Act->Tw->Prop}
def XJ (H:o.guard=Nn)(x)(Z:o.op=.load 260 x)(b g)(r:a.eval x=Ym b 0)(c:j0 w b 260 (us g))
 (h:wpList prog ops Q rest (a.put o.dst (.agg (us g).toArray)) w):wpList prog ops Q (o :: rest) a w :=
 wpList_load_row H 260 x Z b r 260 (us g).toArray (0,0) _ c underlying260 rfl (mI g) h
def jR (H:o.guard=Nn)(x y)(Z:o.op=.store 260 x y)(b g O)(r:a.eval x=Ym b 0)(hy:a.eval y=.agg (us O).toArray)(c:j0 w b 260 (us g))
 (h:∀k,j0 k b 260 (us O)->w.grownBy k (Sm b)->k.1.size=w.1.size->wpList prog ops Q rest (a.put o.dst undef) k):wpList prog ops Q (o :: rest) a w :=
 wpList_plain H λ_ I=>wp_store_row 260 x y Z b (us O).toArray r hy _ _ c (mI O) (by simp[us]) (KU O)
  (I _ _ (h _ (setRow_heap w b _ _ _ _ c) ⟨rfl,rfl,rfl,dQ,λk _ n=>setRow_other w b k _ (λe=>n (by rw[e]))⟩ dQ))
end
def OE {n x y:Nat}(r:x<n)(hy:y<n):x*n+y<n*n:=by have:(x+1)*n<=n*n:=Gc _ r;rw[Ob]at this;omega
def KI {n}(G:n<=32):n*n<=1024:=Nat.mul_le_mul G G
def XI (a)(m c n x y:Nat)(f w)(g:n*n<=m)(r:x<n)(hy:y<n)(G:n<=32)(b:uC w a m f):GZ 166 #[Sl a m c,Yj n,Yj x,Yj y] w λe k=>e=Rt (Bo (f (x*n+y)))/\k=w:=by have j:=OE r hy;have i:=KI G;obtain⟨d,o,rfl,-,v⟩:=b (x*n+y) dN;have D:0<=(x:Int)*n:=(by rw[<- Z5];omega);have e:(x:Int)*n+y<m:=(by rw[<- Z5];omega);have Q:(x:Int)*n<=1024:=(by rw[<- Z5];omega);go_enter func166,ntmps166;go_wp2;go_ret;exact kw
def xJ (p:Nat->Nat->Bool)(n a b c:Nat):Prop:=p a c=Tt/\p b c=Tt/\∀d,d<n->p a d=Tt->p b d=Tt->p c d=Tt
def RD (p:Nat->Nat->Bool)(n a b c:Nat):Bool:=p a c&&p b c&&(List.range n).all λd=>!p a d||!p b d||p c d
def TK {p n a b c}:RD p n a b c=Tt ↔ xJ p n a b c:=by grind [RD,xJ]
def UO {p n a b c}(h:¬ xJ p n a b c):RD p n a b c=Ff:=by grind [RD,xJ]
def jD (f:Nat->Bool)(n a b c:Nat):Prop:=xJ (λx y=>f (x*n+y)) n a b c
def yI (f:Nat->Bool)(n a b c:Nat):Bool:=RD (λx y=>f (x*n+y)) n a b c
def ZX {f n a b c}:yI f n a b c=Tt ↔ jD f n a b c:=TK
def Dr {f n a b c}(h:jD f n a b c):yI f n a b c=Tt:=TK.2 h
def Mo {f n a b c}(h:¬ jD f n a b c):yI f n a b c=Ff:=UO h
def kD (f:Nat->Bool)(n a b c:Nat):Prop:=xJ (λx y=>f (y*n+x)) n a b c
def zI (f:Nat->Bool)(n a b c:Nat):Bool:=RD (λx y=>f (y*n+x)) n a b c
def iY {f n a b c}:zI f n a b c=Tt ↔ kD f n a b c:=TK
def Er {f n a b c}(h:kD f n a b c):zI f n a b c=Tt:=TK.2 h
def No {f n a b c}(h:¬ kD f n a b c):zI f n a b c=Ff:=UO h
def fM {p:Prop}(h:p:=by go_wp2_with (go_at_call 166;refine(XI _ _ _ _ _ _ f _ l eT eT G o).mono ?_;rintro e j ⟨rfl,rfl⟩;rw[g.u]);go_ret;exact⟨O1 i.symm,rfl⟩):p:=h
def jY {F p}(t m z n a b c f w)(A:n*n<=m)(G:n<=32)(B:a<n)(C:b<n)(E:c<n)(o:uC w t m f) (v:(F=217/\∀x y,f (x*n+y)=p x y)\/F=218/\∀x y,f (y*n+x)=p x y):GZ F #[Sl t m z,Yj n,Yj a,Yj b,Yj c] w λe j=>e=Rt (Bo (RD p n a b c))/\j=w:=by have l:=h_ A;by_cases I:p a c=Tt/\p b c=Tt;{obtain⟨q,s⟩:=I;rcases v with ⟨rfl,W⟩|⟨rfl,W⟩;(case' inl=>go_enter func217,ntmps217);(case' inr=>go_enter func218,ntmps218);all_goals have g:=h_ W;clear W;go_wp2_with (go_at_call 166;refine(XI _ _ _ _ _ _ f _ l eT eT G o).mono ?_;rintro e j ⟨rfl,rfl⟩;rw[g.u]);go_loop [11] (λi=>∃k:Nat,k<=n/\i=Yj k/\∀d,d<k->p a d=Tt->p b d=Tt->p c d=Tt) (λi=>n - (intOf i).toNat);exact⟨0,nZ _,rfl,λd h=>absurd h (nL _)⟩;obtain⟨k,H,rfl,x⟩:=hrel;have Y:=h_ x;by_cases R:k<n;{have M:(p a k=Tt/\p b k=Tt/\p c k=Ff)\/p a k=Ff\/(p a k=Tt/\p b k=Ff)\/(p a k=Tt/\p b k=Tt/\p c k=Tt):=(by cases p a k <;> cases p b k <;> cases p c k <;> simp);rcases M with ⟨D,r,Q⟩|M;{have i:Hi (RD p n a b c=Ff):=UO (λh=>Bool.false_ne_true (Q.symm.trans (h.2.2 k R D r)));exact fM};have K:Hi (∀d,d<k+1->p a d=Tt->p b d=Tt->p c d=Tt):=λd y=>(by by_cases e:d=k;{subst e;grind};exact Y d dN);rcases M with D|⟨D,r⟩|⟨D,r,Q⟩;all_goals go_wp2_with (go_at_call 166;refine(XI _ _ _ _ _ _ f _ l eT eT G o).mono ?_;rintro e j ⟨rfl,rfl⟩;rw[g.u]);go_round;exact⟨k+1,dN,dR,K⟩;exact kq};have i:Hi (RD p n a b c=Tt):=TK.2 ⟨q,s,λd y=>Y d dN⟩;go_wp2;go_ret;exact⟨O1 i.symm,rfl⟩};have i:Hi (RD p n a b c=Ff):=UO λh=>I ⟨h.1,h.2.1⟩;have M:p a c=Ff\/(p a c=Tt/\p b c=Ff):=(by cases e:p a c <;> cases P:p b c <;> simp_all);rcases M with q|⟨q,s⟩;all_goals rcases v with ⟨rfl,W⟩|⟨rfl,W⟩;(case' inl=>go_enter func217,ntmps217);(case' inr=>go_enter func218,ntmps218);all_goals have g:=h_ W;clear W;exact fM
end
section
open Go Go.RowKit Go.Shelf Go.Proofs.Tryz
def BH (lo:Nat)(W W':Tw):Prop:=Below lo W W'/\∀(k:Nat) (cs:Ta) (t:TypeId) (fr:Nat × Nat),W.heap[k]? = Sm (Obj.cells cs t fr)->W'.heap[k]? = Sm (Obj.cells cs t fr)
def BH.put {lo l W o}(c)(P:W.heap[l]? = Sm o)(Z:o.isCells=Ff)(h:lo<=l):BH lo W (W.putObj l c) :=
 ⟨WI W l c h,λk a t j n=>(B7.put (X:=λ_=>False) P Z).same k a t j (λh=>h) n⟩
def IU (P:Program)(enc:Nat->Ta)(gf:Nat)(lb:Ta)(T:List Nat->Nat->Prop)(S:List Nat->Prop)(C:Tw->Prop):Prop :=
 ∀(n l:Nat) (J:List Nat->Tw->Prop) (W:Tw),(∀pre W1,J pre W1->C W1)->J [] W ->
  (∀(m:Nat) (pre:List Nat) (x:Nat) (W1:Tw),J pre W1->T pre x->YieldAt Fence.wide m P l (enc x) W1 λe W'=>e=Rt (Bo Tt)/\J (pre++[x]) W') ->
  CallsIn Fence.wide n P gf (#[.func (.yield l) #[] #[]]++lb) W λe W'=>(∃v,e=Rt v)/\∃xs,S xs/\J xs W'
def Ic (I:List Nat->Tw->Prop)(xs:List Nat)(W:Tw):Exit->Act->Tw->Prop
 | .normal,_,W'=>KeepsOthers W W'/\I xs W'
 | _,_,_=>False
def Cw {P g i assign body Q a w n gf lb enc}
 (Z:a.eval g=.func (.func gf) #[] lb) (y:∀args w,(callFunc gf args).run P w=.ok (.enter gf args) w)
 {T S C} (ae:IU P enc gf lb T S C) (ad:∀x,i.size=(enc x).size)
 (I) (B:∀X W,I X W->C W) (U:∀X W Y,I X W->BH w.1.size W Y->I X Y) (A:∀W,Below w.1.size w W->I [] W) (q:Nat->Act)
 (H:∀(f l x:Nat) (W:Tw) (K:Act->Tw->Prop),K (q x) W ->
  assign.wpIn (Fence.wide.inRound l) f P (Exit.then K (λ_ _ _=>False)) { tmps:=(i.zip (enc x)).foldl (λt (p,s)=>t.setIfInBounds p s) a.tmps,defers:=[] } W)
 (J:∀(f l:Nat) (X:List Nat) (x:Nat) (W:Tw),I X W->T X x->body.wpIn (Fence.wide.inRound l) f P (Ic I (X++[x]) W) (q x) W)
 (O:∀(D:Nat) (v:List Nat) (W:Tw),w.1.size<=D->S v->I v W->W.heap[D]? = Sm (.deferred (Sm []))->Q .normal { a with defers:={ target:=.collected D,args:=#[] } :: a.defers } W) :
 (Code.rangeFunc g i assign body).wpIn Fence.wide n P Q a w:=by
 refine wpIn_rangeFunc λfn _=>?_;obtain⟨D,b⟩:=Nq w.1.size;obtain⟨mk,z⟩:∃mk:LoopState->Option Code->Loop,mk=λd p=>{ state:=d,pending:=p,fn,tmps:=a.tmps,params:=i,assign,body,defers:=D }:=⟨_,rfl⟩;obtain⟨m,V⟩:=Nq ((w.alloc (.deferred (Sm []))).alloc (.loop (mk .ready Nn)));have s1:m.1.size=D+1+1:=by rw[<- V];simp[b]
 have u:Below D w m:=by rw[<- V,<- b];exact((bR _ w).alloc (nR _) _).alloc dQ _
 have aa:m.heap[D+1]? = Sm (.loop (mk .ready Nn)):=by
  have:=World.alloc_heap_new (w.alloc (.deferred (Sm []))) (.loop (mk .ready Nn));rw[Y7,b,V]at this;exact this
 have K:m.heap[D]? = Sm (.deferred (Sm [])):=by
  have:=World.alloc_heap_new w (.deferred (Sm []));rw[<- V,<- b];exact fN
 have r:=run_enterLoop_outer (P:=P) (w:=w) fn a.tmps i assign body;rw[b]at r;refine⟨D+1,[{ target:=.collected D,args:=#[] }],m,{ target:=.fn (.func gf) lb,args:=#[.func (.yield (D+1)) #[] #[]] },m,gf,#[.func (.yield (D+1)) #[] #[]]++lb,m,?_,?_,?_,?_,λh=>by simp[Fence.wide]at h,?_⟩
 . rw[<- V,z];exact r
 . simp only[resolve,Z];simp[go_sem]
 . intro _ _;trivial
 . simp[invoke,go_sem,y]
 have F:∀v W l d e,D<=l->W.heap[l]? = Sm d->d.isCells=Ff->I v W->I v (W.putObj l e):=λv W l d e h d j k=>U v W _ k (by rw[b];exact BH.put e d j h);refine(ae (n - 1) (D+1) (λX W=>I X W/\W.heap[D+1]? = Sm (.loop (mk .ready Nn))/\W.heap[D]? = Sm (.deferred (Sm []))) m (λX W h=>B X W h.1) ⟨A m (by rw[b];exact u),aa,K⟩ ?_).mono ?_
 . -- one round
   rintro f X x W ⟨R,d,j⟩ N;have ac:D+1<W.1.size:=(Y3.1 d).1;have p:=run_yield (P:=P) (args:=enc x) d (by rw[z];simp[ad x]);rw[z]at p;refine⟨fn,_,assign,body,p,roundIn_of_wpIn trivial (H f _ x W _ ⟨_,run_beginRound d (by rw[z]),?_⟩)⟩;refine wpIn_mono (J f _ X x _ (F _ _ _ _ _ dN d rfl R) N) ?_;have ab:=World.putObj_heap_same (w:=W) (o:=.loop { mk .ready Nn with state:=.busy }) ac;have L:(W.putObj (D+1) (.loop { mk .ready Nn with state:=.busy })).heap[D]? = Sm (.deferred (Sm [])):=(World.putObj_heap_other dN).trans j;intro l a3 W3 e;cases l with
   | normal =>
    obtain⟨G,Y⟩:=e;have k:=G.same _ _ ab rfl;have M:=G.same _ _ L rfl;have E:=run_endRound (P:=P) Nn k;rw[z]at E;refine⟨_,_,E,rfl,F _ _ _ _ _ dN k rfl Y,?_,(World.putObj_heap_other dN).trans M⟩;rw[z];exact World.putObj_heap_same (Y3.1 k).1
   | ret=>exact e.elim
   | exit id=>exact e.elim
   | goto t=>exact e.elim
   | panic c=>exact e.elim
   | outgrown=>exact e.elim
 . -- behind the iterator
   rintro l f ⟨⟨s,rfl⟩,v,e,R,d,j⟩;have E:=run_endLoop (P:=P) d (by rw[z];simp);rw[z]at E;exact⟨Nn,_,E,O D v _ dN e (F _ _ _ _ _ dN d rfl R) ((World.putObj_heap_other dN).trans j)⟩
