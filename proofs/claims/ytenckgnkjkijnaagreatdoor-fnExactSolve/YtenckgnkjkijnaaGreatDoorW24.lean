import Derived.Test.YtenckgnkjkijnaaGreatDoorW22
import Derived.Deep.AppendLies
set_option maxRecDepth 100000
set_option maxHeartbeats 64000000
namespace Go.Proofs.YtenckgnkjkijnaaGreatDoor
open Go Go.RowKit Go.Shelf Go.Proofs.Tryz
structure Out (lo hi:Nat)(W W':Tw):Prop where
 os:W'.os=W.os
 tape:W'.tape=W.tape
 output:W'.output=W.output
 size:W.heap.size<=W'.heap.size
 block:∀b,b<W.heap.size->¬ (lo<=b/\b<hi)->W'.heap[b]? = W.heap[b]?
theorem Out.mono {lo n hi:Nat}{w W:Tw}(a:Out lo hi w W)(e:n<=lo):Out n hi w W:=⟨a.os,a.tape,a.output,a.size,fun b c d=>a.block b c (fun b=>d ⟨by omega,b.2⟩)⟩
theorem Out.refl (lo hi:Nat)(a:Tw):Out lo hi a a:=⟨rfl,rfl,rfl,nR _,fun _ _ _=>rfl⟩
theorem Out.trans {lo hi:Nat}{A B C:Tw}(a:Out lo hi A B)(k:Out lo hi B C):Out lo hi A C:=⟨k.os.trans a.os,k.tape.trans a.tape,k.output.trans a.output,Y5 a.size k.size,fun b d c=>(k.block b (by have:=a.size;omega) c).trans (a.block b d c)⟩
theorem Out.set {lo hi:Nat}{w:Tw}{a:Addr}(v:Value)(d:lo<=a.block)(e:a.block<hi):Out lo hi w (w.setCell a v):=⟨rfl,rfl,rfl,by simp,fun b _ c=>heap_setCell_other w a b v (fun b=>c ⟨by omega,by omega⟩)⟩
theorem Out.put {lo hi l:Nat}(a:Tw)(o:Obj)(d:lo<=l)(e:l<hi):Out lo hi a (a.putObj l o):=⟨rfl,rfl,rfl,by simp,fun b _ b=>World.putObj_heap_other (fun c=>b ⟨by omega,by omega⟩)⟩
theorem Out.below {lo hi B:Nat}{w W:Tw}(a:Out lo hi w W)(c:B<=lo)(e:B<=w.heap.size):Below B w W:=⟨a.os,a.tape,a.output,a.size,fun b d=>a.block b (by omega) (fun b=>by omega)⟩
theorem Out.blk {lo hi g:Nat}{w W:Tw}{t:TypeId}{cs:Tl}(b:Out lo hi w W)(a:Blk w g t cs)(c:¬ (lo<=g/\g<hi)):Blk W g t cs:=(b.block g a.lt c).trans a
theorem Out.owns {lo hi base n k:Nat}{w W:Tw}{t:TypeId}{v:Value}{xs:Tl}(g:Out lo hi w W)(d:w.ownsRow base t k v n xs)(j:∀a,v.ownBlock=some a->¬ (lo<=a/\a<hi)):W.ownsRow base t k v n xs:=by
 refine⟨d.1,?_⟩;rcases d.2 with h | ⟨a,e,f,b,i,c,l⟩
 . exact .inl h
 . exact .inr ⟨a,e,f,b,i,(g.block a (Yq.1 c).1 (j a (by rw[b];rfl))).trans c,l⟩
structure kbJ (X:Nat->Prop)(hi:Nat)(W W':Tw):Prop where
 size:W.heap.size<=W'.heap.size
 same:∀k cs t fr,k<hi->¬ X k->W.heap[k]? = some (.cells cs t fr)->W'.heap[k]? = some (.cells cs t fr)
theorem kbJ.trans {X:Nat->Prop}{hi:Nat}{A B C:Tw}(c:kbJ X hi A B)(k:kbJ X hi B C):kbJ X hi A C:=⟨Y5 c.size k.size,fun f a g b d e hi=>k.same f a g b d e (c.same f a g b d e hi)⟩
theorem kbJ.put {X:Nat->Prop}{hi l:Nat}{w:Tw}{o f:Obj}(c:w.heap[l]? = some o)(d:o.isCells=false):kbJ X hi w (w.putObj l f) :=
 ⟨by simp,fun e a a a _ _ a=>by
  by_cases b:e=l
  . subst b;rw[c]at a;cases a;simp[Obj.isCells]at d
  . exact(World.putObj_heap_other b).trans a⟩
theorem kbJ.set {X:Nat->Prop}{hi:Nat}{w:Tw}{a:Addr}(v:Value)(e:X a.block):kbJ X hi w (w.setCell a v):=⟨by simp,fun b _ _ _ _ d c=>(heap_setCell_other w a b v (fun b=>d (b ▸ e))).trans c⟩
theorem kbJ.blk {X:Nat->Prop}{hi g:Nat}{w W:Tw}{t:TypeId}{cs:Tl}(a:kbJ X hi w W)(b:Blk w g t cs)(c:g<hi)(d:¬ X g):Blk W g t cs:=a.same g _ t _ c d b
theorem kbJ.owns {X:Nat->Prop}{hi base n k:Nat}{w W:Tw}{t:TypeId}{v:Value}{xs:Tl}(g:kbJ X hi w W)(d:w.ownsRow base t k v n xs)(e:∀a,v.ownBlock=some a->a<hi/\¬ X a):W.ownsRow base t k v n xs:=by
 refine⟨d.1,?_⟩;rcases d.2 with h | ⟨a,f,c,b,i,j,l⟩
 . exact .inl h
 . exact .inr ⟨a,f,c,b,i,g.same a c t _ (e a (by rw[b];rfl)).1 (e a (by rw[b];rfl)).2 j,l⟩
def kfy (P:Program)(gf:Nat)(lb:Ta)(T:List Nat->Nat->Prop)(S:List Nat->Prop)(X:Nat->Prop)(w0:Tw):Prop :=
 ∀(n l:Nat) (J:Nat->List Nat->Tw->Prop) (W:Tw),Below w0.heap.size w0 W->(∀hi pre W1 W2,J hi pre W1->Out W.heap.size hi W1 W2->J hi pre W2)->(∀W2,Below W.heap.size W W2->J W2.heap.size [] W2)->(∀k,X k->k<W.heap.size) ->
  (∀(m hi:Nat) (pre:List Nat) (x:Nat) (W1:Tw),J hi pre W1->T pre x->YieldAt Fence.wide m P l #[J6 (x:Int)] W1 fun e W'=>e=.returned (.bool true)/\J hi (pre++[x]) W'/\kbJ X hi W1 W') ->
  CallsIn Fence.wide n P gf (#[.func (.yield l) #[] #[]]++lb) W fun e W'=>(∃v,e=.returned v)/\∃hi xs,S xs/\J hi xs W'
def kfb (X:Nat->Prop)(hi:Nat)(I:List Nat->Tw->Prop)(xs:List Nat)(W:Tw):Exit->Act->Tw->Prop
 | .normal,_,W'=>KeepsOthers W W'/\kbJ X hi W W'/\I xs W'
 | _,_,_=>False
theorem qcl {P:Program}{g:Operand}{y:Array Tmp}{assign body:Code}{Q:Exit->Act->Tw->Prop}{a:Act}{w:Tw}{n gf:Nat}{lb:Ta}
 (hg:a.eval g=.func (.func gf) #[] lb) (R:∀args w,(callFunc gf args).run P w=.ok (.enter gf args) w)
 {C:List Nat->Nat->Prop} {S:List Nat->Prop} {X:Nat->Prop} {W:Tw} (ak:kfy P gf lb C S X W) (J:Below W.heap.size W w) (V:∀m,X m->m<w.heap.size) (aj:y.size=1)
 (k:Nat->List Nat->Tw->Prop) (I:∀d i b x,k d i b->Out w.heap.size d b x->k d i x) (T:∀b,Below w.heap.size w b->k b.heap.size [] b) (E:Nat->Act)
 (Y:∀(s h j:Nat) (b:Tw) (e:Act->Tw->Prop),e (E j) b ->
  assign.wpIn (Fence.wide.inRound h) s P (Exit.then e (fun _ _ _=>False)) { tmps:=(y.zip #[J6 (j:Int)]).foldl (fun N (l,O)=>N.setIfInBounds l O) a.tmps,defers:=[] } b)
 (Z:∀(s h d:Nat) (i:List Nat) (j:Nat) (b:Tw),w.heap.size<d->k d i b->C i j->body.wpIn (Fence.wide.inRound h) s P (kfb X d (k d) (i++[j]) b) (E j) b)
 (ae:∀(e d:Nat) (f:List Nat) (b:Tw),w.heap.size<=e->e<d->S f->k d f b->b.heap[e]? = some (.deferred (some []))->Q .normal { a with defers:={ target:=.collected e,args:=#[] } :: a.defers } b) :
 (Code.rangeFunc g y assign body).wpIn Fence.wide n P Q a w:=by
 refine wpIn_rangeFunc fun fn _=>?_;obtain⟨e,p⟩:=Nq w.heap.size;obtain⟨mk,q⟩:∃mk:LoopState->Option Code->Loop,mk=fun r l=>{ state:=r,pending:=l,fn,tmps:=a.tmps,params:=y,assign,body,defers:=e }:=⟨_,rfl⟩;obtain⟨l,u⟩:=Nq ((w.alloc (.deferred (some []))).alloc (.loop (mk .ready none)));have M:l.heap.size=e+1+1:=by rw[<- u];simp[p]
 have F:Below e w l:=by rw[<- u,<- p];exact((bR _ w).alloc (nR _) _).alloc (by simp) _
 have ag:l.heap[e+1]? = some (.loop (mk .ready none)):=by
  have:=World.alloc_heap_new (w.alloc (.deferred (some []))) (.loop (mk .ready none));rw[Yp,p,u]at this;exact this
 have aa:l.heap[e]? = some (.deferred (some [])):=by
  have:=World.alloc_heap_new w (.deferred (some []));rw[<- u,<- p];exact(Below.heap_alloc _ _ _ (by simp)).trans this
 have H:=run_enterLoop_outer (P:=P) (w:=w) fn a.tmps y assign body;rw[p]at H;refine⟨e+1,[{ target:=.collected e,args:=#[] }],l,{ target:=.fn (.func gf) lb,args:=#[.func (.yield (e+1)) #[] #[]] },l,gf,#[.func (.yield (e+1)) #[] #[]]++lb,l,?_,?_,?_,?_,fun t=>by simp[Fence.wide]at t,?_⟩
 . rw[<- u,q];exact H
 . simp only[resolve,hg];simp[go_sem]
 . intro _ _;trivial
 . simp[invoke,go_sem,R]
 have A:∀d f b h r,e<=h->h<d->k d f b->k d f (b.putObj h r):=fun d f b h r t h v=>I d f b _ v (by rw[p];exact Out.put b r t h);refine(ak (n - 1) (e+1) (fun d i b=>k d i b/\e+1<d/\b.heap[e+1]? = some (.loop (mk .ready none))/\b.heap[e]? = some (.deferred (some []))) l (J.trans ((p ▸ F:Below w.heap.size w l).mono J.size)) ?_ ?_ (fun m h=>by have:=V m h;omega) ?_).mono ?_
 . rintro d f b x ⟨t,z,m,r⟩ h
   rw[M]at h;exact⟨I d f b x t (h.mono (by omega)),z,(h.block _ (Yq.1 m).1 (by omega)).trans m,(h.block _ (Yq.1 r).1 (by omega)).trans r⟩
 . intro D h
   have x:=h.size;rw[M]at h x;refine⟨T D ?_,by omega,(h.block _ (by omega)).trans ag,(h.block _ (by omega)).trans aa⟩;rw[p];exact F.trans (h.mono (by omega))
 . -- one round
   rintro s d i j b ⟨v,z,m,r⟩ U;have ai:e+1<b.heap.size:=(Yq.1 m).1;have K:=run_yield (P:=P) (args:=#[J6 (j:Int)]) m (by rw[q];simp[aj]);rw[q]at K;refine⟨fn,_,assign,body,K,roundIn_of_wpIn trivial (Y s _ j b _ ⟨_,run_beginRound m (by rw[q]),?_⟩)⟩;refine wpIn_mono (Z s _ d i j _ (by omega) (A _ _ _ _ _ (by omega) (by omega) v) U) ?_;have ah:=World.putObj_heap_same (w:=b) (o:=.loop { mk .ready none with state:=.busy }) ai;have ac:(b.putObj (e+1) (.loop { mk .ready none with state:=.busy })).heap[e]? = some (.deferred (some [])):=(World.putObj_heap_other (by omega)).trans r;have al:kbJ X d b (b.putObj (e+1) (.loop { mk .ready none with state:=.busy })):=kbJ.put m rfl;intro G a3 W3 h;cases G with
   | normal =>
    obtain⟨L,kx,af⟩:=h;have B:=L.same _ _ ah rfl;have ad:=L.same _ _ ac rfl;have x:=run_endRound (P:=P) none B;rw[q]at x;refine⟨_,_,x,rfl,⟨A _ _ _ _ _ (by omega) (by omega) af,z,?_,(World.putObj_heap_other (by omega)).trans ad⟩,(al.trans kx).trans (kbJ.put B rfl)⟩;rw[q];exact World.putObj_heap_same (Yq.1 B).1
   | ret=>exact h.elim
   | exit id=>exact h.elim
   | goto N=>exact h.elim
   | panic c=>exact h.elim
   | outgrown=>exact h.elim
 . -- behind the iterator
   rintro G D ⟨⟨O,rfl⟩,d,f,h,v,z,m,r⟩;have x:=run_endLoop (P:=P) m (by rw[q];simp);rw[q]at x;exact⟨none,_,x,ae e d f _ (by omega) (by omega) h (A _ _ _ _ _ (by omega) (by omega) v) ((World.putObj_heap_other (by omega)).trans r)⟩
end Go.Proofs.YtenckgnkjkijnaaGreatDoor
namespace Go.Proofs.YtenckgnkjkijnaaGreatDoor
open Go Go.RowKit Go.Proofs.Tryz
structure MkL (lo hi:Nat)(W W':Tw):Prop where
 out:Out lo hi W W'
 bk:∀g t n,Bk W g t n->Bk W' g t n
theorem MkL.refl (lo hi:Nat)(a:Tw):MkL lo hi a a:=⟨Out.refl _ _ _,fun _ _ _ b=>b⟩
theorem MkL.trans {lo hi:Nat}{A B C:Tw}(b:MkL lo hi A B)(k:MkL lo hi B C):MkL lo hi A C:=⟨b.out.trans k.out,fun a d c e=>k.bk a d c (b.bk a d c e)⟩
theorem MkL.below {lo hi:Nat}{w W:Tw}(a:Bw w W):MkL lo hi w W:=⟨⟨a.os,a.tape,a.output,a.size,fun c b _=>a.block c b⟩,fun _ _ _ b=>b.mono a b.lt⟩
theorem MkL.set {lo hi g:Nat}{w:Tw}(j:Nat)(v:Value)(e:lo<=g)(f:g<hi):MkL lo hi w (w.setCell ⟨g,j,none⟩ v) :=
 ⟨Out.set (a:=⟨g,j,none⟩) v e f,fun d b b c=>by
  by_cases b:d=g
  . subst b;exact c.set j v
  . exact c.other b j v⟩
theorem MkL.lower {lo n hi:Nat}{w W:Tw}(a:MkL lo hi w W)(b:n<=lo):MkL n hi w W:=⟨a.out.mono b,a.bk⟩
theorem Bk.cell_ne {w:Tw}{g n p k:Nat}{t:TypeId}(b:Bk w g t n)(c:p≠k)(v:Value):(w.setCell ⟨g,p,none⟩ v).cell? ⟨g,k,none⟩=w.cell? ⟨g,k,none⟩:=by
 obtain⟨d,a,-⟩:=b;rw[(a.set p v).cell k,a.cell k,O9 c]
theorem qis (a:Tw)(c:Int):(convert 149 9 (.slice (some ⟨a.heap.size,0,none⟩) 1 1)).run prog (a.alloc (.cells #[.int .u8 c] 5))=.ok (.string (Ga (UInt8.ofNat c.toNat))) (a.alloc (.cells #[.int .u8 c] 5)):=by
 rw[run_convert_bytes_string _ 149 9 5 _ _ _ underlying149 underlying5 underlying9];have b:=run_loadCells_list (P:=prog) (a.alloc (.cells #[.int .u8 c] 5)) ⟨a.heap.size,0,none⟩ ([c].map (Value.int .u8)) (qim a 5 (.int .u8 c));exact run_bytesToString (P:=prog) (a.alloc (.cells #[.int .u8 c] 5)) ⟨a.heap.size,0,none⟩ 1 1 [c] b
theorem q69 (k:Nat)(w:Tw)(l:k<=4611686018427387904):Calls prog 49 #[J6 k] w fun a b=>∃c,a=.returned (.string c)/\Bw w b:=by
 by_cases d:k=0
 . subst d
   go_enter func49,ntmps49;go_wp2_with fail;go_ret;exact⟨_,rfl,bR _ _⟩
 . have g:¬ (k:Int)<=0:=by omega
   have m:(k:Int)<=4611686018427387904:=by omega
   go_enter func49,ntmps49;go_wp2_with fail;go_loopw [0,3] (fun e c wr=>∃(a:Nat) (b:Tb),e=J6 a/\c=.string b/\b.size+a<=4611686018427387904/\Bw w wr) (fun e _ _=>(intOf e).toNat)
   case atStart=>exact⟨k,_,rfl,rfl,by show 0+k<=_;omega,bR _ _⟩
   case round =>
    obtain⟨a,b,rfl,rfl,n,h⟩:=hrel;have c:=h_ h;have p:b.size<=4611686018427387904:=(by omega);have q:(b.size:Int)<=4611686018427387904:=(by omega);by_cases d:a=0
    . subst d
      go_wp2_with fail;go_ret;exact⟨_,rfl,c⟩
    . have g:(0:Int)<a:=by omega
      have o:(a:Int)<=4611686018427387904:=(by omega);obtain⟨j,e⟩:=Nq (Ga (UInt8.ofNat (48+(a:Int) % 10).toNat));have r:j.size=1:=(by rw[<- e];rfl);have i:=qis wr (48+(a:Int) % 10);rw[e]at i;have f:=h_ (c.alloc c.size (.cells #[.int .u8 (48+(a:Int) % 10)] 5));go_wp2_with fail;go_roundw
      case rel=>exact⟨a / 10,_,by go_num,rfl,by rw[Ym];omega,f⟩
      case measure=>simp[intOf];omega
theorem q2u (g n c k lo hi:Nat)(w:Tw)(A:k+n<=4611686018427387904)(o:Bk w g 9 n)(q:lo<=g)(p:g<hi) :
 Calls prog 45 #[.slice (some ⟨g,0,none⟩) n c,J6 k] w fun a b=>a=.returned (J6 ((k+n:Nat):Int))/\MkL lo hi w b:=by
 have l:=h_ o;go_enter func45,ntmps45;go_wp2_with fail;go_loopw [1,5] (fun b d wr=>∃a:Nat,a<=n/\d=J6 a/\b=J6 ((k+a:Nat):Int)/\MkL lo hi w wr) (fun _ d _=>n - (intOf d).toNat)
 case atStart=>exact⟨0,nZ _,rfl,rfl,MkL.refl _ _ _⟩
 case round =>
  obtain⟨a,z,rfl,rfl,j⟩:=hrel;obtain⟨h,f⟩:=oB j (j.bk _ _ _ l);by_cases r:a<n
  . have s:(a:Int)<n:=by omega
    obtain⟨b,d⟩:=Nq (k+a);have B:(b:Int)<4611686018427387904:=(by omega);rw[d];go_wp2_with fail;refine(q69 b wr (by omega)).mono ?_;rintro x u ⟨t,rfl,i⟩;have e:=h_ (f.mono i f.lt);obtain⟨C,v⟩:=e.cell r;have y:=e.free a;have m:=h_ ((h.trans (MkL.below i)).trans (MkL.set a (.string t) q p));refine rQ ?_;exact⟨a+1,by omega,by go_num,by go_num,m⟩
  . obtain rfl:a=n:=by omega
    have s:¬ (a:Int)<(a:Int):=(by omega);obtain⟨b,d⟩:=Nq (k+a);rw[d];go_wp2_with fail;go_ret;exact⟨rfl,h⟩
theorem q8q (g n c k lo hi:Nat)(w:Tw)(u:k+n<=4611686018427387904)(l:Bk w g 3 n)(o:lo<=g)(m:g<hi) :
 Calls prog 74 #[.slice (some ⟨g,0,none⟩) n c,J6 k] w fun a b=>a=.returned (J6 ((k+n:Nat):Int))/\MkL lo hi w b:=by
 have i:=h_ l;go_enter func74,ntmps74;go_wp2_with fail;go_loopw [1,5] (fun b d wr=>∃a:Nat,a<=n/\d=J6 a/\b=J6 ((k+a:Nat):Int)/\MkL lo hi w wr) (fun _ d _=>n - (intOf d).toNat)
 case atStart=>exact⟨0,nZ _,rfl,rfl,MkL.refl _ _ _⟩
 case round =>
  obtain⟨a,t,rfl,rfl,h⟩:=hrel;obtain⟨f,e⟩:=oB h (h.bk _ _ _ i);by_cases p:a<n
  . have q:(a:Int)<n:=by omega
    obtain⟨b,d⟩:=Nq (k+a);have v:(b:Int)<4611686018427387904:=(by omega);rw[d];obtain⟨x,r⟩:=e.cell p;have s:=e.free a;have j:=h_ (f.trans (MkL.set a (J6 (b:Int)) o m));refine rQ ?_;exact⟨a+1,by omega,by go_num,by go_num,j⟩
  . obtain rfl:a=n:=by omega
    have q:¬ (a:Int)<(a:Int):=(by omega);obtain⟨b,d⟩:=Nq (k+a);rw[d];go_wp2_with fail;go_ret;exact⟨rfl,f⟩
theorem q67 (g n c k lo hi:Nat)(w:Tw)(u:k+n*2<=4611686018427387904)(o:Bk w g 113 (n*2))(i:lo<=g)(h:g<hi) :
 Calls prog 46 #[.slice (some ⟨g,0,none⟩) n c,J6 k] w fun a b=>a=.returned (J6 ((k+n*2:Nat):Int))/\MkL lo hi w b:=by
 have l:=h_ o;go_enter func46,ntmps46;go_wp2_with fail;go_loopw [1,5] (fun b d wr=>∃a:Nat,a<=n/\d=J6 a/\b=J6 ((k+a*2:Nat):Int)/\MkL lo hi w wr) (fun _ d _=>n - (intOf d).toNat)
 case atStart=>exact⟨0,nZ _,rfl,by simp,MkL.refl _ _ _⟩
 case round =>
  obtain⟨a,t,rfl,rfl,j⟩:=hrel;obtain⟨f,d⟩:=oB j (j.bk _ _ _ l);by_cases v:a<n
  . have p:(a:Int)<n:=by omega
    obtain⟨b,e⟩:=Nq (k+a*2);have x:(b:Int)+1<4611686018427387904:=(by omega);rw[e];obtain⟨y,q⟩:=d.cell (show a*2<n*2 by omega);obtain⟨z,c1⟩:=d.cell (show a*2+1<n*2 by omega);have r:=d.free (a*2);have s:=d.free (a*2+1);have m:=h_ ((f.trans (MkL.set (a*2) (J6 (b:Int)) i h)).trans (MkL.set (a*2+1) (J6 ((b:Int)+1)) i h));go_wp2_with fail;go_roundw
    case rel=>exact⟨a+1,by omega,by go_num,by rw[show k+(a+1)*2=b+2 by omega];go_num,m⟩
    case measure=>simp[intOf];omega
  . obtain rfl:a=n:=by omega
    have p:¬ (a:Int)<(a:Int):=(by omega);obtain⟨b,e⟩:=Nq (k+a*2);rw[e];go_wp2_with fail;go_ret;exact⟨rfl,f⟩
theorem q68 (g n c k lo hi:Nat)(w:Tw)(A:k+n*2<=4611686018427387904)(q:Bk w g 116 (n*2))(l:lo<=g)(j:g<hi) :
 Calls prog 47 #[.slice (some ⟨g,0,none⟩) n c,J6 k] w fun a b=>a=.returned (J6 ((k+n*2:Nat):Int))/\MkL lo hi w b:=by
 have o:=h_ q;go_enter func47,ntmps47;go_wp2_with fail;go_loopw [1,5] (fun b d wr=>∃a:Nat,a<=n/\d=J6 a/\b=J6 ((k+a*2:Nat):Int)/\MkL lo hi w wr) (fun _ d _=>n - (intOf d).toNat)
 case atStart=>exact⟨0,nZ _,rfl,by simp,MkL.refl _ _ _⟩
 case round =>
  obtain⟨a,z,rfl,rfl,m⟩:=hrel;obtain⟨h,f⟩:=oB m (m.bk _ _ _ o);by_cases B:a<n
  . have r:(a:Int)<n:=by omega
    obtain⟨b,e⟩:=Nq (k+a*2);have C:(b:Int)+1<4611686018427387904:=(by omega);rw[e];go_wp2_with fail;refine(q69 b wr (by omega)).mono ?_;rintro v t ⟨s,rfl,i⟩;have d:=h_ (f.mono i f.lt);obtain⟨D,u⟩:=d.cell (show a*2<n*2 by omega);obtain⟨E,c1⟩:=d.cell (show a*2+1<n*2 by omega);have x:=d.free (a*2);have y:=d.free (a*2+1);have p:=h_ (((h.trans (MkL.below i)).trans (MkL.set (a*2) (.string s) l j)).trans (MkL.set (a*2+1) (J6 ((b:Int)+1)) l j));go_wp2_with fail;go_roundw
    case rel=>exact⟨a+1,by omega,by go_num,by rw[show k+(a+1)*2=b+2 by omega];go_num,p⟩
    case measure=>simp[intOf];omega
  . obtain rfl:a=n:=by omega
    have r:¬ (a:Int)<(a:Int):=(by omega);obtain⟨b,e⟩:=Nq (k+a*2);rw[e];go_wp2_with fail;go_ret;exact⟨rfl,h⟩
theorem q66 (g n c k lo hi:Nat)(w:Tw)(P:k+n*5<=4611686018427387904)(H:Bk w g 190 (n*5))(h:lo<=g)(f:g<hi) :
 Calls prog 75 #[.slice (some ⟨g,0,none⟩) n c,J6 k] w fun a b=>a=.returned (J6 ((k+n*5:Nat):Int))/\MkL lo hi w b:=by
 have z:=h_ H;go_enter func75,ntmps75;go_wp2_with fail;go_loopw [1,5] (fun b d wr=>∃a:Nat,a<=n/\d=J6 a/\b=J6 ((k+a*5:Nat):Int)/\MkL lo hi w wr) (fun _ d _=>n - (intOf d).toNat)
 case atStart=>exact⟨0,nZ _,rfl,by simp,MkL.refl _ _ _⟩
 case round =>
  obtain⟨a,O,rfl,rfl,y⟩:=hrel;obtain⟨q,d⟩:=oB y (y.bk _ _ _ z);by_cases Q:a<n
  . have I:(a:Int)<n:=by omega
    obtain⟨b,m⟩:=Nq (k+a*5);have R:(b:Int)+5<4611686018427387904+1:=(by omega);rw[m];obtain⟨K,t⟩:=d.cell (show a*5<n*5 by omega);obtain⟨T,c1⟩:=d.cell (show a*5+1<n*5 by omega);obtain⟨U,c2⟩:=d.cell (show a*5+2<n*5 by omega);have u:=d.free (a*5);have M:=d.free (a*5+1);have N:=d.free (a*5+2);obtain⟨r,i⟩:=oB (((q.trans (MkL.set (a*5) (J6 (b:Int)) h f)).trans (MkL.set (a*5+1) (J6 ((b:Int)+1)) h f)).trans (MkL.set (a*5+2) (J6 ((b:Int)+1+1)) h f)) (((d.set (a*5) (J6 (b:Int))).set (a*5+1) (J6 ((b:Int)+1))).set (a*5+2) (J6 ((b:Int)+1+1)));go_wp2_with fail;obtain⟨B,F⟩:=Nq (((wr.setCell ⟨g,a*5,none⟩ (J6 (b:Int))).setCell ⟨g,a*5+1,none⟩ (J6 ((b:Int)+1))).setCell ⟨g,a*5+2,none⟩ (J6 ((b:Int)+1+1)));rw[F]at r i⊢;have e:=h_ (q69 (b+1+1+1) B (by omega));simp only[Vw,Zq]at e;refine e.mono ?_;rintro E C ⟨o,rfl,v⟩;have j:=h_ (i.mono v i.lt);obtain⟨K,t⟩:=j.cell (show a*5+3<n*5 by omega);have u:=j.free (a*5+3);obtain⟨s,l⟩:=oB ((r.trans (MkL.below v)).trans (MkL.set (a*5+3) (.string o) h f)) (j.set (a*5+3) (.string o));go_wp2_with fail;obtain⟨D,G⟩:=Nq (C.setCell ⟨g,a*5+3,none⟩ (.string o));rw[G]at s l⊢;have e:=h_ (q69 (b+1+1+1+1) D (by omega));simp only[Vw,Zq]at e;refine e.mono ?_;rintro E L ⟨J,rfl,x⟩;have p:=h_ (l.mono x l.lt);obtain⟨S,t⟩:=p.cell (show a*5+4<n*5 by omega);have u:=p.free (a*5+4);have A:=h_ ((s.trans (MkL.below x)).trans (MkL.set (a*5+4) (.string J) h f));go_wp2_with fail;go_roundw
    case rel=>exact⟨a+1,by omega,by go_num,by rw[show k+(a+1)*5=b+5 by omega];go_num,A⟩
    case measure=>simp[intOf];omega
  . obtain rfl:a=n:=by omega
    have I:¬ (a:Int)<(a:Int):=(by omega);obtain⟨b,m⟩:=Nq (k+a*5);rw[m];go_wp2_with fail;go_ret;exact⟨rfl,q⟩
theorem Blk.row {w:Tw}{g:Nat}{t:TypeId}{cs:Tl}(b:Blk w g t cs)(a:Tl):Blk (w.setRow g a.toArray) g t a:=setRow_heap w g cs.toArray a.toArray t (0,0) b
theorem Blk.row_other {w:Tw}{g n:Nat}{t:TypeId}{cs:Tl}(b:Blk w n t cs)(c:n≠g)(a:Ta):Blk (w.setRow g a) n t cs:=(setRow_other w g n a c).trans b
theorem qr0 {lo hi g:Nat}(a:Tw)(b:Ta)(e:lo<=g)(f:g<hi):Out lo hi a (a.setRow g b):=⟨rfl,rfl,rfl,by simp[World.setRow],fun c _ d=>setRow_other a g c b (fun c=>d (by omega))⟩
theorem q57 (n:Int)(w:Tw):Gv 211 #[J6 n] w (vv (kax n)):=by
 go_enter func211,ntmps211;go_wp2;exact bodyPost_ret (v:=.agg #[J6 4,J6 n,J8]) (by simp[results,results211,go_sem, *]) rfl ⟨rfl,(bR _ _).alloc (nR _) _⟩
def mE (op:Int):Bool:=op==25||op==16||op==19
def mBk (op:Int):Bool:=mE op||op==24||op==14||op==15
theorem q1q (a:Int)(w:Tw):Calls prog 207 #[J6 a] w fun b c=>b=.returned (.bool (mE a))/\c=w:=by
 have b:mE a=(a==25||a==16||a==19):=rfl;rw[b];cases c:a==25 <;> cases d:a==16 <;> cases e:a==19
 all_goals (
  go_enter func207,ntmps207;go_wp2;go_ret;exact⟨by rfl,rfl⟩)
theorem q1p (a:Int)(w:Tw):Calls prog 209 #[J6 a] w fun b c=>b=.returned (.bool (mBk a))/\c=w:=by
 have c:mBk a=(mE a||a==24||a==14||a==15):=rfl;rw[c];cases b:mE a <;> cases e:a==24 <;> cases f:a==14 <;> cases g:a==15
 all_goals (
  go_enter func209,ntmps209;go_wp2_with fail;refine cQ (q1q a w) fun h d=>?_;rw[d,b];go_wp2;go_ret;exact⟨by rfl,rfl⟩)
theorem q16 (a:To)(m c:Nat)(w:Tw):Calls prog 277 #[.slice a m c] w fun b d=>b=.returned (.bool true)/\d=w:=by
 go_enter func277,ntmps277;go_wp2;go_ret;exact⟨rfl,rfl⟩
theorem q04 (b o m c:Nat)(p:Vx)(w:Tw)(g:1<=m)(d:Cel w b o p):Calls prog 273 #[.slice (some ⟨b,o,none⟩) m c] w fun a e=>a=.returned (.bool (p.k != 1&&p.k != 3))/\e=w:=by
 obtain⟨-,f,c1,c2⟩:=d;have h:(0:Int)<m:=by omega
 cases a:p.k != 1 <;> cases e:p.k != 3
 all_goals (
  go_enter func273,ntmps273;go_wp2;go_ret;exact⟨by first | rfl | simp[a,e],rfl⟩)
theorem q29 (n:Int)(b:Bool)(w:Tw):Gv 311 #[J6 n,.bool b] w (vv (if b then kbL n else kax 2)):=by
 obtain⟨e,h⟩:=Nq (w.alloc (.cells Jf 55));have c:Bw w e:=by rw[<- h];exact(Below.refl _ _).alloc (nR _) _
 have bR:=nK h;obtain⟨f,g⟩:=oB c bR;cases b
 . rw[Yl (by decide)]
   go_enter func311,ntmps311;go_wp2_with fail;refine cQ (q57 2 e) fun p c=>?_;have a:=mB g c;have d:=mT f c;obtain⟨l,m,o⟩:=kag a;have i:=a.free 0;have j:=a.free 1;have k:=a.free 2;unfold vv kax;go_wp2;exact bodyPost_ret (v:=.agg #[J6 4,J6 2,J8]) (by simp[results,results311,go_sem, *]) rfl ⟨rfl,kap d _ _ _⟩
 . rw[Yr rfl]
   go_enter func311,ntmps311;go_wp2_with fail;refine cQ (q5e n e) fun p c=>?_;have a:=mB g c;have d:=mT f c;obtain⟨l,m,o⟩:=kag a;have i:=a.free 0;have j:=a.free 1;have k:=a.free 2;go_wp2;exact bodyPost_ret (v:=.agg (J4 n)) (by simp[results,results311,go_sem, *]) rfl ⟨rfl,kap d _ _ _⟩
theorem q40 (n:Int)(w:Tw)(c:-9223372036854775808<=n/\n<=9223372036854775807):Calls prog 308 #[J6 n] w fun a b=>a=.returned (.int .u64 (n.natAbs:Int))/\b=w:=by
 have b:=h_ c;by_cases d:n<0
 . have a:IntKind.u64.wrap (-(IntKind.u64.wrap n))=(n.natAbs:Int):=by
    have:=b.u;simp only[IntKind.wrap,IntKind.bits,IntKind.signed];simp;omega
   go_enter func308,ntmps308;go_wp2;go_ret;exact⟨by first | rw[a] | simp,rfl⟩
 . have a:IntKind.u64.wrap n=(n.natAbs:Int):=by
    have:=b.u;simp only[IntKind.wrap,IntKind.bits,IntKind.signed];simp;omega
   go_enter func308,ntmps308;go_wp2;go_ret;exact⟨by first | rw[a] | simp,rfl⟩
theorem ql8 {n:Nat}(b:n<18446744073709551616):(if decide ((n:Int)<=9223372036854775807) then kbL (wrap64 (n:Int)) else kax 2)=kbn (n:Int):=by
 unfold kbn kby;by_cases a:(n:Int)<=9223372036854775807
 . rw[Yr (Ye a),Yr (Ye ⟨by omega,a⟩),q6w (by omega) a]
 . rw[Yl (by simpa using a),Yl (by simp;omega)]
theorem qkh {n:Nat}(d:n<18446744073709551616):(if decide ((n:Int)<=9223372036854775808) then kbL (wrap64 (-(wrap64 (n:Int)))) else kax 2)=kbn (-(n:Int)):=by
 unfold kbn kby;by_cases a:(n:Int)<=9223372036854775808
 . have b:wrap64 (-(wrap64 (n:Int))) = -(n:Int):=by
    by_cases c:(n:Int)=9223372036854775808
    . rw[c];unfold wrap64;omega
    . rw[q6w (x:=(n:Int)) (by omega) (by omega),q6w (by omega) (by omega)]
   rw[Yr (Ye a),Yr (Ye ⟨by omega,by omega⟩),b]
 . rw[Yl (by simpa using a),Yl (by simp;omega)]
theorem q1x (a:Nat)(neg:Bool)(w:Tw)(t:a<18446744073709551616):Gv 307 #[.int .u64 (a:Int),.bool neg] w (vv (kbn (if neg then -(a:Int) else a))):=by
 have j:=h_ t;obtain⟨h,m⟩:=Nq (w.alloc (.cells Jf 55));have c:Bw w h:=by rw[<- m];exact(Below.refl _ _).alloc (nR _) _
 have bR:=nK m;obtain⟨i,l⟩:=oB c bR;cases neg
 . rw[Yl (by decide)]
   go_enter func307,ntmps307;go_wp2_with fail;refine(q29 (wrap64 (a:Int)) (decide ((a:Int)<=9223372036854775807)) h).mono ?_;rw[show(if decide ((a:Int)<=9223372036854775807) then kbL (wrap64 (a:Int)) else kax 2)=kbn ((a:Int)) from ql8 j.u];rintro o z ⟨rfl,c⟩;have b:=mB l c;have f:=mT i c;obtain⟨u,x,y⟩:=kag b;have p:=b.free 0;have q:=b.free 1;have r:=b.free 2;obtain⟨d,e⟩:=Nq (kbn ((a:Int)));have g:=h_ e;rw[e];unfold vv;go_wp2;exact bodyPost_ret (v:=.agg (Jc d.k d.n d.s)) (by simp[results,results307,go_sem, *]) rfl ⟨by rw[g.u];rfl,kap f _ _ _⟩
 . rw[Yr rfl]
   go_enter func307,ntmps307;go_wp2_with fail;refine(q29 (wrap64 (-(wrap64 (a:Int)))) (decide ((a:Int)<=9223372036854775808)) h).mono ?_;rw[show(if decide ((a:Int)<=9223372036854775808) then kbL (wrap64 (-(wrap64 (a:Int)))) else kax 2)=kbn (-(a:Int)) from qkh j.u];rintro o z ⟨rfl,c⟩;have b:=mB l c;have f:=mT i c;obtain⟨u,x,y⟩:=kag b;have p:=b.free 0;have q:=b.free 1;have r:=b.free 2;obtain⟨d,e⟩:=Nq (kbn (-(a:Int)));have g:=h_ e;rw[e];unfold vv;go_wp2;exact bodyPost_ret (v:=.agg (Jc d.k d.n d.s)) (by simp[results,results307,go_sem, *]) rfl ⟨by rw[g.u];rfl,kap f _ _ _⟩
theorem q2a {o:Oper}{a:Act}{w:Tw}(d:TypeId)(x y:Operand)(h:o.op=.store d x y)(g:Nat)(b:Ta)(j:a.eval x=J9 g 0)(hy:a.eval y=.agg b)(t:TypeId)(c:Ta)(f:w.heap[g]? = some (.cells c t (0,0)))(hi:(prog.info? d).map (·.size)=some b.size)(i:c.size=b.size)(e:b.all (·.oneCell')=true):(execOp a.eval o).run prog w=.ok .skip (w.setRow g b):=by
 unfold execOp;simp only[h,j,hy,Instr.storeAt,Instr.sureAddr,Sem.run_bind,Sem.run_pure,Result.andThen_ok,run_storeVar_row w g t d c b f hi i e]
theorem qii {B g:Nat}{w W:Tw}(a:Below B w W)(e:B<=g)(c:Ta):Below B w (W.setRow g c) :=
 ⟨a.os,a.tape,a.output,by simp[World.setRow];exact a.size,fun b d=>(setRow_other W g b c (by omega)).trans (a.block b d)⟩
theorem keK {f:Region.Mode}{c:Array Oper}{Q:Exit->Act->Tw->Prop}{l b:Tl}{lb:List Bool}{fuel:Nat}{w W:Tw}{z:Vx}{o g:Oper}{x y:Operand}{F:FuncId}{args:Ta}(i j:Nat)(d:Tmp)(t:RW w W)(u:Gvs F args z)
 (q:∀e,Blk e w.heap.size 55 [J6 z.k,J6 z.n,.string z.s]->Bw w e->Q .normal { tmps:=b.toArray,defers:=[] } e)
 (hi:c[i]? = some o:=by exact rfl) (v:o.dst=some d:=by exact rfl) (I:Region.wanted o (yielded c l.toArray)=true:=by rfl) (E:Region.ready f c lb.toArray=[i]:=by kernel_rfl)
 (hrun:(execOp (Act.eval { tmps:=l.toArray,defers:=[] }) o).run prog W=.ok (.enter F args) W:=by simp[execOp,go_sem])
 (D:l.set d (.agg (Jc z.k z.n z.s))=b:=by(first | simp only[Ya,Yb] | skip);rfl)
 (C:c[j]? = some g:=by exact rfl) (r:g.op=.store 55 x y:=by exact rfl) (A:g.dst=none:=by exact rfl) (K:Act.eval { tmps:=b.toArray,defers:=[] } x=J9 w.heap.size 0:=by rfl) (hy:Act.eval { tmps:=b.toArray,defers:=[] } y=.agg (Jc z.k z.n z.s):=by rfl)
 (J:Region.wanted g (yielded c b.toArray)=true:=by rfl) (G:Region.ready f c (lb.toArray.setIfInBounds i true)=[j]:=by kernel_rfl) (H:Region.ready f c ((lb.toArray.setIfInBounds i true).setIfInBounds j true)=[]:=by kernel_rfl) :
 wpAnyH prog f c Q (fun e=>Bw w e) (fuel+2) lb.toArray { tmps:=l.toArray,defers:=[] } W:=by
 refine kaL (a:={ tmps:=l.toArray,defers:=[] }) (fuel:=fuel+1) (R:=fun p h=>p=.agg (Jc z.k z.n z.s)/\Bw W h) d hi v I E hrun ((u W).mono fun L e ⟨m,h⟩=>⟨_,m,rfl,h⟩) ?_;rintro p L ⟨rfl,h⟩;have e:=t.mono h;refine⟨e.B,?_⟩;show wpAnyH _ _ _ _ _ _ _ { tmps:=l.toArray.setIfInBounds d (.agg (Jc z.k z.n z.s)),defers:=[] } _;rw[show l.toArray.setIfInBounds d (.agg (Jc z.k z.n z.s))=b.toArray by rw[Yw,D]];have m:=qii e.B (nR _) (Jc z.k z.n z.s);refine ka0 (a:={ tmps:=b.toArray,defers:=[] }) C J G A (q2a (a:={ tmps:=b.toArray,defers:=[] }) 55 x y r w.heap.size (Jc z.k z.n z.s) K hy 55 _ e.R (by kernel_rfl) rfl (by kernel_rfl)) rfl m ?_;exact wpAnyH_done H (q _ (e.R.row [J6 z.k,J6 z.n,.string z.s]) m) _
theorem opS {F:FuncId}{args:Ta}{w:Tw}{R:Vx}(c:∀b a,Hi (R=b)->w.alloc (.cells Jf 55)=a->Hi (RW w a)->Gv F args w (.agg (Jc b.k b.n b.s))) :
 Gv F args w (vv R):=by
 obtain⟨a,d,b⟩:=RW.start w;exact c R a (h_ rfl) d (h_ b)
theorem ab {w:Tw}{b o:Nat}{p c:Vx}(d:Cel w b o p)(e:Cel w b (o+3) c):∀a,Bw w a->(a.cell? ⟨b,o,none⟩=some (J6 p.k)/\a.cell? ⟨b,o+1,none⟩=some (J6 p.n)/\a.cell? ⟨b,o+2,none⟩=some (.string p.s))/\a.cell? ⟨b,o+3,none⟩=some (J6 c.k)/\a.cell? ⟨b,o+3+1,none⟩=some (J6 c.n)/\a.cell? ⟨b,o+3+2,none⟩=some (.string c.s) :=
 fun _ a=>⟨(d.mono a).2,(e.mono a).2⟩
theorem RW.drew {w W:Tw}(a:RW w W):RW w W.drew:=a.mono (bR _ _).drew
theorem keF {id:Nat}{b:Array Oper}{Q:Exit->Act->Tw->Prop}{a:Act}{w W:Tw}(d:RW w W)(c:Bw w W.drew->wpAnyH prog .any b Q (fun e=>Bw w e) b.size (Array.replicate b.size false) a W.drew)(e:prog.follows .mixedOrders=true:=by kernel_rfl):(Code.region id b true).wp prog Q a W :=
 wp_region_held_drew e d.B.drew c
theorem khr {f:Region.Mode}{b:Array Oper}{Q:Exit->Act->Tw->Prop}{l x:Tl}{lb g:List Bool}{fuel:Nat}{w W:Tw}{o:Oper}{F:FuncId}{args:Ta}{v:Value}(i:Nat)(d:Tmp)(m:RW w W)(p:Gv F args W v)
 (k:∀e,RW w e->wpAnyH prog f b Q (fun c=>Bw w c) fuel g.toArray { tmps:=x.toArray,defers:=[] } e)
 (hi:b[i]? = some o:=by exact rfl) (q:o.dst=some d:=by exact rfl) (t:Region.wanted o (yielded b l.toArray)=true:=by rfl) (s:Region.ready f b lb.toArray=[i]:=by kernel_rfl)
 (hrun:(execOp (Act.eval { tmps:=l.toArray,defers:=[] }) o).run prog W=.ok (.enter F args) W:=by simp[execOp,go_sem])
 (r:l.set d v=x:=by(first | simp only[Ya,Yb] | skip);rfl) (e:lb.set i true=g:=by(first | simp only[Ya,Yb] | skip);rfl) :
 wpAnyH prog f b Q (fun c=>Bw w c) (fuel+1) lb.toArray { tmps:=l.toArray,defers:=[] } W:=by
 refine kaL (a:={ tmps:=l.toArray,defers:=[] }) (R:=fun h j=>h=v/\Bw W j) d hi q t s hrun (p.mono fun n c ⟨j,e⟩=>⟨_,j,rfl,e⟩) ?_;rintro h j ⟨rfl,n⟩;have c:=m.mono n;refine⟨c.B,?_⟩;have:=k j c;rw[<- r,<- e,<- Yw,<- Yw]at this;exact this
theorem keG {b:Bool}(z:Vx)(a:kaj b=z):Gvs 105 #[.bool b] z:=by subst a;exact q37 b
theorem kig {n:Int}(z:Vx)(a:kbL n=z):Gvs 310 #[J6 n] z:=by subst a;exact q5e n
theorem kih {n:Int}(z:Vx)(a:kax n=z):Gvs 211 #[J6 n] z:=by subst a;exact q57 n
theorem kh5 {s:Tb}(z:Vx)(a:kbU s=z):Gvs 303 #[.string s] z:=by subst a;exact q4h s
theorem q8z (o:Int)(a:To)(m c:Nat)(f:Nat->Vx)(w:Tw)(D:ar o=m)(A:m=1∨m=2)(q:(f 0).k=2)(d:kaF w a m f) :
 Gv 183 (Jn o a m c) w (vv (R2 o m f)):=by
 obtain⟨Q,j,i⟩:=RW.start w;obtain⟨p,s⟩:=Nq (R2 o m f);rw[s];obtain⟨l,H,g,F⟩:=oD s (d.mono i.B) i q;obtain⟨C,t,rfl,-,v,c1,c2⟩:=kd6 H (by omega);have I:Hi (m=2->∀h,Bw w h->h.cell? ⟨C,t+1,none⟩=some (J6 (f 0).n)/\h.cell? ⟨C,t+3+1,none⟩=some (J6 (f 1).n)):=h_ fun x h e=>by
  obtain⟨G,J,r,z⟩:=(d.mono e) 0 (by omega);obtain⟨K,P,y,E⟩:=(d.mono e) 1 (by omega);cases r;cases y;exact⟨by simpa using z.2.2.1,by simpa using E.2.2.1⟩
 clear d i q s;unfold vv;by_cases r:o=3
 . subst r
   have x:ar 3=1:=by decide
   obtain rfl:m=1:=by omega
   clear x D A;go_enter func183,ntmps183;go_wp2_with fail
   try rw[j]
   clear j;refine cQ (q3o (f 0) _) fun q e=>?_;replace g:=h_ (g.mono e);clear e v c1 c2;go_wp2_with fail;refine(kbo p (by rw[<- l.u,kdl,F.u];simp[R2,kc4]) _).mono ?_;exact exS g
 have U:=nq r;by_cases y:o=23
 . subst y
   have x:ar 23=1:=by decide
   obtain rfl:m=1:=by omega
   clear x D A r;obtain⟨z,i⟩:=Nq (kbg (f 0));have d:=h_ i;clear i;go_enter func183,ntmps183;go_wp2_with fail
   try rw[j]
   clear j;refine cQ (q5q (f 0) _) fun q e=>?_;replace g:=h_ (g.mono e);clear e v c1 c2;rw[d.u];cases z
   . go_wp2_with fail
     refine(keU p (by have i:=d.u;rw[kbg,F.u]at i;rw[<- l.u];simp at i;simp[R2,kc4,i]) _).mono ?_;exact exS g
   . go_wp2_with fail
     refine(keU p (by have i:=d.u;rw[kbg,F.u]at i;rw[<- l.u];simp at i;simp[R2,kc4,i]) _).mono ?_;exact exS g
 have T:=nq y;by_cases q:o=10∨o=11
 . obtain rfl:m=2:=by rcases q with rfl | rfl <;> (have x:ar 10=2:=by decide) <;> (have R:ar 11=2:=by decide) <;> omega
   obtain⟨K,P,L,-,-,d1,-⟩:=H 1 (by omega);cases L;rw[show t+1*3=t+3 by omega]at d1;clear D A r y;have G:Hi (∀h,Bw w h->h.cell? ⟨C,t+1,none⟩=some (J6 (f 0).n)/\h.cell? ⟨C,t+3+1,none⟩=some (J6 (f 1).n)):=h_ (I rfl);rcases q with rfl | rfl
   . go_enter func183,ntmps183
     go_wp2_with fail
     try rw[j]
     clear j v c1 c2 d1;refine wp_region_held_drew (S:=fun h=>Bw w h) (by kernel_rfl) g.B.drew (fun d=>?_);have hC:=G.u;refine tkA 0 d ?_;refine tkA 1 d ?_;refine tkA 2 d ?_;refine tkA 3 d ?_;refine tkA 4 d ?_;refine tkA 5 d ?_;refine tkA 6 d ?_;refine tkA 7 d ?_;refine tkA 8 d ?_;refine keK 9 10 31 (g.mono (bR _ _).drew) (kbo (b:=(f 0).n==(f 1).n) p (by rw[<- l.u];simp[R2,kdK,khl])) ?_;intro J z e;obtain⟨M,N,O⟩:=kag z;have E:=h_ e;clear hC z e d;go_wp2;exact bQ ⟨rfl,E⟩
   . go_enter func183,ntmps183
     go_wp2_with fail
     try rw[j]
     clear j v c1 c2 d1;refine wp_region_held_drew (S:=fun h=>Bw w h) (by kernel_rfl) g.B.drew (fun d=>?_);have hC:=G.u;refine tkA 0 d ?_;refine tkA 1 d ?_;refine tkA 2 d ?_;refine tkA 3 d ?_;refine tkA 4 d ?_;refine tkA 5 d ?_;refine tkA 6 d ?_;refine tkA 7 d ?_;refine tkA 8 d ?_;refine keK 9 10 43 (g.mono (bR _ _).drew) (kbo (b:=(f 0).n != (f 1).n) p (by rw[<- l.u];simp[R2,kdK,bne,khl])) ?_;intro J z e;obtain⟨M,N,O⟩:=kag z;have E:=h_ e;clear hC z e d;go_wp2;exact bQ ⟨rfl,E⟩
 have d:=nq fun i=>q (.inl i);have e:=nq fun i=>q (.inr i);have s:kax 1=p:=by rw[<- l.u];rcases A with rfl | rfl <;> simp[R2,kc4,kdK,r,y,not_or.1 q]
 replace l:=h_ s;clear s r y q D A;go_enter func183,ntmps183;go_wp2_with fail
 try rw[j]
 clear j v c1 c2;refine(kdk p l _).mono ?_;exact exS g
theorem qrz (s t:Tb):(s.toList==t.toList)=decide (s=t):=by
 by_cases a:s=t
 . rw[a,Ye rfl];simp
 . rw[Yd a,Yc,Y7,Y7]
   exact fun b=>a (ByteArray.ext (Array.toList_inj.1 b))
theorem q90 (j:Int)(a:To)(m c:Nat)(f:Nat->Vx)(w:Tw)(y:ar j=m)(E:m=1∨m=2)(z:∀A,A<m->(f A).s.size<=1000)(g:kaF w a m f) :
 Gv 182 (Jn j a m c) w (vv (R3 j m f)):=by
 obtain⟨J,b,o⟩:=RW.start w;obtain⟨h,i⟩:=Nq (R3 j m f);rw[i];obtain⟨e,G,d⟩:=oC i (g.mono o.B) o;have hp:=z 0 (by omega);obtain⟨T,Q,rfl,-,l,c1,c2⟩:=kd6 G (by omega);clear g o i;unfold vv;have t:∀g:Int,j=g->ar g=1->m=1:=fun g k K=>by rw[k]at y;omega
 have C:∀g:Int,j=g->ar g=2->m=2:=fun g k K=>by rw[k]at y;omega
 by_cases x:j=21
 . obtain rfl:=t 21 x (by decide)
   subst x;clear y E t C z;have I:Hi (kbL (f 0).s.size=h):=h_ (by rw[<- e.u];simp[R3,kc5]);go_enter func182,ntmps182;go_wp2_with fail
   try rw[b]
   clear b;refine cQ (qft 0 _) fun r k=>?_;have M:=h_ (d.mono k);clear k;obtain⟨w4,F⟩:=Nq (r.alloc (.cells #[J6 1,J6 0,J8] 55));have P:=nB F;obtain⟨q,D⟩:=Nq r.heap.size;have O:=nJ D F;have X:w.heap.size<q:=by rw[<- D];exact M.R.lt
   obtain⟨L,N,H⟩:=oC O (M.mono P) (And.intro F D);clear P O l c1 c2 F D;go_wp2;rw[H.u.1,H.u.2];clear H;go_loopw [7] (fun A wr=>∃g:Nat,g<=(f 0).s.size/\A=J6 g/\Blk wr q 55 [J6 1,J6 g,J8]/\RW w wr) (fun A _=>(f 0).s.size - (intOf A).toNat)
   case atStart=>exact⟨0,nZ _,rfl,L,N⟩
   case round =>
    obtain⟨g,Y,rfl,A,o⟩:=hrel;obtain⟨x0,x1,x2⟩:=kag A;have U:=A.free 0;have V:=A.free 1;have W:=A.free 2;clear L N;obtain⟨F,D⟩:=oB A o;clear A;by_cases Z:g<(f 0).s.size
    . have A:=h_ (F.set 1 (J6 ((g:Int)+1)))
      have D:Hi (RW w (wr.setCell ⟨q,1,none⟩ (J6 ((g:Int)+1)))):=h_ ⟨o.R.other (a:=⟨q,1,none⟩) (J6 ((g:Int)+1)) (by show w.heap.size≠q;omega),o.B.setCell (p:=⟨q,1,none⟩) (by show w.heap.size<=q;omega) (J6 ((g:Int)+1))⟩;clear o;go_wp2;go_roundw
      case rel=>exact⟨g+1,by omega,by go_num,by simpa using A.u,D⟩
      case measure=>simp[intOf];omega
    . obtain rfl:g=(f 0).s.size:=by omega
      obtain⟨⟨O,P,S⟩,H,L,N⟩:=o.val;have A:¬ q=w.heap.size:=(by omega);have n7:¬ w.heap.size=q:=(by omega);clear o;go_wp2;exact bQ (v:=.agg (J4 (f 0).s.size)) ⟨by rw[<- I.u];rfl,D.u.out _ _ _⟩
 have M:=nq x;by_cases g:j=22
 . obtain rfl:=t 22 g (by decide)
   subst g;clear y E t C z;obtain⟨A,o,D⟩:∃A o,rd (f 0).s.data.toList=(A,o):=⟨_,_,rfl⟩;have q:=h_ D;clear D x;go_enter func182,ntmps182;go_wp2_with fail
   try rw[b]
   clear b;refine cQ (q3q (f 0).s _ (by omega) A o q) fun r k=>?_;replace d:=h_ (d.mono k);clear k l c1 c2;cases o
   . go_wp2_with fail
     refine(kdk h (by rw[<- e.u];simp[R3,kc5,q.u]) _).mono ?_;exact exS d
   . go_wp2_with fail
     refine(gInt h (by rw[<- e.u];simp[R3,kc5,q.u]) _).mono ?_;exact exS d
 have U:=nq g;by_cases o:j=23
 . obtain rfl:=t 23 o (by decide)
   subst o;clear y E t C z;have I:Hi (f 0=h):=h_ (by rw[<- e.u];simp[R3,kc5]);obtain⟨⟨O,P,S⟩,H,L,N⟩:=d.val;clear x g;go_enter func182,ntmps182;go_wp2
   try rw[b]
   exact bQ (v:=.agg (Jc (f 0).k (f 0).n (f 0).s)) ⟨by rw[I.u],d.u.out _ _ _⟩
 have L:=nq o;rcases E with rfl | rfl
 . have i:kax 1=h:=by rw[<- e.u];simp[R3,kc5,x,g,o]
   replace e:=h_ i;clear i x g o t C y z;go_enter func182,ntmps182;go_wp2_with fail
   try rw[b]
   clear b;clear l c1 c2;refine(kdk h e _).mono ?_;exact exS d
 have F:=z 1 (by omega);obtain⟨D,O,A,-,-,-,d2⟩:=G 1 (by omega);cases A;rw[show Q+1*3+2=Q+5 by omega]at d2;clear y z t C x g o G;by_cases z:j=9
 . subst z
   by_cases g:1000<(f 0).s.size+(f 1).s.size
   . have o:(1000:Int)<(f 0).s.size+(f 1).s.size:=by omega
     have i:kax 4=h:=(by rw[<- e.u];simp[R3,kcx,g]);replace e:=h_ i;clear i g;go_enter func182,ntmps182;go_wp2_with fail
     try rw[b]
     clear b;clear l c1 c2 d2;refine(kdk h e _).mono ?_;exact exS d
   . have o:¬ (1000:Int)<(f 0).s.size+(f 1).s.size:=by omega
     have i:kbU ((f 0).s++(f 1).s)=h:=(by rw[<- e.u];simp[R3,kcx,g]);replace e:=h_ i;clear i g;go_enter func182,ntmps182;go_wp2_with fail
     try rw[b]
     clear b;clear l c1 c2 d2;refine(keU h e _).mono ?_;exact exS d
 have N:=nq z;by_cases o:j=10
 . subst o
   go_enter func182,ntmps182;go_wp2_with fail
   try rw[b]
   clear b;clear l c1 c2 d2;refine(kbo h (by rw[<- e.u];simp[R3,kcx,qrz]) _).mono ?_;exact exS d
 have C:=nq o;by_cases q:j=11
 . subst q
   go_enter func182,ntmps182;go_wp2_with fail
   try rw[b]
   clear b;clear l c1 c2 d2;refine(kbo h (by rw[<- e.u];simp[R3,kcx,qrz]) _).mono ?_;exact exS d
 have G:=nq q;by_cases t:j=12
 . subst t
   go_enter func182,ntmps182;go_wp2_with fail
   try rw[b]
   clear b;refine(q2m _ (f 0).s (f 1).s _ rfl (by omega) (by omega)).mono ?_;rintro K r ⟨rfl,nq,g⟩;have k:Bw J r:=by rw[g];exact q4s _ nq
   replace d:=h_ (d.mono k);clear k g l c1 c2 d2;go_wp2_with fail;refine(kbo h (by rw[<- e.u];simp[R3,kcx]) _).mono ?_;exact exS d
 have H:=nq t;by_cases x:j=13
 . subst x
   go_enter func182,ntmps182;go_wp2_with fail
   try rw[b]
   clear b;refine(q2m _ (f 1).s (f 0).s _ rfl (by omega) (by omega)).mono ?_;rintro K r ⟨rfl,nq,g⟩;have k:Bw J r:=by rw[g];exact q4s _ nq
   replace d:=h_ (d.mono k);clear k g l c1 c2 d2;go_wp2_with fail;refine(kbo h (by rw[<- e.u];simp[R3,kcx]) _).mono ?_;exact exS d
 have I:=nq x;by_cases y:j=20
 . subst y
   go_enter func182,ntmps182;go_wp2_with fail
   try rw[b]
   clear b;refine cQ (qfs (f 0).s (f 1).s _ (by omega) (by omega)) fun r g=>?_;have k:Bw J r:=by rw[g];exact bR _ _
   replace d:=h_ (d.mono k);clear k g l c1 c2 d2;go_wp2_with fail;refine(kbo h (by rw[<- e.u];simp[R3,kcx]) _).mono ?_;exact exS d
 have g:=nq y;have i:kax 1=h:=by rw[<- e.u];simp[R3,kcx,z,o,q,t,x,y]
 replace e:=h_ i;clear i z o q t x y;go_enter func182,ntmps182;go_wp2_with fail
 try rw[b]
 clear b;clear l c1 c2 d2;refine(kdk h e _).mono ?_;exact exS d
section
variable {md:Region.Mode} {ops:Array Oper} {Q:Exit->Act->Tw->Prop} {S:Tw->Prop} {o:Oper} {a:Act}
theorem khs {i fuel:Nat}{p:Array Bool}{w:Tw}(q:Tmp)(hi:ops[i]? = some o)(K:o.dst=some q)(L:o.guard=none)(U:Region.ready md ops p=[i])(s x:Operand)(t:TypeId)
 (R:o.op=.call { callee:=.builtin .append,args:=#[s,x],argTypes:=#[t,t] })
 (base:Nat) (f:TypeId) (g:TypeInfo) (z:Value) (d l:Nat) (Y:prog.underlying t=some (.slice f)) (M:prog.info? f=some g) (hz:g.zero=some z)
 (W:g.size=d) (I:g.bytes=l) (aa:z.cells.size=d) (X:0<d)
 (v:Value) (n:Nat) (xs:Tl) (V:a.eval s=v) (T:w.ownsRow base f d v n xs)
 (k:Addr) (m c:Nat) (h:Tl) (Z:a.eval x=.slice (some k) m c) (N:h.length=m*d) (P:∀e b,h[e]? = some b->w.cell? (k.add e)=some b) (C:∀b∈h,b.oneCell'=true)
 (O:0<m) (D:n+m<=maxLen) (J:(n+m)*l<=140737488355328) (G:base<=w.heap.size) (H:Nat) (E:w.heap.size=H)
 (B:∀b j e,e.ownsRow base f d (.slice (some ⟨b,0,none⟩) (n+m) j) (n+m) (xs++h)->w.grownBy e v.ownBlock->(v.ownBlock=some b∨b=H)->b<e.heap.size->S e/\wpAnyH prog md ops Q S fuel (p.setIfInBounds i true) { tmps:=a.tmps.setIfInBounds q (.slice (some ⟨b,0,none⟩) (n+m) j),defers:=a.defers } e):wpAnyH prog md ops Q S (fuel+1) p a w :=
 wpAnyH_ready U (by simp) (AllReadyH.cons hi (fun r F=>step_append_lies w L s x t R base f g z d l Y M hz W I aa X v n xs V T k m c h Z N P C O D J G H E (fun b j e r u y A=>by
  rw[qrk K];obtain⟨k1,k2⟩:=B b j e r u y A;exact F.out _ _ k1 (fun _=>k2))) AllReadyH.nil)
end
theorem qkx {w w':Tw}{base n k:Nat}{t:TypeId}{v:Value}{xs:Tl}(b:w.ownsRow base t k v n xs)(a:Bw w w'):w'.ownsRow base t k v n xs :=
 b.kept (row:=none) ⟨a.os,a.tape,a.output,a.size,fun d c _=>a.block d c⟩ (Classical.em _)
section
variable {md:Region.Mode} {ops:Array Oper} {Q:Exit->Act->Tw->Prop} {l l':Tl} {lb lb':List Bool} {fuel B:Nat} {W0 W:Tw} {o:Oper} {F:FuncId} {args:Ta}
theorem kd3 {id:Nat}{a:Act}(c:Below B W0 W)(b:Below B W0 W.drew->wpAnyH prog .any ops Q (fun d=>Below B W0 d) ops.size (Array.replicate ops.size false) a W.drew)(d:prog.follows .mixedOrders=true:=by kernel_rfl):(Code.region id ops true).wp prog Q a W :=
 wp_region_held_drew d c.drew b
theorem keJ {v:Value}(i:Nat)(d:Tmp)(e:Below B W0 W)(q:B<=W.heap.size)(j:Gv F args W v)
 (h:∀c,Bw W c->Below B W0 c->wpAnyH prog md ops Q (fun b=>Below B W0 b) fuel lb'.toArray { tmps:=l'.toArray,defers:=[] } c)
 (hi:ops[i]? = some o:=by exact rfl) (k:o.dst=some d:=by exact rfl) (r:Region.wanted o (yielded ops l.toArray)=true:=by rfl) (p:Region.ready md ops lb.toArray=[i]:=by kernel_rfl)
 (hrun:(execOp (Act.eval { tmps:=l.toArray,defers:=[] }) o).run prog W=.ok (.enter F args) W:=by simp[execOp,go_sem])
 (m:l.set d v=l':=by(first | simp only[Ya,Yb] | skip);rfl) (n:lb.set i true=lb':=by(first | simp only[Ya,Yb] | skip);rfl) :
 wpAnyH prog md ops Q (fun b=>Below B W0 b) (fuel+1) lb.toArray { tmps:=l.toArray,defers:=[] } W:=by
 refine kaL (a:={ tmps:=l.toArray,defers:=[] }) (R:=fun f c=>f=v/\Bw W c) d hi k r p hrun (j.mono fun g b ⟨c,e⟩=>⟨_,c,rfl,e⟩) ?_;rintro f g ⟨rfl,b⟩;have c:=e.trans (b.mono q);refine⟨c,?_⟩;have:=h g b c;rw[<- m,<- n,<- Yw,<- Yw]at this;exact this
theorem kh9 {R:Value->Tw->Prop}(i:Nat)(e:Tmp)(f:Below B W0 W)(r:B<=W.heap.size)(k:Calls prog F args W fun h c=>∃b,h=.returned b/\R b c/\Bw W c)
 (j:∀b d,R b d->Bw W d->Below B W0 d->wpAnyH prog md ops Q (fun c=>Below B W0 c) fuel lb'.toArray { tmps:=(l.set e b).toArray,defers:=[] } d)
 (hi:ops[i]? = some o:=by exact rfl) (m:o.dst=some e:=by exact rfl) (s:Region.wanted o (yielded ops l.toArray)=true:=by rfl) (q:Region.ready md ops lb.toArray=[i]:=by kernel_rfl)
 (hrun:(execOp (Act.eval { tmps:=l.toArray,defers:=[] }) o).run prog W=.ok (.enter F args) W:=by simp[execOp,go_sem])
 (p:lb.set i true=lb':=by(first | simp only[Ya,Yb] | skip);rfl) :
 wpAnyH prog md ops Q (fun c=>Below B W0 c) (fuel+1) lb.toArray { tmps:=l.toArray,defers:=[] } W:=by
 refine kaL (a:={ tmps:=l.toArray,defers:=[] }) (R:=fun g d=>R g d/\Bw W d) e hi m s q hrun (k.mono fun h c ⟨b,n,d,f⟩=>⟨b,n,d,f⟩) ?_;rintro g h ⟨d,b⟩;have c:=f.trans (b.mono r);refine⟨c,?_⟩;have:=j g h d b c;rw[<- p,<- Yw,<- Yw]at this;exact this
theorem appS {h m p:Oper}{e t:TypeId}{g:TypeInfo}{zv u:Value}{k j n:Nat}{xs cs:Tl}(i:Nat)(d1 d2 q:Tmp)(s x:Operand)
 (G:Below B W0 W) (w:B<=W.heap.size) (z:W.ownsRow B e k u n xs) (ht:prog.underlying t=some (.slice e)) (O:prog.info? e=some g) (hz:g.zero=some zv) (ad:g.size=k) (H:g.bytes=j) (ai:zv.cells.size=k) (ae:0<k)
 (J:cs.length=k) (C:∀b∈cs,b.oneCell'=true) (D:n+1<=maxLen) (I:(n+1)*j<=140737488355328)
 (r:∀d c f,f.ownsRow B e k (.slice (some ⟨d,0,none⟩) (n+1) c) (n+1) (xs++cs)->Below B W0 f->Q .normal { tmps:=(((l.set d1 (.slice (some ⟨W.heap.size,0,none⟩) 1 1)).set d2 (.slice (some ⟨d,0,none⟩) (n+1) c)).set q (.slice (some ⟨d,0,none⟩) (n+1) c)).toArray,defers:=[] } f)
 (P:ops[i]? = some h:=by exact rfl) (K:h.dst=some d1:=by exact rfl) (af:Region.wanted h (yielded ops l.toArray)=true:=by rfl) (V:Region.ready md ops lb.toArray=[i]:=by kernel_rfl)
 (hrun:(execOp (Act.eval { tmps:=l.toArray,defers:=[] }) h).run prog W=.ok (.value (.slice (some ⟨W.heap.size,0,none⟩) 1 1)) (W.alloc (.cells cs.toArray e)):=by simp[execOp,go_sem])
 (R:ops[i+1]? = some m:=by exact rfl) (L:m.dst=some d2:=by exact rfl) (N:m.guard=none:=by exact rfl) (X:Region.ready md ops (lb.toArray.setIfInBounds i true)=[i+1]:=by kernel_rfl) (U:m.op=.call { callee:=.builtin .append,args:=#[s,x],argTypes:=#[t,t] }:=by exact rfl)
 (ac:Act.eval { tmps:=l.toArray.setIfInBounds d1 (.slice (some ⟨W.heap.size,0,none⟩) 1 1),defers:=[] } s=u:=by rfl) (ah:Act.eval { tmps:=l.toArray.setIfInBounds d1 (.slice (some ⟨W.heap.size,0,none⟩) 1 1),defers:=[] } x=.slice (some ⟨W.heap.size,0,none⟩) 1 1:=by rfl)
 (S:ops[i+2]? = some p:=by exact rfl) (M:p.dst=some q:=by exact rfl) (ag:∀b,Region.wanted p (yielded ops ((l.toArray.setIfInBounds d1 (.slice (some ⟨W.heap.size,0,none⟩) 1 1)).setIfInBounds d2 b))=true:=by intro _;rfl) (Y:Region.ready md ops ((lb.toArray.setIfInBounds i true).setIfInBounds (i+1) true)=[i+2]:=by kernel_rfl)
 (aa:∀b v,(execOp (Act.eval { tmps:=(l.toArray.setIfInBounds d1 (.slice (some ⟨W.heap.size,0,none⟩) 1 1)).setIfInBounds d2 b,defers:=[] }) p).run prog v=.ok (.value b) v:=by intro _ _;rfl)
 (Z:Region.ready md ops (((lb.toArray.setIfInBounds i true).setIfInBounds (i+1) true).setIfInBounds (i+2) true)=[]:=by kernel_rfl) :
 wpAnyH prog md ops Q (fun v=>Below B W0 v) (fuel+3) lb.toArray { tmps:=l.toArray,defers:=[] } W:=by
 have v:=(bR W.heap.size W).alloc (nR _) (.cells cs.toArray e);have E:=Blk.new W e cs.toArray;have A:=G.trans (v.mono w);refine wpAnyH_ready V (by simp) (kaD (a:={ tmps:=l.toArray,defers:=[] }) d1 P K af hrun A ?_ AllReadyH.nil);refine khs (a:={ tmps:=l.toArray.setIfInBounds d1 (.slice (some ⟨W.heap.size,0,none⟩) 1 1),defers:=[] }) (fuel:=fuel+1) d2 R L N X s x t U B e g zv k j ht O hz ad H ai ae u n xs ac (z.alloc _) ⟨W.heap.size,0,none⟩ 1 1 cs ah (by rw[J,Nat.one_mul]) (fun y b b=>by
  rw[show(⟨W.heap.size,0,none⟩:Addr).add y=⟨W.heap.size,y,none⟩ by simp[Addr.add];try exact fun r=>r.symm,E.cell y];simpa using b) C (by omega) D I (Y5 w v.size) _ rfl ?_
 intro d c f T y _ _;have b:=A.grown y (Y5 w v.size) (fun aj e=>qc8 z e);refine⟨b,?_⟩;refine wpAnyH_ready Y (by simp) (kaD (a:={ tmps:=(l.toArray.setIfInBounds d1 (.slice (some ⟨W.heap.size,0,none⟩) 1 1)).setIfInBounds d2 (.slice (some ⟨d,0,none⟩) (n+1) c),defers:=[] }) q S M (ag _) (aa _ _) b ?_ AllReadyH.nil);refine wpAnyH_done Z ?_ _;have:=r d c f T b;rw[<- Yw,<- Yw,<- Yw]at this;exact this
end
