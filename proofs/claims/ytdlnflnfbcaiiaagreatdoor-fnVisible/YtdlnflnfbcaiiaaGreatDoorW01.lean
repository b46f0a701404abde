import Derived.Test.YtdlnflnfbcaiiaaGreatDoorW00
import Derived.RangeFuncNested
import Derived.RangeFuncBound
import Derived.Shelf.RegionOpen
import Derived.OwnWalkIn
import Derived.LoopNIn
import Derived.LoopIn
import Derived.Laws.DeepBits32
import Derived.Lib.TrailingZeros
import Derived.Deep.RegionHeld3
import Derived.Deep.WholeRow
set_option linter.all false
set_option maxRecDepth 100000
set_option maxHeartbeats 0
namespace Go.Proofs.YtdlnflnfbcaiiaaGreatDoor
open Obj renaming cells->Cl
open Ending renaming returned->Rt
open Option renaming none->Nn,some->Sm
section
open Go Go.RowKit Go.Shelf Go.Proofs.Tryz
def LO {β:Type}(B:Nat)(J:β->Tw->Prop):Prop:=∀s W W',J s W->Below B W W'->J s W'
structure M6 (X:Nat->Prop)(W W':Tw):Prop where
 size:W.1.size<=W'.1.size
 same:∀k cs t fr,¬ X k->W.heap[k]? = Sm (Cl cs t fr)->W'.heap[k]? = Sm (Cl cs t fr)
def M6.refl (X W):M6 X W W:=⟨nR _,λ_ _ _ _ _ h=>h⟩
def M6.trans {X A B C}(h:M6 X A B)(k:M6 X B C):M6 X A C:=⟨Yu h.size k.size,λi a t M u b=>k.same i a t M u (h.same i a t M u b)⟩
def M6.put {X W l o q}(a:W.heap[l]? = Sm o)(T:o.isCells=false):M6 X W (W.putObj l q) :=
 ⟨fT,λb B t M _ k=>by
  by_cases e:b=l
  . subst e;rw[a]at k;cases k;simp[Obj.isCells]at T
  . exact(World.putObj_heap_other e).trans k⟩
def M6.of_below {X W W'}(h:Below W.1.size W W'):M6 X W W' :=
 ⟨h.size,λa _ _ _ _ k=>(h.block a (Yt.1 k).1).trans k⟩
def M6.set {X W a}(v)(u:X a.block):M6 X W (W.setCell a v) :=
 ⟨fT,λb _ _ _ k h=>(heap_setCell_other W a b v (λe=>k (e ▸ u))).trans h⟩
def M6.blk {X W W' g t cs}(h:M6 X W W')(c:m0 W g t cs)(H:¬ X g):m0 W' g t cs:=h.same g _ t _ H c
def ZS {W W'}(h:Below W.1.size W W'):KeepsOthers W W':=⟨h.size,λa _ k _=>(h.block a (Yt.1 k).1).trans k⟩
def m0.put {W g l t cs}(h:m0 W g t cs){o}(q)(e:W.heap[l]? = Sm o)(T:o.isCells=false):m0 (W.putObj l q) g t cs:=(M6.put (X:=λ_=>False) e T).same g _ t _ (λh=>h) h
def vT (P:Program)(gf:Nat)(lb:Ta)(T:Nat->Prop)(S Sp:List Nat->Prop)(X:Nat->Prop)(w0:Tw):Prop :=
 ∀(n l:Nat) (J Jx:List Nat->Tw->Prop) (W:Tw),Below w0.1.size w0 W->LO W.1.size J->LO W.1.size Jx->(∀k,X k->k<W.1.size) ->
  (∀(m:Nat) (pre:List Nat) (x:Nat) (W1:Tw),J pre W1->T x->YieldAt Fence.wide m P l #[Ye (x:Int)] W1 λe W' =>
   (e=Rt (.bool true)/\J (pre++[x]) W'/\M6 X W1 W')\/(e=Rt (.bool false)/\Jx (pre++[x]) W')) ->
  J [] W ->
  CallsIn Fence.wide n P gf (#[.func (.yield l) #[] #[]]++lb) W λe W'=>(∃v,e=Rt v)/\((∃xs,S xs/\J xs W')\/(∃pre,Sp pre/\Jx pre W'))
def EM {n}:Fence.wide.depth.isSome=true->1<=n:=λh=>by simp[Fence.wide]at h
def wA {P f args w R n}(h:Calls P f args w R):Fence.wide.fn f/\(Fence.wide.depth.isSome=true->1<=n)/\CallsIn Fence.wide (n - 1) P f args w R :=
 ⟨trivial,EM,callsIn_wide.2 h⟩
def BH {P f args w R n l}(h:Calls P f args w R):(Fence.wide.inRound l).fn f/\((Fence.wide.inRound l).depth.isSome=true->1<=n)/\CallsIn (Fence.wide.inRound l) (n - 1) P f args w R :=
 ⟨trivial,EM,CallsIn.inRound l (callsIn_wide.2 h)⟩
def Ul (X:Nat->Prop)(I Ix:List Nat->Tw->Prop)(xs:List Nat)(W:Tw):Exit->Act->Tw->Prop
 | .normal,_,W'=>KeepsOthers W W'/\M6 X W W'/\I xs W'
 | .ret,_,W'=>KeepsOthers W W'/\Ix xs W'
 | _,_,_=>False
def SL {B}(W l o)(h:B<=l):Below B W (W.putObj l o) :=
 ⟨rfl,rfl,rfl,fT,λ_ k=>World.putObj_heap_other fP⟩
def BV {P g i assign body j a w n gf lb}
 (hg:a.eval g=.func (.func gf) #[] lb) (Z:∀args w,(callFunc gf args).run P w=.ok (.enter gf args) w)
 {T S t X W} (ai:vT P gf lb T S t X W) (O:Below W.1.size W w) (hX:∀k,X k->k<w.1.size) (ah:i.size=1)
 (I V) (r:LO w.1.size I) (J:LO w.1.size V) (h0:I [] w) (M:Nat->Act)
 (aa:∀(m l x:Nat) (b:Tw) (K:Act->Tw->Prop),K (M x) b ->
  assign.wpIn (Fence.wide.inRound l) m P (Exit.then K (λ_ _ _=>False)) { tmps:=(i.zip #[Ye (x:Int)]).foldl (λU (p,Y)=>U.setIfInBounds p Y) a.tmps,defers:=[] } b)
 (ac:∀(m l:Nat) (K:List Nat) (x:Nat) (b:Tw),I K b->T x->body.wpIn (Fence.wide.inRound l) m P (Ul X I V (K++[x]) b) (M x) b)
 (ae:∀(D:Nat) (s:List Nat) (b:Tw),w.1.size<=D->S s->I s b->b.heap[D]? = Sm (.deferred (Sm []))->j .normal { a with defers:={ target:=.collected D,args:=#[] } :: a.defers } b)
 (aj:∀(D:Nat) (K:List Nat) (b:Tw),w.1.size<=D->t K->V K b->b.heap[D]? = Sm (.deferred (Sm []))->j .ret { a with defers:={ target:=.collected D,args:=#[] } :: a.defers } b) :
 (Code.rangeFunc g i assign body).wpIn Fence.wide n P j a w:=by
 refine wpIn_rangeFunc λfn _=>?_;obtain⟨D,N⟩:=Nq w.1.size;obtain⟨mk,d⟩:∃mk:LoopState->Option Code->Loop,mk=λe p=>{ state:=e,pending:=p,fn,tmps:=a.tmps,params:=i,assign,body,defers:=D }:=⟨_,rfl⟩;obtain⟨p,E⟩:=Nq ((w.alloc (.deferred (Sm []))).alloc (.loop (mk .ready Nn)));have H:p.1.size=D+1+1:=by rw[<- E];simp[N]
 have u:Below D w p:=by rw[<- E,<- N];exact((bR _ w).alloc (nR _) _).alloc fT _
 have af:p.heap[D+1]? = Sm (.loop (mk .ready Nn)):=by
  have:=World.alloc_heap_new (w.alloc (.deferred (Sm []))) (.loop (mk .ready Nn));rw[Y4,N,E]at this;exact this
 have ad:p.heap[D]? = Sm (.deferred (Sm [])):=by
  have:=World.alloc_heap_new w (.deferred (Sm []));rw[<- E,<- N];exact(Below.heap_alloc _ _ _ fT).trans this
 have B:=run_enterLoop_outer (P:=P) (w:=w) fn a.tmps i assign body;rw[N]at B;refine⟨D+1,[{ target:=.collected D,args:=#[] }],p,{ target:=.fn (.func gf) lb,args:=#[.func (.yield (D+1)) #[] #[]] },p,gf,#[.func (.yield (D+1)) #[] #[]]++lb,p,?_,?_,?_,?_,λh=>by simp[Fence.wide]at h,?_⟩
 . rw[<- E,d];exact B
 . simp only[resolve,hg];simp[go_sem]
 . intro _ _;trivial
 . simp[invoke,go_sem,Z]
 have L:∀s b l e,D<=l->I s b->I s (b.putObj l e):=λs b l e h C=>r s b _ C (by rw[N];exact SL b l e h);have F:∀s b l e,D<=l->V s b->V s (b.putObj l e):=λs b l e h C=>J s b _ C (by rw[N];exact SL b l e h);refine(ai (n - 1) (D+1) (λK b=>I K b/\b.heap[D+1]? = Sm (.loop (mk .ready Nn))/\b.heap[D]? = Sm (.deferred (Sm [])))
  (λK b=>V K b/\b.heap[D+1]? = Sm (.loop (mk .done (Sm .ret)))/\b.heap[D]? = Sm (.deferred (Sm []))) p (O.trans ((N ▸ u:Below w.1.size w p).mono O.size)) ?_ ?_ (λk e=>Fq (hX k e)) ?_ ⟨r _ _ _ h0 (N ▸ u),af,ad⟩).mono ?_
 . rintro s b y ⟨h,e,q⟩ f
   rw[H]at f;exact⟨r s b y h (f.mono fP),(f.block _ fP).trans e,(f.block _ fP).trans q⟩
 . rintro s b y ⟨h,e,q⟩ f
   rw[H]at f;exact⟨J s b y h (f.mono fP),(f.block _ fP).trans e,(f.block _ fP).trans q⟩
 . -- one round
   rintro m K x b ⟨C,e,q⟩ hT;have ag:=(Yt.1 e).1;have G:=run_yield (P:=P) (args:=#[Ye (x:Int)]) e (by rw[d];simp[ah]);rw[d]at G;refine⟨fn,_,assign,body,G,roundIn_of_wpIn trivial (aa m _ x b _ ⟨_,run_beginRound e (by rw[d]),?_⟩)⟩;refine wpIn_mono (ac m _ K x _ (L _ _ _ _ fP C) hT) ?_;have R:=World.putObj_heap_same (w:=b) (o:=.loop { mk .ready Nn with state:=.busy }) ag;have y:(b.putObj (D+1) (.loop { mk .ready Nn with state:=.busy })).heap[D]? = Sm (.deferred (Sm [])):=(World.putObj_heap_other fP).trans q;have ak:M6 X b (b.putObj (D+1) (.loop { mk .ready Nn with state:=.busy })):=M6.put e rfl;intro v a3 W3 f;cases v with
   | normal =>
    obtain⟨z,kx,l⟩:=f;have k:=z.same _ _ R rfl;have A:=z.same _ _ y rfl;have Q:=run_endRound (P:=P) Nn k;rw[d]at Q;refine⟨_,_,Q,.inl ⟨rfl,⟨L _ _ _ _ fP l,?_,(World.putObj_heap_other fP).trans A⟩,(ak.trans kx).trans (M6.put k rfl)⟩⟩;rw[d];exact World.putObj_heap_same (Yt.1 k).1
   | ret =>
    obtain⟨z,l⟩:=f;have k:=z.same _ _ R rfl;have A:=z.same _ _ y rfl;have Q:=run_endRound (P:=P) (Sm .ret) k;rw[d]at Q;refine⟨_,_,Q,.inr ⟨rfl,F _ _ _ _ fP l,?_,(World.putObj_heap_other fP).trans A⟩⟩;rw[d];exact World.putObj_heap_same (Yt.1 k).1
   | exit id=>exact f.elim
   | goto U=>exact f.elim
   | panic c=>exact f.elim
   | outgrown=>exact f.elim
 . -- behind the iterator
   rintro v k ⟨⟨Y,rfl⟩,(⟨s,G,C,e,q⟩|⟨K,f,C,e,q⟩)⟩
   . have Q:=run_endLoop (P:=P) e (by rw[d];simp)
     rw[d]at Q;exact⟨Nn,_,Q,ae D s _ fP G (L _ _ _ _ fP C) ((World.putObj_heap_other fP).trans q)⟩
   . have Q:=run_endLoop (P:=P) e (by rw[d];simp)
     rw[d]at Q;exact⟨Sm .ret,_,Q,wpIn_ret (aj D K _ fP f (F _ _ _ _ fP C) ((World.putObj_heap_other fP).trans q))⟩
end
section
open Go Go.RowKit Go.Proofs.Tryz
def p8 (s t:Nat):Nat:=s &&& (4294967295 - t)
def s8 (s t:Nat):Nat:=p8 s (p8 s t)
def OJ {s t}(B:s<4294967296)(r:t<4294967296):s ||| t<4294967296:=Nat.or_lt_two_pow (n:=32) B r
theorem NI {s t}(B:s<4294967296):p8 s t<4294967296:=V9 Nat.and_le_left B
def QU {s t}(B:s<4294967296):s8 s t<4294967296:=NI B
theorem lF {a}(K:a<32):2 ^ a<4294967296:=Nat.pow_lt_pow_right fS K
def Ln {s i}(B:s<4294967296)(h:s.testBit i=true):i<32:=by apply Ow;intro C;have:s.testBit i=false:=Nat.testBit_lt_two_pow (Yw B (by have:2 ^ 32<=2 ^ i:=Zn fP C;simpa using this));exact Vr (this.symm.trans h)
theorem PL {s t}(B:s<4294967296)(r:t<4294967296)(i):(p8 s t).testBit i=(s.testBit i&&!t.testBit i):=by unfold p8;rw[Nat.testBit_and,show 4294967295 - t=2 ^ 32 - (t+1) by omega,Nat.testBit_two_pow_sub_succ fP];cases h:s.testBit i;{simp};simp[Ln B h]
def zN {s t}(B:s<4294967296)(r:t<4294967296)(i):(s8 s t).testBit i=(s.testBit i&&t.testBit i):=by grind[s8,PL,NI]
def pU (n)(D:0<=n)(h1:n<4294967296):IntKind.u32.wrap n=n:=by simp[IntKind.wrap,IntKind.bits,IntKind.signed];omega
def Mn (s t:Nat)(B:s<4294967296)(r:t<4294967296):bits .or .u32 (s:Int) (t:Int)=((s ||| t:Nat):Int):=by show IntKind.u32.wrap ((BitVec.ofInt 32 (s:Int) ||| BitVec.ofInt 32 (t:Int)).toNat:Int)=_;rw[BitVec.toNat_or,ofInt_u32 s B,ofInt_u32 t r];exact pU _ fP (Fq (OJ B r))
def qdc (s t:Nat)(B:s<4294967296)(r:t<4294967296):bits .andNot .u32 (s:Int) (t:Int)=((p8 s t:Nat):Int):=by show IntKind.u32.wrap ((BitVec.ofInt 32 (s:Int) &&& ~~~BitVec.ofInt 32 (t:Int)).toNat:Int)=_;rw[BitVec.toNat_and,BitVec.toNat_not,ofInt_u32 s B,ofInt_u32 t r,show 2 ^ 32 - 1 - t=4294967295 - t by omega];exact pU _ fP (by have:=NI (t:=t) B;unfold p8 at this;omega)
def Qj (s t:Nat)(B:s<4294967296)(r:t<4294967296):bits .and .u32 (s:Int) (t:Int)=((s &&& t:Nat):Int):=by show IntKind.u32.wrap ((BitVec.ofInt 32 (s:Int) &&& BitVec.ofInt 32 (t:Int)).toNat:Int)=_;rw[BitVec.toNat_and,ofInt_u32 s B,ofInt_u32 t r];exact pU _ fP (by have:s &&& t<=s:=Nat.and_le_left;omega)
def UN (s t:Nat)(w)(B:s<4294967296)(r:t<4294967296):Calls prog 113 #[.agg #[.int .u32 s],.agg #[.int .u32 t]] w λe j=>e=Rt (.agg (#[.int .u32 ((s ||| t:Nat):Int)]))/\j=((w.alloc (Cl #[.int .u32 (s:Int)] 143)).alloc (Cl #[.int .u32 (t:Int)] 143)).alloc (Cl (#[.int .u32 ((s ||| t:Nat):Int)]) 143):=by have h:=Mn s t B r;go_enter func113,ntmps113;go_wp2;refine bQ ⟨rfl,rfl⟩
def RN (s t:Nat)(w)(B:s<4294967296)(r:t<4294967296):Calls prog 233 #[.agg #[.int .u32 s],.agg #[.int .u32 t]] w λe j=>e=Rt (.agg (#[.int .u32 ((p8 s t:Nat):Int)]))/\j=((w.alloc (Cl #[.int .u32 (s:Int)] 143)).alloc (Cl #[.int .u32 (t:Int)] 143)).alloc (Cl (#[.int .u32 ((p8 s t:Nat):Int)]) 143):=by have h:=qdc s t B r;go_enter func233,ntmps233;go_wp2;refine bQ ⟨rfl,rfl⟩
def qty {a}(K:a<32):(2:Int) ^ a % 4294967296=((2 ^ a:Nat):Int):=by rw[show(2:Int) ^ a=((2 ^ a:Nat):Int) by simp,show(4294967296:Int)=((4294967296:Nat):Int) from rfl,<- Int.natCast_emod,Zy (lF K)]
def ZI (a:Nat)(w)(B:a<32):Calls prog 114 #[Ye a] w λe j=>e=Rt (.agg (#[.int .u32 ((2 ^ a:Nat):Int)]))/\j=w.alloc (Cl (#[.int .u32 ((2 ^ a:Nat):Int)]) 143):=by have h:=qty B;go_enter func114,ntmps114;go_wp2;refine bQ ⟨rfl,fT⟩
def Nh (s a:Nat)(w)(B:s<4294967296)(r:a<32):Calls prog 72 #[.agg #[.int .u32 s],Ye a] w λe j=>e=Rt (.bool (s.testBit a))/\j=w.alloc (Cl #[.int .u32 (s:Int)] 143):=by have e:(bits .and .u32 ((s:Int) / 2 ^ a) 1==1)=s.testBit a:=(by rw[show(s:Int) / 2 ^ a=((s / 2 ^ a:Nat):Int) by simp,show(1:Int)=((1:Nat):Int) from rfl,Qj _ 1 (V9 (Vq _ _) B) fS];rw[Nat.and_one_is_mod,Nat.testBit_eq_decide_div_mod_eq];generalize s / 2 ^ a=q;rw[Z4];simp;omega);have E:=h_ e;clear e;go_enter func72,ntmps72;go_wp2;go_ret;exact⟨L2 E,rfl⟩
def qkn:(prog.info? 141).map (λi=>(i.zero,i.size,i.bytes))=Sm (Sm (.int .u32 0),1,4):=by kernel_rfl
def qe6:prog.cellsOf 141=1:=by kernel_rfl
def JX (d a b w):(Op.equalIn (d+2) 143 (.agg #[.int .u32 a]) (.agg #[.int .u32 b])).run prog w=.ok (a==b) w:=by obtain⟨k,C,-⟩:=info_parts qkn;rw[run_equalIn_array w (d+1) _ _ underlying143 C,qe6];simp[Op.eqItems,part,show List.range 1=[0] from rfl,run_equalIn_int w d 141 .u32 .u32 a b underlying141];cases h:a==b <;> simp_all
def UL (s:Nat)(w):Calls prog 234 #[.agg #[.int .u32 s]] w λe j=>e=Rt (.bool (s==0))/\j=w.alloc (Cl #[.int .u32 (s:Int)] 143):=by have f:=λ(a b:Int) w=>JX 9998 a b w;have M:((s:Int)==0)=(s==0):=(by rw[Z4];simp);go_enter func234,ntmps234;go_wp2;go_ret;exact kV
def RU (s t:Nat)(w)(B:s<4294967296)(r:t<4294967296):Gv 232 #[.agg #[.int .u32 s],.agg #[.int .u32 t]] w (.agg (#[.int .u32 ((s8 s t:Nat):Int)])):=by go_enter func232,ntmps232;go_wp2_with fail;go_region_held3 (λj=>j.cell? (zw w 0)=Sm (.int .u32 (s:Int))/\j.cell? (zQ w 1 0)=Sm (.int .u32 (t:Int))) (simp[go_sem,World.cell?_alloc_past]) (first|(go_at_call 233;refine(RN _ _ _ (by first|assumption|exact NI B) (by first|assumption|exact NI B)).mono ?_;rintro e j ⟨rfl,rfl⟩));go_wp2;refine bodyPost_ret (v:=.agg (#[.int .u32 ((s8 s t:Nat):Int)])) (by simp[results,results232,go_sem,s8]) rfl ⟨rfl,?_⟩;refine Below.drew ?_;(iterate 9 refine Below.alloc ?_ gn _);exact bR _ _
def qp2:∀n,n<33->((2:Int) ^ n - 1) % 4294967296=((2 ^ n - 1:Nat):Int):=by decide +kernel
def qoz (n:Nat)(w)(B:n<=32):Gv 202 #[Ye n] w (.agg (#[.int .u32 ((2 ^ n - 1:Nat):Int)])):=by have E:=h_ (qp2 n fP);go_enter func202,ntmps202;go_wp2;refine bodyPost_ret (v:=.agg (#[.int .u32 ((2 ^ n - 1:Nat):Int)])) (by simp[results,results202,go_sem];rw[E.u]) rfl ⟨rfl,?_⟩;exact(bR _ w).alloc (nR _) _
def Q2 (w:Tw):Prop:=∀j,j<32->w.cell? (Aq 1 j)=Sm (.int .u8 ((Lib.deBruijn32tab.getD j 0:Nat):Int))
def Q2.pos {w}(h:Q2 w):1<w.1.size:=by apply Ow;intro D;have:=h 0 fS;simp only[World.cell?]at this;rw[Ox gs]at this;cases this
def Q2.mono {w w'}(h:Q2 w)(c:Bw w w'):Q2 w':=λj s=>(c.cell (p:=Aq 1 j) h.pos).trans (h j s)
def qsx (s:Nat)(B:s<4294967296)(D:s≠0):bits .and .u32 (s:Int) (-(s:Int) % 4294967296)=((2 ^ Lib.ctz 32 s:Nat):Int):=by rw[show -(s:Int) % 4294967296=((2 ^ 32 - s:Nat):Int) by omega,Qj s _ B fP,(Lib.lowest_bit 32 s D B).1]
def Pn (s:Nat)(w)(B:s<4294967296)(D:s≠0)(r:Q2 w):Calls prog 289 #[.int .u32 s] w λe j=>e=Rt (Ye (Lib.ctz 32 s))/\j=w:=by have k:=(Lib.lowest_bit 32 s D B).2;obtain⟨x,b⟩:=Lib.deBruijn32_at _ k;have Z:=qsx s B D;have N:=r _ x;rw[b]at N;obtain⟨c,q⟩:=Nq (Lib.ctz 32 s);obtain⟨p,h⟩:=Nq (2 ^ Lib.ctz 32 s);obtain⟨j,a⟩:=Nq (2 ^ Lib.ctz 32 s*125613361 % 4294967296 / 134217728);have K:(p:Int)*125613361 % 4294967296 / 134217728=(j:Int):=(by rw[<- a,h];omega);rw[a]at N x;rw[h]at Z;rw[q]at N k|-;have g:((s:Int)==0)=false:=(by simp;omega);go_enter func289,ntmps289;go_wp2;go_ret;exact kV
def Kb (s:Nat)(w)(B:s<4294967296)(D:s≠0)(r:Q2 w):Calls prog 236 #[.agg #[.int .u32 s]] w λe j=>e=Rt (Ye (Lib.ctz 32 s))/\j=w.alloc (Cl #[.int .u32 (s:Int)] 143):=by have I:∀o,Q2 (w.alloc o):=λo=>r.mono ((bR _ w).alloc (nR _) o);obtain⟨a,U⟩:=oB I D;go_enter func236,ntmps236;go_wp2_with (go_at_call 289;refine(Pn _ _ B U (a _)).mono ?_;rintro e j ⟨rfl,rfl⟩);go_ret;exact kV
def us (g:Nat->Nat):Tl:=(List.range 32).map λk=>.int .u32 (g k:Int)
def FV (g):(us g).length=32:=by simp[us]
def uB (g){k}(h:k<32):(us g)[k]? = Sm (.int .u32 (g k:Int)):=by grind[us]
def MS (g){k}(v:Nat)(h:k<32):(us g).set k (.int .u32 (v:Int))=us (λj=>if j=k then v else g j):=by apply Gq;intro j;by_cases s:j<32;{rw[uB _ s];by_cases e:j=k;{subst e;rw[List.getElem?_set_self (by rw[FV];exact h)];simp};rw[List.getElem?_set_ne (λh=>e h.symm),uB _ s];simp[e]};rw[Vp (by simp[FV];omega),Vp (by rw[FV];omega)]
def GX (g):(us g).toArray.all (·.oneCell')=true:=by rw[Array.all_eq_true_iff_forall_mem];intro v I;simp only[us,List.mem_toArray,Zb]at I;obtain⟨k,-,rfl⟩:=I;rfl
def Rd:(prog.info? 228).map (·.size)=Sm 32:=by kernel_rfl
def pJ (g):(prog.info? 228).map (·.size)=Sm (us g).toArray.size:=by simp[us,Rd]
section
variable {ops:Array Oper} {rest:List Oper} {o:Oper} {a:Act} {w:Tw} {Q:Exit->Act->Tw->Prop}
def GL (E:o.guard=Nn)(x)(T:o.op=.load 228 x)(b g)(u:a.eval x=Yh b 0)(c:m0 w b 228 (us g))
 (h:wpList prog ops Q rest (a.put o.dst (.agg (us g).toArray)) w):wpList prog ops Q (o :: rest) a w :=
 wpList_load_row E 228 x T b u 228 (us g).toArray (0,0) _ c underlying228 rfl (pJ g) h
def QT (E:o.guard=Nn)(x y)(T:o.op=.store 228 x y)(b g g')(u:a.eval x=Yh b 0)(hy:a.eval y=.agg (us g').toArray)(c:m0 w b 228 (us g))
 (h:∀j,m0 j b 228 (us g')->w.grownBy j (Sm b)->j.1.size=w.1.size->wpList prog ops Q rest (a.put o.dst undef) j):wpList prog ops Q (o :: rest) a w :=
 wpList_plain E λ_ k=>wp_store_row 228 x y T b (us g').toArray u hy _ _ c (pJ g') (by simp[us]) (GX g')
  (k _ _ (h _ (setRow_heap w b _ _ _ _ c) ⟨rfl,rfl,rfl,fT,λd _ k=>setRow_other w b d _ (λe=>k (by rw[e]))⟩ fT))
