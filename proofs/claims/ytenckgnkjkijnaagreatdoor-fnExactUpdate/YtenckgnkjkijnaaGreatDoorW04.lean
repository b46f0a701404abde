import Derived.Test.YtenckgnkjkijnaaGreatDoorW00
import Derived.Laws.DeepBits32
import Derived.Lib.TrailingZeros
import Derived.Deep.RegionHeld3
import Derived.Deep.WholeRow
import Derived.RangeFuncNested
import Derived.RangeFuncBound
import Derived.Shelf.RegionOpen
import Derived.OwnWalkIn
import Derived.LoopNIn
import Derived.LoopIn
set_option linter.all false
set_option maxRecDepth 100000
set_option maxHeartbeats 0
namespace Go.Proofs.YtenckgnkjkijnaaGreatDoor
section
open Go Go.RowKit Go.Proofs.Tryz
def q38 {B:Nat}{w w':Tw}(a:Below B w.drew w'):Below B w w':=⟨a.os,a.tape,a.output,a.size,a.block⟩
def kaA (s t:Nat):Nat:=s &&& (4294967295 - t)
def kan (s t:Nat):Nat:=kaA s (kaA s t)
def kdC {s t:Nat}(a:s<4294967296)(b:t<4294967296):s ||| t<4294967296:=Nat.or_lt_two_pow (n:=32) a b
theorem qgw {s t:Nat}(a:s<4294967296):kaA s t<4294967296:=Oh Nat.and_le_left a
def qat {s t:Nat}(a:s<4294967296):kan s t<4294967296:=qgw a
theorem kbU {a:Nat}(b:a<32):2 ^ a<4294967296:=Nat.pow_lt_pow_right cx b
def kgy {s i:Nat}(c:s<4294967296)(a:s.testBit i=true):i<32:=by apply Od;intro b;have:s.testBit i=false:=Nat.testBit_lt_two_pow (Yr c (by have:2 ^ 32<=2 ^ i:=Zr cr b;simpa using this));exact Vi (this.symm.trans a)
theorem qcd {s t:Nat}(b:s<4294967296)(c:t<4294967296)(i:Nat):(kaA s t).testBit i=(s.testBit i&&!t.testBit i):=by unfold kaA;rw[Nat.testBit_and,show 4294967295 - t=2 ^ 32 - (t+1) by omega,Nat.testBit_two_pow_sub_succ cr];cases a:s.testBit i;{simp};simp[kgy b a]
def q7k {s t:Nat}(a:s<4294967296)(b:t<4294967296)(i:Nat):(kan s t).testBit i=(s.testBit i&&t.testBit i):=by grind[kan,qcd,qgw]
def q34 (n:Int)(a:0<=n)(b:n<4294967296):IntKind.u32.wrap n=n:=by simp[IntKind.wrap,IntKind.bits,IntKind.signed];omega
def kgz (s t:Nat)(a:s<4294967296)(b:t<4294967296):bits .or .u32 (s:Int) (t:Int)=((s ||| t:Nat):Int):=by show IntKind.u32.wrap ((BitVec.ofInt 32 (s:Int) ||| BitVec.ofInt 32 (t:Int)).toNat:Int)=_;rw[BitVec.toNat_or,ofInt_u32 s a,ofInt_u32 t b];exact q34 _ cr (by have:=kdC a b;omega)
def qe1 (s t:Nat)(a:s<4294967296)(b:t<4294967296):bits .andNot .u32 (s:Int) (t:Int)=((kaA s t:Nat):Int):=by show IntKind.u32.wrap ((BitVec.ofInt 32 (s:Int) &&& ~~~BitVec.ofInt 32 (t:Int)).toNat:Int)=_;rw[BitVec.toNat_and,BitVec.toNat_not,ofInt_u32 s a,ofInt_u32 t b,show 2 ^ 32 - 1 - t=4294967295 - t by omega];exact q34 _ cr (by have:=qgw (t:=t) a;unfold kaA at this;omega)
def qu3 (s t:Nat)(a:s<4294967296)(b:t<4294967296):bits .and .u32 (s:Int) (t:Int)=((s &&& t:Nat):Int):=by show IntKind.u32.wrap ((BitVec.ofInt 32 (s:Int) &&& BitVec.ofInt 32 (t:Int)).toNat:Int)=_;rw[BitVec.toNat_and,ofInt_u32 s a,ofInt_u32 t b];exact q34 _ cr (by have:s &&& t<=s:=Nat.and_le_left;omega)
def qip (s t:Nat)(w:Tw)(b:s<4294967296)(c:t<4294967296):Calls prog 204 #[.agg #[.int .u32 s],.agg #[.int .u32 t]] w λa d=>a=.returned (.agg (#[.int .u32 ((s ||| t:Nat):Int)]))/\d=((w.alloc (.cells #[.int .u32 (s:Int)] 235)).alloc (.cells #[.int .u32 (t:Int)] 235)).alloc (.cells (#[.int .u32 ((s ||| t:Nat):Int)]) 235):=by have a:=kgz s t b c;go_enter func204,ntmps204;go_wp2;refine bQ ⟨rfl,rfl⟩
def qgx (s t:Nat)(w:Tw)(b:s<4294967296)(c:t<4294967296):Calls prog 247 #[.agg #[.int .u32 s],.agg #[.int .u32 t]] w λa d=>a=.returned (.agg (#[.int .u32 ((kaA s t:Nat):Int)]))/\d=((w.alloc (.cells #[.int .u32 (s:Int)] 235)).alloc (.cells #[.int .u32 (t:Int)] 235)).alloc (.cells (#[.int .u32 ((kaA s t:Nat):Int)]) 235):=by have a:=qe1 s t b c;go_enter func247,ntmps247;go_wp2;refine bQ ⟨rfl,rfl⟩
def qsw {a:Nat}(b:a<32):(2:Int) ^ a % 4294967296=((2 ^ a:Nat):Int):=by rw[show(2:Int) ^ a=((2 ^ a:Nat):Int) by simp,show(4294967296:Int)=((4294967296:Nat):Int) from rfl,<- Int.natCast_emod,Zv (kbU b)]
def qs4 (a:Nat)(w:Tw)(c:a<32):Calls prog 205 #[Yb a] w λb d=>b=.returned (.agg (#[.int .u32 ((2 ^ a:Nat):Int)]))/\d=w.alloc (.cells (#[.int .u32 ((2 ^ a:Nat):Int)]) 235):=by have b:=qsw c;go_enter func205,ntmps205;go_wp2;refine bQ ⟨rfl,cw⟩
def qq4 (s a:Nat)(w:Tw)(d:s<4294967296)(e:a<32):Calls prog 246 #[.agg #[.int .u32 s],Yb a] w λb c=>b=.returned (.bool (s.testBit a))/\c=w.alloc (.cells #[.int .u32 (s:Int)] 235):=by have b:(bits .and .u32 ((s:Int) / 2 ^ a) 1==1)=s.testBit a:=(by rw[show(s:Int) / 2 ^ a=((s / 2 ^ a:Nat):Int) by simp,show(1:Int)=((1:Nat):Int) from rfl,qu3 _ 1 (Oh (Oy _ _) d) cx];rw[Nat.and_one_is_mod,Nat.testBit_eq_decide_div_mod_eq];generalize s / 2 ^ a=c;rw[Zn];simp;omega);have c:=h_ b;clear b;go_enter func246,ntmps246;go_wp2;go_ret;exact⟨qmq c,rfl⟩
def qkp:(prog.info? 233).map (λa=>(a.zero,a.size,a.bytes))=some (some (.int .u32 0),1,4):=by kernel_rfl
def qeu:prog.cellsOf 233=1:=by kernel_rfl
def kfr (c:Nat)(a b:Int)(w:Tw):(Op.equalIn (c+2) 235 (.agg #[.int .u32 a]) (.agg #[.int .u32 b])).run prog w=.ok (a==b) w:=by obtain⟨f,d,-⟩:=info_parts qkp;rw[run_equalIn_array w (c+1) _ _ underlying235 d,qeu];simp[Op.eqItems,part,show List.range 1=[0] from rfl,run_equalIn_int w c 233 .u32 .u32 a b underlying233];cases e:a==b <;> simp_all
def qfi (s:Nat)(w:Tw):Calls prog 248 #[.agg #[.int .u32 s]] w λa b=>a=.returned (.bool (s==0))/\b=w.alloc (.cells #[.int .u32 (s:Int)] 235):=by have c:=λ(a b:Int) w=>kfr 9998 a b w;have a:((s:Int)==0)=(s==0):=(by rw[Zn];simp);go_enter func248,ntmps248;go_wp2;go_ret;exact⟨rfl,rfl⟩
def qau (s t:Nat)(w:Tw)(b:s<4294967296)(d:t<4294967296):Gv 245 #[.agg #[.int .u32 s],.agg #[.int .u32 t]] w (.agg (#[.int .u32 ((kan s t:Nat):Int)])):=by go_enter func245,ntmps245;go_wp2_with fail;go_region_held3 (λa=>a.cell? ⟨w.1.size,0,none⟩=some (.int .u32 (s:Int))/\a.cell? ⟨w.1.size+1,0,none⟩=some (.int .u32 (t:Int))) (simp[go_sem,World.cell?_alloc_past]) (first | (go_at_call 247;refine(qgx _ _ _ (by first | assumption | exact qgw b) (by first | assumption | exact qgw b)).mono ?_;rintro c a ⟨rfl,rfl⟩));go_wp2;refine bodyPost_ret (v:=.agg (#[.int .u32 ((kan s t:Nat):Int)])) (by simp[results,results245,go_sem,kan]) rfl ⟨rfl,?_⟩;refine Below.drew ?_;(iterate 9 refine Below.alloc ?_ cX _);exact bR _ _
def qoc:∀a,a<33->((2:Int) ^ a - 1) % 4294967296=((2 ^ a - 1:Nat):Int):=by decide +kernel
def qo9 (n:Nat)(w:Tw)(b:n<=32):Gv 201 #[Yb n] w (.agg (#[.int .u32 ((2 ^ n - 1:Nat):Int)])):=by have a:=h_ (qoc n cr);go_enter func201,ntmps201;go_wp2;refine bodyPost_ret (v:=.agg (#[.int .u32 ((2 ^ n - 1:Nat):Int)])) (by simp[results,results201,go_sem];rw[a.u]) rfl ⟨rfl,?_⟩;exact(bR _ w).alloc (nR _) _
def Tab (w:Tw):Prop:=∀j,j<32->w.cell? ⟨1,j,none⟩=some (.int .u8 ((Lib.deBruijn32tab.getD j 0:Nat):Int))
def Tab.pos {w:Tw}(a:Tab w):1<w.1.size:=by apply Od;intro b;have:=a 0 cx;simp only[World.cell?]at this;rw[Og dw]at this;cases this
def Tab.mono {w w':Tw}(a:Tab w)(c:Bw w w'):Tab w':=λb d=>(c.cell (p:=⟨1,b,none⟩) a.pos).trans (a b d)
def qrx (s:Nat)(a:s<4294967296)(b:s≠0):bits .and .u32 (s:Int) (-(s:Int) % 4294967296)=((2 ^ Lib.ctz 32 s:Nat):Int):=by rw[show -(s:Int) % 4294967296=((2 ^ 32 - s:Nat):Int) by omega,qu3 s _ a cr,(Lib.lowest_bit 32 s b a).1]
def kgA (s:Nat)(w:Tw)(f:s<4294967296)(b:s≠0)(j:Tab w):Calls prog 305 #[.int .u32 s] w λa c=>a=.returned (Yb (Lib.ctz 32 s))/\c=w:=by have d:=(Lib.lowest_bit 32 s b f).2;have⟨g,l⟩:=Lib.deBruijn32_at _ d;have h:=qrx s f b;have a:=j _ g;rw[l]at a;have⟨p,i⟩:=Nq (Lib.ctz 32 s);have⟨m,e⟩:=Nq (2 ^ Lib.ctz 32 s);have⟨k,c⟩:=Nq (2 ^ Lib.ctz 32 s*125613361 % 4294967296 / 134217728);have n:(m:Int)*125613361 % 4294967296 / 134217728=(k:Int):=(by rw[<- c,e];omega);rw[c]at a g;rw[e]at h;rw[i]at a d⊢;have o:((s:Int)==0)=false:=(by simp;omega);go_enter func305,ntmps305;go_wp2;go_ret;exact⟨rfl,rfl⟩
def qcb (s:Nat)(w:Tw)(g:s<4294967296)(e:s≠0)(h:Tab w):Calls prog 250 #[.agg #[.int .u32 s]] w λb c=>b=.returned (Yb (Lib.ctz 32 s))/\c=w.alloc (.cells #[.int .u32 (s:Int)] 235):=by have f:∀a,Tab (w.alloc a):=λa=>h.mono ((bR _ w).alloc (nR _) a);have⟨d,a⟩:=oB f e;go_enter func250,ntmps250;go_wp2_with (go_at_call 305;refine(kgA _ _ g a (d _)).mono ?_;rintro b c ⟨rfl,rfl⟩);go_ret;exact⟨rfl,rfl⟩
def us (g:Nat->Nat):Tl:=(List.range 32).map λk=>.int .u32 (g k:Int)
def qir (g:Nat->Nat):(us g).length=32:=by simp[us]
def kaZ (g:Nat->Nat){k:Nat}(b:k<32):(us g)[k]? = some (.int .u32 (g k:Int)):=by grind[us]
def ken (g:Nat->Nat){k:Nat}(v:Nat)(d:k<32):(us g).set k (.int .u32 (v:Int))=us (λb=>if b=k then v else g b):=by apply O8;intro b;by_cases e:b<32;{rw[kaZ _ e];by_cases c:b=k;{subst c;rw[O0 (by rw[qir];exact d)];simp};rw[Gi (λd=>c d.symm),kaZ _ e];simp[c]};rw[Vf (by simp[qir];omega),Vf (by rw[qir];omega)]
def kfq (g:Nat->Nat):(us g).toArray.all (·.oneCell')=true:=by rw[Array.all_eq_true_iff_forall_mem];intro d b;simp only[us,List.mem_toArray,Y9]at b;obtain⟨c,-,rfl⟩:=b;rfl
def qht:(prog.info? 237).map (·.size)=some 32:=by kernel_rfl
def qti (g:Nat->Nat):(prog.info? 237).map (·.size)=some (us g).toArray.size:=by simp[us,qht]
section
variable {ops:Array Oper} {rest:List Oper} {o:Oper} {a:Act} {w:Tw} {Q:Exit->Act->Tw->Prop}
def q14 (e:o.guard=none)(x:Operand)(f:o.op=.load 237 x)(b:Nat)(g:Nat->Nat)(h:a.eval x=Ye b 0)(d:Blk w b 237 (us g))
 (c:wpList prog ops Q rest (a.put o.dst (.agg (us g).toArray)) w):wpList prog ops Q (o :: rest) a w :=
 wpList_load_row e 237 x f b h 237 (us g).toArray (0,0) _ d underlying237 rfl (qti g) c
def q0r (h:o.guard=none)(x y:Operand)(j:o.op=.store 237 x y)(b:Nat)(g c:Nat->Nat)(k:a.eval x=Ye b 0)(hy:a.eval y=.agg (us c).toArray)(e:Blk w b 237 (us g))
 (f:∀d,Blk d b 237 (us c)->w.grownBy d (some b)->d.1.size=w.1.size->wpList prog ops Q rest (a.put o.dst undef) d):wpList prog ops Q (o :: rest) a w :=
 wpList_plain h λ_ d=>wp_store_row 237 x y j b (us c).toArray k hy _ _ e (qti c) (by simp[us]) (kfq c)
  (d _ _ (f _ (setRow_heap w b _ _ _ _ e) ⟨rfl,rfl,rfl,cw,λd _ i=>setRow_other w b d _ (λd=>i (by rw[d]))⟩ cw))
end
end
section
open Go Go.RowKit Go.Shelf Go.Proofs.Tryz
def Loc {β:Type}(B:Nat)(J:β->Tw->Prop):Prop:=∀s W W',J s W->Below B W W'->J s W'
structure kaE (X:Nat->Prop)(W W':Tw):Prop where
 size:W.1.size<=W'.1.size
 same:∀k cs t fr,¬ X k->W.heap[k]? = some (.cells cs t fr)->W'.heap[k]? = some (.cells cs t fr)
def kaE.refl (X:Nat->Prop)(W:Tw):kaE X W W:=⟨nR _,λ_ _ _ _ _ a=>a⟩
def kaE.trans {X:Nat->Prop}{A B C:Tw}(c:kaE X A B)(k:kaE X B C):kaE X A C:=⟨Y6 c.size k.size,λe a f b d g=>k.same e a f b d (c.same e a f b d g)⟩
def kaE.put {X:Nat->Prop}{W:Tw}{l:Nat}{o o':Obj}(c:W.heap[l]? = some o)(d:o.isCells=false):kaE X W (W.putObj l o') :=
 ⟨cw,λe a a a _ a=>by
  by_cases b:e=l
  . subst b;rw[c]at a;cases a;simp[Obj.isCells]at d
  . exact(World.putObj_heap_other b).trans a⟩
def kaE.of_below {X:Nat->Prop}{W W':Tw}(a:Below W.1.size W W'):kaE X W W' :=
 ⟨a.size,λc _ _ _ _ b=>(a.block c (Yo.1 b).1).trans b⟩
def kaE.set {X:Nat->Prop}{W:Tw}{a:Addr}(v:Value)(e:X a.block):kaE X W (W.setCell a v) :=
 ⟨cw,λb _ _ _ d c=>(heap_setCell_other W a b v (λb=>d (b ▸ e))).trans c⟩
def kaE.blk {X:Nat->Prop}{W W':Tw}{g:Nat}{t:TypeId}{cs:Tl}(a:kaE X W W')(b:Blk W g t cs)(c:¬ X g):Blk W' g t cs:=a.same g _ t _ c b
def kcu {W W':Tw}(a:Below W.1.size W W'):KeepsOthers W W':=⟨a.size,λc _ b _=>(a.block c (Yo.1 b).1).trans b⟩
def Blk.put {W:Tw}{g l:Nat}{t:TypeId}{cs:Tl}(a:Blk W g t cs){o:Obj}(o':Obj)(b:W.heap[l]? = some o)(c:o.isCells=false):Blk (W.putObj l o') g t cs:=(kaE.put (X:=λ_=>False) b c).same g _ t _ (λa=>a) a
def kf9 (P:Program)(gf:Nat)(lb:Ta)(T:Nat->Prop)(S Sp:List Nat->Prop)(X:Nat->Prop)(w0:Tw):Prop :=
 ∀(n l:Nat) (J Jx:List Nat->Tw->Prop) (W:Tw),Below w0.1.size w0 W->Loc W.1.size J->Loc W.1.size Jx->(∀k,X k->k<W.1.size) ->
  (∀(m:Nat) (pre:List Nat) (x:Nat) (W1:Tw),J pre W1->T x->YieldAt Fence.wide m P l #[Yb (x:Int)] W1 λe W' =>
   (e=.returned (.bool true)/\J (pre++[x]) W'/\kaE X W1 W')∨(e=.returned (.bool false)/\Jx (pre++[x]) W')) ->
  J [] W ->
  CallsIn Fence.wide n P gf (#[.func (.yield l) #[] #[]]++lb) W λe W'=>(∃v,e=.returned v)/\((∃xs,S xs/\J xs W')∨(∃pre,Sp pre/\Jx pre W'))
def kcb {n:Nat}:Fence.wide.depth.isSome=true->1<=n:=λa=>by simp[Fence.wide]at a
def kby {P:Program}{f:FuncId}{args:Ta}{w:Tw}{R:Ending->Tw->Prop}{n:Nat}(a:Calls P f args w R):Fence.wide.fn f/\(Fence.wide.depth.isSome=true->1<=n)/\CallsIn Fence.wide (n - 1) P f args w R :=
 ⟨trivial,kcb,callsIn_wide.2 a⟩
def kds {P:Program}{f:FuncId}{args:Ta}{w:Tw}{R:Ending->Tw->Prop}{n l:Nat}(a:Calls P f args w R):(Fence.wide.inRound l).fn f/\((Fence.wide.inRound l).depth.isSome=true->1<=n)/\CallsIn (Fence.wide.inRound l) (n - 1) P f args w R :=
 ⟨trivial,kcb,CallsIn.inRound l (callsIn_wide.2 a)⟩
def kga (X:Nat->Prop)(I Ix:List Nat->Tw->Prop)(xs:List Nat)(W:Tw):Exit->Act->Tw->Prop
 | .normal,_,W'=>KeepsOthers W W'/\kaE X W W'/\I xs W'
 | .ret,_,W'=>KeepsOthers W W'/\Ix xs W'
 | _,_,_=>False
def qej {B:Nat}(W:Tw)(l:Nat)(o:Obj)(a:B<=l):Below B W (W.putObj l o) :=
 ⟨rfl,rfl,rfl,cw,λ_ b=>World.putObj_heap_other cr⟩
def qhj {P:Program}{g:Operand}{A:Array Tmp}{assign body:Code}{Q:Exit->Act->Tw->Prop}{a:Act}{w:Tw}{n gf:Nat}{lb:Ta}
 (hg:a.eval g=.func (.func gf) #[] lb) (Z:∀args w,(callFunc gf args).run P w=.ok (.enter gf args) w)
 {G:Nat->Prop} {S F:List Nat->Prop} {X:Nat->Prop} {W:Tw} (ai:kf9 P gf lb G S F X W) (N:Below W.1.size W w) (hX:∀q,X q->q<w.1.size) (ah:A.size=1)
 (s t:List Nat->Tw->Prop) (B:Loc w.1.size s) (L:Loc w.1.size t) (h0:s [] w) (H:Nat->Act)
 (aa:∀(x f k:Nat) (b:Tw) (d:Act->Tw->Prop),d (H k) b ->
  assign.wpIn (Fence.wide.inRound f) x P (Exit.then d (λ_ _ _=>False)) { tmps:=(A.zip #[Yb (k:Int)]).foldl (λV (j,Y)=>V.setIfInBounds j Y) a.tmps,defers:=[] } b)
 (ac:∀(x f:Nat) (h:List Nat) (k:Nat) (b:Tw),s h b->G k->body.wpIn (Fence.wide.inRound f) x P (kga X s t (h++[k]) b) (H k) b)
 (ae:∀(d:Nat) (e:List Nat) (b:Tw),w.1.size<=d->S e->s e b->b.heap[d]? = some (.deferred (some []))->Q .normal { a with defers:={ target:=.collected d,args:=#[] } :: a.defers } b)
 (aj:∀(d:Nat) (h:List Nat) (b:Tw),w.1.size<=d->F h->t h b->b.heap[d]? = some (.deferred (some []))->Q .ret { a with defers:={ target:=.collected d,args:=#[] } :: a.defers } b) :
 (Code.rangeFunc g A assign body).wpIn Fence.wide n P Q a w:=by
 refine wpIn_rangeFunc λfn _=>?_;obtain⟨d,p⟩:=Nq w.1.size;obtain⟨mk,i⟩:∃mk:LoopState->Option Code->Loop,mk=λl j=>{ state:=l,pending:=j,fn,tmps:=a.tmps,params:=A,assign,body,defers:=d }:=⟨_,rfl⟩;obtain⟨l,y⟩:=Nq ((w.alloc (.deferred (some []))).alloc (.loop (mk .ready none)));have U:l.1.size=d+1+1:=by rw[<- y];simp[p]
 have I:Below d w l:=by rw[<- y,<- p];exact((bR _ w).alloc (nR _) _).alloc cw _
 have af:l.heap[d+1]? = some (.loop (mk .ready none)):=by
  have:=World.alloc_heap_new (w.alloc (.deferred (some []))) (.loop (mk .ready none));rw[Yp,p,y]at this;exact this
 have ad:l.heap[d]? = some (.deferred (some [])):=by
  have:=World.alloc_heap_new w (.deferred (some []));rw[<- y,<- p];exact(Below.heap_alloc _ _ _ cw).trans this
 have K:=run_enterLoop_outer (P:=P) (w:=w) fn a.tmps A assign body;rw[p]at K;refine⟨d+1,[{ target:=.collected d,args:=#[] }],l,{ target:=.fn (.func gf) lb,args:=#[.func (.yield (d+1)) #[] #[]] },l,gf,#[.func (.yield (d+1)) #[] #[]]++lb,l,?_,?_,?_,?_,λm=>by simp[Fence.wide]at m,?_⟩
 . rw[<- y,i];exact K
 . simp only[resolve,hg];simp[go_sem]
 . intro _ _;trivial
 . simp[invoke,go_sem,Z]
 have C:∀e b f j,d<=f->s e b->s e (b.putObj f j):=λe b f j m r=>B e b _ r (by rw[p];exact qej b f j m);have M:∀e b f j,d<=f->t e b->t e (b.putObj f j):=λe b f j m r=>L e b _ r (by rw[p];exact qej b f j m);refine(ai (n - 1) (d+1) (λh b=>s h b/\b.heap[d+1]? = some (.loop (mk .ready none))/\b.heap[d]? = some (.deferred (some [])))
  (λh b=>t h b/\b.heap[d+1]? = some (.loop (mk .done (some .ret)))/\b.heap[d]? = some (.deferred (some []))) l (N.trans ((p ▸ I:Below w.1.size w l).mono N.size)) ?_ ?_ (λq f=>by have:=hX q f;omega) ?_ ⟨B _ _ _ h0 (p ▸ I),af,ad⟩).mono ?_
 . rintro e b u ⟨m,f,q⟩ j
   rw[U]at j;exact⟨B e b u m (j.mono cr),(j.block _ cr).trans f,(j.block _ cr).trans q⟩
 . rintro e b u ⟨m,f,q⟩ j
   rw[U]at j;exact⟨L e b u m (j.mono cr),(j.block _ cr).trans f,(j.block _ cr).trans q⟩
 . -- one round
   rintro x h k b ⟨r,f,q⟩ hT;have ag:d+1<b.1.size:=(Yo.1 f).1;have T:=run_yield (P:=P) (args:=#[Yb (k:Int)]) f (by rw[i];simp[ah]);rw[i]at T;refine⟨fn,_,assign,body,T,roundIn_of_wpIn trivial (aa x _ k b _ ⟨_,run_beginRound f (by rw[i]),?_⟩)⟩;refine wpIn_mono (ac x _ h k _ (C _ _ _ _ cr r) hT) ?_;have R:=World.putObj_heap_same (w:=b) (o:=.loop { mk .ready none with state:=.busy }) ag;have O:(b.putObj (d+1) (.loop { mk .ready none with state:=.busy })).heap[d]? = some (.deferred (some [])):=(World.putObj_heap_other cr).trans q;have ak:kaE X b (b.putObj (d+1) (.loop { mk .ready none with state:=.busy })):=kaE.put f rfl;intro J a3 W3 v;cases J with
   | normal =>
    obtain⟨z,kx,E⟩:=v;have u:=z.same _ _ R rfl;have D:=z.same _ _ O rfl;have j:=run_endRound (P:=P) none u;rw[i]at j;refine⟨_,_,j,.inl ⟨rfl,⟨C _ _ _ _ cr E,?_,(World.putObj_heap_other cr).trans D⟩,(ak.trans kx).trans (kaE.put u rfl)⟩⟩;rw[i];exact World.putObj_heap_same (Yo.1 u).1
   | ret =>
    obtain⟨z,E⟩:=v;have u:=z.same _ _ R rfl;have D:=z.same _ _ O rfl;have j:=run_endRound (P:=P) (some .ret) u;rw[i]at j;refine⟨_,_,j,.inr ⟨rfl,M _ _ _ _ cr E,?_,(World.putObj_heap_other cr).trans D⟩⟩;rw[i];exact World.putObj_heap_same (Yo.1 u).1
   | exit id=>exact v.elim
   | goto V=>exact v.elim
   | panic c=>exact v.elim
   | outgrown=>exact v.elim
 . -- behind the iterator
   rintro J v ⟨⟨Y,rfl⟩,(⟨e,k,r,f,q⟩ | ⟨h,u,r,f,q⟩)⟩
   . have j:=run_endLoop (P:=P) f (by rw[i];simp)
     rw[i]at j;exact⟨none,_,j,ae d e _ cr k (C _ _ _ _ cr r) ((World.putObj_heap_other cr).trans q)⟩
   . have j:=run_endLoop (P:=P) f (by rw[i];simp)
     rw[i]at j;exact⟨some .ret,_,j,wpIn_ret (aj d h _ cr u (M _ _ _ _ cr r) ((World.putObj_heap_other cr).trans q))⟩
section
variable {n:Nat} {ops:Array Oper} {rest:List Oper} {o:Oper} {a:Act} {w:Tw} {Q:Exit->Act->Tw->Prop}
def q0a (f:o.guard=none)(x:Operand)(h:o.op=.load 237 x)(b:Nat)(g:Nat->Nat)(i:a.eval x=Ye b 0)(e:Blk w b 237 (us g))
 (c:wpListIn Fence.wide n prog ops Q rest (a.put o.dst (.agg (us g).toArray)) w):wpListIn Fence.wide n prog ops Q (o :: rest) a w :=
 wpListIn_plain f λ_ d=>⟨λ_ _=>trivial,by
  simp only[Fence.wide,Oper.semAt,execOp,h,i,Instr.loadAt,Instr.sureAddr,Sem.run_bind,Sem.run_pure,Result.andThen_ok,run_loadVar_row w b 237 237 (us g).toArray (0,0) _ e underlying237 rfl (qti g)];exact d _ _ c⟩
def q06 (h:o.guard=none)(x y:Operand)(j:o.op=.store 237 x y)(b:Nat)(g c:Nat->Nat)(k:a.eval x=Ye b 0)(hy:a.eval y=.agg (us c).toArray)(e:Blk w b 237 (us g))
 (f:∀d,Blk d b 237 (us c)->w.grownBy d (some b)->d.1.size=w.1.size->wpListIn Fence.wide n prog ops Q rest (a.put o.dst undef) d):wpListIn Fence.wide n prog ops Q (o :: rest) a w :=
 wpListIn_plain h λ_ d=>⟨λ_ _=>trivial,by
  simp only[Fence.wide,Oper.semAt,execOp,j,k,hy,Instr.storeAt,Instr.sureAddr,Sem.run_bind,Sem.run_pure,Result.andThen_ok,run_storeVar_row w b 237 237 _ (us c).toArray e (qti c) (by simp[us]) (kfq c)];exact d _ _ (f _ (setRow_heap w b _ _ _ _ e) ⟨rfl,rfl,rfl,cw,λd _ i=>setRow_other w b d _ (λd=>i (by rw[d]))⟩ cw)⟩
end
def kfW (Ds:List Nat):List Deferred:=Ds.map λD=>{ target:=.collected D,args:=#[] }
def kcO (B:Nat)(W:Tw)(Ds:List Nat):Prop:=Ds.Nodup/\∀D∈Ds,B<=D/\W.heap[D]? = some (.deferred (some []))
def kcO.nil (B:Nat)(W:Tw):kcO B W []:=⟨List.nodup_nil,λ_ b=>by cases b⟩
def kcO.keep {B:Nat}{W W':Tw}{l:List Nat}(c:kcO B W l)(k:KeepsOthers W W'):kcO B W' l:=⟨c.1,λb d=>⟨(c.2 b d).1,k.same b _ (c.2 b d).2 rfl⟩⟩
def kcO.below {B N:Nat}{W W':Tw}{l:List Nat}(c:kcO B W l)(f:Below N W W')(e:∀b∈l,b<N):kcO B W' l:=⟨c.1,λb d=>⟨(c.2 b d).1,(f.block b (e b d)).trans (c.2 b d).2⟩⟩
def kcO.lt {B:Nat}{W:Tw}{l:List Nat}(c:kcO B W l):∀b∈l,b<W.1.size:=λb d=>(Yo.1 (c.2 b d).2).1
def kcO.cons {B D:Nat}{W:Tw}{l:List Nat}(c:kcO B W l)(e:B<=D)(f:W.heap[D]? = some (.deferred (some [])))(g:D ∉ l):kcO B W (D :: l) :=
 ⟨V7.2 ⟨g,c.1⟩,λd b=>by
  rcases Vh.1 b with rfl | b
  . exact⟨e,f⟩
  . exact c.2 d b⟩
def q6a {P:Program}{e:Func}{g:Ta}{R:Ending->Tw->Prop}{n B:Nat}:∀(d:List Nat) (b:Tw),kcO B b d -> (∀c,kaE (λ_=>False) b c->Below B b c->∃f,(results e g).run P c=.ok f c/\R (.returned f) c)->LeavesInM Fence.wide n P e g R (kfW d) .returning b | [],b,_,h=>h b (kaE.refl _ _) (bR _ _) | D :: d,b,hs,h=>by have b:=hs.2 D (Ze ..);refine⟨cw,.inl ⟨D,_,rfl,run_takeDeferred b.2,q6a d _ ⟨(V7.1 hs.1).2,λd f=>?_⟩ λc j i=>h c ((kaE.put b.2 rfl).trans j) ((qej _ D _ b.1).trans i)⟩⟩;have c:=hs.2 d (Zu _ f);exact⟨c.1,(World.putObj_heap_other (k:=d) (r:=D) (λi=>(V7.1 hs.1).1 (by rw[<- i];exact f))).trans c.2⟩
def qmf {W':Tw}{k x:Nat}{f:Nat->Nat}(h:Blk W' k 237 (us f))(l:x<32)(u:Nat)(c d e g:Obj):KeepsOthers W' (((((W'.alloc c).alloc d).alloc e).alloc g).setCell ⟨k,x,none⟩ (.int .u32 (u:Int))).drew/\kaE (λb=>b=k) W' (((((W'.alloc c).alloc d).alloc e).alloc g).setCell ⟨k,x,none⟩ (.int .u32 (u:Int))).drew /\ Blk (((((W'.alloc c).alloc d).alloc e).alloc g).setCell ⟨k,x,none⟩ (.int .u32 (u:Int))).drew k 237 (us λb=>if b=x then u else f b) /\ (∀j,j<=k->k<W'.1.size->Below j W' (((((W'.alloc c).alloc d).alloc e).alloc g).setCell ⟨k,x,none⟩ (.int .u32 (u:Int))).drew):=by have i:=kbj W' c d e g;refine⟨(kcu i).trans ((KeepsOthers.setCell _ _ _).trans (KeepsOthers.drew _)),((kaE.of_below i).trans (kaE.set (X:=λb=>b=k) (a:=⟨k,x,none⟩) (.int .u32 (u:Int)) rfl)).trans ⟨nR _,λ_ _ _ _ _ h=>h⟩,?_,λj b j=>((i.mono cr).setCell (p:=⟨k,x,none⟩) b _).drew⟩;rw[<- ken f u l];exact(h.mono i h.lt).set x _
