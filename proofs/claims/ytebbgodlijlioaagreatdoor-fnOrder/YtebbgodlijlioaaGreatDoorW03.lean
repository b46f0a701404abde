import Derived.Test.YtebbgodlijlioaaGreatDoorW00
import Derived.RangeFuncNested
import Derived.RangeFuncBound
import Derived.RangeFuncCalls
import Derived.RangeFuncLeaves
import Derived.Shelf.Abstract
import Derived.Shelf.RegionOpen
import Derived.OwnWalkIn
import Derived.TacticsInMore
import Derived.LoopNIn
import Derived.LoopIn
import Derived.Laws.DeepBits32
import Derived.Lib.TrailingZeros
import Derived.ChangeKeysEq
import Derived.Deep.RegionWith
import Derived.Deep.RegionHeld3
set_option maxRecDepth 100000
set_option maxHeartbeats 64000000
namespace Go.Proofs.YtebbgodlijlioaaGreatDoor
open Go Go.RowKit Go.Shelf
def Loc {β:Type}(B:Nat)(J:β->World->Prop):Prop:=∀s W W',J s W->Below B W W'->J s W'
structure KeepX (X:Nat->Prop)(W W':World):Prop where
 size:W.heap.size<=W'.heap.size
 same:∀k cs t fr,¬ X k->W.heap[k]? = some (.cells cs t fr)->W'.heap[k]? = some (.cells cs t fr)
theorem KeepX.refl (X:Nat->Prop)(W:World):KeepX X W W:=⟨nR _,fun _ _ _ _ _ h=>h⟩
theorem KeepX.trans {X:Nat->Prop}{A B C:World}(h:KeepX X A B)(k:KeepX X B C):KeepX X A C:=⟨Yv h.size k.size,fun i cs t fr hx hi=>k.same i cs t fr hx (h.same i cs t fr hx hi)⟩
theorem KeepX.put {X:Nat->Prop}{W:World}{l:Nat}{o o':Obj}(hl:W.heap[l]? = some o)(ho:o.isCells=false):KeepX X W (W.putObj l o') :=
 ⟨by simp,fun k cs t fr _ hk=>by
  by_cases e:k=l
  . subst e;rw[hl]at hk;cases hk;simp[Obj.isCells]at ho
  . exact(World.putObj_heap_other e).trans hk⟩
theorem KeepX.of_below {X:Nat->Prop}{W W':World}(h:Below W.heap.size W W'):KeepX X W W' :=
 ⟨h.size,fun k _ _ _ _ hk=>(h.block k (Yr.1 hk).1).trans hk⟩
theorem KeepX.set {X:Nat->Prop}{W:World}{a:Addr}(v:Value)(hx:X a.block):KeepX X W (W.setCell a v) :=
 ⟨by simp,fun k _ _ _ hk h=>(heap_setCell_other W a k v (fun e=>hk (e ▸ hx))).trans h⟩
theorem KeepX.blk {X:Nat->Prop}{W W':World}{g:Nat}{t:TypeId}{cs:List Value}(h:KeepX X W W')(hb:Blk W g t cs)(hg:¬ X g):Blk W' g t cs:=h.same g _ t _ hg hb
theorem keepsO {W W':World}(h:Below W.heap.size W W'):KeepsOthers W W':=⟨h.size,fun k _ hk _=>(h.block k (Yr.1 hk).1).trans hk⟩
theorem Blk.put {W:World}{g:Nat}{t:TypeId}{cs:List Value}(h:Blk W g t cs){l:Nat}{o:Obj}(o':Obj)(hl:W.heap[l]? = some o)(ho:o.isCells=false):Blk (W.putObj l o') g t cs:=(KeepX.put (X:=fun _=>False) hl ho).same g _ t _ (fun h=>h) h
def Gives (P:Program)(gf:Nat)(lb:Array Value)(T:Nat->Prop)(S Sp:List Nat->Prop)(X:Nat->Prop)(w0:World):Prop :=
 ∀(n l:Nat) (J Jx:List Nat->World->Prop) (W:World),Below w0.heap.size w0 W->Loc W.heap.size J->Loc W.heap.size Jx->(∀k,X k->k<W.heap.size) ->
  (∀(m:Nat) (pre:List Nat) (x:Nat) (W1:World),J pre W1->T x->YieldAt Fence.wide m P l #[J9 (x:Int)] W1 fun e W' =>
   (e=.returned (.bool true)/\J (pre++[x]) W'/\KeepX X W1 W')∨(e=.returned (.bool false)/\Jx (pre++[x]) W')) ->
  J [] W ->
  CallsIn Fence.wide n P gf (#[.func (.yield l) #[] #[]]++lb) W fun e W'=>(∃v,e=.returned v)/\((∃xs,S xs/\J xs W')∨(∃pre,Sp pre/\Jx pre W'))
theorem noDepth {n:Nat}:Fence.wide.depth.isSome=true->1<=n:=fun h=>by simp[Fence.wide]at h
theorem callW {P:Program}{f:FuncId}{args:Array Value}{w:World}{R:Ending->World->Prop}{n:Nat}(h:Calls P f args w R):Fence.wide.fn f/\(Fence.wide.depth.isSome=true->1<=n)/\CallsIn Fence.wide (n - 1) P f args w R :=
 ⟨trivial,noDepth,callsIn_wide.2 h⟩
theorem callR {P:Program}{f:FuncId}{args:Array Value}{w:World}{R:Ending->World->Prop}{n l:Nat}(h:Calls P f args w R):(Fence.wide.inRound l).fn f/\((Fence.wide.inRound l).depth.isSome=true->1<=n)/\CallsIn (Fence.wide.inRound l) (n - 1) P f args w R :=
 ⟨trivial,noDepth,CallsIn.inRound l (callsIn_wide.2 h)⟩
def bodyEnd (X:Nat->Prop)(I Ix:List Nat->World->Prop)(xs:List Nat)(W:World):Exit->Act->World->Prop
 | .normal,_,W'=>KeepsOthers W W'/\KeepX X W W'/\I xs W'
 | .ret,_,W'=>KeepsOthers W W'/\Ix xs W'
 | _,_,_=>False
theorem q9o {B:Nat}(W:World)(l:Nat)(o:Obj)(h:B<=l):Below B W (W.putObj l o) :=
 ⟨rfl,rfl,rfl,by simp,fun _ hk=>World.putObj_heap_other (by omega)⟩
theorem qc7 {P:Program}{g:Operand}{ps:Array Tmp}{assign body:Code}{Q:Exit->Act->World->Prop}{a:Act}{w:World}{n:Nat}{gf:Nat}{lb:Array Value}
 (hg:a.eval g=.func (.func gf) #[] lb) (eg:∀args w,(callFunc gf args).run P w=.ok (.enter gf args) w)
 {T:Nat->Prop} {S Sp:List Nat->Prop} {X:Nat->Prop} {w0:World} (hseq:Gives P gf lb T S Sp X w0) (hb0:Below w0.heap.size w0 w) (hX:∀k,X k->k<w.heap.size) (hps:ps.size=1)
 (I Ix:List Nat->World->Prop) (hI:Loc w.heap.size I) (hIx:Loc w.heap.size Ix) (h0:I [] w) (a₁:Nat->Act)
 (hassign:∀(m l x:Nat) (W:World) (K:Act->World->Prop),K (a₁ x) W ->
  assign.wpIn (Fence.wide.inRound l) m P (Exit.then K (fun _ _ _=>False)) { tmps:=(ps.zip #[J9 (x:Int)]).foldl (fun t (p,v)=>t.setIfInBounds p v) a.tmps,defers:=[] } W)
 (hbody:∀(m l:Nat) (pre:List Nat) (x:Nat) (W:World),I pre W->T x->body.wpIn (Fence.wide.inRound l) m P (bodyEnd X I Ix (pre++[x]) W) (a₁ x) W)
 (hdone:∀(D:Nat) (xs:List Nat) (W:World),w.heap.size<=D->S xs->I xs W->W.heap[D]? = some (.deferred (some []))->Q .normal { a with defers:={ target:=.collected D,args:=#[] } :: a.defers } W)
 (hstop:∀(D:Nat) (pre:List Nat) (W:World),w.heap.size<=D->Sp pre->Ix pre W->W.heap[D]? = some (.deferred (some []))->Q .ret { a with defers:={ target:=.collected D,args:=#[] } :: a.defers } W) :
 (Code.rangeFunc g ps assign body).wpIn Fence.wide n P Q a w:=by
 refine wpIn_rangeFunc fun fn _=>?_
 obtain⟨D,hD⟩:=Nq w.heap.size
 obtain⟨mk,hmk⟩:∃mk:LoopState->Option Code->Loop,mk=fun s p=>{ state:=s,pending:=p,fn,tmps:=a.tmps,params:=ps,assign,body,defers:=D }:=⟨_,rfl⟩
 obtain⟨W1,hW1⟩:=Nq ((w.alloc (.deferred (some []))).alloc (.loop (mk .ready none)))
 have s1:W1.heap.size=D+1+1:=by rw[<- hW1];simp[hD]
 have bw:Below D w W1:=by rw[<- hW1,<- hD];exact((bR _ w).alloc (nR _) _).alloc (by simp) _
 have hl1:W1.heap[D+1]? = some (.loop (mk .ready none)):=by
  have:=World.alloc_heap_new (w.alloc (.deferred (some []))) (.loop (mk .ready none));rw[Yx,hD,hW1]at this;exact this
 have hd1:W1.heap[D]? = some (.deferred (some [])):=by
  have:=World.alloc_heap_new w (.deferred (some []));rw[<- hW1,<- hD];exact(Below.heap_alloc _ _ _ (by simp)).trans this
 have enter:=run_enterLoop_outer (P:=P) (w:=w) fn a.tmps ps assign body
 rw[hD]at enter
 refine⟨D+1,[{ target:=.collected D,args:=#[] }],W1,{ target:=.fn (.func gf) lb,args:=#[.func (.yield (D+1)) #[] #[]] },W1,gf,#[.func (.yield (D+1)) #[] #[]]++lb,W1,?_,?_,?_,?_,fun h=>by simp[Fence.wide]at h,?_⟩
 . rw[<- hW1,hmk];exact enter
 . simp only[resolve,hg];simp[go_sem]
 . intro _ _;trivial
 . simp[invoke,go_sem,eg]
 have hIput:∀xs W l o,D<=l->I xs W->I xs (W.putObj l o):=fun xs W l o h hi=>hI xs W _ hi (by rw[hD];exact q9o W l o h)
 have hXput:∀xs W l o,D<=l->Ix xs W->Ix xs (W.putObj l o):=fun xs W l o h hi=>hIx xs W _ hi (by rw[hD];exact q9o W l o h)
 refine(hseq (n - 1) (D+1) (fun pre W=>I pre W/\W.heap[D+1]? = some (.loop (mk .ready none))/\W.heap[D]? = some (.deferred (some [])))
  (fun pre W=>Ix pre W/\W.heap[D+1]? = some (.loop (mk .done (some .ret)))/\W.heap[D]? = some (.deferred (some []))) W1 (hb0.trans ((hD ▸ bw:Below w.heap.size w W1).mono hb0.size)) ?_ ?_ (fun k hk=>by have:=hX k hk;omega) ?_ ⟨hI _ _ _ h0 (hD ▸ bw),hl1,hd1⟩).mono ?_
 . rintro xs W W' ⟨h,hl,hd⟩ hb
   rw[s1]at hb;exact⟨hI xs W W' h (hb.mono (by omega)),(hb.block _ (by omega)).trans hl,(hb.block _ (by omega)).trans hd⟩
 . rintro xs W W' ⟨h,hl,hd⟩ hb
   rw[s1]at hb;exact⟨hIx xs W W' h (hb.mono (by omega)),(hb.block _ (by omega)).trans hl,(hb.block _ (by omega)).trans hd⟩
 . -- one round
   rintro m pre x W ⟨hi,hl,hd⟩ hT;have hlt:D+1<W.heap.size:=(Yr.1 hl).1;have hy:=run_yield (P:=P) (args:=#[J9 (x:Int)]) hl (by rw[hmk];simp[hps]);rw[hmk]at hy;refine⟨fn,_,assign,body,hy,roundIn_of_wpIn trivial (hassign m _ x W _ ⟨_,run_beginRound hl (by rw[hmk]),?_⟩)⟩;refine wpIn_mono (hbody m _ pre x _ (hIput _ _ _ _ (by omega) hi) hT) ?_;have hl2:=World.putObj_heap_same (w:=W) (o:=.loop { mk .ready none with state:=.busy }) hlt;have hd2:(W.putObj (D+1) (.loop { mk .ready none with state:=.busy })).heap[D]? = some (.deferred (some [])):=(World.putObj_heap_other (by omega)).trans hd;have hx2:KeepX X W (W.putObj (D+1) (.loop { mk .ready none with state:=.busy })):=KeepX.put hl rfl;intro e a3 W3 hp;cases e with
   | normal =>
    obtain⟨ko,kx,hi3⟩:=hp;have hl3:=ko.same _ _ hl2 rfl;have hd3:=ko.same _ _ hd2 rfl;have hr:=run_endRound (P:=P) none hl3;rw[hmk]at hr;refine⟨_,_,hr,.inl ⟨rfl,⟨hIput _ _ _ _ (by omega) hi3,?_,(World.putObj_heap_other (by omega)).trans hd3⟩,(hx2.trans kx).trans (KeepX.put hl3 rfl)⟩⟩;rw[hmk];exact World.putObj_heap_same (Yr.1 hl3).1
   | ret =>
    obtain⟨ko,hi3⟩:=hp;have hl3:=ko.same _ _ hl2 rfl;have hd3:=ko.same _ _ hd2 rfl;have hr:=run_endRound (P:=P) (some .ret) hl3;rw[hmk]at hr;refine⟨_,_,hr,.inr ⟨rfl,hXput _ _ _ _ (by omega) hi3,?_,(World.putObj_heap_other (by omega)).trans hd3⟩⟩;rw[hmk];exact World.putObj_heap_same (Yr.1 hl3).1
   | exit id=>exact hp.elim
   | goto t=>exact hp.elim
   | panic c=>exact hp.elim
   | outgrown=>exact hp.elim
 . -- behind the iterator
   rintro e W2 ⟨⟨v,rfl⟩,(⟨xs,hS,hi,hl,hd⟩ | ⟨pre,hSp,hi,hl,hd⟩)⟩
   . have hr:=run_endLoop (P:=P) hl (by rw[hmk];simp)
     rw[hmk]at hr;exact⟨none,_,hr,hdone D xs _ (by omega) hS (hIput _ _ _ _ (by omega) hi) ((World.putObj_heap_other (by omega)).trans hd)⟩
   . have hr:=run_endLoop (P:=P) hl (by rw[hmk];simp)
     rw[hmk]at hr;exact⟨some .ret,_,hr,wpIn_ret (hstop D pre _ (by omega) hSp (hXput _ _ _ _ (by omega) hi) ((World.putObj_heap_other (by omega)).trans hd))⟩
end Go.Proofs.YtebbgodlijlioaaGreatDoor
namespace Go.Proofs.YtebbgodlijlioaaGreatDoor
open Go Go.RowKit
def minusN (s t:Nat):Nat:=s &&& (4294967295 - t)
def commonN (s t:Nat):Nat:=minusN s (minusN s t)
theorem or_lt {s t:Nat}(hs:s<4294967296)(ht:t<4294967296):s ||| t<4294967296:=Nat.or_lt_two_pow (n:=32) hs ht
theorem qbh {s t:Nat}(hs:s<4294967296):minusN s t<4294967296:=Nat.lt_of_le_of_lt Nat.and_le_left hs
theorem q70 {s t:Nat}(hs:s<4294967296):commonN s t<4294967296:=qbh hs
theorem two_lt {a:Nat}(ha:a<32):2 ^ a<4294967296:=Nat.pow_lt_pow_right (by decide) ha
theorem bit_lt {s i:Nat}(hs:s<4294967296)(h:s.testBit i=true):i<32:=by
 apply O4
 intro hi
 have:s.testBit i=false:=Nat.testBit_lt_two_pow (Y5 hs (by
  have:2 ^ 32<=2 ^ i:=Vf (by omega) hi;simpa using this))
 exact Ve (this.symm.trans h)
theorem q8f {s t:Nat}(hs:s<4294967296)(ht:t<4294967296)(i:Nat):(minusN s t).testBit i=(s.testBit i&&!t.testBit i):=by
 unfold minusN
 rw[Nat.testBit_and,show 4294967295 - t=2 ^ 32 - (t+1) by omega,Nat.testBit_two_pow_sub_succ (by omega)]
 cases h:s.testBit i
 . simp
 . simp[bit_lt hs h]
theorem q4s {s t:Nat}(hs:s<4294967296)(ht:t<4294967296)(i:Nat):(commonN s t).testBit i=(s.testBit i&&t.testBit i):=by
 unfold commonN
 rw[q8f hs (qbh hs),q8f hs ht]
 cases s.testBit i <;> cases t.testBit i <;> rfl
theorem q22 (n:Int)(h0:0<=n)(h1:n<4294967296):IntKind.u32.wrap n=n:=by
 simp[IntKind.wrap,IntKind.bits,IntKind.signed]
 omega
theorem u32_or (s t:Nat)(hs:s<4294967296)(ht:t<4294967296):bits .or .u32 (s:Int) (t:Int)=((s ||| t:Nat):Int):=by
 show IntKind.u32.wrap ((BitVec.ofInt 32 (s:Int) ||| BitVec.ofInt 32 (t:Int)).toNat:Int)=_
 rw[BitVec.toNat_or,ofInt_u32 s hs,ofInt_u32 t ht]
 exact q22 _ (by omega) (by have:=or_lt hs ht;omega)
theorem q9a (s t:Nat)(hs:s<4294967296)(ht:t<4294967296):bits .andNot .u32 (s:Int) (t:Int)=((minusN s t:Nat):Int):=by
 show IntKind.u32.wrap ((BitVec.ofInt 32 (s:Int) &&& ~~~BitVec.ofInt 32 (t:Int)).toNat:Int)=_
 rw[BitVec.toNat_and,BitVec.toNat_not,ofInt_u32 s hs,ofInt_u32 t ht,show 2 ^ 32 - 1 - t=4294967295 - t by omega]
 exact q22 _ (by omega) (by have:=qbh (t:=t) hs;unfold minusN at this;omega)
theorem qm6 (s t:Nat)(hs:s<4294967296)(ht:t<4294967296):bits .and .u32 (s:Int) (t:Int)=((s &&& t:Nat):Int):=by
 show IntKind.u32.wrap ((BitVec.ofInt 32 (s:Int) &&& BitVec.ofInt 32 (t:Int)).toNat:Int)=_
 rw[BitVec.toNat_and,ofInt_u32 s hs,ofInt_u32 t ht]
 exact q22 _ (by omega) (by have:s &&& t<=s:=Nat.and_le_left;omega)
theorem qd0 (s t:Nat)(w:World)(hs:s<4294967296)(ht:t<4294967296) :
 Calls Tryz.prog 122 #[.agg #[.int .u32 s],.agg #[.int .u32 t]] w fun e w'=>e=.returned (.agg (#[.int .u32 ((s ||| t:Nat):Int)]))/\w'=((w.alloc (.cells #[.int .u32 (s:Int)] 124)).alloc (.cells #[.int .u32 (t:Int)] 124)).alloc (.cells (#[.int .u32 ((s ||| t:Nat):Int)]) 124):=by
 have h:=u32_or s t hs ht
 go_enter Tryz.func122,Tryz.ntmps122
 go_wp2
 refine bodyPost_ret (v:=.agg (#[.int .u32 ((s ||| t:Nat):Int)])) (by simp[results,Tryz.results122,go_sem]) rfl ⟨rfl,rfl⟩
theorem qbi (s t:Nat)(w:World)(hs:s<4294967296)(ht:t<4294967296) :
 Calls Tryz.prog 153 #[.agg #[.int .u32 s],.agg #[.int .u32 t]] w fun e w'=>e=.returned (.agg (#[.int .u32 ((minusN s t:Nat):Int)]))/\w'=((w.alloc (.cells #[.int .u32 (s:Int)] 124)).alloc (.cells #[.int .u32 (t:Int)] 124)).alloc (.cells (#[.int .u32 ((minusN s t:Nat):Int)]) 124):=by
 have h:=q9a s t hs ht
 go_enter Tryz.func153,Tryz.ntmps153
 go_wp2
 refine bodyPost_ret (v:=.agg (#[.int .u32 ((minusN s t:Nat):Int)])) (by simp[results,Tryz.results153,go_sem]) rfl ⟨rfl,rfl⟩
theorem qkx {a:Nat}(ha:a<32):(2:Int) ^ a % 4294967296=((2 ^ a:Nat):Int):=by
 rw[show(2:Int) ^ a=((2 ^ a:Nat):Int) by simp,show(4294967296:Int)=((4294967296:Nat):Int) from rfl,<- Int.natCast_emod,Z4 (two_lt ha)]
theorem qke (a:Nat)(w:World)(hs:a<32) :
 Calls Tryz.prog 123 #[J9 a] w fun e w'=>e=.returned (.agg (#[.int .u32 ((2 ^ a:Nat):Int)]))/\w'=w.alloc (.cells (#[.int .u32 ((2 ^ a:Nat):Int)]) 124):=by
 have hp:=qkx hs
 go_enter Tryz.func123,Tryz.ntmps123
 go_wp2
 refine bodyPost_ret (v:=.agg (#[.int .u32 ((2 ^ a:Nat):Int)])) (by simp[results,Tryz.results123,go_sem]) rfl ⟨rfl,by simp⟩
theorem qit (s a:Nat)(w:World)(hs:s<4294967296)(ht:a<32) :
 Calls Tryz.prog 152 #[.agg #[.int .u32 s],J9 a] w fun e w'=>e=.returned (.bool (s.testBit a))/\w'=w.alloc (.cells #[.int .u32 (s:Int)] 124):=by
 have e:(bits .and .u32 ((s:Int) / 2 ^ a) 1==1)=s.testBit a:=by
  rw[show(s:Int) / 2 ^ a=((s / 2 ^ a:Nat):Int) by simp,show(1:Int)=((1:Nat):Int) from rfl,qm6 _ 1 (Nat.lt_of_le_of_lt (Oq _ _) hs) (by decide)];rw[Nat.and_one_is_mod,Nat.testBit_eq_decide_div_mod_eq];generalize s / 2 ^ a=q;rw[Zv];simp;omega
 have E:=h_ e;clear e
 go_enter Tryz.func152,Tryz.ntmps152
 go_wp2
 go_ret
 exact⟨qg2 E.u,rfl⟩
theorem qec:(Tryz.prog.info? 122).map (fun i=>(i.zero,i.size,i.bytes))=some (some (.int .u32 0),1,4):=by kernel_rfl
theorem q9y:Tryz.prog.cellsOf 122=1:=by kernel_rfl
theorem eq_set (d:Nat)(a b:Int)(w:World):(Op.equalIn (d+2) 124 (.agg #[.int .u32 a]) (.agg #[.int .u32 b])).run Tryz.prog w=.ok (a==b) w:=by
 obtain⟨i0,hi,-⟩:=info_parts qec
 rw[run_equalIn_array w (d+1) _ _ Tryz.underlying124 hi,q9y]
 simp[Op.eqItems,part,show List.range 1=[0] from rfl,run_equalIn_int w d 122 .u32 .u32 a b Tryz.underlying122]
 cases h:a==b <;> simp_all
theorem qaf (s:Nat)(w:World) :
 Calls Tryz.prog 154 #[.agg #[.int .u32 s]] w fun e w'=>e=.returned (.bool (s==0))/\w'=w.alloc (.cells #[.int .u32 (s:Int)] 124):=by
 have he:=fun (a b:Int) w=>eq_set 9998 a b w
 have e0:((s:Int)==0)=(s==0):=by rw[Zv];simp
 go_enter Tryz.func154,Tryz.ntmps154
 go_wp2
 go_ret
 exact⟨rfl,rfl⟩
theorem q71 (s t:Nat)(w:World)(hs:s<4294967296)(ht:t<4294967296) :
 Calls Tryz.prog 151 #[.agg #[.int .u32 s],.agg #[.int .u32 t]] w fun e w'=>e=.returned (.agg (#[.int .u32 ((commonN s t:Nat):Int)]))/\Below w.heap.size w w':=by
 go_enter Tryz.func151,Tryz.ntmps151
 go_wp2_with fail
 go_region_held3 (fun w'=>w'.cell? ⟨w.heap.size,0,none⟩=some (.int .u32 (s:Int))/\w'.cell? ⟨w.heap.size+1,0,none⟩=some (.int .u32 (t:Int))) (simp[go_sem,World.cell?_alloc_past]) (first | (go_at_call 153;refine(qbi _ _ _ (by first | assumption | exact qbh hs) (by first | assumption | exact qbh hs)).mono ?_;rintro e w' ⟨rfl,rfl⟩))
 go_wp2
 refine bodyPost_ret (v:=.agg (#[.int .u32 ((commonN s t:Nat):Int)])) (by simp[results,Tryz.results151,go_sem,commonN]) rfl ⟨rfl,?_⟩
 refine Below.drew ?_
 iterate 9 refine Below.alloc ?_ (by simp <;> omega) _
 exact bR _ _
theorem qhi:∀n,n<33->((2:Int) ^ n - 1) % 4294967296=((2 ^ n - 1:Nat):Int):=by decide +kernel
theorem qhf (n:Nat)(w:World)(hs:n<=32) :
 Calls Tryz.prog 119 #[J9 n] w fun e w'=>e=.returned (.agg (#[.int .u32 ((2 ^ n - 1:Nat):Int)]))/\Below w.heap.size w w':=by
 have E:=h_ (qhi n (by omega))
 go_enter Tryz.func119,Tryz.ntmps119
 go_wp2
 refine bodyPost_ret (v:=.agg (#[.int .u32 ((2 ^ n - 1:Nat):Int)])) (by simp[results,Tryz.results119,go_sem];rw[E.u]) rfl ⟨rfl,?_⟩
 exact(bR _ w).alloc (nR _) _
def Tab (w:World):Prop:=∀j,j<32->w.cell? ⟨1,j,none⟩=some (.int .u8 ((Lib.deBruijn32tab.getD j 0:Nat):Int))
theorem Tab.pos {w:World}(h:Tab w):1<w.heap.size:=by
 apply O4;intro h0
 have:=h 0 (by decide)
 simp only[World.cell?]at this
 rw[Array.getElem?_eq_none (by simpa using h0)]at this;cases this
theorem Tab.mono {w w':World}(h:Tab w)(hb:Below w.heap.size w w'):Tab w':=fun j hj=>(hb.cell (p:=⟨1,j,none⟩) h.pos).trans (h j hj)
theorem qkb (s:Nat)(hs:s<4294967296)(h0:s≠0):bits .and .u32 (s:Int) (-(s:Int) % 4294967296)=((2 ^ Lib.ctz 32 s:Nat):Int):=by
 rw[show -(s:Int) % 4294967296=((2 ^ 32 - s:Nat):Int) by omega,qm6 s _ hs (by omega),(Lib.lowest_bit 32 s h0 hs).1]
theorem tz_any (s:Nat)(w:World)(hs:s<4294967296)(h0:s≠0)(ht:Tab w) :
 Calls Tryz.prog 177 #[.int .u32 s] w fun e w'=>e=.returned (J9 (Lib.ctz 32 s))/\w'=w:=by
 have hk:=(Lib.lowest_bit 32 s h0 hs).2
 obtain⟨j1,j2⟩:=Lib.deBruijn32_at _ hk
 have e1:=qkb s hs h0
 have hc:=ht _ j1
 rw[j2]at hc
 obtain⟨k,hk'⟩:=Nq (Lib.ctz 32 s)
 obtain⟨p,hp⟩:=Nq (2 ^ Lib.ctz 32 s)
 obtain⟨j,hj⟩:=Nq (2 ^ Lib.ctz 32 s*125613361 % 4294967296 / 134217728)
 have e2:(p:Int)*125613361 % 4294967296 / 134217728=(j:Int):=by rw[<- hj,hp];omega
 rw[hj]at hc j1;rw[hp]at e1;rw[hk']at hc hk⊢
 have hz:((s:Int)==0)=false:=by simp;omega
 clear hj hp hk' j2 ht h0
 go_enter Tryz.func177,Tryz.ntmps177
 go_wp2
 go_ret
 exact⟨rfl,rfl⟩
theorem q8e (s:Nat)(w:World)(hs:s<4294967296)(h0:s≠0)(ht:Tab w) :
 Calls Tryz.prog 156 #[.agg #[.int .u32 s]] w fun e w'=>e=.returned (J9 (Lib.ctz 32 s))/\w'=w.alloc (.cells #[.int .u32 (s:Int)] 124):=by
 have hT:∀o,Tab (w.alloc o):=fun o=>ht.mono ((bR _ w).alloc (nR _) o)
 have HT:=h_ hT;have H0:=h_ h0;clear hT ht h0
 go_enter Tryz.func156,Tryz.ntmps156
 go_wp2_with (go_at_call 177;refine(tz_any _ _ hs H0.u (HT.u _)).mono ?_;rintro e w' ⟨rfl,rfl⟩)
 go_ret
 exact⟨rfl,rfl⟩
end Go.Proofs.YtebbgodlijlioaaGreatDoor
namespace Go.Proofs.YtebbgodlijlioaaGreatDoor
open Go Go.RowKit Go.Shelf
attribute [local go_sem] Oper.semAt_some
theorem Tab.keep {X:Nat->Prop}{W W':World}(h:Tab W)(hk:KeepX X W W')(hX:¬ X 1):Tab W':=fun j hj=>by
 have h0:=h j hj
 unfold World.cell? at h0⊢
 simp only at h0⊢
 cases e:W.heap[1]? with
 | none=>rw[e]at h0;cases h0
 | some o =>
  cases o with
  | cells cs t fr=>rw[hk.same 1 cs t fr hX e];rw[e]at h0;exact h0
  | _=>rw[e]at h0;cases h0
def natAt (w:World):Value->Nat
 | .pointer (some a)=>match w.cell? a with | some (.int _ v)=>v.toNat | _=>0
 | _=>0
theorem qf3 {w:World}{b:Nat}{v:Nat}{k:IntKind}(h:w.cell? ⟨b,0,none⟩=some (.int k (v:Int))):natAt w (Yc b 0)=v:=by
 simp[natAt,h]
theorem qi9 {s:Nat}(hs:s<4294967296)(h0:s≠0):Lib.ctz 32 s<32/\s.testBit (Lib.ctz 32 s)=true:=by
 obtain⟨h1,h2⟩:=Lib.lowest_bit 32 s h0 hs
 refine⟨h2,?_⟩
 have:(s &&& (2 ^ 32 - s)).testBit (Lib.ctz 32 s)=true:=by rw[h1];simp
 rw[Nat.testBit_and,Yn]at this
 exact this.1
theorem q5q {s x:Nat}(hs:s<4294967296)(hx:x<32)(h:s.testBit x=true):minusN s (2 ^ x)<s:=by
 apply Nat.lt_of_le_of_ne Nat.and_le_left
 intro e
 have h2:=q8f hs (two_lt hx) x
 rw[show minusN s (2 ^ x)=s from e,h]at h2
 simp at h2
theorem q5r {s x:Nat}(hs:s<4294967296)(hx:x<32)(i:Nat):(minusN s (2 ^ x)).testBit i=true ↔ s.testBit i=true/\i≠x:=by
 rw[q8f hs (two_lt hx),Va,Yn,Bool.not_eq_true',decide_eq_false_iff_not]
 exact and_congr_right fun _=>⟨fun h e=>h e.symm,fun h e=>h e.symm⟩
theorem Tab.at0 {w w':World}(h:Tab w)(e:w'.heap[1]? = w.heap[1]?):Tab w':=fun j hj=>(World.cell?_of_block (a:=⟨1,j,none⟩) e).trans (h j hj)
theorem q5l (N:Nat)(W3:World)(R:Nat)(o1 o2 o3 o4:Obj)(v:Value)(t:TypeId)(hR:N<=R)(hN:N<=W3.heap.size) :
 Blk ((((((W3.alloc o1).alloc o2).alloc o3).alloc o4).setCell ⟨R,0,none⟩ v).alloc (.cells #[v] t)).drew (W3.heap.size+1+1+1+1) t [v]/\Below N W3 ((((((W3.alloc o1).alloc o2).alloc o3).alloc o4).setCell ⟨R,0,none⟩ v).alloc (.cells #[v] t)).drew:=by
 constructor
 . have:=Blk.new (((((W3.alloc o1).alloc o2).alloc o3).alloc o4).setCell ⟨R,0,none⟩ v) t #[v]
   simp only[World.size_setCell,Yx]at this;exact this
 . exact((((below4 W3 o1 o2 o3 o4).mono hN).setCell (p:=⟨R,0,none⟩) hR v).alloc (by simp;omega) _).drew
theorem q3y (Bs s:Nat)(w0:World)(X:Nat->Prop)(hs:s<4294967296)(hB:Blk w0 Bs 124 [.int .u32 (s:Int)])(ht:Tab w0)(hX0:¬ X 1) :
 Gives Tryz.prog 176 #[Yc Bs 0] (fun x=>x<32/\s.testBit x=true) (fun xs=>∀i,i∈xs ↔ s.testBit i=true) (fun pre=>∀i∈pre,s.testBit i=true) X w0:=by
 intro n l J Jx W hb hJ hJx hX hY h0
 have hBs:=hB.mono hb hB.lt
 have hT:=ht.mono hb
 have c0:=hBs.cell 0
 simp only[Yh]at c0
 have hW0:=hT.pos
 have HY:=h_ hY;clear hY
 refine callsIn_of_wp Tryz.func176 rfl trivial ?_ rfl
 simp only[Tryz.ntmps176,Zh,Ys,Y4,Nat.reduceAdd,Nat.reduceSub,Z9,Z8,Vg,Vb,Vj,Zn]
 gi_wp2
 clear c0
 have hbn:Below W.heap.size W (W.alloc (.cells #[.int .u32 (s:Int)] 124)):=(bR _ _).alloc (nR _) _
 have hnew:=Blk.new W 124 #[.int .u32 (s:Int)]
 gi_loopw [3] (fun p wr=>∃(R rest:Nat) (pre:List Nat),p=Yc R 0/\W.heap.size<=R/\Blk wr R 124 [.int .u32 (rest:Int)]/\Tab wr/\J pre wr/\W.heap.size<=wr.heap.size/\rest<4294967296/\(∀i,s.testBit i=true ↔ i∈pre∨rest.testBit i=true)) (fun p wr=>natAt wr p)
 case atStart=>exact⟨W.heap.size,s,[],rfl,nR _,hnew,hT.mono hbn,hJ _ _ _ h0 hbn,hbn.size,hs,fun i=>by simp⟩
 case round =>
  clear hnew hbn h0 hT hBs;obtain⟨R,rest,pre,rfl,hR,hbR,hT,hj,hsz,hr,hbits⟩:=hrel;have c1:=hbR.cell 0;simp only[Yh]at c1;have HBR:=h_ hbR;have HT:=h_ hT;have HJ:=h_ hj;have HBITS:=h_ hbits;have hlR:=hbR.lt;clear hbR hT hj hbits;by_cases hz:rest=0
  . subst hz
    have hzb:((0:Nat)==0)=true:=rfl;gi_wp2_with fail;refine callW ((qaf _ _).mono ?_);rintro e w1 ⟨rfl,rfl⟩;gi_wp2_with fail
    go_end0
    refine⟨⟨_,rfl⟩,.inl ⟨pre,fun i=>?_,hJ _ _ _ HJ.u (((bR wr.heap.size _).alloc (nR _) _).mono hsz)⟩⟩;rw[HBITS.u i];simp
  . have hzb:(rest==0)=false:=by simpa using hz
    have hcb:=qi9 hr hz;have hl3:=q8e rest (wr.alloc (.cells #[.int .u32 (rest:Int)] 124)) hr hz (HT.u.mono ((bR _ _).alloc (nR _) _));obtain⟨x,hx⟩:=Nq (Lib.ctz 32 rest);rw[hx]at hcb hl3;have HL3:=h_ hl3;have hx32:=hcb.1;have HXB:=h_ hcb.2;clear hz hx hcb hl3;have hB2:Below wr.heap.size wr ((wr.alloc (.cells #[.int .u32 (rest:Int)] 124)).alloc (.cells #[.int .u32 (rest:Int)] 124)):=((bR _ _).alloc (nR _) _).alloc (by simp) _;have hyy:=HY.u (n - 1) pre x _ (hJ _ _ _ HJ.u (hB2.mono hsz)) ⟨hx32,(HBITS.u x).2 (.inr HXB.u)⟩;have HB2:=h_ hB2;clear hB2;obtain⟨fn,tmps,assign,body,hy,hRd⟩:=hyy;have HRD:=h_ hRd;clear hRd;gi_wp2_with fail;refine callW ((qaf _ _).mono ?_);rintro e w1 ⟨rfl,rfl⟩;gi_wp2_with fail;refine callW (HL3.u.mono ?_);rintro e w1 ⟨rfl,rfl⟩;gi_wp2_with fail;refine⟨noDepth,HRD.u.mono ?_⟩;rintro e W3 (⟨rfl,hj3,hk3⟩ | ⟨rfl,hjx3⟩)
    . have hbR:=hk3.blk (HBR.u.mono HB2.u hlR) (fun h=>by have:=hX R h;omega)
      have hT3:=(HT.u.mono HB2.u).keep hk3 hX0;have hs3:wr.heap.size<=W3.heap.size:=Yv HB2.u.size hk3.size;clear hk3 c1 hy HRD HL3;have c2:=hbR.cell 0;simp only[Yh]at c2;have f2:=hbR.free 0;have hl3:=hbR.lt;have K4:=hbR.cell4 0;have F4:=hbR.free4 0;simp only[Yh]at K4;have HBR3:=h_ hbR;have HT3:=h_ hT3;have HJ3:=h_ hj3;clear hbR hT3 hj3;have hmix:Tryz.prog.follows .mixedOrders=true:=(by kernel_rfl);have hr2:=qbh (t:=2 ^ x) hr;have h2x:=two_lt hx32;gi_wp2_with fail
      gi_region_with_o (first | (refine callW ((qke _ _ hx32).mono ?_);rintro e w' ⟨rfl,rfl⟩) | (refine callW ((qbi _ _ _ hr h2x).mono ?_);rintro e w' ⟨rfl,rfl⟩))
      all_goals
       gi_wp2_with fail;have hst:=q5l W.heap.size W3 R (.cells (#[.int .u32 ((2 ^ x:Nat):Int)]) 124) (.cells #[.int .u32 (rest:Int)] 124) (.cells (#[.int .u32 ((2 ^ x:Nat):Int)]) 124) (.cells (#[.int .u32 ((minusN rest (2 ^ x):Nat):Int)]) 124) (.int .u32 ((minusN rest (2 ^ x):Nat):Int)) 124 hR (by omega);simp only[O9,Ou]at hst;refine⟨⟨W3.heap.size+1+1+1+1,minusN rest (2 ^ x),pre++[x],rfl,by omega,hst.1,HT3.u.at0 (hst.2.block 1 hW0),hJ _ _ _ HJ3.u hst.2,by have:=hst.2.size;omega,hr2,fun i=>?_⟩,?_⟩
       . rw[HBITS.u i,q5r hr hx32,Zb,Yw]
         have hxb:=HXB.u;by_cases e:i=x
         . subst e;simp[hxb]
         . simp[e]
       . have h1:=hst.1.cell 0
         have h2:=HBR.u.cell 0;simp only[Yh]at h1 h2;rw[qf3 h1,qf3 h2];exact q5q hr hx32 HXB.u
    . gi_wp2_with fail
      refine bodyPost_ret (results_none rfl _ _ _) rfl ⟨⟨_,rfl⟩,.inr ⟨pre++[x],fun i hi=>?_,hjx3⟩⟩;rw[HBITS.u i];rcases Zb.1 hi with h | h
      . exact .inl h
      . rw[Yw.1 h];exact .inr HXB.u
theorem q89 (s:Nat)(w:World) :
 Calls Tryz.prog 150 #[.agg #[.int .u32 (s:Int)]] w fun e w'=>e=.returned (.func (.func 176) #[] #[Yc w.heap.size 0])/\w'=w.alloc (.cells #[.int .u32 (s:Int)] 124):=by
 go_enter Tryz.func150,Tryz.ntmps150
 go_wp2
 go_ret
 exact⟨rfl,rfl⟩
end Go.Proofs.YtebbgodlijlioaaGreatDoor
