import Derived.Test.YtdlnflnfbcaiiaaGreatDoorW01
import Derived.Test.YtdlnflnfbcaiiaaGreatDoorW04
set_option linter.all false
set_option maxRecDepth 100000
set_option maxHeartbeats 0
namespace Go.Proofs.YtdlnflnfbcaiiaaGreatDoor
section
open Go Go.RowKit Go.Proofs.Tryz
def FT (w:Tw)(D C c t):m0 (((w.alloc (.cells c t)).alloc D).alloc C) w.1.size t c.toList:=((m0.new w t c).alloc D).alloc C
def GT (w:Tw)(d D c g)(h:c.toList=us g):m0 (((w.alloc d).alloc D).alloc (.cells c 228)) (w.1.size+1+1) 228 (us g):=by rw[<- h];simpa using m0.new ((w.alloc d).alloc D) 228 c
def IT (w:Tw)(d C c g)(h:c.toList=us g):m0 (((w.alloc d).alloc (.cells c 228)).alloc C) (w.1.size+1) 228 (us g):=by rw[<- h];simpa using (m0.new (w.alloc d) 228 c).alloc C
def YK (w d D C):Bw w (((w.alloc d).alloc D).alloc C):=(((bR _ w).alloc (nR _) d).alloc fT D).alloc fX C
def I4 (g:Nat->Nat)(R:Nat->Nat->Bool):Prop:=∀a,a<32->g a<4294967296/\∀b,(g a).testBit b=R a b
def qtx (b i):(2 ^ b).testBit i=decide (b=i):=by grind
def I4.add {g R}(h:I4 g R){x y}(u:x<32)(hy:y<32):I4 (λj=>if j=x then g x ||| 2 ^ y else g j) (λa b=>R a b||(decide (a=x)&&decide (b=y))):=λa K=>by by_cases e:a=x;{subst e;simp only[if_true];refine⟨OJ (h a K).1 (lF hy),λb=>?_⟩;rw[Gb,(h a K).2 b,qtx];cases R a b <;> simp[eq_comm]};simp only[Ys e];refine⟨(h a K).1,λb=>?_⟩;rw[(h a K).2 b];simp[e]
def I4.congr {g R I}(h:I4 g R)(c:∀a b,a<32->R a b=I a b):I4 g I:=λa K=>⟨(h a K).1,λb=>((h a K).2 b).trans (c a b K)⟩
def part (f:Nat->Bool)(n i:Nat):Nat->Nat->Bool:=λa b=>decide (b<n)&&decide (a*n+b<i)&&f (a*n+b)
end
section
open Go Go.RowKit Go.Shelf Go.Proofs.Tryz
section
variable {n:Nat} {ops:Array Oper} {rest:List Oper} {o:Oper} {a:Act} {w:Tw} {Q:Exit->Act->Tw->Prop}
theorem OT (E:o.guard=none)(x)(T:o.op=.load 228 x)(b g)(u:a.eval x=.pointer (some (.mk b 0 .none)))(c:m0 w b 228 (us g))
 (h:wpListIn Fence.wide n prog ops Q rest (a.put o.dst (.agg (us g).toArray)) w):wpListIn Fence.wide n prog ops Q (o :: rest) a w :=
 wpListIn_plain E λ_ k=>⟨λ_ _=>trivial,by
  simp only[Fence.wide,Oper.semAt,execOp,T,u,Instr.loadAt,Instr.sureAddr,Sem.run_bind,Sem.run_pure,Result.andThen_ok,run_loadVar_row w b 228 228 (us g).toArray (0,0) _ c underlying228 rfl (pJ g)];exact k _ _ h⟩
def QP (E:o.guard=none)(x y)(T:o.op=.store 228 x y)(b g g')(u:a.eval x=Yh b 0)(hy:a.eval y=.agg (us g').toArray)(c:m0 w b 228 (us g))
 (h:∀j,m0 j b 228 (us g')->w.grownBy j (some b)->j.1.size=w.1.size->wpListIn Fence.wide n prog ops Q rest (a.put o.dst undef) j):wpListIn Fence.wide n prog ops Q (o :: rest) a w :=
 wpListIn_plain E λ_ k=>⟨λ_ _=>trivial,by
  simp only[Fence.wide,Oper.semAt,execOp,T,u,hy,Instr.storeAt,Instr.sureAddr,Sem.run_bind,Sem.run_pure,Result.andThen_ok,run_storeVar_row w b 228 228 _ (us g').toArray c (pJ g') (by simp[us]) (GX g')];exact k _ _ (h _ (setRow_heap w b _ _ _ _ c) ⟨rfl,rfl,rfl,fT,λd _ k=>setRow_other w b d _ (λe=>k (by rw[e]))⟩ fT)⟩
end
def yT (Ds:List Nat):List Deferred:=Ds.map λD=>{ target:=.collected D,args:=#[] }
def GA (B:Nat)(W:Tw)(Ds:List Nat):Prop:=Ds.Nodup/\∀D∈Ds,B<=D/\W.heap[D]? = some (.deferred (some []))
def GA.nil (B W):GA B W []:=⟨List.nodup_nil,λ_ h=>gC⟩
def GA.keep {B W W' l}(h:GA B W l)(k:KeepsOthers W W'):GA B W' l:=⟨h.1,λD N=>⟨(h.2 D N).1,k.same D _ (h.2 D N).2 rfl⟩⟩
def GA.below {B N W W' l}(h:GA B W l)(c:Below N W W')(O:∀D∈l,D<N):GA B W' l:=⟨h.1,λD b=>⟨(h.2 D b).1,(c.block D (O D b)).trans (h.2 D b).2⟩⟩
def GA.lt {B W l}(h:GA B W l):∀D∈l,D<W.1.size:=λD N=>(Yt.1 (h.2 D N).2).1
def GA.cons {B D W l}(h:GA B W l)(N:B<=D)(q:W.heap[D]? = some (.deferred (some [])))(P:D ∉ l):GA B W (D :: l) :=
 ⟨O5.2 ⟨P,h.1⟩,λE t=>by
  rcases Vf.1 t with rfl|t
  . exact⟨N,q⟩
  . exact h.2 E t⟩
def AU {P:Program}{b:Func}{d:Ta}{R:Ending->Tw->Prop}{n B:Nat}:∀(s:List Nat) (W:Tw),GA B W s -> (∀y,M6 (λ_=>False) W y->Below B W y->∃v,(results b d).run P y=.ok v y/\R (.returned v) y)->LeavesInM Fence.wide n P b d R (yT s) .returning W|[],W,_,h=>h W (M6.refl _ _) (bR _ _)|D :: s,W,hs,h=>by have q:=hs.2 D (Zl ..);refine⟨fT,.inl ⟨D,_,rfl,run_takeDeferred q.2,AU s _ ⟨(O5.1 hs.1).2,λE t=>?_⟩ λy e c=>h y ((M6.put q.2 rfl).trans e) ((SL _ D _ q.1).trans c)⟩⟩;have c:=hs.2 E (Z6 _ t);exact⟨c.1,(World.putObj_heap_other (k:=E) (r:=D) (λe=>(O5.1 hs.1).1 (by rw[<- e];exact t))).trans c.2⟩
def Uf {W' k x f}(h:m0 W' k 228 (us f))(g:x<32)(u:Nat)(d D C b):KeepsOthers W' (((((W'.alloc d).alloc D).alloc C).alloc b).setCell (Aq k x) (.int .u32 (u:Int))).drew/\M6 (λj=>j=k) W' (((((W'.alloc d).alloc D).alloc C).alloc b).setCell (Aq k x) (.int .u32 (u:Int))).drew /\ m0 (((((W'.alloc d).alloc D).alloc C).alloc b).setCell (Aq k x) (.int .u32 (u:Int))).drew k 228 (us λj=>if j=x then u else f j) /\ (∀B,B<=k->k<W'.1.size->Below B W' (((((W'.alloc d).alloc D).alloc C).alloc b).setCell (Aq k x) (.int .u32 (u:Int))).drew):=by have c:=BC W' d D C b;refine⟨(ZS c).trans ((KeepsOthers.setCell _ _ _).trans (KeepsOthers.drew _)),((M6.of_below c).trans (M6.set (X:=λj=>j=k) (a:=Aq k x) (.int .u32 (u:Int)) rfl)).trans ⟨nR _,λ_ _ _ _ _ h=>h⟩,?_,λB e r=>((c.mono fP).setCell (p:=Aq k x) e _).drew⟩;rw[<- MS f u g];exact(h.mono c h.lt).set x _
end
section
open Go Go.RowKit Go.Proofs.Tryz
def rowP (f:Nat->Bool)(n bt tp a:Nat):Prop :=
 f (a*n+a)=true/\f (bt*n+a)=true/\f (a*n+tp)=true /\
  ∀b,b<n->¬ (a≠b/\f (a*n+b)=true/\f (b*n+a)=true)/\∀c,c<n->f (a*n+b)=true->f (b*n+c)=true->f (a*n+c)=true
def entP (f:Nat->Bool)(g h:Nat->Int)(n a b:Nat):Prop :=
 ∃j m:Nat,g (a*n+b)=j/\h (a*n+b)=m/\j<n/\m<n/\lC f n a b j/\mC f n a b m
structure vH (N:Int)(n1 n2 n3:Nat)(f:Nat->Bool)(g h:Nat->Int)(bot top:Int)(n bt tp:Nat):Prop where
 hN:N=n
 h1:1<=n
 h32:n<=32
 l1:n1=n*n
 l2:n2=n*n
 l3:n3=n*n
 hb:bot=bt
 ht:top=tp
 bb:bt<n
 tt:tp<n
 rows:∀a,a<n->rowP f n bt tp a
 ents:∀a,a<n->∀b,b<n->entP f g h n a b
def sP (N:Int)(n1 n2 n3:Nat)(f:Nat->Bool)(g h:Nat->Int)(bot top:Int):Prop:=∃n bt tp,vH N n1 n2 n3 f g h bot top n bt tp
def qa3 {V p}(m:V=true ↔ p)(h:¬ p):V=false:=by grind
def iC {p:Prop}(h:p:=by rw[show(2:Int) ^ k=((2 ^ k:Nat):Int) by simp];simp at b|-;exact_mod_cast b):p:=h
def Fa (n:Nat)(g d w)(P:n<=32)(H:∀a,a<32->g a<4294967296)(t:∀a,a<32->d a<4294967296)(V)(p:V=true ↔ ∃a,a<n/\¬ s8 (g a) (d a)=2 ^ a):Gv 200 #[Ye n,.agg (us g).toArray,.agg (us d).toArray] w (.bool V):=by have l:=h_ p;have m:=(m0.new w 228 (us g).toArray).alloc (.cells (us d).toArray 228);have e:=m0.new (w.alloc (.cells (us g).toArray 228)) 228 (us d).toArray;have x:Bw w ((w.alloc (.cells (us g).toArray 228)).alloc (.cells (us d).toArray 228)):=(Bq).alloc fT _;simp only[Y4]at e;obtain⟨U,h,S⟩:=oC m e x;go_enter func200,ntmps200;go_wp2;go_loopw [9] (λi wr=>∃k:Nat,k<=n/\i=Ye k/\(∀a,a<k->s8 (g a) (d a)=2 ^ a)/\m0 wr w.1.size 228 (us g)/\m0 wr (w.1.size+1) 228 (us d)/\Bw w wr) (λi _=>n - (intOf i).toNat);exact⟨0,nZ _,rfl,λa b=>absurd b (nL _),U,h,S⟩;obtain⟨k,C,rfl,r,M,z,I⟩:=hrel;have B:=h_ r;by_cases v:k<n;{have N:k<32:=fP;have Y:=M.cell k;have c1:=z.cell k;rw[uB _ N]at Y c1;have E:=z.lt;have q:=H k N;have d1:=t k N;have D:(0:Int)<=k:=fP;have Q:(k:Int)<32:=fP;have y:=λ(a b:Int) w=>JX 9998 a b w;obtain⟨U,h,S⟩:=oC M z I;cases b:((s8 (g k) (d k):Nat)==(2 ^ k:Nat));{have s:(((s8 (g k) (d k):Nat):Int)==2 ^ k)=false:=(by exact iC);have i:Hi (V=true):=l.2 ⟨k,v,by simpa using b⟩;go_wp2_with fail;go_region_with (first|(go_at_call 232;refine cQ (RU _ _ _ q d1) λj c=>?_;replace c:Hi (Bw wr j):=⟨c.os,c.tape,c.output,c.size,c.block⟩)|(go_at_call 114;refine(ZI _ _ N).mono ?_;rintro o j ⟨rfl,rfl⟩));all_goals have J:=‹Hi (Bw wr _)›;go_wp2;go_ret;exact⟨L2 i.symm,(S.trans (J.u.mono S.size)).alloc (by have:=J.u.size;have:=S.size;omega) _⟩};have s:(((s8 (g k) (d k):Nat):Int)==2 ^ k)=true:=(by exact iC);have A:Hi (∀a,a<k+1->s8 (g a) (d a)=2 ^ a):=qih (f:=λa=>s8 (g a) (d a)) (g:=λa=>2 ^ a) B (by simpa using b);go_wp2_with fail;go_region_with (first|(go_at_call 232;refine cQ (RU _ _ _ q d1) λj c=>?_;replace c:Hi (Bw wr j):=⟨c.os,c.tape,c.output,c.size,c.block⟩)|(go_at_call 114;refine(ZI _ _ N).mono ?_;rintro o j ⟨rfl,rfl⟩));all_goals have J:=‹Hi (Bw wr _)›;go_wp2;go_roundw;exact⟨k+1,fP,fU,A,(U.mono J.u U.lt).alloc _,(h.mono J.u h.lt).alloc _,(S.trans (J.u.mono S.size)).alloc (by have:=J.u.size;have:=S.size;omega) _⟩;exact kZ};have s:Hi (V=false):=qa3 l λ⟨a,K,b⟩=>b (B a fP);have S:=h_ I;go_wp2;go_ret;exact⟨L2 s.symm,S⟩
def iB {p:Prop}(h:p:=by go_enter func198,ntmps198;go_wp2;go_ret;exact⟨L2 gn,rfl⟩):p:=h
theorem vQ (a n w)(D:0<=a)(h1:a<n):Calls prog 198 (Js a n) w λe j=>e=.returned (.bool true)/\j=w:=by exact iB
theorem VU (a n w)(h:a<0\/n<=a):Calls prog 198 (Js a n) w λe j=>e=.returned (.bool false)/\j=w:=by by_cases D:0<=a;{have m:n<=a:=fP;exact iB};clear h;exact iB
