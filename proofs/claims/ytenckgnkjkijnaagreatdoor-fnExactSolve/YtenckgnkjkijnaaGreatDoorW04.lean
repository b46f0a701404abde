import Derived.Test.YtenckgnkjkijnaaGreatDoorW02
import Derived.Laws.DeepBits32
import Derived.Lib.TrailingZeros
import Derived.Deep.WholeRow
import Derived.RangeFuncNested
import Derived.RangeFuncBound
import Derived.Shelf.RegionOpen
import Derived.OwnWalkIn
import Derived.LoopNIn
import Derived.LoopIn
set_option maxRecDepth 100000
set_option maxHeartbeats 64000000
namespace Go.Proofs.YtenckgnkjkijnaaGreatDoor
open Go Go.RowKit Go.Proofs.Tryz
theorem qhw {e:Type}{f g:Nat->e}{k:Nat}(c:∀a,a<k->f a=g a)(d:f k=g k):∀a,a<k+1->f a=g a:=fun a b=>by
 by_cases b:a=k
 . rw[b];exact d
 . exact c a (by omega)
theorem kha {a b:Int}(c:(a != b)=false):a=b:=by simpa using c
theorem khb {a b:Int}(c:(a != b)=true):¬ a=b:=by simpa using c
theorem q7k (a b:To)(f g:Nat->Int)(n j k:Nat)(w:Tw)(l:kbx w a n f)(m:kbx w b n g)(u:n<=140737488355328) :
 Gv 107 #[.slice a n j,.slice b n k] w (.bool (keb n f g)):=by
 go_enter func107,ntmps107;go_wp2;go_loopw [5] (fun e wr=>∃c:Nat,c<=n/\e=J6 c/\(∀d,d<c->f d=g d)/\∃n,wr=w.drewN n) (fun e _=>n - (intOf e).toNat)
 case atStart=>exact⟨0,nZ _,rfl,fun d e=>absurd e (nL _),0,rfl⟩
 case round =>
  obtain⟨c,t,rfl,o,v,rfl⟩:=hrel;have i:Hi (∀d,d<c->f d=g d):=o;by_cases e:c<n
  . obtain⟨p,x,rfl,-,r⟩:=l c e
    obtain⟨q,y,rfl,-,s⟩:=m c e;go_wp2
    go_quiet (fail)
    go_wp2
    . have h:(f c != g c)=true:=by assumption
      go_ret;exact⟨qln (q9h c e (khb h)).symm,⟨rfl,rfl,rfl,nR _,fun _ _=>rfl⟩⟩
    . have h:(f c != g c)=false:=by assumption
      go_roundw
      case rel=>exact⟨c+1,by omega,by go_num,qhw i.out (kha h),_,rfl⟩
      case measure=>simp[intOf];omega
  . go_wp2
    go_ret;exact⟨qln (qcp fun d h=>i.out d (by omega)).symm,⟨rfl,rfl,rfl,nR _,fun _ _=>rfl⟩⟩
def bs (n:Nat)(f:Nat->Bool):Tl:=(List.range n).map fun k=>.bool (f k)
def is (n:Nat)(f:Nat->Int):Tl:=(List.range n).map fun k=>.int .i64 (f k)
theorem qbt {n:Nat}{xs:Tl}{g:Nat->Value}(d:xs.length=n)(c:∀a,a<n->xs[a]? = some (g a)):xs=(List.range n).map g:=by
 apply Oy;intro a;by_cases b:a<n
 . rw[c a b];simp[b]
 . rw[Vd (by omega),Vd (by simp;omega)]
theorem Blk.bools {w:Tw}{g n:Nat}{t:TypeId}{f:Nat->Bool}(a:Blk w g t (bs n f)):ka1 w (some ⟨g,0,none⟩) n f:=fun b b =>
 ⟨g,0,rfl,a.lt,by rw[Y3,a.cell];simp[bs,b]⟩
theorem Blk.ints {w:Tw}{g n:Nat}{t:TypeId}{f:Nat->Int}(a:Blk w g t (is n f)):kbx w (some ⟨g,0,none⟩) n f:=fun b b =>
 ⟨g,0,rfl,a.lt,by rw[Y3,a.cell];simp[is,b]⟩
theorem qfc:(prog.info? 4).map (fun a=>(a.zero,a.size,a.bytes))=some (some (.bool false),1,1):=by kernel_rfl
theorem qjo:(prog.info? 3).map (fun a=>(a.zero,a.size,a.bytes))=some (some (J6 0),1,8):=by kernel_rfl
theorem qeh {w wr:Tw}{B i n k:Nat}{g:Nat->Value}{xs:Tl}(j:k<n)
 (b:wr.ownsRow B i 1 (.slice (some ⟨B,0,none⟩) n n) n xs) (e:∀a,a<k->xs[a]? = some (g a)) (d:Below B w wr) :
 (wr.setCell ⟨B,k,none⟩ (g k)).ownsRow B i 1 (.slice (some ⟨B,0,none⟩) n n) n (xs.set k (g k))/\(∀a,a<k+1->(xs.set k (g k))[a]? = some (g a))/\Below B w (wr.setCell ⟨B,k,none⟩ (g k)):=by
 obtain⟨c,f⟩:=b.stored k (g k);refine⟨c,fun a h=>?_,d.setCell (p:=⟨B,k,none⟩) (nR _) _⟩;have l:xs.length=n:=by have:=b.1;omega
 by_cases i:a=k
 . subst i;rw[Ow (by omega)]
 . rw[O9 (by omega)];exact e a (by omega)
theorem qd4 (a:To)(f:Nat->Int)(n c:Nat)(w:Tw)(z:kbx w a n f)(S:n<=1048576) :
 Calls prog 91 #[.slice a n c] w fun d b=>d=.returned (.slice (some ⟨w.heap.size,0,none⟩) n n)/\Blk b w.heap.size 3 (is n f)/\Below w.heap.size w b:=by
 obtain⟨v,E,G,H,I⟩:=info_parts qjo;obtain⟨h,d⟩:=Nq w.heap.size;have B:v.bytes*n<=281474976710656:=by rw[I];omega
 go_enter func91,ntmps91;go_wp2_with (at_make;refine wpList_make_full _ rfl (.tmp 6) (.tmp 6) 89 rfl w.heap.size 3 v (J6 0) 1 underlying89 E G H .i64 .i64 _ _ n rfl rfl rfl rfl B (by unfold maxLen;omega) (nR _) ?_;intro N s D);have A:Below h w N:=by rw[<- d];exact(bR _ _).grown D (nR _) (fun b i=>by cases i)
 rw[d]at s;go_loopw [4] (fun m wr=>∃(b:Nat) (j:Tl),b<=n/\m=J6 b/\wr.ownsRow h 3 1 (.slice (some ⟨h,0,none⟩) n n) n j/\(∀e,e<b->j[e]? = some (J6 (f e)))/\Below h w wr) (fun m _=>n - (intOf m).toNat)
 case atStart=>exact⟨0,_,nZ _,rfl,s,fun e i=>absurd i (nL _),A⟩
 case round =>
  obtain⟨b,j,R,rfl,i,t,l⟩:=hrel;obtain⟨k,q,o⟩:=oC i t l;by_cases r:b<n
  . obtain⟨y,J,rfl,F,C⟩:=z b r
    have O:=(l.cell (p:=⟨y,J+b,none⟩) (by rw[<- d];exact F)).trans C;obtain⟨x,P⟩:∃x,wr.cell? ⟨h,b,none⟩=some x:=⟨_,(i.cellAt b (by omega)).trans (Yg (by have:=i.1;omega))⟩;have Q:=i.frozenAt b;go_wp2;go_roundw
    case rel =>
     obtain⟨K,L,M⟩:=qeh (g:=fun e=>J6 (f e)) r k q o;exact⟨b+1,_,by omega,by go_num,K,L,M⟩
    case measure=>simp[intOf];omega
  . clear i t l
    go_wp2;go_ret;obtain rfl:b=n:=(by omega);refine⟨by rw[d];rfl,?_,by rw[d];exact o⟩;rw[d,show is b f=j from(qbt (by have:=k.u.1;omega) q.u).symm];exact Blk.of_owns k
def kaz (s t:Nat):Nat:=s &&& (4294967295 - t)
def kan (s t:Nat):Nat:=kaz s (kaz s t)
theorem kdq {s t:Nat}(a:s<4294967296)(b:t<4294967296):s ||| t<4294967296:=Nat.or_lt_two_pow (n:=32) a b
theorem qg3 {s t:Nat}(a:s<4294967296):kaz s t<4294967296:=Oc Nat.and_le_left a
theorem qaf {s t:Nat}(a:s<4294967296):kan s t<4294967296:=qg3 a
theorem kbP {a:Nat}(b:a<32):2 ^ a<4294967296:=Nat.pow_lt_pow_right (by decide) b
theorem kge {s i:Nat}(c:s<4294967296)(a:s.testBit i=true):i<32:=by
 apply V8;intro b;have:s.testBit i=false:=Nat.testBit_lt_two_pow (Yn c (by
  have:2 ^ 32<=2 ^ i:=Zn (by omega) b;simpa using this))
 exact Ve (this.symm.trans a)
theorem qbx {s t:Nat}(b:s<4294967296)(c:t<4294967296)(i:Nat):(kaz s t).testBit i=(s.testBit i&&!t.testBit i):=by
 unfold kaz;rw[Nat.testBit_and,show 4294967295 - t=2 ^ 32 - (t+1) by omega,Nat.testBit_two_pow_sub_succ (by omega)];cases a:s.testBit i
 . simp
 . simp[kge b a]
theorem q7a {s t:Nat}(a:s<4294967296)(b:t<4294967296)(i:Nat):(kan s t).testBit i=(s.testBit i&&t.testBit i):=by
 unfold kan;rw[qbx a (qg3 a),qbx a b];cases s.testBit i <;> cases t.testBit i <;> rfl
theorem q32 (n:Int)(a:0<=n)(b:n<4294967296):IntKind.u32.wrap n=n:=by
 simp[IntKind.wrap,IntKind.bits,IntKind.signed];omega
theorem kgf (s t:Nat)(a:s<4294967296)(b:t<4294967296):bits .or .u32 (s:Int) (t:Int)=((s ||| t:Nat):Int):=by
 show IntKind.u32.wrap ((BitVec.ofInt 32 (s:Int) ||| BitVec.ofInt 32 (t:Int)).toNat:Int)=_;rw[BitVec.toNat_or,ofInt_u32 s a,ofInt_u32 t b];exact q32 _ (by omega) (by have:=kdq a b;omega)
theorem qde (s t:Nat)(a:s<4294967296)(b:t<4294967296):bits .andNot .u32 (s:Int) (t:Int)=((kaz s t:Nat):Int):=by
 show IntKind.u32.wrap ((BitVec.ofInt 32 (s:Int) &&& ~~~BitVec.ofInt 32 (t:Int)).toNat:Int)=_;rw[BitVec.toNat_and,BitVec.toNat_not,ofInt_u32 s a,ofInt_u32 t b,show 2 ^ 32 - 1 - t=4294967295 - t by omega];exact q32 _ (by omega) (by have:=qg3 (t:=t) a;unfold kaz at this;omega)
theorem qsn (s t:Nat)(a:s<4294967296)(b:t<4294967296):bits .and .u32 (s:Int) (t:Int)=((s &&& t:Nat):Int):=by
 show IntKind.u32.wrap ((BitVec.ofInt 32 (s:Int) &&& BitVec.ofInt 32 (t:Int)).toNat:Int)=_;rw[BitVec.toNat_and,ofInt_u32 s a,ofInt_u32 t b];exact q32 _ (by omega) (by have:s &&& t<=s:=Nat.and_le_left;omega)
theorem qhv (s t:Nat)(w:Tw)(b:s<4294967296)(c:t<4294967296) :
 Calls prog 204 #[.agg #[.int .u32 s],.agg #[.int .u32 t]] w fun a d=>a=.returned (.agg (#[.int .u32 ((s ||| t:Nat):Int)]))/\d=((w.alloc (.cells #[.int .u32 (s:Int)] 235)).alloc (.cells #[.int .u32 (t:Int)] 235)).alloc (.cells (#[.int .u32 ((s ||| t:Nat):Int)]) 235):=by
 have a:=kgf s t b c;go_enter func204,ntmps204;go_wp2;refine bQ ⟨rfl,rfl⟩
theorem qg4 (s t:Nat)(w:Tw)(b:s<4294967296)(c:t<4294967296) :
 Calls prog 247 #[.agg #[.int .u32 s],.agg #[.int .u32 t]] w fun a d=>a=.returned (.agg (#[.int .u32 ((kaz s t:Nat):Int)]))/\d=((w.alloc (.cells #[.int .u32 (s:Int)] 235)).alloc (.cells #[.int .u32 (t:Int)] 235)).alloc (.cells (#[.int .u32 ((kaz s t:Nat):Int)]) 235):=by
 have a:=qde s t b c;go_enter func247,ntmps247;go_wp2;refine bQ ⟨rfl,rfl⟩
theorem qrf {a:Nat}(b:a<32):(2:Int) ^ a % 4294967296=((2 ^ a:Nat):Int):=by
 rw[show(2:Int) ^ a=((2 ^ a:Nat):Int) by simp,show(4294967296:Int)=((4294967296:Nat):Int) from rfl,<- Int.natCast_emod,Zs (kbP b)]
theorem qqs (a:Nat)(w:Tw)(c:a<32) :
 Calls prog 205 #[J6 a] w fun b d=>b=.returned (.agg (#[.int .u32 ((2 ^ a:Nat):Int)]))/\d=w.alloc (.cells (#[.int .u32 ((2 ^ a:Nat):Int)]) 235):=by
 have b:=qrf c;go_enter func205,ntmps205;go_wp2;refine bQ ⟨rfl,by simp⟩
theorem qp0 (s a:Nat)(w:Tw)(d:s<4294967296)(e:a<32) :
 Calls prog 246 #[.agg #[.int .u32 s],J6 a] w fun b c=>b=.returned (.bool (s.testBit a))/\c=w.alloc (.cells #[.int .u32 (s:Int)] 235):=by
 have b:(bits .and .u32 ((s:Int) / 2 ^ a) 1==1)=s.testBit a:=by
  rw[show(s:Int) / 2 ^ a=((s / 2 ^ a:Nat):Int) by simp,show(1:Int)=((1:Nat):Int) from rfl,qsn _ 1 (Oc (Ou _ _) d) (by decide)];rw[Nat.and_one_is_mod,Nat.testBit_eq_decide_div_mod_eq];generalize s / 2 ^ a=c;rw[Zh];simp;omega
 have c:=h_ b;clear b;go_enter func246,ntmps246;go_wp2;go_ret;exact⟨qln c,rfl⟩
theorem qjr:(prog.info? 233).map (fun a=>(a.zero,a.size,a.bytes))=some (some (.int .u32 0),1,4):=by kernel_rfl
theorem qe5:prog.cellsOf 233=1:=by kernel_rfl
theorem kff (c:Nat)(a b:Int)(w:Tw):(Op.equalIn (c+2) 235 (.agg #[.int .u32 a]) (.agg #[.int .u32 b])).run prog w=.ok (a==b) w:=by
 obtain⟨f,d,-⟩:=info_parts qjr;rw[run_equalIn_array w (c+1) _ _ underlying235 d,qe5];simp[Op.eqItems,part,show List.range 1=[0] from rfl,run_equalIn_int w c 233 .u32 .u32 a b underlying233];cases e:a==b <;> simp_all
theorem qeq (s:Nat)(w:Tw) :
 Calls prog 248 #[.agg #[.int .u32 s]] w fun a b=>a=.returned (.bool (s==0))/\b=w.alloc (.cells #[.int .u32 (s:Int)] 235):=by
 have c:=fun (a b:Int) w=>kff 9998 a b w;have a:((s:Int)==0)=(s==0):=by rw[Zh];simp
 go_enter func248,ntmps248;go_wp2;go_ret;exact⟨rfl,rfl⟩
theorem qag (s t:Nat)(w:Tw)(b:s<4294967296)(d:t<4294967296) :
 Gv 245 #[.agg #[.int .u32 s],.agg #[.int .u32 t]] w (.agg (#[.int .u32 ((kan s t:Nat):Int)])):=by
 go_enter func245,ntmps245;go_wp2_with fail;go_region_held3 (fun a=>a.cell? ⟨w.heap.size,0,none⟩=some (.int .u32 (s:Int))/\a.cell? ⟨w.heap.size+1,0,none⟩=some (.int .u32 (t:Int))) (simp[go_sem,World.cell?_alloc_past]) (first | (go_at_call 247;refine(qg4 _ _ _ (by first | assumption | exact qg3 b) (by first | assumption | exact qg3 b)).mono ?_;rintro c a ⟨rfl,rfl⟩));go_wp2;refine bodyPost_ret (v:=.agg (#[.int .u32 ((kan s t:Nat):Int)])) (by simp[results,results245,go_sem,kan]) rfl ⟨rfl,?_⟩;refine Below.drew ?_
 iterate 9 refine Below.alloc ?_ (by simp <;> omega) _
 exact bR _ _
theorem qn7:∀a,a<33->((2:Int) ^ a - 1) % 4294967296=((2 ^ a - 1:Nat):Int):=by decide +kernel
theorem qn4 (n:Nat)(w:Tw)(b:n<=32) :
 Gv 201 #[J6 n] w (.agg (#[.int .u32 ((2 ^ n - 1:Nat):Int)])):=by
 have a:=h_ (qn7 n (by omega));go_enter func201,ntmps201;go_wp2;refine bodyPost_ret (v:=.agg (#[.int .u32 ((2 ^ n - 1:Nat):Int)])) (by simp[results,results201,go_sem];rw[a.u]) rfl ⟨rfl,?_⟩;exact(bR _ w).alloc (nR _) _
def Tab (w:Tw):Prop:=∀j,j<32->w.cell? ⟨1,j,none⟩=some (.int .u8 ((Lib.deBruijn32tab.getD j 0:Nat):Int))
theorem Tab.pos {w:Tw}(a:Tab w):1<w.heap.size:=by
 apply V8;intro b;have:=a 0 (by decide);simp only[World.cell?]at this;rw[Ob (by simpa using b)]at this;cases this
theorem Tab.mono {w w':Tw}(a:Tab w)(c:Bw w w'):Tab w':=fun b d=>(c.cell (p:=⟨1,b,none⟩) a.pos).trans (a b d)
theorem qqm (s:Nat)(a:s<4294967296)(b:s≠0):bits .and .u32 (s:Int) (-(s:Int) % 4294967296)=((2 ^ Lib.ctz 32 s:Nat):Int):=by
 rw[show -(s:Int) % 4294967296=((2 ^ 32 - s:Nat):Int) by omega,qsn s _ a (by omega),(Lib.lowest_bit 32 s b a).1]
theorem kgg (s:Nat)(w:Tw)(f:s<4294967296)(b:s≠0)(j:Tab w) :
 Calls prog 305 #[.int .u32 s] w fun a c=>a=.returned (J6 (Lib.ctz 32 s))/\c=w:=by
 have d:=(Lib.lowest_bit 32 s b f).2;obtain⟨g,l⟩:=Lib.deBruijn32_at _ d;have h:=qqm s f b;have a:=j _ g;rw[l]at a;obtain⟨p,i⟩:=Nq (Lib.ctz 32 s);obtain⟨m,e⟩:=Nq (2 ^ Lib.ctz 32 s);obtain⟨k,c⟩:=Nq (2 ^ Lib.ctz 32 s*125613361 % 4294967296 / 134217728);have n:(m:Int)*125613361 % 4294967296 / 134217728=(k:Int):=by rw[<- c,e];omega
 rw[c]at a g;rw[e]at h;rw[i]at a d⊢;have o:((s:Int)==0)=false:=by simp;omega
 go_enter func305,ntmps305;go_wp2;go_ret;exact⟨rfl,rfl⟩
theorem qbv (s:Nat)(w:Tw)(g:s<4294967296)(e:s≠0)(h:Tab w) :
 Calls prog 250 #[.agg #[.int .u32 s]] w fun b c=>b=.returned (J6 (Lib.ctz 32 s))/\c=w.alloc (.cells #[.int .u32 (s:Int)] 235):=by
 have f:∀a,Tab (w.alloc a):=fun a=>h.mono ((bR _ w).alloc (nR _) a);obtain⟨d,a⟩:=oB f e;go_enter func250,ntmps250;go_wp2_with (go_at_call 305;refine(kgg _ _ g a (d _)).mono ?_;rintro b c ⟨rfl,rfl⟩);go_ret;exact⟨rfl,rfl⟩
def us (g:Nat->Nat):Tl:=(List.range 32).map fun k=>.int .u32 (g k:Int)
theorem qhx (g:Nat->Nat):(us g).length=32:=by simp[us]
theorem kaT (g:Nat->Nat){k:Nat}(b:k<32):(us g)[k]? = some (.int .u32 (g k:Int)):=by simp[us,b]
theorem kea (g:Nat->Nat){k:Nat}(v:Nat)(d:k<32):(us g).set k (.int .u32 (v:Int))=us (fun b=>if b=k then v else g b):=by
 apply Oy;intro b;by_cases e:b<32
 . rw[kaT _ e]
   by_cases c:b=k
   . subst c;rw[Ow (by rw[qhx];exact d)];simp
   . rw[O9 (fun d=>c d.symm),kaT _ e];simp[c]
 . rw[Vd (by simp[qhx];omega),Vd (by rw[qhx];omega)]
theorem kfe (g:Nat->Nat):(us g).toArray.all (·.oneCell')=true:=by
 rw[Array.all_eq_true_iff_forall_mem];intro d b;simp only[us,List.mem_toArray,Y4]at b;obtain⟨c,-,rfl⟩:=b;rfl
theorem qgz:(prog.info? 237).map (·.size)=some 32:=by kernel_rfl
theorem qs1 (g:Nat->Nat):(prog.info? 237).map (·.size)=some (us g).toArray.size:=by rw[qgz];simp[us]
section
variable {ops:Array Oper} {rest:List Oper} {o:Oper} {a:Act} {w:Tw} {Q:Exit->Act->Tw->Prop}
theorem q14 (e:o.guard=none)(x:Operand)(f:o.op=.load 237 x)(b:Nat)(g:Nat->Nat)(h:a.eval x=J9 b 0)(d:Blk w b 237 (us g))
 (c:wpList prog ops Q rest (a.put o.dst (.agg (us g).toArray)) w):wpList prog ops Q (o :: rest) a w :=
 wpList_load_row e 237 x f b h 237 (us g).toArray (0,0) _ d underlying237 rfl (qs1 g) c
theorem q0r (h:o.guard=none)(x y:Operand)(j:o.op=.store 237 x y)(b:Nat)(g c:Nat->Nat)(k:a.eval x=J9 b 0)(hy:a.eval y=.agg (us c).toArray)(e:Blk w b 237 (us g))
 (f:∀d,Blk d b 237 (us c)->w.grownBy d (some b)->d.heap.size=w.heap.size->wpList prog ops Q rest (a.put o.dst undef) d):wpList prog ops Q (o :: rest) a w :=
 wpList_plain h fun _ d=>wp_store_row 237 x y j b (us c).toArray k hy _ _ e (qs1 c) (by simp[us]) (kfe c)
  (d _ _ (f _ (setRow_heap w b _ _ _ _ e) ⟨rfl,rfl,rfl,by simp,fun d _ i=>setRow_other w b d _ (fun d=>i (by rw[d]))⟩ (by simp)))
end
theorem kbS {n x y:Nat}(a:x<n)(hy:y<n):x*n+y<n*n:=by
 have:(x+1)*n<=n*n:=Vf _ a;rw[Z2]at this;omega
theorem kc0 {n:Nat}(a:n<=32):n*n<=1024:=Nat.mul_le_mul a a
theorem qfq (a:To)(m c n x y:Nat)(f:Nat->Bool)(w:Tw)(p:n*n<=m)(g:x<n)(hy:y<n)(e:n<=32)(d:ka1 w a m f) :
 Calls prog 126 #[.slice a m c,J6 n,J6 x,J6 y] w fun b h=>b=.returned (.bool (f (x*n+y)))/\h=w:=by
 have h:=kbS g hy;have i:=kc0 e;obtain⟨b,q,rfl,-,o⟩:=d (x*n+y) (by omega);have j:0<=(x:Int)*n:=by rw[<- Zd];omega
 have k:(x:Int)*n+y<m:=by rw[<- Zd];omega
 have l:(x:Int)*n<=1024:=by rw[<- Zd];omega
 go_enter func126,ntmps126;go_wp2;go_ret;exact⟨rfl,rfl⟩
def kaN (f:Nat->Bool)(n a b c:Nat):Prop:=f (a*n+c)=true/\f (b*n+c)=true/\∀d,d<n->f (a*n+d)=true->f (b*n+d)=true->f (c*n+d)=true
def ka3 (f:Nat->Bool)(n a b c:Nat):Bool:=f (a*n+c)&&f (b*n+c)&&(List.range n).all fun d=>!f (a*n+d)||!f (b*n+d)||f (c*n+d)
theorem qb2 {f:Nat->Bool}{n a b c:Nat}:ka3 f n a b c=true ↔ kaN f n a b c:=by
 simp only[ka3,kaN,Yh,Yv,Yu,Ze,Bool.not_eq_true',and_assoc];refine and_congr_right fun _=>and_congr_right fun _=>forall_congr' fun d=>imp_congr_right fun _=>?_;cases f (a*n+d) <;> cases f (b*n+d) <;> cases f (c*n+d) <;> simp
theorem q80 {f:Nat->Bool}{n a b c:Nat}(d:kaN f n a b c):ka3 f n a b c=true:=qb2.2 d
theorem q5g {f:Nat->Bool}{n a b c:Nat}(e:¬ kaN f n a b c):ka3 f n a b c=false:=by
 cases d:ka3 f n a b c
 . rfl
 . exact absurd (qb2.1 d) e
theorem q5k (t:To)(m z n a b c:Nat)(f:Nat->Bool)(w:Tw)(E:n*n<=m)(p:n<=32)(F:a<n)(G:b<n)(H:c<n)(q:ka1 w t m f) :
 Calls prog 161 #[.slice t m z,J6 n,J6 a,J6 b,J6 c] w fun g l=>g=.returned (.bool (ka3 f n a b c))/\l=w:=by
 have o:=h_ E;cases u:f (a*n+c)
 . have i:Hi (ka3 f n a b c=false):=q5g fun j=>Ve (u.symm.trans j.1)
   go_enter func161,ntmps161;go_wp2_with (go_at_call 126;refine(qfq _ _ _ _ _ _ f _ o (by assumption) (by assumption) p q).mono ?_;rintro g l ⟨rfl,rfl⟩);go_ret;exact⟨qln i.symm,rfl⟩
 cases v:f (b*n+c)
 . have i:Hi (ka3 f n a b c=false):=q5g fun j=>Ve (v.symm.trans j.2.1)
   go_enter func161,ntmps161;go_wp2_with (go_at_call 126;refine(qfq _ _ _ _ _ _ f _ o (by assumption) (by assumption) p q).mono ?_;rintro g l ⟨rfl,rfl⟩);go_ret;exact⟨qln i.symm,rfl⟩
 go_enter func161,ntmps161;go_wp2_with (go_at_call 126;refine(qfq _ _ _ _ _ _ f _ o (by assumption) (by assumption) p q).mono ?_;rintro g l ⟨rfl,rfl⟩)
 go_loop [11] (fun h=>∃d:Nat,d<=n/\h=J6 d/\∀e,e<d->f (a*n+e)=true->f (b*n+e)=true->f (c*n+e)=true) (fun h=>n - (intOf h).toNat)
 case atStart=>exact⟨0,nZ _,rfl,fun e j=>absurd j (nL _)⟩
 case round =>
  obtain⟨d,I,rfl,A⟩:=hrel;have s:=h_ A;by_cases D:d<n
  . by_cases x:f (a*n+d)=true/\f (b*n+d)=true/\f (c*n+d)=false
    . obtain⟨h,k,r⟩:=x
      have i:Hi (ka3 f n a b c=false):=q5g fun j=>Ve (r.symm.trans (j.2.2 d D h k));go_wp2_with (go_at_call 126;refine(qfq _ _ _ _ _ _ f _ o (by assumption) (by assumption) p q).mono ?_;rintro g l ⟨rfl,rfl⟩);go_ret;exact⟨qln i.symm,rfl⟩
    . have j:Hi (f (a*n+d)=true->f (b*n+d)=true->f (c*n+d)=true):=fun h k=>by
       cases r:f (c*n+d)
       . exact absurd ⟨h,k,r⟩ x
       . rfl
      have y:Hi (∀e,e<d+1->f (a*n+e)=true->f (b*n+e)=true->f (c*n+e)=true):=fun e C=>by
       by_cases g:e=d
       . rw[g];exact j
       . exact s e (by omega)
      have B:f (a*n+d)=false∨(f (a*n+d)=true/\f (b*n+d)=false)∨(f (a*n+d)=true/\f (b*n+d)=true/\f (c*n+d)=true):=by
       cases h:f (a*n+d)
       . exact .inl rfl
       . cases k:f (b*n+d)
         . exact .inr (.inl ⟨rfl,rfl⟩)
         . exact .inr (.inr ⟨rfl,rfl,j h k⟩)
      rcases B with h | ⟨h,k⟩ | ⟨h,k,r⟩
      all_goals
       go_wp2_with (go_at_call 126;refine(qfq _ _ _ _ _ _ f _ o (by assumption) (by assumption) p q).mono ?_;rintro g l ⟨rfl,rfl⟩)
       go_round
       case rel=>exact⟨d+1,by omega,by go_num,y⟩
       case measure=>simp[intOf];omega
  . have i:Hi (ka3 f n a b c=true):=q80 ⟨u,v,fun e C=>s e (by omega)⟩
    go_wp2;go_ret;exact⟨qln i.symm,rfl⟩
def kaO (f:Nat->Bool)(n a b c:Nat):Prop:=f (c*n+a)=true/\f (c*n+b)=true/\∀d,d<n->f (d*n+a)=true->f (d*n+b)=true->f (d*n+c)=true
def ka4 (f:Nat->Bool)(n a b c:Nat):Bool:=f (c*n+a)&&f (c*n+b)&&(List.range n).all fun d=>!f (d*n+a)||!f (d*n+b)||f (d*n+c)
theorem qb6 {f:Nat->Bool}{n a b c:Nat}:ka4 f n a b c=true ↔ kaO f n a b c:=by
 simp only[ka4,kaO,Yh,Yv,Yu,Ze,Bool.not_eq_true',and_assoc];refine and_congr_right fun _=>and_congr_right fun _=>forall_congr' fun d=>imp_congr_right fun _=>?_;cases f (d*n+a) <;> cases f (d*n+b) <;> cases f (d*n+c) <;> simp
theorem q82 {f:Nat->Bool}{n a b c:Nat}(d:kaO f n a b c):ka4 f n a b c=true:=qb6.2 d
theorem q5i {f:Nat->Bool}{n a b c:Nat}(e:¬ kaO f n a b c):ka4 f n a b c=false:=by
 cases d:ka4 f n a b c
 . rfl
 . exact absurd (qb6.1 d) e
theorem q5l (t:To)(m z n a b c:Nat)(f:Nat->Bool)(w:Tw)(E:n*n<=m)(p:n<=32)(F:a<n)(G:b<n)(H:c<n)(q:ka1 w t m f) :
 Calls prog 162 #[.slice t m z,J6 n,J6 a,J6 b,J6 c] w fun g l=>g=.returned (.bool (ka4 f n a b c))/\l=w:=by
 have o:=h_ E;cases u:f (c*n+a)
 . have i:Hi (ka4 f n a b c=false):=q5i fun j=>Ve (u.symm.trans j.1)
   go_enter func162,ntmps162;go_wp2_with (go_at_call 126;refine(qfq _ _ _ _ _ _ f _ o (by assumption) (by assumption) p q).mono ?_;rintro g l ⟨rfl,rfl⟩);go_ret;exact⟨qln i.symm,rfl⟩
 cases v:f (c*n+b)
 . have i:Hi (ka4 f n a b c=false):=q5i fun j=>Ve (v.symm.trans j.2.1)
   go_enter func162,ntmps162;go_wp2_with (go_at_call 126;refine(qfq _ _ _ _ _ _ f _ o (by assumption) (by assumption) p q).mono ?_;rintro g l ⟨rfl,rfl⟩);go_ret;exact⟨qln i.symm,rfl⟩
 go_enter func162,ntmps162;go_wp2_with (go_at_call 126;refine(qfq _ _ _ _ _ _ f _ o (by assumption) (by assumption) p q).mono ?_;rintro g l ⟨rfl,rfl⟩)
 go_loop [11] (fun h=>∃d:Nat,d<=n/\h=J6 d/\∀e,e<d->f (e*n+a)=true->f (e*n+b)=true->f (e*n+c)=true) (fun h=>n - (intOf h).toNat)
 case atStart=>exact⟨0,nZ _,rfl,fun e j=>absurd j (nL _)⟩
 case round =>
  obtain⟨d,I,rfl,A⟩:=hrel;have s:=h_ A;by_cases D:d<n
  . by_cases x:f (d*n+a)=true/\f (d*n+b)=true/\f (d*n+c)=false
    . obtain⟨h,k,r⟩:=x
      have i:Hi (ka4 f n a b c=false):=q5i fun j=>Ve (r.symm.trans (j.2.2 d D h k));go_wp2_with (go_at_call 126;refine(qfq _ _ _ _ _ _ f _ o (by assumption) (by assumption) p q).mono ?_;rintro g l ⟨rfl,rfl⟩);go_ret;exact⟨qln i.symm,rfl⟩
    . have j:Hi (f (d*n+a)=true->f (d*n+b)=true->f (d*n+c)=true):=fun h k=>by
       cases r:f (d*n+c)
       . exact absurd ⟨h,k,r⟩ x
       . rfl
      have y:Hi (∀e,e<d+1->f (e*n+a)=true->f (e*n+b)=true->f (e*n+c)=true):=fun e C=>by
       by_cases g:e=d
       . rw[g];exact j
       . exact s e (by omega)
      have B:f (d*n+a)=false∨(f (d*n+a)=true/\f (d*n+b)=false)∨(f (d*n+a)=true/\f (d*n+b)=true/\f (d*n+c)=true):=by
       cases h:f (d*n+a)
       . exact .inl rfl
       . cases k:f (d*n+b)
         . exact .inr (.inl ⟨rfl,rfl⟩)
         . exact .inr (.inr ⟨rfl,rfl,j h k⟩)
      rcases B with h | ⟨h,k⟩ | ⟨h,k,r⟩
      all_goals
       go_wp2_with (go_at_call 126;refine(qfq _ _ _ _ _ _ f _ o (by assumption) (by assumption) p q).mono ?_;rintro g l ⟨rfl,rfl⟩)
       go_round
       case rel=>exact⟨d+1,by omega,by go_num,y⟩
       case measure=>simp[intOf];omega
  . have i:Hi (ka4 f n a b c=true):=q82 ⟨u,v,fun e C=>s e (by omega)⟩
    go_wp2;go_ret;exact⟨qln i.symm,rfl⟩
theorem khF (w:Tw)(a b:Obj)(c:Ta)(t:TypeId):Blk (((w.alloc (.cells c t)).alloc a).alloc b) w.heap.size t c.toList:=((Blk.new w t c).alloc a).alloc b
theorem khG (w:Tw)(a b:Obj)(c:Ta)(g:Nat->Nat)(d:c.toList=us g):Blk (((w.alloc a).alloc b).alloc (.cells c 237)) (w.heap.size+1+1) 237 (us g):=by
 rw[<- d];simpa using Blk.new ((w.alloc a).alloc b) 237 c
theorem khH (w:Tw)(a b:Obj)(c:Ta)(g:Nat->Nat)(d:c.toList=us g):Blk (((w.alloc a).alloc (.cells c 237)).alloc b) (w.heap.size+1) 237 (us g):=by
 rw[<- d];simpa using (Blk.new (w.alloc a) 237 c).alloc b
theorem kcO (w:Tw)(a b c:Obj):Bw w (((w.alloc a).alloc b).alloc c):=(((bR _ w).alloc (nR _) a).alloc (by simp) b).alloc (by simp;omega) c
def kau (g:Nat->Nat)(R:Nat->Nat->Bool):Prop:=∀a,a<32->g a<4294967296/\∀b,(g a).testBit b=R a b
theorem qre (b i:Nat):(2 ^ b).testBit i=decide (b=i):=by rw[Z9]
theorem kau.add {g:Nat->Nat}{R:Nat->Nat->Bool}(c:kau g R){x y:Nat}(f:x<32)(hy:y<32) :
 kau (fun a=>if a=x then g x ||| 2 ^ y else g a) (fun a b=>R a b||(decide (a=x)&&decide (b=y))):=fun a d=>by
 by_cases e:a=x
 . subst e
   simp only[if_true];refine⟨kdq (c a d).1 (kbP hy),fun b=>?_⟩;rw[Oz,(c a d).2 b,qre];cases R a b <;> simp[eq_comm]
 . simp only[Yl e]
   refine⟨(c a d).1,fun b=>?_⟩;rw[(c a d).2 b];simp[e]
theorem kau.congr {g:Nat->Nat}{R d:Nat->Nat->Bool}(e:kau g R)(f:∀a b,a<32->R a b=d a b):kau g d:=fun a c=>⟨(e a c).1,fun b=>((e a c).2 b).trans (f a b c)⟩
def part (f:Nat->Bool)(n i:Nat):Nat->Nat->Bool:=fun a b=>decide (b<n)&&decide (a*n+b<i)&&f (a*n+b)
end Go.Proofs.YtenckgnkjkijnaaGreatDoor
namespace Go.Proofs.YtenckgnkjkijnaaGreatDoor
open Go Go.RowKit Go.Shelf Go.Proofs.Tryz
def Loc {β:Type}(B:Nat)(J:β->Tw->Prop):Prop:=∀s W W',J s W->Below B W W'->J s W'
structure kaH (X:Nat->Prop)(W W':Tw):Prop where
 size:W.heap.size<=W'.heap.size
 same:∀k cs t fr,¬ X k->W.heap[k]? = some (.cells cs t fr)->W'.heap[k]? = some (.cells cs t fr)
theorem kaH.refl (X:Nat->Prop)(a:Tw):kaH X a a:=⟨nR _,fun _ _ _ _ _ b=>b⟩
theorem kaH.trans {X:Nat->Prop}{A B C:Tw}(c:kaH X A B)(k:kaH X B C):kaH X A C:=⟨Y5 c.size k.size,fun e a f b d g=>k.same e a f b d (c.same e a f b d g)⟩
theorem kaH.put {X:Nat->Prop}{w:Tw}{l:Nat}{o f:Obj}(c:w.heap[l]? = some o)(d:o.isCells=false):kaH X w (w.putObj l f) :=
 ⟨by simp,fun e a a a _ a=>by
  by_cases b:e=l
  . subst b;rw[c]at a;cases a;simp[Obj.isCells]at d
  . exact(World.putObj_heap_other b).trans a⟩
theorem kaH.of_below {X:Nat->Prop}{w W:Tw}(a:Below w.heap.size w W):kaH X w W :=
 ⟨a.size,fun c _ _ _ _ b=>(a.block c (Yq.1 b).1).trans b⟩
theorem kaH.set {X:Nat->Prop}{w:Tw}{a:Addr}(v:Value)(e:X a.block):kaH X w (w.setCell a v) :=
 ⟨by simp,fun b _ _ _ d c=>(heap_setCell_other w a b v (fun b=>d (b ▸ e))).trans c⟩
theorem kaH.blk {X:Nat->Prop}{w W:Tw}{g:Nat}{t:TypeId}{cs:Tl}(a:kaH X w W)(b:Blk w g t cs)(c:¬ X g):Blk W g t cs:=a.same g _ t _ c b
theorem keH {w W:Tw}(a:Below w.heap.size w W):KeepsOthers w W:=⟨a.size,fun c _ b _=>(a.block c (Yq.1 b).1).trans b⟩
theorem Blk.put {w:Tw}{g l:Nat}{t:TypeId}{cs:Tl}(a:Blk w g t cs){o:Obj}(d:Obj)(b:w.heap[l]? = some o)(c:o.isCells=false):Blk (w.putObj l d) g t cs:=(kaH.put (X:=fun _=>False) b c).same g _ t _ (fun a=>a) a
def kfT (P:Program)(gf:Nat)(lb:Ta)(T:Nat->Prop)(S Sp:List Nat->Prop)(X:Nat->Prop)(w0:Tw):Prop :=
 ∀(n l:Nat) (J Jx:List Nat->Tw->Prop) (W:Tw),Below w0.heap.size w0 W->Loc W.heap.size J->Loc W.heap.size Jx->(∀k,X k->k<W.heap.size) ->
  (∀(m:Nat) (pre:List Nat) (x:Nat) (W1:Tw),J pre W1->T x->YieldAt Fence.wide m P l #[J6 (x:Int)] W1 fun e W' =>
   (e=.returned (.bool true)/\J (pre++[x]) W'/\kaH X W1 W')∨(e=.returned (.bool false)/\Jx (pre++[x]) W')) ->
  J [] W ->
  CallsIn Fence.wide n P gf (#[.func (.yield l) #[] #[]]++lb) W fun e W'=>(∃v,e=.returned v)/\((∃xs,S xs/\J xs W')∨(∃pre,Sp pre/\Jx pre W'))
theorem kcC {n:Nat}:Fence.wide.depth.isSome=true->1<=n:=fun a=>by simp[Fence.wide]at a
theorem kbl {P:Program}{f:FuncId}{args:Ta}{w:Tw}{R:Ending->Tw->Prop}{n:Nat}(a:Calls P f args w R):Fence.wide.fn f/\(Fence.wide.depth.isSome=true->1<=n)/\CallsIn Fence.wide (n - 1) P f args w R :=
 ⟨trivial,kcC,callsIn_wide.2 a⟩
theorem kcZ {P:Program}{f:FuncId}{args:Ta}{w:Tw}{R:Ending->Tw->Prop}{n l:Nat}(a:Calls P f args w R):(Fence.wide.inRound l).fn f/\((Fence.wide.inRound l).depth.isSome=true->1<=n)/\CallsIn (Fence.wide.inRound l) (n - 1) P f args w R :=
 ⟨trivial,kcC,CallsIn.inRound l (callsIn_wide.2 a)⟩
def kfU (X:Nat->Prop)(I Ix:List Nat->Tw->Prop)(xs:List Nat)(W:Tw):Exit->Act->Tw->Prop
 | .normal,_,W'=>KeepsOthers W W'/\kaH X W W'/\I xs W'
 | .ret,_,W'=>KeepsOthers W W'/\Ix xs W'
 | _,_,_=>False
theorem qdv {B:Nat}(a:Tw)(l:Nat)(o:Obj)(b:B<=l):Below B a (a.putObj l o) :=
 ⟨rfl,rfl,rfl,by simp,fun _ c=>World.putObj_heap_other (by omega)⟩
theorem qgo {P:Program}{g:Operand}{A:Array Tmp}{assign body:Code}{Q:Exit->Act->Tw->Prop}{a:Act}{w:Tw}{n gf:Nat}{lb:Ta}
 (hg:a.eval g=.func (.func gf) #[] lb) (Z:∀args w,(callFunc gf args).run P w=.ok (.enter gf args) w)
 {G:Nat->Prop} {S F:List Nat->Prop} {X:Nat->Prop} {W:Tw} (ai:kfT P gf lb G S F X W) (N:Below W.heap.size W w) (hX:∀q,X q->q<w.heap.size) (ah:A.size=1)
 (s t:List Nat->Tw->Prop) (B:Loc w.heap.size s) (L:Loc w.heap.size t) (h0:s [] w) (H:Nat->Act)
 (aa:∀(x f k:Nat) (b:Tw) (d:Act->Tw->Prop),d (H k) b ->
  assign.wpIn (Fence.wide.inRound f) x P (Exit.then d (fun _ _ _=>False)) { tmps:=(A.zip #[J6 (k:Int)]).foldl (fun V (j,Y)=>V.setIfInBounds j Y) a.tmps,defers:=[] } b)
 (ac:∀(x f:Nat) (h:List Nat) (k:Nat) (b:Tw),s h b->G k->body.wpIn (Fence.wide.inRound f) x P (kfU X s t (h++[k]) b) (H k) b)
 (ae:∀(d:Nat) (e:List Nat) (b:Tw),w.heap.size<=d->S e->s e b->b.heap[d]? = some (.deferred (some []))->Q .normal { a with defers:={ target:=.collected d,args:=#[] } :: a.defers } b)
 (aj:∀(d:Nat) (h:List Nat) (b:Tw),w.heap.size<=d->F h->t h b->b.heap[d]? = some (.deferred (some []))->Q .ret { a with defers:={ target:=.collected d,args:=#[] } :: a.defers } b) :
 (Code.rangeFunc g A assign body).wpIn Fence.wide n P Q a w:=by
 refine wpIn_rangeFunc fun fn _=>?_;obtain⟨d,p⟩:=Nq w.heap.size;obtain⟨mk,i⟩:∃mk:LoopState->Option Code->Loop,mk=fun l j=>{ state:=l,pending:=j,fn,tmps:=a.tmps,params:=A,assign,body,defers:=d }:=⟨_,rfl⟩;obtain⟨l,y⟩:=Nq ((w.alloc (.deferred (some []))).alloc (.loop (mk .ready none)));have U:l.heap.size=d+1+1:=by rw[<- y];simp[p]
 have I:Below d w l:=by rw[<- y,<- p];exact((bR _ w).alloc (nR _) _).alloc (by simp) _
 have af:l.heap[d+1]? = some (.loop (mk .ready none)):=by
  have:=World.alloc_heap_new (w.alloc (.deferred (some []))) (.loop (mk .ready none));rw[Yp,p,y]at this;exact this
 have ad:l.heap[d]? = some (.deferred (some [])):=by
  have:=World.alloc_heap_new w (.deferred (some []));rw[<- y,<- p];exact(Below.heap_alloc _ _ _ (by simp)).trans this
 have K:=run_enterLoop_outer (P:=P) (w:=w) fn a.tmps A assign body;rw[p]at K;refine⟨d+1,[{ target:=.collected d,args:=#[] }],l,{ target:=.fn (.func gf) lb,args:=#[.func (.yield (d+1)) #[] #[]] },l,gf,#[.func (.yield (d+1)) #[] #[]]++lb,l,?_,?_,?_,?_,fun m=>by simp[Fence.wide]at m,?_⟩
 . rw[<- y,i];exact K
 . simp only[resolve,hg];simp[go_sem]
 . intro _ _;trivial
 . simp[invoke,go_sem,Z]
 have C:∀e b f j,d<=f->s e b->s e (b.putObj f j):=fun e b f j m r=>B e b _ r (by rw[p];exact qdv b f j m);have M:∀e b f j,d<=f->t e b->t e (b.putObj f j):=fun e b f j m r=>L e b _ r (by rw[p];exact qdv b f j m);refine(ai (n - 1) (d+1) (fun h b=>s h b/\b.heap[d+1]? = some (.loop (mk .ready none))/\b.heap[d]? = some (.deferred (some [])))
  (fun h b=>t h b/\b.heap[d+1]? = some (.loop (mk .done (some .ret)))/\b.heap[d]? = some (.deferred (some []))) l (N.trans ((p ▸ I:Below w.heap.size w l).mono N.size)) ?_ ?_ (fun q f=>by have:=hX q f;omega) ?_ ⟨B _ _ _ h0 (p ▸ I),af,ad⟩).mono ?_
 . rintro e b u ⟨m,f,q⟩ j
   rw[U]at j;exact⟨B e b u m (j.mono (by omega)),(j.block _ (by omega)).trans f,(j.block _ (by omega)).trans q⟩
 . rintro e b u ⟨m,f,q⟩ j
   rw[U]at j;exact⟨L e b u m (j.mono (by omega)),(j.block _ (by omega)).trans f,(j.block _ (by omega)).trans q⟩
 . -- one round
   rintro x h k b ⟨r,f,q⟩ hT;have ag:d+1<b.heap.size:=(Yq.1 f).1;have T:=run_yield (P:=P) (args:=#[J6 (k:Int)]) f (by rw[i];simp[ah]);rw[i]at T;refine⟨fn,_,assign,body,T,roundIn_of_wpIn trivial (aa x _ k b _ ⟨_,run_beginRound f (by rw[i]),?_⟩)⟩;refine wpIn_mono (ac x _ h k _ (C _ _ _ _ (by omega) r) hT) ?_;have R:=World.putObj_heap_same (w:=b) (o:=.loop { mk .ready none with state:=.busy }) ag;have O:(b.putObj (d+1) (.loop { mk .ready none with state:=.busy })).heap[d]? = some (.deferred (some [])):=(World.putObj_heap_other (by omega)).trans q;have ak:kaH X b (b.putObj (d+1) (.loop { mk .ready none with state:=.busy })):=kaH.put f rfl;intro J a3 W3 v;cases J with
   | normal =>
    obtain⟨z,kx,E⟩:=v;have u:=z.same _ _ R rfl;have D:=z.same _ _ O rfl;have j:=run_endRound (P:=P) none u;rw[i]at j;refine⟨_,_,j,.inl ⟨rfl,⟨C _ _ _ _ (by omega) E,?_,(World.putObj_heap_other (by omega)).trans D⟩,(ak.trans kx).trans (kaH.put u rfl)⟩⟩;rw[i];exact World.putObj_heap_same (Yq.1 u).1
   | ret =>
    obtain⟨z,E⟩:=v;have u:=z.same _ _ R rfl;have D:=z.same _ _ O rfl;have j:=run_endRound (P:=P) (some .ret) u;rw[i]at j;refine⟨_,_,j,.inr ⟨rfl,M _ _ _ _ (by omega) E,?_,(World.putObj_heap_other (by omega)).trans D⟩⟩;rw[i];exact World.putObj_heap_same (Yq.1 u).1
   | exit id=>exact v.elim
   | goto V=>exact v.elim
   | panic c=>exact v.elim
   | outgrown=>exact v.elim
 . -- behind the iterator
   rintro J v ⟨⟨Y,rfl⟩,(⟨e,k,r,f,q⟩ | ⟨h,u,r,f,q⟩)⟩
   . have j:=run_endLoop (P:=P) f (by rw[i];simp)
     rw[i]at j;exact⟨none,_,j,ae d e _ (by omega) k (C _ _ _ _ (by omega) r) ((World.putObj_heap_other (by omega)).trans q)⟩
   . have j:=run_endLoop (P:=P) f (by rw[i];simp)
     rw[i]at j;exact⟨some .ret,_,j,wpIn_ret (aj d h _ (by omega) u (M _ _ _ _ (by omega) r) ((World.putObj_heap_other (by omega)).trans q))⟩
attribute [local go_sem] Oper.semAt_some
theorem Tab.keep {X:Nat->Prop}{w W:Tw}(c:Tab w)(e:kaH X w W)(d:¬ X 1):Tab W:=fun f b=>by
 have a:=c f b;unfold World.cell? at a⊢;simp only at a⊢;cases b:w.heap[1]? with
 | none=>rw[b]at a;cases a
 | some f =>
  cases f with
  | cells cs t fr=>rw[e.same 1 cs t fr d b];rw[b]at a;exact a
  | _=>rw[b]at a;cases a
def ke8 (w:Tw):Value->Nat
 | .pointer (some a)=>match w.cell? a with | some (.int _ v)=>v.toNat | _=>0
 | _=>0
theorem qkg {w:Tw}{b v:Nat}{k:IntKind}(a:w.cell? ⟨b,0,none⟩=some (.int k (v:Int))):ke8 w (J9 b 0)=v:=by
 simp[ke8,a]
theorem qo1 {s:Nat}(d:s<4294967296)(a:s≠0):Lib.ctz 32 s<32/\s.testBit (Lib.ctz 32 s)=true:=by
 obtain⟨b,c⟩:=Lib.lowest_bit 32 s a d;refine⟨c,?_⟩;have:(s &&& (2 ^ 32 - s)).testBit (Lib.ctz 32 s)=true:=by rw[b];simp
 rw[Nat.testBit_and,Yh]at this;exact this.1
theorem q8s {s x:Nat}(d:s<4294967296)(e:x<32)(c:s.testBit x=true):kaz s (2 ^ x)<s:=by
 apply Nat.lt_of_le_of_ne Nat.and_le_left;intro b;have a:=qbx d (kbP e) x;rw[show kaz s (2 ^ x)=s from b,c]at a;simp at a
theorem q8t {s x:Nat}(c:s<4294967296)(d:x<32)(i:Nat):(kaz s (2 ^ x)).testBit i=true ↔ s.testBit i=true/\i≠x:=by
 rw[qbx c (kbP d),Z9,Yh,Bool.not_eq_true',Zr];exact and_congr_right fun _=>⟨fun b a=>b a.symm,fun b a=>b a.symm⟩
theorem Tab.at0 {w w':Tw}(d:Tab w)(c:w'.heap[1]? = w.heap[1]?):Tab w':=fun b e=>(World.cell?_of_block (a:=⟨1,b,none⟩) c).trans (d b e)
theorem q8k (N:Nat)(a:Tw)(R:Nat)(b c d e:Obj)(v:Value)(t:TypeId)(g:N<=R)(f:N<=a.heap.size) :
 Blk ((((((a.alloc b).alloc c).alloc d).alloc e).setCell ⟨R,0,none⟩ v).alloc (.cells #[v] t)).drew (a.heap.size+1+1+1+1) t [v]/\Below N a ((((((a.alloc b).alloc c).alloc d).alloc e).setCell ⟨R,0,none⟩ v).alloc (.cells #[v] t)).drew:=by
 constructor
 . have:=Blk.new (((((a.alloc b).alloc c).alloc d).alloc e).setCell ⟨R,0,none⟩ v) t #[v]
   simp only[World.size_setCell,Yp]at this;exact this
 . exact((((kbd a b c d e).mono f).setCell (p:=⟨R,0,none⟩) g v).alloc (by simp;omega) _).drew
theorem q62 (Bs s:Nat)(z:Tw)(X:Nat->Prop)(hs:s<4294967296)(F:Blk z Bs 235 [.int .u32 (s:Int)])(ht:Tab z)(aa:¬ X 1) :
 kfT prog 304 #[J9 Bs 0] (fun b=>b<32/\s.testBit b=true) (fun c=>∀a,a∈c ↔ s.testBit a=true) (fun d=>∀a∈d,s.testBit a=true) X z:=by
 intro ak au P Jx f H n ao hX hY S;have U:=F.mono H F.lt;have o:=ht.mono H;have R:=U.cell 0;simp only[Yf]at R;have Z:=o.pos;have O:=h_ hY;refine callsIn_of_wp func304 rfl trivial ?_ rfl;simp only[ntmps304,Zg,Yt,Y2,Nat.reduceAdd,Nat.reduceSub,Vi,Vh,Vo,Vl,Vr,Zw]
 gi_wp2
 have v:Bw f (f.alloc (.cells #[.int .u32 (s:Int)] 235)):=(bR _ _).alloc (nR _) _;have ag:=Blk.new f 235 #[.int .u32 (s:Int)];gi_loopw [3] (fun c wr=>∃(g rest:Nat) (d:List Nat),c=J9 g 0/\f.heap.size<=g/\Blk wr g 235 [.int .u32 (rest:Int)]/\Tab wr/\P d wr/\f.heap.size<=wr.heap.size/\rest<4294967296/\(∀a,s.testBit a=true ↔ a∈d∨rest.testBit a=true)) (fun c wr=>ke8 wr c)
 case atStart=>exact⟨f.heap.size,s,[],rfl,nR _,ag,o.mono v,n _ _ _ S v,v.size,hs,fun a=>by simp⟩
 case round =>
  obtain⟨g,rest,d,rfl,V,c,o,hj,I,h,ac⟩:=hrel;have c1:=c.cell 0;simp only[Yf]at c1;obtain⟨A,C,B,l⟩:=oD c o hj ac;have af:=c.lt;by_cases p:rest=0
  . subst p
    have aj:((0:Nat)==0)=true:=rfl;gi_wp2_with fail;refine kbl ((qeq _ _).mono ?_);rintro e J ⟨rfl,rfl⟩;gi_wp2_with fail
    go_end0
    refine⟨⟨_,rfl⟩,.inl ⟨d,fun a=>?_,n _ _ _ B (((bR wr.heap.size _).alloc (nR _) _).mono I)⟩⟩;rw[l.u a];simp
  . have aj:(rest==0)=false:=by simpa using p
    have w:=qo1 h p;have y:=qbv rest (wr.alloc (.cells #[.int .u32 (rest:Int)] 235)) h p (C.mono ((bR _ _).alloc (nR _) _));obtain⟨b,hx⟩:=Nq (Lib.ctz 32 rest);rw[hx]at w y;have L:=h_ y;have k:=w.1;have m:=h_ w.2;have G:Bw wr ((wr.alloc (.cells #[.int .u32 (rest:Int)] 235)).alloc (.cells #[.int .u32 (rest:Int)] 235)):=((bR _ _).alloc (nR _) _).alloc (by simp) _;have ai:=O (ak - 1) d b _ (n _ _ _ B (G.mono I)) ⟨k,(l b).2 (.inr m)⟩;have q:=h_ G;obtain⟨fn,av,am,an,hy,W⟩:=ai;have M:=h_ W;gi_wp2_with fail;refine kbl ((qeq _ _).mono ?_);rintro e J ⟨rfl,rfl⟩;gi_wp2_with fail;refine kbl (L.mono ?_);rintro e J ⟨rfl,rfl⟩;gi_wp2_with fail;refine⟨kcC,M.mono ?_⟩;rintro e r (⟨rfl,ad,x⟩ | ⟨rfl,ae⟩)
    . have c:=x.blk (A.mono q af) (fun j=>by have:=hX g j;omega)
      have Y:=(C.mono q).keep x aa;have aq:wr.heap.size<=r.heap.size:=Y5 q.size x.size;have c2:=c.cell 0;simp only[Yf]at c2;have f2:=c.free 0;have y:=c.lt;have Q:=c.cell4 0;have F4:=c.free4 0;simp only[Yf]at Q;obtain⟨al,N,K⟩:=oC c Y ad;have ap:prog.follows .mixedOrders=true:=(by kernel_rfl);have ah:=qg3 (t:=2 ^ b) h;have T:=kbP k;gi_wp2_with fail
      gi_region_with_o (first | (refine kbl ((qqs _ _ k).mono ?_);rintro e w' ⟨rfl,rfl⟩) | (refine kbl ((qg4 _ _ _ h T).mono ?_);rintro e w' ⟨rfl,rfl⟩))
      all_goals
       gi_wp2_with fail;have i:=q8k f.heap.size r g (.cells (#[.int .u32 ((2 ^ b:Nat):Int)]) 235) (.cells #[.int .u32 (rest:Int)] 235) (.cells (#[.int .u32 ((2 ^ b:Nat):Int)]) 235) (.cells (#[.int .u32 ((kaz rest (2 ^ b):Nat):Int)]) 235) (.int .u32 ((kaz rest (2 ^ b):Nat):Int)) 235 V (by omega);simp only[Ge,Zq]at i;refine⟨⟨r.heap.size+1+1+1+1,kaz rest (2 ^ b),d++[b],rfl,by omega,i.1,N.at0 (i.2.block 1 Z),n _ _ _ K i.2,by have:=i.2.size;omega,ah,fun a=>?_⟩,?_⟩
       . rw[l.u a,q8t h k,Zk,Zz]
         have D:=m.u;by_cases e:a=b
         . subst e;simp[D]
         . simp[e]
       . have D:=i.1.cell 0
         have E:=A.cell 0;simp only[Yf]at D E;rw[qkg D,qkg E];exact q8s h k m
    . gi_wp2_with fail
      refine bodyPost_ret (results_none rfl _ _ _) rfl ⟨⟨_,rfl⟩,.inr ⟨d++[b],fun a i=>?_,ae⟩⟩;rw[l.u a];rcases Zk.1 i with j | j
      . exact .inl j
      . rw[Zz.1 j];exact .inr m
theorem qbq (s:Nat)(w:Tw) :
 Calls prog 244 #[.agg #[.int .u32 (s:Int)]] w fun a b=>a=.returned (.func (.func 304) #[] #[J9 w.heap.size 0])/\b=w.alloc (.cells #[.int .u32 (s:Int)] 235):=by
 go_enter func244,ntmps244;go_wp2;go_ret;exact⟨rfl,rfl⟩
section
variable {n:Nat} {ops:Array Oper} {rest:List Oper} {o:Oper} {a:Act} {w:Tw} {Q:Exit->Act->Tw->Prop}
theorem q0a (f:o.guard=none)(x:Operand)(h:o.op=.load 237 x)(b:Nat)(g:Nat->Nat)(i:a.eval x=J9 b 0)(e:Blk w b 237 (us g))
 (c:wpListIn Fence.wide n prog ops Q rest (a.put o.dst (.agg (us g).toArray)) w):wpListIn Fence.wide n prog ops Q (o :: rest) a w :=
 wpListIn_plain f fun _ d=>⟨fun _ _=>trivial,by
  simp only[Fence.wide,Oper.semAt,execOp,h,i,Instr.loadAt,Instr.sureAddr,Sem.run_bind,Sem.run_pure,Result.andThen_ok,run_loadVar_row w b 237 237 (us g).toArray (0,0) _ e underlying237 rfl (qs1 g)];exact d _ _ c⟩
theorem q06 (h:o.guard=none)(x y:Operand)(j:o.op=.store 237 x y)(b:Nat)(g c:Nat->Nat)(k:a.eval x=J9 b 0)(hy:a.eval y=.agg (us c).toArray)(e:Blk w b 237 (us g))
 (f:∀d,Blk d b 237 (us c)->w.grownBy d (some b)->d.heap.size=w.heap.size->wpListIn Fence.wide n prog ops Q rest (a.put o.dst undef) d):wpListIn Fence.wide n prog ops Q (o :: rest) a w :=
 wpListIn_plain h fun _ d=>⟨fun _ _=>trivial,by
  simp only[Fence.wide,Oper.semAt,execOp,j,k,hy,Instr.storeAt,Instr.sureAddr,Sem.run_bind,Sem.run_pure,Result.andThen_ok,run_storeVar_row w b 237 237 _ (us c).toArray e (qs1 c) (by simp[us]) (kfe c)];exact d _ _ (f _ (setRow_heap w b _ _ _ _ e) ⟨rfl,rfl,rfl,by simp,fun d _ i=>setRow_other w b d _ (fun d=>i (by rw[d]))⟩ (by simp))⟩
end
def kfD (Ds:List Nat):List Deferred:=Ds.map fun D=>{ target:=.collected D,args:=#[] }
def kcE (B:Nat)(W:Tw)(Ds:List Nat):Prop:=Ds.Nodup/\∀D∈Ds,B<=D/\W.heap[D]? = some (.deferred (some []))
theorem kcE.nil (B:Nat)(b:Tw):kcE B b []:=⟨List.nodup_nil,fun _ c=>by cases c⟩
theorem kcE.keep {B:Nat}{W U:Tw}{l:List Nat}(c:kcE B W l)(k:KeepsOthers W U):kcE B U l:=⟨c.1,fun b d=>⟨(c.2 b d).1,k.same b _ (c.2 b d).2 rfl⟩⟩
theorem kcE.below {B N:Nat}{W U:Tw}{l:List Nat}(c:kcE B W l)(f:Below N W U)(e:∀b∈l,b<N):kcE B U l:=⟨c.1,fun b d=>⟨(c.2 b d).1,(f.block b (e b d)).trans (c.2 b d).2⟩⟩
theorem kcE.lt {B:Nat}{W:Tw}{l:List Nat}(c:kcE B W l):∀b∈l,b<W.heap.size:=fun b d=>(Yq.1 (c.2 b d).2).1
theorem kcE.cons {B D:Nat}{W:Tw}{l:List Nat}(c:kcE B W l)(e:B<=D)(f:W.heap[D]? = some (.deferred (some [])))(g:D ∉ l):kcE B W (D :: l) :=
 ⟨Og.2 ⟨g,c.1⟩,fun d b=>by
  rcases Z7.1 b with rfl | b
  . exact⟨e,f⟩
  . exact c.2 d b⟩
theorem q65 {P:Program}{e:Func}{g:Ta}{R:Ending->Tw->Prop}{n B:Nat}:∀(d:List Nat) (b:Tw),kcE B b d ->
 (∀c,kaH (fun _=>False) b c->Below B b c->∃f,(results e g).run P c=.ok f c/\R (.returned f) c)->LeavesInM Fence.wide n P e g R (kfD d) .returning b
 | [],b,_,h=>h b (kaH.refl _ _) (bR _ _)
 | D :: d,b,hs,h=>by
  have b:=hs.2 D (Y8 ..);refine⟨by simp,.inl ⟨D,_,rfl,run_takeDeferred b.2,q65 d _ ⟨(Og.1 hs.1).2,fun d f=>?_⟩ fun c j i=>h c ((kaH.put b.2 rfl).trans j) ((qdv _ D _ b.1).trans i)⟩⟩;have c:=hs.2 d (Zi _ f);exact⟨c.1,(World.putObj_heap_other (k:=d) (r:=D) (fun i=>(Og.1 hs.1).1 (by rw[<- i];exact f))).trans c.2⟩
theorem qlc {W:Tw}{k x:Nat}{f:Nat->Nat}(h:Blk W k 237 (us f))(l:x<32)(u:Nat)(c d e g:Obj) :
 KeepsOthers W (((((W.alloc c).alloc d).alloc e).alloc g).setCell ⟨k,x,none⟩ (.int .u32 (u:Int))).drew/\kaH (fun b=>b=k) W (((((W.alloc c).alloc d).alloc e).alloc g).setCell ⟨k,x,none⟩ (.int .u32 (u:Int))).drew /\
  Blk (((((W.alloc c).alloc d).alloc e).alloc g).setCell ⟨k,x,none⟩ (.int .u32 (u:Int))).drew k 237 (us fun b=>if b=x then u else f b) /\
  (∀j,j<=k->k<W.heap.size->Below j W (((((W.alloc c).alloc d).alloc e).alloc g).setCell ⟨k,x,none⟩ (.int .u32 (u:Int))).drew):=by
 have i:=kbd W c d e g;refine⟨(keH i).trans ((KeepsOthers.setCell _ _ _).trans (KeepsOthers.drew _)),((kaH.of_below i).trans (kaH.set (X:=fun b=>b=k) (a:=⟨k,x,none⟩) (.int .u32 (u:Int)) rfl)).trans ⟨nR _,fun _ _ _ _ _ h=>h⟩,?_,fun j b j=>((i.mono (by omega)).setCell (p:=⟨k,x,none⟩) b _).drew⟩;rw[<- kea f u l];exact(h.mono i h.lt).set x _
end Go.Proofs.YtenckgnkjkijnaaGreatDoor
namespace Go.Proofs.YtenckgnkjkijnaaGreatDoor
open Go Go.RowKit Go.Proofs.Tryz
theorem qbg (v:Value)(l:List Nat)(w:Tw)(t:kaJ w v l)(q:Dig l)(y:l.length<=1000) :
 Calls prog 292 #[v] w fun c b=>∃a,c=.returned a/\kaJ w a (kab (kad l))/\b=w:=by
 obtain⟨g,i,rfl,x,s,k⟩:=t;go_enter func292,ntmps292;go_wp2;go_loopw [3] (fun d wr=>∃a:Nat,a<=l.length/\d=J6 a/\(∀b,a<=b->b<l.length->l.getD b 0=0)/\wr=w) (fun d _=>(intOf d).toNat)
 case atStart=>exact⟨l.length,nR _,rfl,fun b d e=>absurd e (by omega),rfl⟩
 case round =>
  obtain⟨a,r,rfl,e,rfl⟩:=hrel;have f:=h_ e;clear e;have j:(a=0∨l.getD (a - 1) 0≠0)->kaJ wr (.slice g a i) (kab (kad l)):=fun d=>by
   have c:=qsl q r f d;have d:(l.take a).length=a:=by simp;omega
   refine⟨g,i,by rw[<- c,d],by rw[<- c,d];omega,s,?_⟩;rw[<- c,d];intro b n;obtain⟨h,o,e,m,p⟩:=k b (by omega);exact⟨h,o,e,m,by rw[p];simp[List.getD,n]⟩
  have e:=h_ j;clear j;cases a with
  | zero =>
   go_wp2;go_ret;exact⟨_,rfl,e (.inl trivial),rfl⟩
  | succ a =>
   obtain⟨h,o,rfl,u,m⟩:=k a (by omega);obtain⟨p,d⟩:=Nq (l.getD a 0);dsimp only at m;rw[d]at m;by_cases j:p=0
   . go_wp2
     go_roundw
     case rel=>exact⟨a,by omega,rfl,fun b n n=>by
      by_cases c:b=a
      . subst c;rw[d];exact j
      . exact f b (by omega) n,trivial⟩
     case measure=>simp[intOf]
   . go_wp2
     go_ret;exact⟨_,rfl,e (.inr (by rw[Nat.add_sub_cancel,d];exact j)),rfl⟩
theorem q85 (v:Value)(l:List Nat)(i:Nat)(w:Tw)(f:kaJ w v l)(a:Nat)(c:l.getD i 0=a) :
 Calls prog 317 #[v,J6 i] w fun b d=>b=.returned (J6 a)/\d=w:=by
 obtain⟨g,j,rfl,m,n,e⟩:=f;by_cases d:i<l.length
 . obtain⟨h,o,rfl,k,b⟩:=e i d
   dsimp only at b;rw[c]at b;go_enter func317,ntmps317;go_wp2;go_ret;exact⟨rfl,rfl⟩
 . obtain rfl:a=0:=by rw[<- c];simp[List.getD,List.getElem?_eq_none (by omega:l.length<=i)]
   go_enter func317,ntmps317;go_wp2;go_ret;exact⟨rfl,rfl⟩
theorem q3p (v u:Value)(l m:List Nat)(w:Tw)(c:kaJ w v l)(b:kaJ w u m)(A:Dig l)(C:Dig m)(t:l.length<=1000)(x:m.length<=1000)(d:Bool)(a:d=true ↔ kad l<kad m) :
 Calls prog 289 #[v,u] w fun k e=>k=.returned (.bool d)/\∃g,e=w.drewN g:=by
 have i:=h_ a;clear a;have H:(kab (kad l)).length<=1000:=Y5 (q26 (qo8 A)) t;have I:(kab (kad m)).length<=1000:=Y5 (q26 (qo8 C)) x;have a:=h_ b;clear b;go_enter func289,ntmps289;go_wp2_with fail;refine(qbg v l w c A t).mono ?_;rintro k F ⟨U,rfl,e,rfl⟩;have b:=h_ e;clear e c;go_wp2_with fail;refine(qbg u m F a C x).mono ?_;rintro k G ⟨T,rfl,E,rfl⟩;obtain⟨J,N,rfl,-,-,y⟩:=b.u;obtain⟨K,O,rfl,-,-,D⟩:=E;clear b a;generalize kad l=c at *;generalize kad m=b at *;by_cases B:(kab c).length=(kab b).length
 . rw[B]at y⊢
   go_wp2;go_loopw [5] (fun e wr=>∃a g:Nat,a<=(kab b).length/\e=J6 ((a:Int) - 1)/\c / 10 ^ a=b / 10 ^ a/\wr=G.drewN g) (fun e _=>(intOf e+1).toNat)
   case atStart =>
    refine⟨(kab b).length,0,nR _,rfl,?_,rfl⟩;rw[Zv (by rw[<- B];exact qq3 c),Zv (qq3 b)]
   case round =>
    obtain⟨a,g,P,rfl,f,rfl⟩:=hrel;cases a with
    | zero =>
     have e:d=false:=by
      cases d with
      | false=>rfl
      | true=>have:=i.1 rfl;simp at f;omega
     subst e;go_wp2;go_ret;exact⟨rfl,_,rfl⟩
    | succ a =>
     rw[show((a+1:Nat):Int) - 1=(a:Int) by omega];obtain⟨L,Q,rfl,-,c1⟩:=y a (by omega);obtain⟨M,R,rfl,-,c2⟩:=D a (by omega);dsimp only at c1 c2;rw[qo4]at c1 c2;have h:=qiz c a;have q:=qiz b a;obtain⟨j,z⟩:=Nq (c / 10 ^ a % 10);obtain⟨o,e⟩:=Nq (b / 10 ^ a % 10);rw[z]at c1 h;rw[e]at c2 q;obtain⟨r,s⟩:=oB f (And.intro h q);clear f h q z e;by_cases z:j=o
     . subst z
       go_wp2
       go_quiet (fail)
       go_wp2;go_roundw
       case rel=>exact⟨a,_,by omega,rfl,by have:=r.u;have:=s.u;omega,rfl⟩
       case measure=>simp[intOf]
     . have f:d=decide (j<o):=by
        rw[Zh,i.u,Yk];have h:=r.u;have S:=s.u;refine⟨fun e=>?_,fun e=>qem (p:=10 ^ a) (by omega)⟩;rcases Nat.lt_or_ge j o with q | q
        . omega
        . exact absurd e (by have:=qem (m:=b) (n:=c) (p:=10 ^ a) (by omega);omega)
       have h:=h_ f;clear f;go_wp2
       go_quiet (fail)
       go_wp2
       go_quiet (fail)
       go_wp2;go_ret;exact⟨qln h.symm,_,by rw[q7g,q7g]⟩
 . have f:d=decide ((kab c).length<(kab b).length):=by
    rw[Zh,i.u,Yk];refine⟨fun e=>?_,fun e=>q7f (by omega)⟩;rcases Nat.lt_or_ge (kab c).length (kab b).length with q | q
    . omega
    . exact absurd e (by have:=q7f (m:=b) (n:=c) (by omega);omega)
   have h:=h_ f;clear f;go_wp2;go_ret;exact⟨qln h.symm,0,rfl⟩
theorem Dig.getD {l:List Nat}(a:Dig l)(i:Nat):l.getD i 0<10:=by rw[ka9 a];exact Om _ (by decide)
theorem qqg {l:List Nat}(a:Dig l){n:Nat}(b:l.length<=n):kad l % 10 ^ n=kad l:=Zs (Yn (qo8 a) (Zn (by decide) b))
theorem q5r (v u:Value)(l m:List Nat)(w:Tw)(b:kaJ w v l)(a:kaJ w u m)(t:Dig l)(x:Dig m)(bl:l.length<=500)(bm:m.length<=500) :
 Calls prog 288 #[v,u] w fun k g=>∃S,k=.returned S/\kaJ g S (kab (kad l+kad m))/\Bw w g:=by
 have Q:Hi (Bw w (w.alloc (.cells #[] 3))):=(bR _ _).alloc (nR _) _;obtain⟨an,ca,rfl,-,-,c⟩:=id b;obtain⟨ao,cb,rfl,-,-,d⟩:=id a;obtain⟨Y,X⟩:=oB b a;clear b a c d;obtain⟨f,q⟩:∃f,f=if m.length > l.length then m.length else l.length:=⟨_,rfl⟩;have ae:l.length<=f:=by rw[q];split <;> omega
 have af:m.length<=f:=by rw[q];split <;> omega
 have bn:f<=500:=by rw[q];split <;> omega
 have s:=h_ (And.intro ae af);by_cases R:m.length > l.length
 . rw[Yr R]at q
   rw[<- q]at X R⊢;clear q ae af;go_enter func288,ntmps288;go_wp2_with fail;go_loopw [6,7,8] (fun ah aa D wr=>∃(a b:Nat) (c:List Nat),a<=f+1/\D=J6 a/\aa=J6 b/\b<=1/\c.length=a/\Dig c/\kad c+b*10 ^ a=kad l % 10 ^ a+kad m % 10 ^ a/\wr.ownsRow w.heap.size 3 1 ah a (ui c)/\Bw w wr) (fun _ _ D _=>f+1 - (intOf D).toNat)
   case atStart=>exact⟨0,0,[],by omega,rfl,rfl,by omega,rfl,(fun ai hd=>by cases hd),by simp[kad,Nat.mod_one],qgj w 3,Q⟩
   case round =>
    clear Q;obtain⟨a,b,c,hk,rfl,rfl,aj,r,J,kbv,K,p⟩:=hrel;obtain⟨o,h,i,j⟩:=oD K p (And.intro J kbv) r;clear K J kbv r;by_cases ak:a<=f
    . obtain⟨d,B⟩:=Nq (l.getD a 0)
      obtain⟨e,C⟩:=Nq (m.getD a 0);have al:d<10:=(by rw[<- B];exact t.getD a);have am:e<10:=(by rw[<- C];exact x.getD a);obtain⟨E,F⟩:=oB B C;clear B C;obtain⟨V2,Z⟩:=oB (Y.mono p) (X.mono p);clear p;go_wp2_with fail;refine(q85 _ l a wr V2 d E).mono ?_;rintro k g ⟨rfl,rfl⟩;go_wp2_with fail;refine(q85 _ m a g Z e F).mono ?_;rintro k P ⟨rfl,rfl⟩;have ag:(d+e+b) / 10<=1:=(by omega);obtain⟨i0,I,M,N,O⟩:=info_parts kbf;go_wp2_with (at_builtin;refine wpList_append_own _ rfl _ _ 89 rfl w.heap.size 3 i0 _ 1 8 underlying89 I M N O rfl (by omega) u6 _ _ rfl (o.alloc _) ⟨P.heap.size,0,none⟩ 1 1 [J6 (((d:Int)+e+b) % 10)] rfl rfl (qim P 3 _) (by simp[Value.oneCell']) (by unfold maxLen;omega) (by omega) (by have:=h.size;simp;omega) ?_);intro v' g L H _;have G:=(h.alloc (by have:=h.size;omega) (.cells #[J6 (((d:Int)+e+b) % 10)] 3)).grown H (by have:=h.size;simp;omega) (fun q' k=>qc8 o k);have U:Hi (g.ownsRow w.heap.size 3 1 v' (a+1) (ui (c++[(d+e+b) % 10]))):=by
       rw[Hi];simpa [ui] using L
      have T:=h_ G;clear L H G I M N O;go_wp2_with fail;go_roundw
      case rel =>
       refine⟨a+1,(d+e+b) / 10,c++[(d+e+b) % 10],by omega,by go_num,by go_num,ag,?_,?_,?_,U,T⟩
       . have:=j.u;simp[this]
       . exact i.1.snoc (by omega)
       . rw[qep,j.u,qkc,qkc,<- ka9 t,<- ka9 x,E.u,F.u]
         exact qi8 i.2 rfl
      case measure=>simp[intOf];omega
    . obtain rfl:a=f+1:=by omega
      have z:=i.2;rw[qqg t (by have:=s.u;omega),qqg x (by have:=s.u;omega)]at z;have ac:b=0:=by
       have h2:=Yn (qo8 t) (Zn (n:=10) (by decide) s.1);have h3:=Yn (qo8 x) (Zn (n:=10) (by decide) s.2);rw[Nat.pow_succ]at z;rcases (by omega:b=0∨b=1) with y | y
       . exact y
       . subst y;omega
      subst ac;have kbv:kad c=kad l+kad m:=(by omega);have ad:=i.1;have V:kaJ wr u6 c:=(by have:=o.u;rw[<- j.u]at this;exact q50 this);have r:c.length<=1000:=(by have:=j.u;omega);clear i o j z;go_wp2_with fail;refine(qbg u6 c wr V ad r).mono ?_;rintro k g ⟨S,rfl,A,rfl⟩;rw[kbv]at A;have W:=h_ A;clear A;go_wp2;go_ret;exact⟨_,rfl,W,h⟩
 . rw[Yl R]at q
   rw[<- q]at Y R⊢;clear q ae af;go_enter func288,ntmps288;go_wp2_with fail;go_loopw [6,7,8] (fun ah aa D wr=>∃(a b:Nat) (c:List Nat),a<=f+1/\D=J6 a/\aa=J6 b/\b<=1/\c.length=a/\Dig c/\kad c+b*10 ^ a=kad l % 10 ^ a+kad m % 10 ^ a/\wr.ownsRow w.heap.size 3 1 ah a (ui c)/\Bw w wr) (fun _ _ D _=>f+1 - (intOf D).toNat)
   case atStart=>exact⟨0,0,[],by omega,rfl,rfl,by omega,rfl,(fun ai hd=>by cases hd),by simp[kad,Nat.mod_one],qgj w 3,Q⟩
   case round =>
    clear Q;obtain⟨a,b,c,hk,rfl,rfl,aj,r,J,kbv,K,p⟩:=hrel;obtain⟨o,h,i,j⟩:=oD K p (And.intro J kbv) r;clear K J kbv r;by_cases ak:a<=f
    . obtain⟨d,B⟩:=Nq (l.getD a 0)
      obtain⟨e,C⟩:=Nq (m.getD a 0);have al:d<10:=(by rw[<- B];exact t.getD a);have am:e<10:=(by rw[<- C];exact x.getD a);obtain⟨E,F⟩:=oB B C;clear B C;obtain⟨V2,Z⟩:=oB (Y.mono p) (X.mono p);clear p;go_wp2_with fail;refine(q85 _ l a wr V2 d E).mono ?_;rintro k g ⟨rfl,rfl⟩;go_wp2_with fail;refine(q85 _ m a g Z e F).mono ?_;rintro k P ⟨rfl,rfl⟩;have ag:(d+e+b) / 10<=1:=(by omega);obtain⟨i0,I,M,N,O⟩:=info_parts kbf;go_wp2_with (at_builtin;refine wpList_append_own _ rfl _ _ 89 rfl w.heap.size 3 i0 _ 1 8 underlying89 I M N O rfl (by omega) u6 _ _ rfl (o.alloc _) ⟨P.heap.size,0,none⟩ 1 1 [J6 (((d:Int)+e+b) % 10)] rfl rfl (qim P 3 _) (by simp[Value.oneCell']) (by unfold maxLen;omega) (by omega) (by have:=h.size;simp;omega) ?_);intro v' g L H _;have G:=(h.alloc (by have:=h.size;omega) (.cells #[J6 (((d:Int)+e+b) % 10)] 3)).grown H (by have:=h.size;simp;omega) (fun q' k=>qc8 o k);have U:Hi (g.ownsRow w.heap.size 3 1 v' (a+1) (ui (c++[(d+e+b) % 10]))):=by
       rw[Hi];simpa [ui] using L
      have T:=h_ G;clear L H G I M N O;go_wp2_with fail;go_roundw
      case rel =>
       refine⟨a+1,(d+e+b) / 10,c++[(d+e+b) % 10],by omega,by go_num,by go_num,ag,?_,?_,?_,U,T⟩
       . have:=j.u;simp[this]
       . exact i.1.snoc (by omega)
       . rw[qep,j.u,qkc,qkc,<- ka9 t,<- ka9 x,E.u,F.u]
         exact qi8 i.2 rfl
      case measure=>simp[intOf];omega
    . obtain rfl:a=f+1:=by omega
      have z:=i.2;rw[qqg t (by have:=s.u;omega),qqg x (by have:=s.u;omega)]at z;have ac:b=0:=by
       have h2:=Yn (qo8 t) (Zn (n:=10) (by decide) s.1);have h3:=Yn (qo8 x) (Zn (n:=10) (by decide) s.2);rw[Nat.pow_succ]at z;rcases (by omega:b=0∨b=1) with y | y
       . exact y
       . subst y;omega
      subst ac;have kbv:kad c=kad l+kad m:=(by omega);have ad:=i.1;have V:kaJ wr u6 c:=(by have:=o.u;rw[<- j.u]at this;exact q50 this);have r:c.length<=1000:=(by have:=j.u;omega);clear i o j z;go_wp2_with fail;refine(qbg u6 c wr V ad r).mono ?_;rintro k g ⟨S,rfl,A,rfl⟩;rw[kbv]at A;have W:=h_ A;clear A;go_wp2;go_ret;exact⟨_,rfl,W,h⟩
theorem q5u (v u:Value)(l m:List Nat)(w:Tw)(S:kaJ w v l)(R:kaJ w u m)(n:Dig l)(G:Dig m)(bl:l.length<=500)(aa:kad m<=kad l) :
 Calls prog 290 #[v,u] w fun h g=>∃M,h=.returned M/\kaJ g M (kab (kad l - kad m))/\Bw w g:=by
 have X:Hi (Bw w (w.alloc (.cells #[] 3))):=(bR _ _).alloc (nR _) _;obtain⟨af,ca,rfl,-,-,hA⟩:=id S;obtain⟨p,cb,rfl,-,-,hB⟩:=id R;obtain⟨HV,Z,Y⟩:=oC S R aa;go_enter func290,ntmps290;go_wp2_with fail;go_loopw [5,6,7] (fun f d c wr=>∃(b a:Nat) (e:List Nat),b<=l.length/\c=J6 b/\d=J6 a/\a<=1/\e.length=b/\Dig e/\kad l % 10 ^ b+a*10 ^ b=kad e+kad m % 10 ^ b/\wr.ownsRow w.heap.size 3 1 f b (ui e)/\Bw w wr) (fun _ _ c _=>l.length - (intOf c).toNat)
 case atStart=>exact⟨0,0,[],by omega,rfl,rfl,by omega,rfl,(fun q c=>by cases c),by simp[kad,Nat.mod_one],qgj w 3,X⟩
 case round =>
  obtain⟨b,a,e,hk,rfl,rfl,Q,H,ad,kbv,ae,D⟩:=hrel;obtain⟨k,f,i,j⟩:=oD ae D (And.intro ad kbv) H;by_cases ag:b<l.length
  . obtain⟨c,T⟩:=Nq (l.getD b 0)
    obtain⟨d,V⟩:=Nq (m.getD b 0);have U:c<10:=(by rw[<- T];exact n.getD b);have W:d<10:=(by rw[<- V];exact G.getD b);obtain⟨x,y,V2,U2⟩:=oD T V (HV.mono D) (Z.mono D);go_wp2_with fail;refine(q85 _ l b wr V2 c x).mono ?_;rintro h g ⟨rfl,rfl⟩;go_wp2_with fail;refine(q85 _ m b g U2 d y).mono ?_;rintro h r ⟨rfl,rfl⟩;by_cases ah:c<d+a
    . have ac:(c:Int) - d - a<0:=by omega
      obtain⟨L,F,I,J,K⟩:=info_parts kbf;go_wp2_with (at_builtin;refine wpList_append_own _ rfl _ _ 89 rfl w.heap.size 3 L _ 1 8 underlying89 F I J K rfl (by omega) u5 _ _ rfl (k.alloc _) ⟨r.heap.size,0,none⟩ 1 1 [J6 ((c:Int) - d - a+10)] rfl rfl (qim r 3 _) (by simp[Value.oneCell']) (by unfold maxLen;omega) (by omega) (by have:=f.size;simp;omega) ?_);intro N g o E _;have C:=(f.alloc (by have:=f.size;omega) (.cells #[J6 ((c:Int) - d - a+10)] 3)).grown E (by have:=f.size;simp;omega) (fun q' h=>qc8 k h);have t:Hi (g.ownsRow w.heap.size 3 1 N (b+1) (ui (e++[c+10 - d - a]))):=by
       rw[Hi];rw[show(c:Int) - d - a+10=((c+10 - d - a:Nat):Int) by omega]at o;simpa [ui] using o
      have s:=h_ C;go_wp2_with fail;go_roundw
      case rel =>
       refine⟨b+1,1,e++[c+10 - d - a],by omega,by go_num,rfl,by omega,?_,?_,?_,t,s⟩
       . have:=j.u;simp[this]
       . exact i.1.snoc (by omega)
       . rw[qep,j.u,qkc,qkc,<- ka9 n,<- ka9 G,x.u,y.u]
         obtain⟨q,p,z,O,P,A,B⟩:=qm8 i.2 Q U W;obtain rfl:p=1:=(by omega);obtain rfl:q=c+10 - d - a:=(by omega);exact B
      case measure=>simp[intOf];omega
    . have ac:0<=(c:Int) - d - a:=by omega
      obtain⟨L,F,I,J,K⟩:=info_parts kbf;go_wp2_with (at_builtin;refine wpList_append_own _ rfl _ _ 89 rfl w.heap.size 3 L _ 1 8 underlying89 F I J K rfl (by omega) u5 _ _ rfl (k.alloc _) ⟨r.heap.size,0,none⟩ 1 1 [J6 ((c:Int) - d - a)] rfl rfl (qim r 3 _) (by simp[Value.oneCell']) (by unfold maxLen;omega) (by omega) (by have:=f.size;simp;omega) ?_);intro N g o E _;have C:=(f.alloc (by have:=f.size;omega) (.cells #[J6 ((c:Int) - d - a)] 3)).grown E (by have:=f.size;simp;omega) (fun q' h=>qc8 k h);have t:Hi (g.ownsRow w.heap.size 3 1 N (b+1) (ui (e++[c - d - a]))):=by
       rw[Hi];rw[show(c:Int) - d - a=((c - d - a:Nat):Int) by omega]at o;simpa [ui] using o
      have s:=h_ C;go_wp2_with fail;go_roundw
      case rel =>
       refine⟨b+1,0,e++[c - d - a],by omega,by go_num,rfl,by omega,?_,?_,?_,t,s⟩
       . have:=j.u;simp[this]
       . exact i.1.snoc (by omega)
       . rw[qep,j.u,qkc,qkc,<- ka9 n,<- ka9 G,x.u,y.u]
         obtain⟨q,p,z,O,P,A,B⟩:=qm8 i.2 Q U W;obtain rfl:p=0:=(by omega);obtain rfl:q=c - d - a:=(by omega);exact B
      case measure=>simp[intOf];omega
  . obtain rfl:b=l.length:=by omega
    have z:=i.2;have O:=qo8 n;have P:=Y.u;rw[qqg n (nR _),Zs (by omega:kad m<10 ^ l.length)]at z;have A:=qo8 i.1;rw[j.u]at A;have q:a=0:=by
     rcases (by omega:a=0∨a=1) with c | c
     . exact c
     . subst c;omega
    subst q;have kbv:kad e=kad l - kad m:=(by omega);have r:=i.1;have d:kaJ wr u5 e:=(by have:=k.u;rw[<- j.u]at this;exact q50 this);have H:e.length<=1000:=(by have:=j.u;omega);go_wp2_with fail;refine(qbg u5 e wr d r H).mono ?_;rintro h g ⟨M,rfl,c,rfl⟩;rw[kbv]at c;have o:=h_ c;go_wp2;go_ret;exact⟨_,rfl,o,f⟩
def kbr (w:Tw)(v:Value)(z:Int):Prop:=∃u,v=.agg #[.bool (decide (z<0)),u]/\kaJ w u (kab z.natAbs)
theorem kbr.mono {w w':Tw}{v:Value}{z:Int}(b:kbr w v z)(c:Bw w w'):kbr w' v z:=by
 obtain⟨e,a,d⟩:=b;exact⟨e,a,d.mono c⟩
theorem two {w:Tw}{b:Nat}{t:TypeId}{v u:Value}(a:Blk w b t [v,u]) :
 (w.cell? ⟨b,0,none⟩=some v/\w.cell? ⟨b,1,none⟩=some u)/\(w.frozen? ⟨b,0,none⟩=false/\w.frozen? ⟨b,1,none⟩=false):=⟨⟨a.cell 0,a.cell 1⟩,⟨a.free 0,a.free 1⟩⟩
theorem q5o (v:Value)(z:Int)(w:Tw)(k:kbr w v z) :
 Calls prog 214 #[v] w fun e b=>∃a,e=.returned a/\kbr b a (-z)/\Bw w b:=by
 obtain⟨m,rfl,i⟩:=k;obtain⟨g,h,rfl,-,-,-⟩:=id i;have d:=h_ i;by_cases l:z=0
 . subst l
   have j:(kab (Int.natAbs 0)).length=0:=by simp[qel]
   rw[j]at d⊢;have f:∀a b,Bw w ((w.alloc a).alloc b):=fun a b=>((bR _ w).alloc (nR _) a).alloc (by simp) b;have c:=h_ f;go_enter func214,ntmps214;go_wp2;refine bQ (v:=.agg #[.bool false,.slice g 0 h]) ⟨_,rfl,⟨_,rfl,?_⟩,c _ _⟩;exact d.mono (c _ _)
 . have j:(kab z.natAbs).length≠0:=by intro e;have:=qix.1 (Za.1 e);omega
   have f:∀a b,Bw w ((w.alloc a).alloc b):=fun a b=>((bR _ w).alloc (nR _) a).alloc (by simp) b;have c:=h_ f;have b:decide (-z<0) = !decide (z<0):=by
    by_cases a:z<0
    . simp[a];omega
    . simp[a];omega
   have a:=h_ b;go_enter func214,ntmps214;go_wp2;refine bQ (v:=.agg (Jt (!decide (z<0)) g (kab z.natAbs).length h)) ⟨_,rfl,⟨_,by rw[a.u],?_⟩,c _ _⟩;rw[V9];exact d.mono (c _ _)
