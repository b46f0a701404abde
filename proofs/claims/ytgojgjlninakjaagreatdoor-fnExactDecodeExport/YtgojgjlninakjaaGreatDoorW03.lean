import Derived.Test.YtgojgjlninakjaaGreatDoorW00
import Derived.Laws.DeepBits32
import Derived.Lib.TrailingZeros
import Derived.ChangeKeysEq
import Derived.Deep.RegionWith
import Derived.Deep.RegionHeld3
import Derived.Deep.WholeRow
import Derived.Laws.ResultCell
import Derived.RangeFuncNested
import Derived.RangeFuncBound
import Derived.RangeFuncCalls
import Derived.RangeFuncLeaves
import Derived.Shelf.Abstract
import Derived.Shelf.RegionOpen
import Derived.OwnWalkIn
import Derived.TacticsInMore
import Derived.LoopNIn
import Derived.LoopIn
set_option maxRecDepth 100000
set_option maxHeartbeats 64000000
namespace Go.Proofs.YtgojgjlninakjaaGreatDoor
open Go Go.RowKit
theorem qf5 {α:Type}{f g:Nat->α}{k:Nat}(h:∀j,j<k->f j=g j)(h':f k=g k):∀j,j<k+1->f j=g j:=fun j hj=>by
 by_cases e:j=k
 . rw[e];exact h'
 . exact h j (by omega)
theorem ine_ff {a b:Int}(h:(a != b)=false):a=b:=by simpa using h
theorem ine_tt {a b:Int}(h:(a != b)=true):¬ a=b:=by simpa using h
theorem q5p (a b:Option Addr)(f g:Nat->Int)(n:Nat)(ca cb:Nat)(w:World)(ha:Ints w a n f)(hb:Ints w b n g)(hlx:n<=140737488355328) :
 Calls Tryz.prog 92 #[.slice a n ca,.slice b n cb] w fun e w'=>e=.returned (.bool (sameI n f g))/\Below w.heap.size w w':=by
 go_enter Tryz.func92,Tryz.ntmps92
 go_wp2
 go_loopw [5] (fun i wr=>∃k:Nat,k<=n/\i=J6 k/\(∀j,j<k->f j=g j)/\∃n,wr=w.drewN n) (fun i _=>n - (intOf i).toNat)
 case atStart=>exact⟨0,nZ _,rfl,fun j h=>absurd h (nL _),0,rfl⟩
 case round =>
  obtain⟨k,hk,rfl,heq,m,rfl⟩:=hrel;have HE:Hi (∀j,j<k->f j=g j):=heq;clear heq;by_cases hlt:k<n
  . obtain⟨b1,o1,rfl,-,hc1⟩:=ha k hlt
    obtain⟨b2,o2,rfl,-,hc2⟩:=hb k hlt;go_wp2
    go_quiet (fail)
    go_wp2
    . have ht:(f k != g k)=true:=by assumption
      go_ret;exact⟨qia (q7d k hlt (ine_tt ht)).symm,⟨rfl,rfl,rfl,nR _,fun _ _=>rfl⟩⟩
    . have ht:(f k != g k)=false:=by assumption
      go_roundw
      case rel=>exact⟨k+1,by omega,by go_num,qf5 HE.out (ine_ff ht),_,rfl⟩
      case measure=>simp[intOf];omega
  . go_wp2
    go_ret;exact⟨qia (qab fun j hj=>HE.out j (by omega)).symm,⟨rfl,rfl,rfl,nR _,fun _ _=>rfl⟩⟩
def bs (n:Nat)(f:Nat->Bool):List Value:=(List.range n).map fun k=>.bool (f k)
def is (n:Nat)(f:Nat->Int):List Value:=(List.range n).map fun k=>.int .i64 (f k)
theorem q9o {n:Nat}{xs:List Value}{g:Nat->Value}(hl:xs.length=n)(h:∀j,j<n->xs[j]? = some (g j)):xs=(List.range n).map g:=by
 apply List.ext_getElem?
 intro j
 by_cases hj:j<n
 . rw[h j hj];simp[hj]
 . rw[Vb (by omega),Vb (by simp;omega)]
theorem Blk.bools {w:World}{g n:Nat}{t:TypeId}{f:Nat->Bool}(h:Blk w g t (bs n f)):Bools w (some ⟨g,0,none⟩) n f:=fun k hk =>
 ⟨g,0,rfl,h.lt,by rw[Y7,h.cell];simp[bs,hk]⟩
theorem Blk.ints {w:World}{g n:Nat}{t:TypeId}{f:Nat->Int}(h:Blk w g t (is n f)):Ints w (some ⟨g,0,none⟩) n f:=fun k hk =>
 ⟨g,0,rfl,h.lt,by rw[Y7,h.cell];simp[is,hk]⟩
theorem qcw:(Tryz.prog.info? 4).map (fun i=>(i.zero,i.size,i.bytes))=some (some (.bool false),1,1):=by kernel_rfl
theorem qgn:(Tryz.prog.info? 3).map (fun i=>(i.zero,i.size,i.bytes))=some (some (J6 0),1,8):=by kernel_rfl
theorem qc1 {w wr:World}{B e n k:Nat}{g:Nat->Value}{xs:List Value}(hk:k<n)
 (ho:wr.ownsRow B e 1 (.slice (some ⟨B,0,none⟩) n n) n xs) (hx:∀j,j<k->xs[j]? = some (g j)) (hb:Below B w wr) :
 (wr.setCell ⟨B,k,none⟩ (g k)).ownsRow B e 1 (.slice (some ⟨B,0,none⟩) n n) n (xs.set k (g k))/\(∀j,j<k+1->(xs.set k (g k))[j]? = some (g j))/\Below B w (wr.setCell ⟨B,k,none⟩ (g k)):=by
 obtain⟨h1,h2⟩:=ho.stored k (g k)
 refine⟨h1,fun j hj=>?_,hb.setCell (p:=⟨B,k,none⟩) (nR _) _⟩
 have hl:xs.length=n:=by have:=ho.1;omega
 by_cases e:j=k
 . subst e;rw[Ov (by omega)]
 . rw[O8 (by omega)];exact hx j (by omega)
theorem qas (a:Option Addr)(f:Nat->Int)(n c:Nat)(w:World)(ha:Ints w a n f)(hn:n<=1048576) :
 Calls Tryz.prog 77 #[.slice a n c] w fun e w'=>e=.returned (.slice (some ⟨w.heap.size,0,none⟩) n n)/\Blk w' w.heap.size 3 (is n f)/\Below w.heap.size w w':=by
 obtain⟨i0,hi,hz0,hz1,hz2⟩:=info_parts qgn
 obtain⟨B,hB⟩:=Nq w.heap.size
 have hbn:i0.bytes*n<=281474976710656:=by rw[hz2];omega
 go_enter Tryz.func77,Tryz.ntmps77
 go_wp2_with (at_make;refine wpList_make_full _ rfl (.tmp 6) (.tmp 6) 77 rfl w.heap.size 3 i0 (J6 0) 1 Tryz.underlying77 hi hz0 hz1 .i64 .i64 _ _ n rfl rfl rfl rfl hbn (by unfold maxLen;omega) (nR _) ?_;intro w1 hown hgrow)
 have hb1:Below B w w1:=by rw[<- hB];exact(bR _ _).grown hgrow (nR _) (fun k h=>by cases h)
 rw[hB]at hown
 clear hgrow hbn hi hz0 hz1 hz2
 go_loopw [4] (fun i wr=>∃(k:Nat) (xs:List Value),k<=n/\i=J6 k/\wr.ownsRow B 3 1 (.slice (some ⟨B,0,none⟩) n n) n xs/\(∀j,j<k->xs[j]? = some (J6 (f j)))/\Below B w wr) (fun i _=>n - (intOf i).toNat)
 case atStart=>exact⟨0,_,nZ _,rfl,hown,fun j h=>absurd h (nL _),hb1⟩
 case round =>
  clear hown hb1;obtain⟨k,xs,hk,rfl,ho,hx,hb⟩:=hrel;have HO:=h_ ho;have HX:=h_ hx;have HB:=h_ hb;by_cases hlt:k<n
  . obtain⟨b1,o1,rfl,hl1,hc1⟩:=ha k hlt
    have hc:=(hb.cell (p:=⟨b1,o1+k,none⟩) (by rw[<- hB];exact hl1)).trans hc1;obtain⟨u0,hd⟩:∃u0,wr.cell? ⟨B,k,none⟩=some u0:=⟨_,(ho.cellAt k (by omega)).trans (Yc (by have:=ho.1;omega))⟩;have hf:=ho.frozenAt k;clear ho hx hb hc1;go_wp2;go_roundw
    case rel =>
     obtain⟨r1,r2,r3⟩:=qc1 (g:=fun j=>J6 (f j)) hlt HO.u HX.u HB.u;exact⟨k+1,_,by omega,by go_num,r1,r2,r3⟩
    case measure=>simp[intOf];omega
  . clear ho hx hb
    go_wp2;go_ret;obtain rfl:k=n:=(by omega);refine⟨by rw[hB];rfl,?_,by rw[hB];exact HB.u⟩;rw[hB,show is k f=xs from(q9o (by have:=HO.u.1;omega) HX.u).symm];exact Blk.of_owns HO.u
def minusN (s t:Nat):Nat:=s &&& (4294967295 - t)
def commonN (s t:Nat):Nat:=minusN s (minusN s t)
theorem or_lt {s t:Nat}(hs:s<4294967296)(ht:t<4294967296):s ||| t<4294967296:=Nat.or_lt_two_pow (n:=32) hs ht
theorem qdg {s t:Nat}(hs:s<4294967296):minusN s t<4294967296:=Nat.lt_of_le_of_lt Nat.and_le_left hs
theorem q89 {s t:Nat}(hs:s<4294967296):commonN s t<4294967296:=qdg hs
theorem two_lt {a:Nat}(ha:a<32):2 ^ a<4294967296:=Nat.pow_lt_pow_right (by decide) ha
theorem bit_lt {s i:Nat}(hs:s<4294967296)(h:s.testBit i=true):i<32:=by
 apply V9
 intro hi
 have:s.testBit i=false:=Nat.testBit_lt_two_pow (Ys hs (by
  have:2 ^ 32<=2 ^ i:=Vp (by omega) hi;simpa using this))
 exact Vc (this.symm.trans h)
theorem q9r {s t:Nat}(hs:s<4294967296)(ht:t<4294967296)(i:Nat):(minusN s t).testBit i=(s.testBit i&&!t.testBit i):=by
 unfold minusN
 rw[Nat.testBit_and,show 4294967295 - t=2 ^ 32 - (t+1) by omega,Nat.testBit_two_pow_sub_succ (by omega)]
 cases h:s.testBit i
 . simp
 . simp[bit_lt hs h]
theorem q5h {s t:Nat}(hs:s<4294967296)(ht:t<4294967296)(i:Nat):(commonN s t).testBit i=(s.testBit i&&t.testBit i):=by
 unfold commonN
 rw[q9r hs (qdg hs),q9r hs ht]
 cases s.testBit i <;> cases t.testBit i <;> rfl
theorem q26 (n:Int)(h0:0<=n)(h1:n<4294967296):IntKind.u32.wrap n=n:=by
 simp[IntKind.wrap,IntKind.bits,IntKind.signed]
 omega
theorem u32_or (s t:Nat)(hs:s<4294967296)(ht:t<4294967296):bits .or .u32 (s:Int) (t:Int)=((s ||| t:Nat):Int):=by
 show IntKind.u32.wrap ((BitVec.ofInt 32 (s:Int) ||| BitVec.ofInt 32 (t:Int)).toNat:Int)=_
 rw[BitVec.toNat_or,ofInt_u32 s hs,ofInt_u32 t ht]
 exact q26 _ (by omega) (by have:=or_lt hs ht;omega)
theorem qb2 (s t:Nat)(hs:s<4294967296)(ht:t<4294967296):bits .andNot .u32 (s:Int) (t:Int)=((minusN s t:Nat):Int):=by
 show IntKind.u32.wrap ((BitVec.ofInt 32 (s:Int) &&& ~~~BitVec.ofInt 32 (t:Int)).toNat:Int)=_
 rw[BitVec.toNat_and,BitVec.toNat_not,ofInt_u32 s hs,ofInt_u32 t ht,show 2 ^ 32 - 1 - t=4294967295 - t by omega]
 exact q26 _ (by omega) (by have:=qdg (t:=t) hs;unfold minusN at this;omega)
theorem qob (s t:Nat)(hs:s<4294967296)(ht:t<4294967296):bits .and .u32 (s:Int) (t:Int)=((s &&& t:Nat):Int):=by
 show IntKind.u32.wrap ((BitVec.ofInt 32 (s:Int) &&& BitVec.ofInt 32 (t:Int)).toNat:Int)=_
 rw[BitVec.toNat_and,ofInt_u32 s hs,ofInt_u32 t ht]
 exact q26 _ (by omega) (by have:s &&& t<=s:=Nat.and_le_left;omega)
theorem qf4 (s t:Nat)(w:World)(hs:s<4294967296)(ht:t<4294967296) :
 Calls Tryz.prog 187 #[.agg #[.int .u32 s],.agg #[.int .u32 t]] w fun e w'=>e=.returned (.agg (#[.int .u32 ((s ||| t:Nat):Int)]))/\w'=((w.alloc (.cells #[.int .u32 (s:Int)] 216)).alloc (.cells #[.int .u32 (t:Int)] 216)).alloc (.cells (#[.int .u32 ((s ||| t:Nat):Int)]) 216):=by
 have h:=u32_or s t hs ht
 go_enter Tryz.func187,Tryz.ntmps187
 go_wp2
 refine bodyPost_ret (v:=.agg (#[.int .u32 ((s ||| t:Nat):Int)])) (by simp[results,Tryz.results187,go_sem]) rfl ⟨rfl,rfl⟩
theorem qdh (s t:Nat)(w:World)(hs:s<4294967296)(ht:t<4294967296) :
 Calls Tryz.prog 228 #[.agg #[.int .u32 s],.agg #[.int .u32 t]] w fun e w'=>e=.returned (.agg (#[.int .u32 ((minusN s t:Nat):Int)]))/\w'=((w.alloc (.cells #[.int .u32 (s:Int)] 216)).alloc (.cells #[.int .u32 (t:Int)] 216)).alloc (.cells (#[.int .u32 ((minusN s t:Nat):Int)]) 216):=by
 have h:=qb2 s t hs ht
 go_enter Tryz.func228,Tryz.ntmps228
 go_wp2
 refine bodyPost_ret (v:=.agg (#[.int .u32 ((minusN s t:Nat):Int)])) (by simp[results,Tryz.results228,go_sem]) rfl ⟨rfl,rfl⟩
theorem qn7 {a:Nat}(ha:a<32):(2:Int) ^ a % 4294967296=((2 ^ a:Nat):Int):=by
 rw[show(2:Int) ^ a=((2 ^ a:Nat):Int) by simp,show(4294967296:Int)=((4294967296:Nat):Int) from rfl,<- Int.natCast_emod,Z2 (two_lt ha)]
theorem qmq (a:Nat)(w:World)(hs:a<32) :
 Calls Tryz.prog 188 #[J6 a] w fun e w'=>e=.returned (.agg (#[.int .u32 ((2 ^ a:Nat):Int)]))/\w'=w.alloc (.cells (#[.int .u32 ((2 ^ a:Nat):Int)]) 216):=by
 have hp:=qn7 hs
 go_enter Tryz.func188,Tryz.ntmps188
 go_wp2
 refine bodyPost_ret (v:=.agg (#[.int .u32 ((2 ^ a:Nat):Int)])) (by simp[results,Tryz.results188,go_sem]) rfl ⟨rfl,by simp⟩
theorem ql7 (s a:Nat)(w:World)(hs:s<4294967296)(ht:a<32) :
 Calls Tryz.prog 227 #[.agg #[.int .u32 s],J6 a] w fun e w'=>e=.returned (.bool (s.testBit a))/\w'=w.alloc (.cells #[.int .u32 (s:Int)] 216):=by
 have e:(bits .and .u32 ((s:Int) / 2 ^ a) 1==1)=s.testBit a:=by
  rw[show(s:Int) / 2 ^ a=((s / 2 ^ a:Nat):Int) by simp,show(1:Int)=((1:Nat):Int) from rfl,qob _ 1 (Nat.lt_of_le_of_lt (Nat.div_le_self _ _) hs) (by decide)];rw[Nat.and_one_is_mod,Nat.testBit_eq_decide_div_mod_eq];generalize s / 2 ^ a=q;rw[Zk];simp;omega
 have E:=h_ e;clear e
 go_enter Tryz.func227,Tryz.ntmps227
 go_wp2
 go_ret
 exact⟨qia E.u,rfl⟩
theorem qgq:(Tryz.prog.info? 214).map (fun i=>(i.zero,i.size,i.bytes))=some (some (.int .u32 0),1,4):=by kernel_rfl
theorem qbq:Tryz.prog.cellsOf 214=1:=by kernel_rfl
theorem eq_set (d:Nat)(a b:Int)(w:World):(Op.equalIn (d+2) 216 (.agg #[.int .u32 a]) (.agg #[.int .u32 b])).run Tryz.prog w=.ok (a==b) w:=by
 obtain⟨i0,hi,-⟩:=info_parts qgq
 rw[run_equalIn_array w (d+1) _ _ Tryz.underlying216 hi,qbq]
 simp[Op.eqItems,part,show List.range 1=[0] from rfl,run_equalIn_int w d 214 .u32 .u32 a b Tryz.underlying214]
 cases h:a==b <;> simp_all
theorem qc9 (s:Nat)(w:World) :
 Calls Tryz.prog 229 #[.agg #[.int .u32 s]] w fun e w'=>e=.returned (.bool (s==0))/\w'=w.alloc (.cells #[.int .u32 (s:Int)] 216):=by
 have he:=fun (a b:Int) w=>eq_set 9998 a b w
 have e0:((s:Int)==0)=(s==0):=by rw[Zk];simp
 go_enter Tryz.func229,Tryz.ntmps229
 go_wp2
 go_ret
 exact⟨rfl,rfl⟩
theorem q8a (s t:Nat)(w:World)(hs:s<4294967296)(ht:t<4294967296) :
 Calls Tryz.prog 226 #[.agg #[.int .u32 s],.agg #[.int .u32 t]] w fun e w'=>e=.returned (.agg (#[.int .u32 ((commonN s t:Nat):Int)]))/\Below w.heap.size w w':=by
 go_enter Tryz.func226,Tryz.ntmps226
 go_wp2_with fail
 go_region_held3 (fun w'=>w'.cell? ⟨w.heap.size,0,none⟩=some (.int .u32 (s:Int))/\w'.cell? ⟨w.heap.size+1,0,none⟩=some (.int .u32 (t:Int))) (simp[go_sem,World.cell?_alloc_past]) (first | (go_at_call 228;refine(qdh _ _ _ (by first | assumption | exact qdg hs) (by first | assumption | exact qdg hs)).mono ?_;rintro e w' ⟨rfl,rfl⟩))
 go_wp2
 refine bodyPost_ret (v:=.agg (#[.int .u32 ((commonN s t:Nat):Int)])) (by simp[results,Tryz.results226,go_sem,commonN]) rfl ⟨rfl,?_⟩
 refine Below.drew ?_
 iterate 9 refine Below.alloc ?_ (by simp <;> omega) _
 exact bR _ _
theorem qjs:∀n,n<33->((2:Int) ^ n - 1) % 4294967296=((2 ^ n - 1:Nat):Int):=by decide +kernel
theorem qjq (n:Nat)(w:World)(hs:n<=32) :
 Calls Tryz.prog 184 #[J6 n] w fun e w'=>e=.returned (.agg (#[.int .u32 ((2 ^ n - 1:Nat):Int)]))/\Below w.heap.size w w':=by
 have E:=h_ (qjs n (by omega))
 go_enter Tryz.func184,Tryz.ntmps184
 go_wp2
 refine bodyPost_ret (v:=.agg (#[.int .u32 ((2 ^ n - 1:Nat):Int)])) (by simp[results,Tryz.results184,go_sem];rw[E.u]) rfl ⟨rfl,?_⟩
 exact(bR _ w).alloc (nR _) _
def Tab (w:World):Prop:=∀j,j<32->w.cell? ⟨5,j,none⟩=some (.int .u8 ((Lib.deBruijn32tab.getD j 0:Nat):Int))
theorem Tab.pos {w:World}(h:Tab w):5<w.heap.size:=by
 apply V9;intro h0
 have:=h 0 (by decide)
 simp only[World.cell?]at this
 rw[Ob (by simpa using h0)]at this;cases this
theorem Tab.mono {w w':World}(h:Tab w)(hb:Below w.heap.size w w'):Tab w':=fun j hj=>(hb.cell (p:=⟨5,j,none⟩) h.pos).trans (h j hj)
theorem qmo (s:Nat)(hs:s<4294967296)(h0:s≠0):bits .and .u32 (s:Int) (-(s:Int) % 4294967296)=((2 ^ Lib.ctz 32 s:Nat):Int):=by
 rw[show -(s:Int) % 4294967296=((2 ^ 32 - s:Nat):Int) by omega,qob s _ hs (by omega),(Lib.lowest_bit 32 s h0 hs).1]
theorem tz_any (s:Nat)(w:World)(hs:s<4294967296)(h0:s≠0)(ht:Tab w) :
 Calls Tryz.prog 259 #[.int .u32 s] w fun e w'=>e=.returned (J6 (Lib.ctz 32 s))/\w'=w:=by
 have hk:=(Lib.lowest_bit 32 s h0 hs).2
 obtain⟨j1,j2⟩:=Lib.deBruijn32_at _ hk
 have e1:=qmo s hs h0
 have hc:=ht _ j1
 rw[j2]at hc
 obtain⟨k,hk'⟩:=Nq (Lib.ctz 32 s)
 obtain⟨p,hp⟩:=Nq (2 ^ Lib.ctz 32 s)
 obtain⟨j,hj⟩:=Nq (2 ^ Lib.ctz 32 s*125613361 % 4294967296 / 134217728)
 have e2:(p:Int)*125613361 % 4294967296 / 134217728=(j:Int):=by rw[<- hj,hp];omega
 rw[hj]at hc j1;rw[hp]at e1;rw[hk']at hc hk⊢
 have hz:((s:Int)==0)=false:=by simp;omega
 clear hj hp hk' j2 ht h0
 go_enter Tryz.func259,Tryz.ntmps259
 go_wp2
 go_ret
 exact⟨rfl,rfl⟩
theorem q9q (s:Nat)(w:World)(hs:s<4294967296)(h0:s≠0)(ht:Tab w) :
 Calls Tryz.prog 231 #[.agg #[.int .u32 s]] w fun e w'=>e=.returned (J6 (Lib.ctz 32 s))/\w'=w.alloc (.cells #[.int .u32 (s:Int)] 216):=by
 have hT:∀o,Tab (w.alloc o):=fun o=>ht.mono ((bR _ w).alloc (nR _) o)
 have HT:=h_ hT;have H0:=h_ h0;clear hT ht h0
 go_enter Tryz.func231,Tryz.ntmps231
 go_wp2_with (go_at_call 259;refine(tz_any _ _ hs H0.u (HT.u _)).mono ?_;rintro e w' ⟨rfl,rfl⟩)
 go_ret
 exact⟨rfl,rfl⟩
def us (g:Nat->Nat):List Value:=(List.range 32).map fun k=>.int .u32 (g k:Int)
theorem qf6 (g:Nat->Nat):(us g).length=32:=by simp[us]
theorem us_get (g:Nat->Nat){k:Nat}(h:k<32):(us g)[k]? = some (.int .u32 (g k:Int)):=by simp[us,h]
theorem us_set (g:Nat->Nat){k:Nat}(v:Nat)(h:k<32):(us g).set k (.int .u32 (v:Int))=us (fun j=>if j=k then v else g j):=by
 apply List.ext_getElem?
 intro j
 by_cases hj:j<32
 . rw[us_get _ hj]
   by_cases e:j=k
   . subst e;rw[Ov (by rw[qf6];exact h)];simp
   . rw[O8 (fun h=>e h.symm),us_get _ hj];simp[e]
 . rw[Vb (by simp[qf6];omega),Vb (by rw[qf6];omega)]
theorem us_one (g:Nat->Nat):(us g).toArray.all (·.oneCell')=true:=by
 rw[Array.all_eq_true_iff_forall_mem]
 intro v hv
 simp only[us,List.mem_toArray,Y3]at hv
 obtain⟨k,-,rfl⟩:=hv
 rfl
theorem qef:(Tryz.prog.info? 218).map (·.size)=some 32:=by kernel_rfl
theorem qnr (g:Nat->Nat):(Tryz.prog.info? 218).map (·.size)=some (us g).toArray.size:=by rw[qef];simp[us]
section
variable {ops:Array Oper} {rest:List Oper} {o:Oper} {a:Act} {w:World} {Q:Exit->Act->World->Prop}
theorem q0u (hgd:o.guard=none)(x:Operand)(ho:o.op=.load 218 x)(b:Nat)(g:Nat->Nat)(hx:a.eval x=J9 b 0)(hb:Blk w b 218 (us g))
 (h:wpList Tryz.prog ops Q rest (a.put o.dst (.agg (us g).toArray)) w):wpList Tryz.prog ops Q (o :: rest) a w :=
 wpList_load_row hgd 218 x ho b hx 218 (us g).toArray (0,0) _ hb Tryz.underlying218 rfl (qnr g) h
theorem q0k (hgd:o.guard=none)(x y:Operand)(ho:o.op=.store 218 x y)(b:Nat)(g g':Nat->Nat)(hx:a.eval x=J9 b 0)(hy:a.eval y=.agg (us g').toArray)(hb:Blk w b 218 (us g))
 (h:∀w',Blk w' b 218 (us g')->w.grownBy w' (some b)->w'.heap.size=w.heap.size->wpList Tryz.prog ops Q rest (a.put o.dst undef) w'):wpList Tryz.prog ops Q (o :: rest) a w :=
 wpList_plain hgd fun _ hK=>wp_store_row 218 x y ho b (us g').toArray hx hy _ _ hb (qnr g') (by simp[us]) (us_one g')
  (hK _ _ (h _ (setRow_heap w b _ _ _ _ hb) ⟨rfl,rfl,rfl,by simp,fun k _ hk=>setRow_other w b k _ (fun e=>hk (by rw[e]))⟩ (by simp)))
end
theorem idx_lt {n x y:Nat}(hx:x<n)(hy:y<n):x*n+y<n*n:=by
 have:(x+1)*n<=n*n:=Vd _ hx
 rw[Zx]at this;omega
theorem sq_le {n:Nat}(hn:n<=32):n*n<=1024:=Nat.mul_le_mul hn hn
theorem qd5 (a:Option Addr)(m c n x y:Nat)(f:Nat->Bool)(w:World)(hm:n*n<=m)(hx:x<n)(hy:y<n)(hn:n<=32)(ha:Bools w a m f) :
 Calls Tryz.prog 103 #[.slice a m c,J6 n,J6 x,J6 y] w fun e w'=>e=.returned (.bool (f (x*n+y)))/\w'=w:=by
 have h1:=idx_lt hx hy
 have h2:=sq_le hn
 obtain⟨b,o,rfl,-,hc⟩:=ha (x*n+y) (by omega)
 have h3:0<=(x:Int)*n:=by rw[<- Zd];omega
 have h4:(x:Int)*n+y<m:=by rw[<- Zd];omega
 have h5:(x:Int)*n<=1024:=by rw[<- Zd];omega
 clear ha h1 h2 hm
 go_enter Tryz.func103,Tryz.ntmps103
 go_wp2
 go_ret
 exact⟨rfl,rfl⟩
def isJoinP (f:Nat->Bool)(n a b c:Nat):Prop:=f (a*n+c)=true/\f (b*n+c)=true/\∀d,d<n->f (a*n+d)=true->f (b*n+d)=true->f (c*n+d)=true
def isJoin (f:Nat->Bool)(n a b c:Nat):Bool:=f (a*n+c)&&f (b*n+c)&&(List.range n).all fun d=>!f (a*n+d)||!f (b*n+d)||f (c*n+d)
theorem q8y {f:Nat->Bool}{n a b c:Nat}:isJoin f n a b c=true ↔ isJoinP f n a b c:=by
 simp only[isJoin,isJoinP,Yf,Yu,Y9,Zj,Bool.not_eq_true',and_assoc]
 refine and_congr_right fun _=>and_congr_right fun _=>forall_congr' fun d=>imp_congr_right fun _=>?_
 cases f (a*n+d) <;> cases f (b*n+d) <;> cases f (c*n+d) <;> simp
theorem q61 {f:Nat->Bool}{n a b c:Nat}(h:isJoinP f n a b c):isJoin f n a b c=true:=q8y.2 h
theorem q3y {f:Nat->Bool}{n a b c:Nat}(h:¬ isJoinP f n a b c):isJoin f n a b c=false:=by
 cases e:isJoin f n a b c
 . rfl
 . exact absurd (q8y.1 e) h
theorem q42 (t:Option Addr)(m cap n a b c:Nat)(f:Nat->Bool)(w:World)(hm:n*n<=m)(hn:n<=32)(ha:a<n)(hb:b<n)(hc:c<n)(ht:Bools w t m f) :
 Calls Tryz.prog 136 #[.slice t m cap,J6 n,J6 a,J6 b,J6 c] w fun e w'=>e=.returned (.bool (isJoin f n a b c))/\w'=w:=by
 have HM:=h_ hm;clear hm
 cases h1:f (a*n+c)
 . have HR:Hi (isJoin f n a b c=false):=q3y fun h=>Vc (h1.symm.trans h.1)
   go_enter Tryz.func136,Tryz.ntmps136;go_wp2_with (go_at_call 103;refine(qd5 _ _ _ _ _ _ f _ HM.u (by assumption) (by assumption) hn ht).mono ?_;rintro e w' ⟨rfl,rfl⟩);go_ret;exact⟨qia HR.u.symm,rfl⟩
 cases h2:f (b*n+c)
 . have HR:Hi (isJoin f n a b c=false):=q3y fun h=>Vc (h2.symm.trans h.2.1)
   go_enter Tryz.func136,Tryz.ntmps136;go_wp2_with (go_at_call 103;refine(qd5 _ _ _ _ _ _ f _ HM.u (by assumption) (by assumption) hn ht).mono ?_;rintro e w' ⟨rfl,rfl⟩);go_ret;exact⟨qia HR.u.symm,rfl⟩
 go_enter Tryz.func136,Tryz.ntmps136
 go_wp2_with (go_at_call 103;refine(qd5 _ _ _ _ _ _ f _ HM.u (by assumption) (by assumption) hn ht).mono ?_;rintro e w' ⟨rfl,rfl⟩)
 go_loop [11] (fun i=>∃k:Nat,k<=n/\i=J6 k/\∀d,d<k->f (a*n+d)=true->f (b*n+d)=true->f (c*n+d)=true) (fun i=>n - (intOf i).toNat)
 case atStart=>exact⟨0,nZ _,rfl,fun d h=>absurd h (nL _)⟩
 case round =>
  obtain⟨k,hk,rfl,hall⟩:=hrel;have HA:=h_ hall;clear hall;by_cases hlt:k<n
  . by_cases hbad:f (a*n+k)=true/\f (b*n+k)=true/\f (c*n+k)=false
    . obtain⟨h3,h4,h5⟩:=hbad
      have HR:Hi (isJoin f n a b c=false):=q3y fun h=>Vc (h5.symm.trans (h.2.2 k hlt h3 h4));go_wp2_with (go_at_call 103;refine(qd5 _ _ _ _ _ _ f _ HM.u (by assumption) (by assumption) hn ht).mono ?_;rintro e w' ⟨rfl,rfl⟩);go_ret;exact⟨qia HR.u.symm,rfl⟩
    . have HG:Hi (f (a*n+k)=true->f (b*n+k)=true->f (c*n+k)=true):=fun h3 h4=>by
       cases h5:f (c*n+k)
       . exact absurd ⟨h3,h4,h5⟩ hbad
       . rfl
      have HS:Hi (∀d,d<k+1->f (a*n+d)=true->f (b*n+d)=true->f (c*n+d)=true):=fun d hd=>by
       by_cases e:d=k
       . rw[e];exact HG.u
       . exact HA.u d (by omega)
      have hcs:f (a*n+k)=false∨(f (a*n+k)=true/\f (b*n+k)=false)∨(f (a*n+k)=true/\f (b*n+k)=true/\f (c*n+k)=true):=by
       cases h3:f (a*n+k)
       . exact .inl rfl
       . cases h4:f (b*n+k)
         . exact .inr (.inl ⟨rfl,rfl⟩)
         . exact .inr (.inr ⟨rfl,rfl,HG.u h3 h4⟩)
      clear hbad;rcases hcs with h3 | ⟨h3,h4⟩ | ⟨h3,h4,h5⟩
      all_goals
       go_wp2_with (go_at_call 103;refine(qd5 _ _ _ _ _ _ f _ HM.u (by assumption) (by assumption) hn ht).mono ?_;rintro e w' ⟨rfl,rfl⟩)
       go_round
       case rel=>exact⟨k+1,by omega,by go_num,HS.u⟩
       case measure=>simp[intOf];omega
  . have HR:Hi (isJoin f n a b c=true):=q61 ⟨h1,h2,fun d hd=>HA.u d (by omega)⟩
    go_wp2;go_ret;exact⟨qia HR.u.symm,rfl⟩
def isMeetP (f:Nat->Bool)(n a b c:Nat):Prop:=f (c*n+a)=true/\f (c*n+b)=true/\∀d,d<n->f (d*n+a)=true->f (d*n+b)=true->f (d*n+c)=true
def isMeet (f:Nat->Bool)(n a b c:Nat):Bool:=f (c*n+a)&&f (c*n+b)&&(List.range n).all fun d=>!f (d*n+a)||!f (d*n+b)||f (d*n+c)
theorem q91 {f:Nat->Bool}{n a b c:Nat}:isMeet f n a b c=true ↔ isMeetP f n a b c:=by
 simp only[isMeet,isMeetP,Yf,Yu,Y9,Zj,Bool.not_eq_true',and_assoc]
 refine and_congr_right fun _=>and_congr_right fun _=>forall_congr' fun d=>imp_congr_right fun _=>?_
 cases f (d*n+a) <;> cases f (d*n+b) <;> cases f (d*n+c) <;> simp
theorem q63 {f:Nat->Bool}{n a b c:Nat}(h:isMeetP f n a b c):isMeet f n a b c=true:=q91.2 h
theorem q40 {f:Nat->Bool}{n a b c:Nat}(h:¬ isMeetP f n a b c):isMeet f n a b c=false:=by
 cases e:isMeet f n a b c
 . rfl
 . exact absurd (q91.1 e) h
theorem q43 (t:Option Addr)(m cap n a b c:Nat)(f:Nat->Bool)(w:World)(hm:n*n<=m)(hn:n<=32)(ha:a<n)(hb:b<n)(hc:c<n)(ht:Bools w t m f) :
 Calls Tryz.prog 137 #[.slice t m cap,J6 n,J6 a,J6 b,J6 c] w fun e w'=>e=.returned (.bool (isMeet f n a b c))/\w'=w:=by
 have HM:=h_ hm;clear hm
 cases h1:f (c*n+a)
 . have HR:Hi (isMeet f n a b c=false):=q40 fun h=>Vc (h1.symm.trans h.1)
   go_enter Tryz.func137,Tryz.ntmps137;go_wp2_with (go_at_call 103;refine(qd5 _ _ _ _ _ _ f _ HM.u (by assumption) (by assumption) hn ht).mono ?_;rintro e w' ⟨rfl,rfl⟩);go_ret;exact⟨qia HR.u.symm,rfl⟩
 cases h2:f (c*n+b)
 . have HR:Hi (isMeet f n a b c=false):=q40 fun h=>Vc (h2.symm.trans h.2.1)
   go_enter Tryz.func137,Tryz.ntmps137;go_wp2_with (go_at_call 103;refine(qd5 _ _ _ _ _ _ f _ HM.u (by assumption) (by assumption) hn ht).mono ?_;rintro e w' ⟨rfl,rfl⟩);go_ret;exact⟨qia HR.u.symm,rfl⟩
 go_enter Tryz.func137,Tryz.ntmps137
 go_wp2_with (go_at_call 103;refine(qd5 _ _ _ _ _ _ f _ HM.u (by assumption) (by assumption) hn ht).mono ?_;rintro e w' ⟨rfl,rfl⟩)
 go_loop [11] (fun i=>∃k:Nat,k<=n/\i=J6 k/\∀d,d<k->f (d*n+a)=true->f (d*n+b)=true->f (d*n+c)=true) (fun i=>n - (intOf i).toNat)
 case atStart=>exact⟨0,nZ _,rfl,fun d h=>absurd h (nL _)⟩
 case round =>
  obtain⟨k,hk,rfl,hall⟩:=hrel;have HA:=h_ hall;clear hall;by_cases hlt:k<n
  . by_cases hbad:f (k*n+a)=true/\f (k*n+b)=true/\f (k*n+c)=false
    . obtain⟨h3,h4,h5⟩:=hbad
      have HR:Hi (isMeet f n a b c=false):=q40 fun h=>Vc (h5.symm.trans (h.2.2 k hlt h3 h4));go_wp2_with (go_at_call 103;refine(qd5 _ _ _ _ _ _ f _ HM.u (by assumption) (by assumption) hn ht).mono ?_;rintro e w' ⟨rfl,rfl⟩);go_ret;exact⟨qia HR.u.symm,rfl⟩
    . have HG:Hi (f (k*n+a)=true->f (k*n+b)=true->f (k*n+c)=true):=fun h3 h4=>by
       cases h5:f (k*n+c)
       . exact absurd ⟨h3,h4,h5⟩ hbad
       . rfl
      have HS:Hi (∀d,d<k+1->f (d*n+a)=true->f (d*n+b)=true->f (d*n+c)=true):=fun d hd=>by
       by_cases e:d=k
       . rw[e];exact HG.u
       . exact HA.u d (by omega)
      have hcs:f (k*n+a)=false∨(f (k*n+a)=true/\f (k*n+b)=false)∨(f (k*n+a)=true/\f (k*n+b)=true/\f (k*n+c)=true):=by
       cases h3:f (k*n+a)
       . exact .inl rfl
       . cases h4:f (k*n+b)
         . exact .inr (.inl ⟨rfl,rfl⟩)
         . exact .inr (.inr ⟨rfl,rfl,HG.u h3 h4⟩)
      clear hbad;rcases hcs with h3 | ⟨h3,h4⟩ | ⟨h3,h4,h5⟩
      all_goals
       go_wp2_with (go_at_call 103;refine(qd5 _ _ _ _ _ _ f _ HM.u (by assumption) (by assumption) hn ht).mono ?_;rintro e w' ⟨rfl,rfl⟩)
       go_round
       case rel=>exact⟨k+1,by omega,by go_num,HS.u⟩
       case measure=>simp[intOf];omega
  . have HR:Hi (isMeet f n a b c=true):=q63 ⟨h1,h2,fun d hd=>HA.u d (by omega)⟩
    go_wp2;go_ret;exact⟨qia HR.u.symm,rfl⟩
theorem blk1 (w:World)(o2 o3:Obj)(c:Array Value)(t:TypeId):Blk (((w.alloc (.cells c t)).alloc o2).alloc o3) w.heap.size t c.toList:=((Blk.new w t c).alloc o2).alloc o3
theorem blk3 (w:World)(o1 o2:Obj)(c:Array Value)(g:Nat->Nat)(h:c.toList=us g):Blk (((w.alloc o1).alloc o2).alloc (.cells c 218)) (w.heap.size+1+1) 218 (us g):=by
 rw[<- h];simpa using Blk.new ((w.alloc o1).alloc o2) 218 c
theorem blk2 (w:World)(o1 o3:Obj)(c:Array Value)(g:Nat->Nat)(h:c.toList=us g):Blk (((w.alloc o1).alloc (.cells c 218)).alloc o3) (w.heap.size+1) 218 (us g):=by
 rw[<- h];simpa using (Blk.new (w.alloc o1) 218 c).alloc o3
theorem below3 (w:World)(o1 o2 o3:Obj):Below w.heap.size w (((w.alloc o1).alloc o2).alloc o3):=(((bR _ w).alloc (nR _) o1).alloc (by simp) o2).alloc (by simp;omega) o3
def IsRel (g:Nat->Nat)(R:Nat->Nat->Bool):Prop:=∀a,a<32->g a<4294967296/\∀b,(g a).testBit b=R a b
theorem qn6 (b i:Nat):(2 ^ b).testBit i=decide (b=i):=by rw[Z8]
theorem IsRel.add {g:Nat->Nat}{R:Nat->Nat->Bool}(h:IsRel g R){x y:Nat}(hx:x<32)(hy:y<32) :
 IsRel (fun j=>if j=x then g x ||| 2 ^ y else g j) (fun a b=>R a b||(decide (a=x)&&decide (b=y))):=fun a ha=>by
 by_cases e:a=x
 . subst e
   simp only[if_true];refine⟨or_lt (h a ha).1 (two_lt hy),fun b=>?_⟩;rw[Oy,(h a ha).2 b,qn6];cases R a b <;> simp[eq_comm]
 . simp only[Yn e]
   refine⟨(h a ha).1,fun b=>?_⟩;rw[(h a ha).2 b];simp[e]
theorem IsRel.congr {g:Nat->Nat}{R R':Nat->Nat->Bool}(h:IsRel g R)(hR:∀a b,a<32->R a b=R' a b):IsRel g R':=fun a ha=>⟨(h a ha).1,fun b=>((h a ha).2 b).trans (hR a b ha)⟩
def part (f:Nat->Bool)(n i:Nat):Nat->Nat->Bool:=fun a b=>decide (b<n)&&decide (a*n+b<i)&&f (a*n+b)
end Go.Proofs.YtgojgjlninakjaaGreatDoor
namespace Go.Proofs.YtgojgjlninakjaaGreatDoor
open Go Go.RowKit Go.Shelf
def Loc {β:Type}(B:Nat)(J:β->World->Prop):Prop:=∀s W W',J s W->Below B W W'->J s W'
structure KeepX (X:Nat->Prop)(W W':World):Prop where
 size:W.heap.size<=W'.heap.size
 same:∀k cs t fr,¬ X k->W.heap[k]? = some (.cells cs t fr)->W'.heap[k]? = some (.cells cs t fr)
theorem KeepX.refl (X:Nat->Prop)(W:World):KeepX X W W:=⟨nR _,fun _ _ _ _ _ h=>h⟩
theorem KeepX.trans {X:Nat->Prop}{A B C:World}(h:KeepX X A B)(k:KeepX X B C):KeepX X A C:=⟨Zf h.size k.size,fun i cs t fr hx hi=>k.same i cs t fr hx (h.same i cs t fr hx hi)⟩
theorem KeepX.put {X:Nat->Prop}{W:World}{l:Nat}{o o':Obj}(hl:W.heap[l]? = some o)(ho:o.isCells=false):KeepX X W (W.putObj l o') :=
 ⟨by simp,fun k cs t fr _ hk=>by
  by_cases e:k=l
  . subst e;rw[hl]at hk;cases hk;simp[Obj.isCells]at ho
  . exact(World.putObj_heap_other e).trans hk⟩
theorem KeepX.of_below {X:Nat->Prop}{W W':World}(h:Below W.heap.size W W'):KeepX X W W' :=
 ⟨h.size,fun k _ _ _ _ hk=>(h.block k (Yr.1 hk).1).trans hk⟩
theorem KeepX.set {X:Nat->Prop}{W:World}{a:Addr}(v:Value)(hx:X a.block):KeepX X W (W.setCell a v) :=
 ⟨by simp,fun k _ _ _ hk h=>(heap_setCell_other W a k v (fun e=>hk (e ▸ hx))).trans h⟩
theorem KeepX.blk {X:Nat->Prop}{W W':World}{g:Nat}{t:TypeId}{cs:List Value}(h:KeepX X W W')(hb:Blk W g t cs)(hg:¬ X g):Blk W' g t cs:=h.same g _ t _ hg hb
theorem keepsO {W W':World}(h:Below W.heap.size W W'):KeepsOthers W W':=⟨h.size,fun k _ hk _=>(h.block k (Yr.1 hk).1).trans hk⟩
theorem Blk.put {W:World}{g:Nat}{t:TypeId}{cs:List Value}(h:Blk W g t cs){l:Nat}{o:Obj}(o':Obj)(hl:W.heap[l]? = some o)(ho:o.isCells=false):Blk (W.putObj l o') g t cs:=(KeepX.put (X:=fun _=>False) hl ho).same g _ t _ (fun h=>h) h
def Gives (P:Program)(gf:Nat)(lb:Array Value)(T:Nat->Prop)(S Sp:List Nat->Prop)(X:Nat->Prop)(w0:World):Prop :=
 ∀(n l:Nat) (J Jx:List Nat->World->Prop) (W:World),Below w0.heap.size w0 W->Loc W.heap.size J->Loc W.heap.size Jx->(∀k,X k->k<W.heap.size) ->
  (∀(m:Nat) (pre:List Nat) (x:Nat) (W1:World),J pre W1->T x->YieldAt Fence.wide m P l #[J6 (x:Int)] W1 fun e W' =>
   (e=.returned (.bool true)/\J (pre++[x]) W'/\KeepX X W1 W')∨(e=.returned (.bool false)/\Jx (pre++[x]) W')) ->
  J [] W ->
  CallsIn Fence.wide n P gf (#[.func (.yield l) #[] #[]]++lb) W fun e W'=>(∃v,e=.returned v)/\((∃xs,S xs/\J xs W')∨(∃pre,Sp pre/\Jx pre W'))
theorem noDepth {n:Nat}:Fence.wide.depth.isSome=true->1<=n:=fun h=>by simp[Fence.wide]at h
theorem callW {P:Program}{f:FuncId}{args:Array Value}{w:World}{R:Ending->World->Prop}{n:Nat}(h:Calls P f args w R):Fence.wide.fn f/\(Fence.wide.depth.isSome=true->1<=n)/\CallsIn Fence.wide (n - 1) P f args w R :=
 ⟨trivial,noDepth,callsIn_wide.2 h⟩
theorem callR {P:Program}{f:FuncId}{args:Array Value}{w:World}{R:Ending->World->Prop}{n l:Nat}(h:Calls P f args w R):(Fence.wide.inRound l).fn f/\((Fence.wide.inRound l).depth.isSome=true->1<=n)/\CallsIn (Fence.wide.inRound l) (n - 1) P f args w R :=
 ⟨trivial,noDepth,CallsIn.inRound l (callsIn_wide.2 h)⟩
def bodyEnd (X:Nat->Prop)(I Ix:List Nat->World->Prop)(xs:List Nat)(W:World):Exit->Act->World->Prop
 | .normal,_,W'=>KeepsOthers W W'/\KeepX X W W'/\I xs W'
 | .ret,_,W'=>KeepsOthers W W'/\Ix xs W'
 | _,_,_=>False
theorem qbh {B:Nat}(W:World)(l:Nat)(o:Obj)(h:B<=l):Below B W (W.putObj l o) :=
 ⟨rfl,rfl,rfl,by simp,fun _ hk=>World.putObj_heap_other (by omega)⟩
theorem qe2 {P:Program}{g:Operand}{ps:Array Tmp}{assign body:Code}{Q:Exit->Act->World->Prop}{a:Act}{w:World}{n:Nat}{gf:Nat}{lb:Array Value}
 (hg:a.eval g=.func (.func gf) #[] lb) (eg:∀args w,(callFunc gf args).run P w=.ok (.enter gf args) w)
 {T:Nat->Prop} {S Sp:List Nat->Prop} {X:Nat->Prop} {w0:World} (hseq:Gives P gf lb T S Sp X w0) (hb0:Below w0.heap.size w0 w) (hX:∀k,X k->k<w.heap.size) (hps:ps.size=1)
 (I Ix:List Nat->World->Prop) (hI:Loc w.heap.size I) (hIx:Loc w.heap.size Ix) (h0:I [] w) (a₁:Nat->Act)
 (hassign:∀(m l x:Nat) (W:World) (K:Act->World->Prop),K (a₁ x) W ->
  assign.wpIn (Fence.wide.inRound l) m P (Exit.then K (fun _ _ _=>False)) { tmps:=(ps.zip #[J6 (x:Int)]).foldl (fun t (p,v)=>t.setIfInBounds p v) a.tmps,defers:=[] } W)
 (hbody:∀(m l:Nat) (pre:List Nat) (x:Nat) (W:World),I pre W->T x->body.wpIn (Fence.wide.inRound l) m P (bodyEnd X I Ix (pre++[x]) W) (a₁ x) W)
 (hdone:∀(D:Nat) (xs:List Nat) (W:World),w.heap.size<=D->S xs->I xs W->W.heap[D]? = some (.deferred (some []))->Q .normal { a with defers:={ target:=.collected D,args:=#[] } :: a.defers } W)
 (hstop:∀(D:Nat) (pre:List Nat) (W:World),w.heap.size<=D->Sp pre->Ix pre W->W.heap[D]? = some (.deferred (some []))->Q .ret { a with defers:={ target:=.collected D,args:=#[] } :: a.defers } W) :
 (Code.rangeFunc g ps assign body).wpIn Fence.wide n P Q a w:=by
 refine wpIn_rangeFunc fun fn _=>?_
 obtain⟨D,hD⟩:=Nq w.heap.size
 obtain⟨mk,hmk⟩:∃mk:LoopState->Option Code->Loop,mk=fun s p=>{ state:=s,pending:=p,fn,tmps:=a.tmps,params:=ps,assign,body,defers:=D }:=⟨_,rfl⟩
 obtain⟨W1,hW1⟩:=Nq ((w.alloc (.deferred (some []))).alloc (.loop (mk .ready none)))
 have s1:W1.heap.size=D+1+1:=by rw[<- hW1];simp[hD]
 have bw:Below D w W1:=by rw[<- hW1,<- hD];exact((bR _ w).alloc (nR _) _).alloc (by simp) _
 have hl1:W1.heap[D+1]? = some (.loop (mk .ready none)):=by
  have:=World.alloc_heap_new (w.alloc (.deferred (some []))) (.loop (mk .ready none));rw[Yk,hD,hW1]at this;exact this
 have hd1:W1.heap[D]? = some (.deferred (some [])):=by
  have:=World.alloc_heap_new w (.deferred (some []));rw[<- hW1,<- hD];exact(Below.heap_alloc _ _ _ (by simp)).trans this
 have enter:=run_enterLoop_outer (P:=P) (w:=w) fn a.tmps ps assign body
 rw[hD]at enter
 refine⟨D+1,[{ target:=.collected D,args:=#[] }],W1,{ target:=.fn (.func gf) lb,args:=#[.func (.yield (D+1)) #[] #[]] },W1,gf,#[.func (.yield (D+1)) #[] #[]]++lb,W1,?_,?_,?_,?_,fun h=>by simp[Fence.wide]at h,?_⟩
 . rw[<- hW1,hmk];exact enter
 . simp only[resolve,hg];simp[go_sem]
 . intro _ _;trivial
 . simp[invoke,go_sem,eg]
 have hIput:∀xs W l o,D<=l->I xs W->I xs (W.putObj l o):=fun xs W l o h hi=>hI xs W _ hi (by rw[hD];exact qbh W l o h)
 have hXput:∀xs W l o,D<=l->Ix xs W->Ix xs (W.putObj l o):=fun xs W l o h hi=>hIx xs W _ hi (by rw[hD];exact qbh W l o h)
 refine(hseq (n - 1) (D+1) (fun pre W=>I pre W/\W.heap[D+1]? = some (.loop (mk .ready none))/\W.heap[D]? = some (.deferred (some [])))
  (fun pre W=>Ix pre W/\W.heap[D+1]? = some (.loop (mk .done (some .ret)))/\W.heap[D]? = some (.deferred (some []))) W1 (hb0.trans ((hD ▸ bw:Below w.heap.size w W1).mono hb0.size)) ?_ ?_ (fun k hk=>by have:=hX k hk;omega) ?_ ⟨hI _ _ _ h0 (hD ▸ bw),hl1,hd1⟩).mono ?_
 . rintro xs W W' ⟨h,hl,hd⟩ hb
   rw[s1]at hb;exact⟨hI xs W W' h (hb.mono (by omega)),(hb.block _ (by omega)).trans hl,(hb.block _ (by omega)).trans hd⟩
 . rintro xs W W' ⟨h,hl,hd⟩ hb
   rw[s1]at hb;exact⟨hIx xs W W' h (hb.mono (by omega)),(hb.block _ (by omega)).trans hl,(hb.block _ (by omega)).trans hd⟩
 . -- one round
   rintro m pre x W ⟨hi,hl,hd⟩ hT;have hlt:D+1<W.heap.size:=(Yr.1 hl).1;have hy:=run_yield (P:=P) (args:=#[J6 (x:Int)]) hl (by rw[hmk];simp[hps]);rw[hmk]at hy;refine⟨fn,_,assign,body,hy,roundIn_of_wpIn trivial (hassign m _ x W _ ⟨_,run_beginRound hl (by rw[hmk]),?_⟩)⟩;refine wpIn_mono (hbody m _ pre x _ (hIput _ _ _ _ (by omega) hi) hT) ?_;have hl2:=World.putObj_heap_same (w:=W) (o:=.loop { mk .ready none with state:=.busy }) hlt;have hd2:(W.putObj (D+1) (.loop { mk .ready none with state:=.busy })).heap[D]? = some (.deferred (some [])):=(World.putObj_heap_other (by omega)).trans hd;have hx2:KeepX X W (W.putObj (D+1) (.loop { mk .ready none with state:=.busy })):=KeepX.put hl rfl;intro e a3 W3 hp;cases e with
   | normal =>
    obtain⟨ko,kx,hi3⟩:=hp;have hl3:=ko.same _ _ hl2 rfl;have hd3:=ko.same _ _ hd2 rfl;have hr:=run_endRound (P:=P) none hl3;rw[hmk]at hr;refine⟨_,_,hr,.inl ⟨rfl,⟨hIput _ _ _ _ (by omega) hi3,?_,(World.putObj_heap_other (by omega)).trans hd3⟩,(hx2.trans kx).trans (KeepX.put hl3 rfl)⟩⟩;rw[hmk];exact World.putObj_heap_same (Yr.1 hl3).1
   | ret =>
    obtain⟨ko,hi3⟩:=hp;have hl3:=ko.same _ _ hl2 rfl;have hd3:=ko.same _ _ hd2 rfl;have hr:=run_endRound (P:=P) (some .ret) hl3;rw[hmk]at hr;refine⟨_,_,hr,.inr ⟨rfl,hXput _ _ _ _ (by omega) hi3,?_,(World.putObj_heap_other (by omega)).trans hd3⟩⟩;rw[hmk];exact World.putObj_heap_same (Yr.1 hl3).1
   | exit id=>exact hp.elim
   | goto t=>exact hp.elim
   | panic c=>exact hp.elim
   | outgrown=>exact hp.elim
 . -- behind the iterator
   rintro e W2 ⟨⟨v,rfl⟩,(⟨xs,hS,hi,hl,hd⟩ | ⟨pre,hSp,hi,hl,hd⟩)⟩
   . have hr:=run_endLoop (P:=P) hl (by rw[hmk];simp)
     rw[hmk]at hr;exact⟨none,_,hr,hdone D xs _ (by omega) hS (hIput _ _ _ _ (by omega) hi) ((World.putObj_heap_other (by omega)).trans hd)⟩
   . have hr:=run_endLoop (P:=P) hl (by rw[hmk];simp)
     rw[hmk]at hr;exact⟨some .ret,_,hr,wpIn_ret (hstop D pre _ (by omega) hSp (hXput _ _ _ _ (by omega) hi) ((World.putObj_heap_other (by omega)).trans hd))⟩
attribute [local go_sem] Oper.semAt_some
theorem Tab.keep {X:Nat->Prop}{W W':World}(h:Tab W)(hk:KeepX X W W')(hX:¬ X 5):Tab W':=fun j hj=>by
 have h0:=h j hj
 unfold World.cell? at h0⊢
 simp only at h0⊢
 cases e:W.heap[5]? with
 | none=>rw[e]at h0;cases h0
 | some o =>
  cases o with
  | cells cs t fr=>rw[hk.same 5 cs t fr hX e];rw[e]at h0;exact h0
  | _=>rw[e]at h0;cases h0
def natAt (w:World):Value->Nat
 | .pointer (some a)=>match w.cell? a with | some (.int _ v)=>v.toNat | _=>0
 | _=>0
theorem qhe {w:World}{b:Nat}{v:Nat}{k:IntKind}(h:w.cell? ⟨b,0,none⟩=some (.int k (v:Int))):natAt w (J9 b 0)=v:=by
 simp[natAt,h]
theorem qki {s:Nat}(hs:s<4294967296)(h0:s≠0):Lib.ctz 32 s<32/\s.testBit (Lib.ctz 32 s)=true:=by
 obtain⟨h1,h2⟩:=Lib.lowest_bit 32 s h0 hs
 refine⟨h2,?_⟩
 have:(s &&& (2 ^ 32 - s)).testBit (Lib.ctz 32 s)=true:=by rw[h1];simp
 rw[Nat.testBit_and,Yf]at this
 exact this.1
theorem q6t {s x:Nat}(hs:s<4294967296)(hx:x<32)(h:s.testBit x=true):minusN s (2 ^ x)<s:=by
 apply Nat.lt_of_le_of_ne Nat.and_le_left
 intro e
 have h2:=q9r hs (two_lt hx) x
 rw[show minusN s (2 ^ x)=s from e,h]at h2
 simp at h2
theorem q6u {s x:Nat}(hs:s<4294967296)(hx:x<32)(i:Nat):(minusN s (2 ^ x)).testBit i=true ↔ s.testBit i=true/\i≠x:=by
 rw[q9r hs (two_lt hx),Z8,Yf,Bool.not_eq_true',Zs]
 exact and_congr_right fun _=>⟨fun h e=>h e.symm,fun h e=>h e.symm⟩
theorem Tab.at0 {w w':World}(h:Tab w)(e:w'.heap[5]? = w.heap[5]?):Tab w':=fun j hj=>(World.cell?_of_block (a:=⟨5,j,none⟩) e).trans (h j hj)
theorem q6l (N:Nat)(W3:World)(R:Nat)(o1 o2 o3 o4:Obj)(v:Value)(t:TypeId)(hR:N<=R)(hN:N<=W3.heap.size) :
 Blk ((((((W3.alloc o1).alloc o2).alloc o3).alloc o4).setCell ⟨R,0,none⟩ v).alloc (.cells #[v] t)).drew (W3.heap.size+1+1+1+1) t [v]/\Below N W3 ((((((W3.alloc o1).alloc o2).alloc o3).alloc o4).setCell ⟨R,0,none⟩ v).alloc (.cells #[v] t)).drew:=by
 constructor
 . have:=Blk.new (((((W3.alloc o1).alloc o2).alloc o3).alloc o4).setCell ⟨R,0,none⟩ v) t #[v]
   simp only[World.size_setCell,Yk]at this;exact this
 . exact((((below4 W3 o1 o2 o3 o4).mono hN).setCell (p:=⟨R,0,none⟩) hR v).alloc (by simp;omega) _).drew
theorem q4b (Bs s:Nat)(w0:World)(X:Nat->Prop)(hs:s<4294967296)(hB:Blk w0 Bs 216 [.int .u32 (s:Int)])(ht:Tab w0)(hX0:¬ X 5) :
 Gives Tryz.prog 258 #[J9 Bs 0] (fun x=>x<32/\s.testBit x=true) (fun xs=>∀i,i∈xs ↔ s.testBit i=true) (fun pre=>∀i∈pre,s.testBit i=true) X w0:=by
 intro n l J Jx W hb hJ hJx hX hY h0
 have hBs:=hB.mono hb hB.lt
 have hT:=ht.mono hb
 have c0:=hBs.cell 0
 simp only[Yg]at c0
 have hW0:=hT.pos
 have HY:=h_ hY;clear hY
 refine callsIn_of_wp Tryz.func258 rfl trivial ?_ rfl
 simp only[Tryz.ntmps258,Y8,Yl,Yt,Nat.reduceAdd,Nat.reduceSub,Vr,Vq,V5,Vt,Vn,Zm]
 gi_wp2
 clear c0
 have hbn:Below W.heap.size W (W.alloc (.cells #[.int .u32 (s:Int)] 216)):=(bR _ _).alloc (nR _) _
 have hnew:=Blk.new W 216 #[.int .u32 (s:Int)]
 gi_loopw [3] (fun p wr=>∃(R rest:Nat) (pre:List Nat),p=J9 R 0/\W.heap.size<=R/\Blk wr R 216 [.int .u32 (rest:Int)]/\Tab wr/\J pre wr/\W.heap.size<=wr.heap.size/\rest<4294967296/\(∀i,s.testBit i=true ↔ i∈pre∨rest.testBit i=true)) (fun p wr=>natAt wr p)
 case atStart=>exact⟨W.heap.size,s,[],rfl,nR _,hnew,hT.mono hbn,hJ _ _ _ h0 hbn,hbn.size,hs,fun i=>by simp⟩
 case round =>
  clear hnew hbn h0 hT hBs;obtain⟨R,rest,pre,rfl,hR,hbR,hT,hj,hsz,hr,hbits⟩:=hrel;have c1:=hbR.cell 0;simp only[Yg]at c1;have HBR:=h_ hbR;have HT:=h_ hT;have HJ:=h_ hj;have HBITS:=h_ hbits;have hlR:=hbR.lt;clear hbR hT hj hbits;by_cases hz:rest=0
  . subst hz
    have hzb:((0:Nat)==0)=true:=rfl;gi_wp2_with fail;refine callW ((qc9 _ _).mono ?_);rintro e w1 ⟨rfl,rfl⟩;gi_wp2_with fail
    go_end0
    refine⟨⟨_,rfl⟩,.inl ⟨pre,fun i=>?_,hJ _ _ _ HJ.u (((bR wr.heap.size _).alloc (nR _) _).mono hsz)⟩⟩;rw[HBITS.u i];simp
  . have hzb:(rest==0)=false:=by simpa using hz
    have hcb:=qki hr hz;have hl3:=q9q rest (wr.alloc (.cells #[.int .u32 (rest:Int)] 216)) hr hz (HT.u.mono ((bR _ _).alloc (nR _) _));obtain⟨x,hx⟩:=Nq (Lib.ctz 32 rest);rw[hx]at hcb hl3;have HL3:=h_ hl3;have hx32:=hcb.1;have HXB:=h_ hcb.2;clear hz hx hcb hl3;have hB2:Below wr.heap.size wr ((wr.alloc (.cells #[.int .u32 (rest:Int)] 216)).alloc (.cells #[.int .u32 (rest:Int)] 216)):=((bR _ _).alloc (nR _) _).alloc (by simp) _;have hyy:=HY.u (n - 1) pre x _ (hJ _ _ _ HJ.u (hB2.mono hsz)) ⟨hx32,(HBITS.u x).2 (.inr HXB.u)⟩;have HB2:=h_ hB2;clear hB2;obtain⟨fn,tmps,assign,body,hy,hRd⟩:=hyy;have HRD:=h_ hRd;clear hRd;gi_wp2_with fail;refine callW ((qc9 _ _).mono ?_);rintro e w1 ⟨rfl,rfl⟩;gi_wp2_with fail;refine callW (HL3.u.mono ?_);rintro e w1 ⟨rfl,rfl⟩;gi_wp2_with fail;refine⟨noDepth,HRD.u.mono ?_⟩;rintro e W3 (⟨rfl,hj3,hk3⟩ | ⟨rfl,hjx3⟩)
    . have hbR:=hk3.blk (HBR.u.mono HB2.u hlR) (fun h=>by have:=hX R h;omega)
      have hT3:=(HT.u.mono HB2.u).keep hk3 hX0;have hs3:wr.heap.size<=W3.heap.size:=Zf HB2.u.size hk3.size;clear hk3 c1 hy HRD HL3;have c2:=hbR.cell 0;simp only[Yg]at c2;have f2:=hbR.free 0;have hl3:=hbR.lt;have K4:=hbR.cell4 0;have F4:=hbR.free4 0;simp only[Yg]at K4;have HBR3:=h_ hbR;have HT3:=h_ hT3;have HJ3:=h_ hj3;clear hbR hT3 hj3;have hmix:Tryz.prog.follows .mixedOrders=true:=(by kernel_rfl);have hr2:=qdg (t:=2 ^ x) hr;have h2x:=two_lt hx32;gi_wp2_with fail
      gi_region_with_o (first | (refine callW ((qmq _ _ hx32).mono ?_);rintro e w' ⟨rfl,rfl⟩) | (refine callW ((qdh _ _ _ hr h2x).mono ?_);rintro e w' ⟨rfl,rfl⟩))
      all_goals
       gi_wp2_with fail;have hst:=q6l W.heap.size W3 R (.cells (#[.int .u32 ((2 ^ x:Nat):Int)]) 216) (.cells #[.int .u32 (rest:Int)] 216) (.cells (#[.int .u32 ((2 ^ x:Nat):Int)]) 216) (.cells (#[.int .u32 ((minusN rest (2 ^ x):Nat):Int)]) 216) (.int .u32 ((minusN rest (2 ^ x):Nat):Int)) 216 hR (by omega);simp only[Gb,Zq]at hst;refine⟨⟨W3.heap.size+1+1+1+1,minusN rest (2 ^ x),pre++[x],rfl,by omega,hst.1,HT3.u.at0 (hst.2.block 5 hW0),hJ _ _ _ HJ3.u hst.2,by have:=hst.2.size;omega,hr2,fun i=>?_⟩,?_⟩
       . rw[HBITS.u i,q6u hr hx32,Ze,Zi]
         have hxb:=HXB.u;by_cases e:i=x
         . subst e;simp[hxb]
         . simp[e]
       . have h1:=hst.1.cell 0
         have h2:=HBR.u.cell 0;simp only[Yg]at h1 h2;rw[qhe h1,qhe h2];exact q6t hr hx32 HXB.u
    . gi_wp2_with fail
      refine bodyPost_ret (results_none rfl _ _ _) rfl ⟨⟨_,rfl⟩,.inr ⟨pre++[x],fun i hi=>?_,hjx3⟩⟩;rw[HBITS.u i];rcases Ze.1 hi with h | h
      . exact .inl h
      . rw[Zi.1 h];exact .inr HXB.u
theorem q9j (s:Nat)(w:World) :
 Calls Tryz.prog 225 #[.agg #[.int .u32 (s:Int)]] w fun e w'=>e=.returned (.func (.func 258) #[] #[J9 w.heap.size 0])/\w'=w.alloc (.cells #[.int .u32 (s:Int)] 216):=by
 go_enter Tryz.func225,Tryz.ntmps225
 go_wp2
 go_ret
 exact⟨rfl,rfl⟩
attribute [local go_sem] Oper.semAt_some
def Reach (g:Nat->Nat)(a b:Nat):Prop:=∀C:Nat->Prop,C a->(∀x y,C x->x<32->(g x).testBit y=true->C y)->C b
theorem Reach.refl (g:Nat->Nat)(a:Nat):Reach g a a:=fun _ h _=>h
theorem Reach.step {g:Nat->Nat}{a x y:Nat}(h:Reach g a x)(hx:x<32)(hy:(g x).testBit y=true):Reach g a y:=fun C h0 hs=>hs x y (h C h0 hs) hx hy
structure Walk (g:Nat->Nat)(a todo done:Nat)(pre:List Nat):Prop where
 t32:todo<4294967296
 d32:done<4294967296
 came:∀i,i∈pre ↔ done.testBit i=true
 apart:∀i,todo.testBit i=true->done.testBit i=false
 reach:∀i,(todo.testBit i=true∨done.testBit i=true)->Reach g a i
 start:todo.testBit a=true∨done.testBit a=true
 shut:∀x y,done.testBit x=true->(g x).testBit y=true->todo.testBit y=true∨done.testBit y=true
theorem Walk.init (g:Nat->Nat)(a:Nat)(ha:a<32):Walk g a (2 ^ a) 0 [] where
 t32:=two_lt ha
 d32:=by decide
 came:=fun i=>by simp
 apart:=fun i _=>by simp
 reach:=fun i h=>by
  rw[Z8]at h;simp at h;subst h;exact Reach.refl _ _
 start:=.inl (by simp)
 shut:=fun x y h=>by simp at h
theorem Walk.next {g:Nat->Nat}{a todo done x:Nat}{pre:List Nat}(h:Walk g a todo done pre)(hg:∀a,a<32->g a<4294967296)(hx:x<32)(hb:todo.testBit x=true) :
 Walk g a (minusN (todo ||| g x) (done ||| 2 ^ x)) (done ||| 2 ^ x) (pre++[x]):=by
 have o1:=or_lt h.t32 (hg x hx)
 have o2:=or_lt h.d32 (two_lt hx)
 have tb:∀i,(minusN (todo ||| g x) (done ||| 2 ^ x)).testBit i=((todo.testBit i||(g x).testBit i)&&!(done.testBit i||decide (x=i))):=fun i=>by
  rw[q9r o1 o2,Oy,Oy,Z8]
 have db:∀i,(done ||| 2 ^ x).testBit i=(done.testBit i||decide (x=i)):=fun i=>by rw[Oy,Z8]
 refine⟨qdg o1,o2,fun i=>?_,fun i hi=>?_,fun i hi=>?_,?_,fun y z hy hz=>?_⟩
 . rw[Ze,Zi,h.came i,db,Zj,decide_eq_true_iff]
   exact or_congr_right ⟨Eq.symm,Eq.symm⟩
 . rw[tb]at hi;rw[db];simp at hi⊢;exact hi.2
 . rw[tb,db]at hi
   cases hd:(done.testBit i||decide (x=i))
   . rw[hd]at hi;simp at hi
     rcases hi with hi | hi
     . exact h.reach i (.inl hi)
     . exact(h.reach x (.inl hb)).step hx hi
   . simp at hd
     rcases hd with hd | hd
     . exact h.reach i (.inr hd)
     . subst hd;exact h.reach x (.inl hb)
 . rw[tb,db]
   cases hd:(done.testBit a||decide (x=a))
   . simp at hd
     rcases h.start with hs | hs
     . simp[hs]
     . rw[hs]at hd;simp at hd
   . exact .inr rfl
 . rw[tb,db]
   rw[db]at hy;cases hd:(done.testBit z||decide (x=z))
   . simp at hd hy
     rcases hy with hy | hy
     . rcases h.shut y z hy hz with h1 | h1
       . simp[h1]
       . rw[h1]at hd;simp at hd
     . subst hy;simp[hz]
   . exact .inr rfl
theorem Walk.finish {g:Nat->Nat}{a done:Nat}{pre:List Nat}(h:Walk g a 0 done pre):∀i,i∈pre ↔ Reach g a i:=fun i=>by
 rw[h.came i]
 constructor
 . exact fun hi=>h.reach i (.inr hi)
 . intro hr
   refine hr (fun i=>done.testBit i=true) ?_ ?_
   . rcases h.start with hs | hs
     . simp at hs
     . exact hs
   . intro x y hx _ hy
     rcases h.shut x y hx hy with h1 | h1
     . simp at h1
     . exact h1
theorem qmr {d x:Nat}(h:d.testBit x=false):d<d ||| 2 ^ x:=by
 apply Nat.lt_of_le_of_ne Nat.left_le_or
 intro e
 have:(d ||| 2 ^ x).testBit x=true:=by rw[Oy,Z8];simp
 rw[<- e,h]at this;cases this
theorem qim {W':World}{O:Nat}{c:Value}(h:Blk W' O 216 [c])(v:Value)(o1 o2 o3 o4:Obj) :
 Blk (((((W'.alloc o1).alloc o2).alloc o3).alloc o4).setCell ⟨O,0,none⟩ v).drew O 216 [v]/\KeepX (fun j=>j=O) W' (((((W'.alloc o1).alloc o2).alloc o3).alloc o4).setCell ⟨O,0,none⟩ v).drew /\
  (∀B,B<=O->O<W'.heap.size->Below B W' (((((W'.alloc o1).alloc o2).alloc o3).alloc o4).setCell ⟨O,0,none⟩ v).drew):=by
 have hb:=below4 W' o1 o2 o3 o4
 exact⟨(h.mono hb h.lt).set 0 v,((KeepX.of_below hb).trans (KeepX.set (X:=fun j=>j=O) (a:=⟨O,0,none⟩) v rfl)).trans ⟨nR _,fun _ _ _ _ _ h=>h⟩,fun B hB hO=>((hb.mono (by omega)).setCell (p:=⟨O,0,none⟩) hB v).drew⟩
theorem below6 (w:World)(o1 o2 o3 o4 o5 o6:Obj):Below w.heap.size w ((((((w.alloc o1).alloc o2).alloc o3).alloc o4).alloc o5).alloc o6):=((below4 w o1 o2 o3 o4).alloc (by simp;omega) o5).alloc (by simp;omega) o6
theorem qec {W':World}{O:Nat}{c:Value}(h:Blk W' O 216 [c])(v:Value)(o1 o2 o3 o4 o5 o6:Obj) :
 Blk (((((((W'.alloc o1).alloc o2).alloc o3).alloc o4).alloc o5).alloc o6).setCell ⟨O,0,none⟩ v).drew O 216 [v]/\KeepX (fun j=>j=O) W' (((((((W'.alloc o1).alloc o2).alloc o3).alloc o4).alloc o5).alloc o6).setCell ⟨O,0,none⟩ v).drew /\
  (∀B,B<=O->O<W'.heap.size->Below B W' (((((((W'.alloc o1).alloc o2).alloc o3).alloc o4).alloc o5).alloc o6).setCell ⟨O,0,none⟩ v).drew):=by
 have hb:=below6 W' o1 o2 o3 o4 o5 o6
 exact⟨(h.mono hb h.lt).set 0 v,((KeepX.of_below hb).trans (KeepX.set (X:=fun j=>j=O) (a:=⟨O,0,none⟩) v rfl)).trans ⟨nR _,fun _ _ _ _ _ h=>h⟩,fun B hB hO=>((hb.mono (by omega)).setCell (p:=⟨O,0,none⟩) hB v).drew⟩
theorem q56 (Ba Bs a:Nat)(g:Nat->Nat)(w0:World)(X:Nat->Prop)(ha:a<32)(hg:∀a,a<32->g a<4294967296)(hA:Blk w0 Ba 3 [J6 (a:Int)])(hB:Blk w0 Bs 218 (us g))(ht:Tab w0)(hXB:¬ X Bs)(hX0:¬ X 5) :
 Gives Tryz.prog 230 #[J9 Ba 0,J9 Bs 0] (fun x=>x<32) (fun xs=>∀i,i∈xs ↔ Reach g a i) (fun _=>True) X w0:=by
 intro n l J Jx W hb hJ hJx hX hY h0
 have hT:=ht.mono hb
 have bA:=hA.mono hb hA.lt
 have bS:=hB.mono hb hB.lt
 have c0:=bA.cell 0
 simp only[Yg]at c0
 have hW0:=hT.pos
 have HY:=h_ hY;clear hY
 refine callsIn_of_wp Tryz.func230 rfl trivial ?_ rfl
 simp only[Tryz.ntmps230,Y8,Yl,Yt,Nat.reduceAdd,Nat.reduceSub,Vr,Vq,V5,Vt,Vn,Zm]
 gi_wp2_with fail
 refine callW ((qmq _ _ ha).mono ?_)
 rintro e w1 ⟨rfl,rfl⟩
 gi_wp2_with fail
 have bT:=(Blk.new (W.alloc (.cells (#[.int .u32 ((2 ^ a:Nat):Int)]) 216)) 216 (#[.int .u32 ((2 ^ a:Nat):Int)])).alloc (.cells #[.int .u32 0] 216)
 have bD:=Blk.new ((W.alloc (.cells (#[.int .u32 ((2 ^ a:Nat):Int)]) 216)).alloc (.cells (#[.int .u32 ((2 ^ a:Nat):Int)]) 216)) 216 #[.int .u32 0]
 have bw:=below3 W (.cells (#[.int .u32 ((2 ^ a:Nat):Int)]) 216) (.cells (#[.int .u32 ((2 ^ a:Nat):Int)]) 216) (.cells #[.int .u32 0] 216)
 simp only[Yk,Gb,Zq]at bT bD bw
 clear c0
 gi_loopw [6] (fun _ wr=>∃(todo done:Nat) (pre:List Nat),Blk wr (W.heap.size+1) 216 [.int .u32 (todo:Int)]/\Blk wr (W.heap.size+1+1) 216 [.int .u32 (done:Int)]/\Blk wr Bs 218 (us g)/\Tab wr/\J pre wr/\Walk g a todo done pre) (fun _ wr=>4294967296 - natAt wr (J9 (W.heap.size+1+1) 0))
 case atStart=>exact⟨2 ^ a,0,[],by simpa using bT,bD,bS.mono bw bS.lt,hT.mono bw,hJ _ _ _ h0 bw,Walk.init g a ha⟩
 case round =>
  have lS:=bS.lt;clear bT bD bw h0 hT bS bA;obtain⟨todo,done,pre,hT1,hD1,hS1,hTab,hj,hw⟩:=hrel;have c1:=hT1.cell 0;simp only[Yg]at c1;have t32:=hw.t32;have sD:=hD1.lt;have sT:=hT1.lt;have K1:=fun o=>(hT1.alloc o).cell 0;simp only[Yg]at K1;have hsz:W.heap.size<=wr.heap.size:=by omega
  have HT1:=h_ hT1;have HD1:=h_ hD1;have HS1:=h_ hS1;have HTAB:=h_ hTab;have HJ:=h_ hj;have HW:=h_ hw;clear hT1 hD1 hS1 hTab hj hw;by_cases hz:todo=0
  . subst hz
    have hzb:((0:Nat)==0)=true:=rfl;gi_wp2_with fail;refine callW ((qc9 _ _).mono ?_);rintro e w1 ⟨rfl,rfl⟩;gi_wp2_with fail
    go_end0
    exact⟨⟨_,rfl⟩,.inl ⟨pre,HW.u.finish,hJ _ _ _ HJ.u (((bR wr.heap.size _).alloc (nR _) _).mono hsz)⟩⟩
  . have hzb:(todo==0)=false:=by simpa using hz
    have hcb:=qki t32 hz;have hl3:=q9q todo (wr.alloc (.cells #[.int .u32 (todo:Int)] 216)) t32 hz (HTAB.u.mono ((bR _ _).alloc (nR _) _));obtain⟨x,hx⟩:=Nq (Lib.ctz 32 todo);rw[hx]at hcb hl3;have HL3:=h_ hl3;have x32:=hcb.1;have HXB:=h_ hcb.2;clear hz hx hcb hl3;have hB2:Below wr.heap.size wr ((wr.alloc (.cells #[.int .u32 (todo:Int)] 216)).alloc (.cells #[.int .u32 (todo:Int)] 216)):=((bR _ _).alloc (nR _) _).alloc (by simp) _;have hyy:=HY.u (n - 1) pre x _ (hJ _ _ _ HJ.u (hB2.mono hsz)) x32;have HB2:=h_ hB2;clear hB2;obtain⟨fn,tmps,assign,body,hy,hRd⟩:=hyy;have HRD:=h_ hRd;clear hRd;gi_wp2_with fail;refine callW ((qc9 _ _).mono ?_);rintro e w1 ⟨rfl,rfl⟩;gi_wp2_with fail;refine callW (HL3.u.mono ?_);rintro e w1 ⟨rfl,rfl⟩;gi_wp2_with fail;refine⟨noDepth,HRD.u.mono ?_⟩;rintro e W3 (⟨rfl,hj3,hk3⟩ | ⟨rfl,hjx3⟩)
    . have bT:=hk3.blk (HT1.u.mono HB2.u HT1.u.lt) (fun h=>by have:=hX _ h;omega)
      have bD:=hk3.blk (HD1.u.mono HB2.u HD1.u.lt) (fun h=>by have:=hX _ h;omega);have bS:=hk3.blk (HS1.u.mono HB2.u HS1.u.lt) hXB;have hT3:=(HTAB.u.mono HB2.u).keep hk3 hX0;clear hk3 c1 K1 hy HRD HL3 HB2;have d32:=HW.u.d32;have c2:=bD.cell 0;simp only[Yg]at c2;have f2:=bD.free 0;have l2:=bD.lt;have K4:=bD.cell4 0;have F4:=bD.free4 0;simp only[Yg]at K4;have hmix:Tryz.prog.follows .mixedOrders=true:=(by kernel_rfl);have x2:=two_lt x32;have BT:=h_ bT;have BD:=h_ bD;have BS:=h_ bS;have HT3:=h_ hT3;have HJ3:=h_ hj3;clear bT bD bS hT3 hj3;gi_wp2_with fail
      gi_region_with_o (first | (refine callW ((qmq _ _ x32).mono ?_);rintro e w' ⟨rfl,rfl⟩) | (refine callW ((qf4 _ _ _ d32 x2).mono ?_);rintro e w' ⟨rfl,rfl⟩))
      all_goals
       gi_wp2_with fail;have hst:=qim BD.u (.int .u32 ((done ||| 2 ^ x:Nat):Int)) (.cells (#[.int .u32 ((2 ^ x:Nat):Int)]) 216) (.cells #[.int .u32 (done:Int)] 216) (.cells (#[.int .u32 ((2 ^ x:Nat):Int)]) 216) (.cells (#[.int .u32 ((done ||| 2 ^ x:Nat):Int)]) 216);simp only[Gb,Zq]at hst;obtain⟨s1,s2,s3⟩:=hst;replace s3:=s3 W.heap.size (by omega) l2;obtain⟨W4,hW4⟩:=Nq ((((((W3.alloc (.cells #[.int .u32 (2 ^ x)] 216)).alloc (.cells #[.int .u32 (done:Int)] 216)).alloc (.cells #[.int .u32 (2 ^ x)] 216)).alloc (.cells (#[.int .u32 ((done ||| 2 ^ x:Nat):Int)]) 216)).setCell ⟨W.heap.size+1+1,0,none⟩ (.int .u32 ((done ||| 2 ^ x:Nat):Int))).drew);rw[hW4]at s1 s2 s3⊢;clear hW4 K4 F4 c2 f2;have bT:=s2.blk BT.u (by omega);have bS:=s2.blk BS.u (by omega);have hT4:=HT3.u.keep s2 (by omega);have hJ4:=hJ _ _ _ HJ3.u s3;have gx:=hg x x32;have cT:=bT.cell 0;have cD:=s1.cell 0;have cS:=bS.cell x;simp only[Yg]at cT cD;rw[us_get g x32]at cS;have K3D:=fun o1 o2 o3=>(s1.mono (below3 W4 o1 o2 o3) s1.lt).cell 0;have K6T:=fun o1 o2 o3 o4 o5 o6=>(bT.mono (below6 W4 o1 o2 o3 o4 o5 o6) bT.lt).cell 0;have F6T:=fun o1 o2 o3 o4 o5 o6=>(bT.mono (below6 W4 o1 o2 o3 o4 o5 o6) bT.lt).free 0;simp only[Yg]at K3D K6T;have o1:=or_lt t32 gx;have o2:=or_lt d32 x2;have lT:=bT.lt;have x0i:(0:Int)<=x:=(by omega);have x1i:(x:Int)<32:=(by omega);have B1:=h_ s1;have B2:=h_ bT;have B3:=h_ bS;have B4:=h_ hT4;have B5:=h_ hJ4;clear s1 s2 s3 bT bS hT4 hJ4 BT BD BS HT3 HJ3
       gi_region_with_o (first | (refine callW ((qf4 _ _ _ t32 gx).mono ?_);rintro e w' ⟨rfl,rfl⟩) | (refine callW ((qdh _ _ _ o1 o2).mono ?_);rintro e w' ⟨rfl,rfl⟩))
       all_goals
        gi_wp2_with fail;have hst:=qec B2.u (.int .u32 ((minusN (todo ||| g x) (done ||| 2 ^ x):Nat):Int)) (.cells #[.int .u32 (todo:Int)] 216) (.cells #[.int .u32 (g x:Int)] 216) (.cells (#[.int .u32 ((todo ||| g x:Nat):Int)]) 216) (.cells (#[.int .u32 ((todo ||| g x:Nat):Int)]) 216) (.cells (#[.int .u32 ((done ||| 2 ^ x:Nat):Int)]) 216) (.cells (#[.int .u32 ((minusN (todo ||| g x) (done ||| 2 ^ x):Nat):Int)]) 216);obtain⟨s1,s2,s3⟩:=hst;have bD:=s2.blk B1.u (by omega);refine⟨⟨_,_,pre++[x],s1,bD,s2.blk B3.u (by omega),B4.u.keep s2 (by omega),hJ _ _ _ B5.u (s3 W.heap.size (by omega) lT),HW.u.next hg x32 HXB.u⟩,?_⟩;have h1:=bD.cell 0;have h2:=HD1.u.cell 0;simp only[Yg]at h1 h2;rw[qhe h1,qhe h2];have:=qmr (HW.u.apart x HXB.u);omega
    . gi_wp2_with fail
      exact bodyPost_ret (results_none rfl _ _ _) rfl ⟨⟨_,rfl⟩,.inr ⟨pre++[x],trivial,hjx3⟩⟩
theorem qba (g:Nat->Nat)(a:Nat)(w:World) :
 Calls Tryz.prog 189 #[.agg (us g).toArray,J6 (a:Int)] w fun e w'=>e=.returned (.func (.func 230) #[] #[J9 (w.heap.size+1) 0,J9 w.heap.size 0])/\w'=(w.alloc (.cells (us g).toArray 218)).alloc (.cells #[J6 (a:Int)] 3):=by
 go_enter Tryz.func189,Tryz.ntmps189
 go_wp2
 go_ret
 exact⟨rfl,rfl⟩
section
variable {n:Nat} {ops:Array Oper} {rest:List Oper} {o:Oper} {a:Act} {w:World} {Q:Exit->Act->World->Prop}
theorem q06 (hgd:o.guard=none)(x:Operand)(ho:o.op=.load 218 x)(b:Nat)(g:Nat->Nat)(hx:a.eval x=J9 b 0)(hb:Blk w b 218 (us g))
 (h:wpListIn Fence.wide n Tryz.prog ops Q rest (a.put o.dst (.agg (us g).toArray)) w):wpListIn Fence.wide n Tryz.prog ops Q (o :: rest) a w :=
 wpListIn_plain hgd fun _ hK=>⟨fun _ _=>trivial,by
  simp only[Fence.wide,Oper.semAt,execOp,ho,hx,Instr.loadAt,Instr.sureAddr,Sem.run_bind,Sem.run_pure,Result.andThen_ok,run_loadVar_row w b 218 218 (us g).toArray (0,0) _ hb Tryz.underlying218 rfl (qnr g)];exact hK _ _ h⟩
theorem q02 (hgd:o.guard=none)(x y:Operand)(ho:o.op=.store 218 x y)(b:Nat)(g g':Nat->Nat)(hx:a.eval x=J9 b 0)(hy:a.eval y=.agg (us g').toArray)(hb:Blk w b 218 (us g))
 (h:∀w',Blk w' b 218 (us g')->w.grownBy w' (some b)->w'.heap.size=w.heap.size->wpListIn Fence.wide n Tryz.prog ops Q rest (a.put o.dst undef) w'):wpListIn Fence.wide n Tryz.prog ops Q (o :: rest) a w :=
 wpListIn_plain hgd fun _ hK=>⟨fun _ _=>trivial,by
  simp only[Fence.wide,Oper.semAt,execOp,ho,hx,hy,Instr.storeAt,Instr.sureAddr,Sem.run_bind,Sem.run_pure,Result.andThen_ok,run_storeVar_row w b 218 218 _ (us g').toArray hb (qnr g') (by simp[us]) (us_one g')];exact hK _ _ (h _ (setRow_heap w b _ _ _ _ hb) ⟨rfl,rfl,rfl,by simp,fun k _ hk=>setRow_other w b k _ (fun e=>hk (by rw[e]))⟩ (by simp))⟩
end
def marks (Ds:List Nat):List Deferred:=Ds.map fun D=>{ target:=.collected D,args:=#[] }
def Shut (B:Nat)(W:World)(Ds:List Nat):Prop:=Ds.Nodup/\∀D∈Ds,B<=D/\W.heap[D]? = some (.deferred (some []))
theorem Shut.nil (B:Nat)(W:World):Shut B W []:=⟨List.nodup_nil,fun _ h=>by cases h⟩
theorem Shut.keep {B:Nat}{W W':World}{Ds:List Nat}(h:Shut B W Ds)(k:KeepsOthers W W'):Shut B W' Ds:=⟨h.1,fun D hD=>⟨(h.2 D hD).1,k.same D _ (h.2 D hD).2 rfl⟩⟩
theorem Shut.below {B N:Nat}{W W':World}{Ds:List Nat}(h:Shut B W Ds)(hb:Below N W W')(hN:∀D∈Ds,D<N):Shut B W' Ds:=⟨h.1,fun D hD=>⟨(h.2 D hD).1,(hb.block D (hN D hD)).trans (h.2 D hD).2⟩⟩
theorem Shut.lt {B:Nat}{W:World}{Ds:List Nat}(h:Shut B W Ds):∀D∈Ds,D<W.heap.size:=fun D hD=>(Yr.1 (h.2 D hD).2).1
theorem Shut.cons {B D:Nat}{W:World}{Ds:List Nat}(h:Shut B W Ds)(hD:B<=D)(hd:W.heap[D]? = some (.deferred (some [])))(hn:D ∉ Ds):Shut B W (D :: Ds) :=
 ⟨Ot.2 ⟨hn,h.1⟩,fun E hE=>by
  rcases Zp.1 hE with rfl | hE
  . exact⟨hD,hd⟩
  . exact h.2 E hE⟩
theorem q4d {P:Program}{fn:Func}{tmps:Array Value}{R:Ending->World->Prop}{n B:Nat}:∀(Ds:List Nat) (W:World),Shut B W Ds ->
 (∀W',KeepX (fun _=>False) W W'->Below B W W'->∃v,(results fn tmps).run P W'=.ok v W'/\R (.returned v) W')->LeavesInM Fence.wide n P fn tmps R (marks Ds) .returning W
 | [],W,_,h=>h W (KeepX.refl _ _) (bR _ _)
 | D :: Ds,W,hs,h=>by
  have hd:=hs.2 D (Yq ..);refine⟨by simp,.inl ⟨D,_,rfl,run_takeDeferred hd.2,q4d Ds _ ⟨(Ot.1 hs.1).2,fun E hE=>?_⟩ fun W' hk hb=>h W' ((KeepX.put hd.2 rfl).trans hk) ((qbh _ D _ hd.1).trans hb)⟩⟩;have hE':=hs.2 E (Yy _ hE);exact⟨hE'.1,(World.putObj_heap_other (k:=E) (r:=D) (fun e=>(Ot.1 hs.1).1 (by rw[<- e];exact hE))).trans hE'.2⟩
theorem qi1 {W':World}{O x:Nat}{g'':Nat->Nat}(h:Blk W' O 218 (us g''))(hx:x<32)(u:Nat)(o1 o2 o3 o4:Obj) :
 KeepsOthers W' (((((W'.alloc o1).alloc o2).alloc o3).alloc o4).setCell ⟨O,x,none⟩ (.int .u32 (u:Int))).drew/\KeepX (fun j=>j=O) W' (((((W'.alloc o1).alloc o2).alloc o3).alloc o4).setCell ⟨O,x,none⟩ (.int .u32 (u:Int))).drew /\
  Blk (((((W'.alloc o1).alloc o2).alloc o3).alloc o4).setCell ⟨O,x,none⟩ (.int .u32 (u:Int))).drew O 218 (us fun j=>if j=x then u else g'' j) /\
  (∀B,B<=O->O<W'.heap.size->Below B W' (((((W'.alloc o1).alloc o2).alloc o3).alloc o4).setCell ⟨O,x,none⟩ (.int .u32 (u:Int))).drew):=by
 have hb:=below4 W' o1 o2 o3 o4
 refine⟨(keepsO hb).trans ((KeepsOthers.setCell _ _ _).trans (KeepsOthers.drew _)),((KeepX.of_below hb).trans (KeepX.set (X:=fun j=>j=O) (a:=⟨O,x,none⟩) (.int .u32 (u:Int)) rfl)).trans ⟨nR _,fun _ _ _ _ _ h=>h⟩,?_,fun B hB hO=>((hb.mono (by omega)).setCell (p:=⟨O,x,none⟩) hB _).drew⟩
 rw[<- us_set g'' u hx]
 exact(h.mono hb h.lt).set x _
end Go.Proofs.YtgojgjlninakjaaGreatDoor
