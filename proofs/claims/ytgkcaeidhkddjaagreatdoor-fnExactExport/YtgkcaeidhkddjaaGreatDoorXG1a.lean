import Derived.Laws.DeepBits32
import Derived.Lib.TrailingZeros
import Derived.ChangeKeysEq
import Derived.Deep.RegionWith
import Derived.Deep.WholeRow
import Derived.Laws.ResultCell
import Derived.Test.YtgkcaeidhkddjaaGreatDoorXGVa
set_option maxRecDepth 100000
set_option maxHeartbeats 20000000
namespace Go.Proofs.YtgkcaeidhkddjaaGreatDoor
open Go Go.RowKit
def minusN (s t:Nat):Nat:=s &&& (4294967295 - t)
def commonN (s t:Nat):Nat:=minusN s (minusN s t)
theorem or_lt {s t:Nat} (hs:s<4294967296) (ht:t<4294967296):s ||| t<4294967296:=Nat.or_lt_two_pow (n:=32) hs ht
theorem qby {s t:Nat} (hs:s<4294967296):minusN s t<4294967296:=Nat.lt_of_le_of_lt Nat.and_le_left hs
theorem q7g {s t:Nat} (hs:s<4294967296):commonN s t<4294967296:=qby hs
theorem two_lt {a:Nat} (ha:a<32):2 ^ a<4294967296:=Nat.pow_lt_pow_right (by decide) ha
theorem bit_lt {s i:Nat} (hs:s<4294967296) (h:s.testBit i=true):i<32:=by
 apply Nat.lt_of_not_le
 intro hi
 have:s.testBit i=false:=Nat.testBit_lt_two_pow (Nat.lt_of_lt_of_le hs (by
  have:2 ^ 32<=2 ^ i:=Nat.pow_le_pow_right (by omega) hi
  simpa using this))
 exact Bool.false_ne_true (this.symm.trans h)
theorem q8p {s t:Nat} (hs:s<4294967296) (ht:t<4294967296) (i:Nat):(minusN s t).testBit i=(s.testBit i&&!t.testBit i):=by
 unfold minusN
 rw [Nat.testBit_and,show 4294967295 - t=2 ^ 32 - (t+1) by omega,Nat.testBit_two_pow_sub_succ (by omega)]
 cases h:s.testBit i
 . simp
 . simp [bit_lt hs h]
theorem q4w {s t:Nat} (hs:s<4294967296) (ht:t<4294967296) (i:Nat):(commonN s t).testBit i=(s.testBit i&&t.testBit i):=by
 unfold commonN
 rw [q8p hs (qby hs),q8p hs ht]
 cases s.testBit i <;> cases t.testBit i <;> rfl
theorem q23 (n:Int) (h0:0<=n) (h1:n<4294967296):IntKind.u32.wrap n=n:=by
 simp [IntKind.wrap,IntKind.bits,IntKind.signed]
 omega
theorem u32_or (s t:Nat) (hs:s<4294967296) (ht:t<4294967296):bits .or .u32 (s:Int) (t:Int)=((s ||| t:Nat):Int):=by
 show IntKind.u32.wrap ((BitVec.ofInt 32 (s:Int) ||| BitVec.ofInt 32 (t:Int)).toNat:Int)=_
 rw [BitVec.toNat_or,ofInt_u32 s hs,ofInt_u32 t ht]
 exact q23 _ (by omega) (by have:=or_lt hs ht;omega)
theorem q9u (s t:Nat) (hs:s<4294967296) (ht:t<4294967296):bits .andNot .u32 (s:Int) (t:Int)=((minusN s t:Nat):Int):=by
 show IntKind.u32.wrap ((BitVec.ofInt 32 (s:Int) &&& ~~~BitVec.ofInt 32 (t:Int)).toNat:Int)=_
 rw [BitVec.toNat_and,BitVec.toNat_not,ofInt_u32 s hs,ofInt_u32 t ht,show 2 ^ 32 - 1 - t=4294967295 - t by omega]
 exact q23 _ (by omega) (by have:=qby (t:=t) hs;unfold minusN at this;omega)
theorem qky (s t:Nat) (hs:s<4294967296) (ht:t<4294967296):bits .and .u32 (s:Int) (t:Int)=((s &&& t:Nat):Int):=by
 show IntKind.u32.wrap ((BitVec.ofInt 32 (s:Int) &&& BitVec.ofInt 32 (t:Int)).toNat:Int)=_
 rw [BitVec.toNat_and,ofInt_u32 s hs,ofInt_u32 t ht]
 exact q23 _ (by omega) (by have:s &&& t<=s:=Nat.and_le_left;omega)
theorem qdg (s t:Nat) (w:World) (hs:s<4294967296) (ht:t<4294967296) :
 Calls Tryz.prog 91 #[.agg #[.int .u32 s],.agg #[.int .u32 t]] w fun e w'=>e=.returned (.agg #[.int .u32 ((s ||| t:Nat):Int)])/\w'=((w.alloc (.cells #[.int .u32 (s:Int)] 137)).alloc (.cells #[.int .u32 (t:Int)] 137)).alloc (.cells #[.int .u32 ((s ||| t:Nat):Int)] 137):=by
 have h:=u32_or s t hs ht
 go_enter Tryz.func91,Tryz.ntmps91
 go_wp2
 refine bodyPost_ret (v:=.agg #[.int .u32 ((s ||| t:Nat):Int)]) (by simp [results,Tryz.results91,go_sem]) rfl ⟨rfl,rfl⟩
theorem qbz (s t:Nat) (w:World) (hs:s<4294967296) (ht:t<4294967296) :
 Calls Tryz.prog 206 #[.agg #[.int .u32 s],.agg #[.int .u32 t]] w fun e w'=>e=.returned (.agg #[.int .u32 ((minusN s t:Nat):Int)])/\w'=((w.alloc (.cells #[.int .u32 (s:Int)] 137)).alloc (.cells #[.int .u32 (t:Int)] 137)).alloc (.cells #[.int .u32 ((minusN s t:Nat):Int)] 137):=by
 have h:=q9u s t hs ht
 go_enter Tryz.func206,Tryz.ntmps206
 go_wp2
 refine bodyPost_ret (v:=.agg #[.int .u32 ((minusN s t:Nat):Int)]) (by simp [results,Tryz.results206,go_sem]) rfl ⟨rfl,rfl⟩
theorem qk0 {a:Nat} (ha:a<32):(2:Int) ^ a % 4294967296=((2 ^ a:Nat):Int):=by
 rw [show (2:Int) ^ a=((2 ^ a:Nat):Int) by simp,show (4294967296:Int)=((4294967296:Nat):Int) from rfl,<- Int.natCast_emod,Nat.mod_eq_of_lt (two_lt ha)]
theorem qjl (a:Nat) (w:World) (hs:a<32) :
 Calls Tryz.prog 92 #[.int .i64 a] w fun e w'=>e=.returned (.agg #[.int .u32 ((2 ^ a:Nat):Int)])/\w'=w.alloc (.cells #[.int .u32 ((2 ^ a:Nat):Int)] 137):=by
 have hp:=qk0 hs
 go_enter Tryz.func92,Tryz.ntmps92
 go_wp2
 refine bodyPost_ret (v:=.agg #[.int .u32 ((2 ^ a:Nat):Int)]) (by simp [results,Tryz.results92,go_sem]) rfl ⟨rfl,by simp⟩
theorem qif (s a:Nat) (w:World) (hs:s<4294967296) (ht:a<32) :
 Calls Tryz.prog 59 #[.agg #[.int .u32 s],.int .i64 a] w fun e w'=>e=.returned (.bool (s.testBit a))/\w'=w.alloc (.cells #[.int .u32 (s:Int)] 137):=by
 have e:(bits .and .u32 ((s:Int) / 2 ^ a) 1 == 1)=s.testBit a:=by
  rw [show (s:Int) / 2 ^ a=((s / 2 ^ a:Nat):Int) by simp,show (1:Int)=((1:Nat):Int) from rfl,qky _ 1 (Nat.lt_of_le_of_lt (Nat.div_le_self _ _) hs) (by decide)]
  rw [Nat.and_one_is_mod,Nat.testBit_eq_decide_div_mod_eq]
  generalize s / 2 ^ a=q
  rw [Bool.eq_iff_iff];simp;omega
 have E:=h_ e;clear e
 go_enter Tryz.func59,Tryz.ntmps59
 go_wp2
 go_ret
 exact ⟨qfz (u_ E),rfl⟩
theorem qeo:(Tryz.prog.info? 135).map (fun i=>(i.zero,i.size,i.bytes))=some (some (.int .u32 0),1,4):=by kernel_rfl
theorem qah:Tryz.prog.cellsOf 135=1:=by kernel_rfl
theorem eq_set (d:Nat) (a b:Int) (w:World):(Op.equalIn (d+2) 137 (.agg #[.int .u32 a]) (.agg #[.int .u32 b])).run Tryz.prog w=.ok (a == b) w:=by
 obtain ⟨i0,hi,-⟩:=info_parts qeo
 rw [run_equalIn_array w (d+1) _ _ Tryz.underlying137 hi,qah]
 simp [Op.eqItems,part,show List.range 1=[0] from rfl,run_equalIn_int w d 135 .u32 .u32 a b Tryz.underlying135]
 cases h:a == b <;> simp_all
theorem qav (s:Nat) (w:World) :
 Calls Tryz.prog 207 #[.agg #[.int .u32 s]] w fun e w'=>e=.returned (.bool (s == 0))/\w'=w.alloc (.cells #[.int .u32 (s:Int)] 137):=by
 have he:=fun (a b:Int) w=>eq_set 9998 a b w
 have e0:((s:Int) == 0)=(s == 0):=by rw [Bool.eq_iff_iff];simp
 go_enter Tryz.func207,Tryz.ntmps207
 go_wp2
 go_ret
 exact ⟨rfl,rfl⟩
theorem q7h (s t:Nat) (w:World) (hs:s<4294967296) (ht:t<4294967296) :
 Calls Tryz.prog 205 #[.agg #[.int .u32 s],.agg #[.int .u32 t]] w fun e w'=>e=.returned (.agg #[.int .u32 ((commonN s t:Nat):Int)])/\Below w.heap.size w w':=by
 go_enter Tryz.func205,Tryz.ntmps205
 go_wp2_with fail
 go_region_held3 (fun w'=>w'.cell? ⟨w.heap.size,0,none⟩=some (.int .u32 (s:Int))/\w'.cell? ⟨w.heap.size+1,0,none⟩=some (.int .u32 (t:Int))) (simp [go_sem,World.cell?_alloc_past]) (first | (go_at_call 206;refine (qbz _ _ _ (by first | assumption | exact qby hs) (by first | assumption | exact qby hs)).mono ?_;rintro e w' ⟨rfl,rfl⟩))
 go_wp2
 refine bodyPost_ret (v:=.agg #[.int .u32 ((commonN s t:Nat):Int)]) (by simp [results,Tryz.results205,go_sem,commonN]) rfl ⟨rfl,?_⟩
 refine Below.drew ?_
 iterate 9 refine Below.alloc ?_ (by simp <;> omega) _
 exact bR _ _
theorem qh9:∀ n,n<33->((2:Int) ^ n - 1) % 4294967296=((2 ^ n - 1:Nat):Int):=by decide +kernel
theorem qh7 (n:Nat) (w:World) (hs:n<=32) :
 Calls Tryz.prog 173 #[.int .i64 n] w fun e w'=>e=.returned (.agg #[.int .u32 ((2 ^ n - 1:Nat):Int)])/\Below w.heap.size w w':=by
 have E:=h_ (qh9 n (by omega))
 go_enter Tryz.func173,Tryz.ntmps173
 go_wp2
 refine bodyPost_ret (v:=.agg #[.int .u32 ((2 ^ n - 1:Nat):Int)]) (by simp [results,Tryz.results173,go_sem];rw [u_ E]) rfl ⟨rfl,?_⟩
 exact (bR _ w).alloc (nR _) _
def Tab (w:World):Prop:=∀ j,j<32->w.cell? ⟨3,j,none⟩=some (.int .u8 ((Lib.deBruijn32tab.getD j 0:Nat):Int))
theorem Tab.pos {w:World} (h:Tab w):3<w.heap.size:=by
 apply Nat.lt_of_not_le;intro h0
 have:=h 0 (by decide)
 simp only [World.cell?] at this
 rw [Array.getElem?_eq_none (by simpa using h0)] at this;cases this
theorem Tab.mono {w w':World} (h:Tab w) (hb:Below w.heap.size w w'):Tab w':=fun j hj=>(hb.cell (p:=⟨3,j,none⟩) h.pos).trans (h j hj)
theorem qjj (s:Nat) (hs:s<4294967296) (h0:s ≠ 0):bits .and .u32 (s:Int) (-(s:Int) % 4294967296)=((2 ^ Lib.ctz 32 s:Nat):Int):=by
 rw [show -(s:Int) % 4294967296=((2 ^ 32 - s:Nat):Int) by omega,qky s _ hs (by omega),(Lib.lowest_bit 32 s h0 hs).1]
theorem tz_any (s:Nat) (w:World) (hs:s<4294967296) (h0:s ≠ 0) (ht:Tab w) :
 Calls Tryz.prog 210 #[.int .u32 s] w fun e w'=>e=.returned (.int .i64 (Lib.ctz 32 s))/\w'=w:=by
 have hk:=(Lib.lowest_bit 32 s h0 hs).2
 obtain ⟨j1,j2⟩:=Lib.deBruijn32_at _ hk
 have e1:=qjj s hs h0
 have hc:=ht _ j1
 rw [j2] at hc
 obtain ⟨k,hk'⟩:∃ k,Lib.ctz 32 s=k:=⟨_,rfl⟩
 obtain ⟨p,hp⟩:∃ p,2 ^ Lib.ctz 32 s=p:=⟨_,rfl⟩
 obtain ⟨j,hj⟩:∃ j,2 ^ Lib.ctz 32 s*125613361 % 4294967296 / 134217728=j:=⟨_,rfl⟩
 have e2:(p:Int)*125613361 % 4294967296 / 134217728=(j:Int):=by rw [<- hj,hp];omega
 rw [hj] at hc j1;rw [hp] at e1;rw [hk'] at hc hk ⊢
 have hz:((s:Int) == 0)=false:=by simp;omega
 clear hj hp hk' j2 ht h0
 go_enter Tryz.func210,Tryz.ntmps210
 go_wp2
 go_ret
 exact ⟨rfl,rfl⟩
theorem q8o (s:Nat) (w:World) (hs:s<4294967296) (h0:s ≠ 0) (ht:Tab w) :
 Calls Tryz.prog 209 #[.agg #[.int .u32 s]] w fun e w'=>e=.returned (.int .i64 (Lib.ctz 32 s))/\w'=w.alloc (.cells #[.int .u32 (s:Int)] 137):=by
 have hT:∀ o,Tab (w.alloc o):=fun o=>ht.mono ((bR _ w).alloc (nR _) o)
 have HT:=h_ hT;have H0:=h_ h0;clear hT ht h0
 go_enter Tryz.func209,Tryz.ntmps209
 go_wp2_with (go_at_call 210;refine (tz_any _ _ hs (u_ H0) (u_ HT _)).mono ?_;rintro e w' ⟨rfl,rfl⟩)
 go_ret
 exact ⟨rfl,rfl⟩
def us (g:Nat->Nat):List Value:=(List.range 32).map fun k=>.int .u32 (g k:Int)
theorem qdi (g:Nat->Nat):(us g).length=32:=by simp [us]
theorem us_get (g:Nat->Nat) {k:Nat} (h:k<32):(us g)[k]? = some (.int .u32 (g k:Int)):=by simp [us,h]
theorem us_set (g:Nat->Nat) {k:Nat} (v:Nat) (h:k<32):(us g).set k (.int .u32 (v:Int))=us (fun j=>if j=k then v else g j):=by
 apply List.ext_getElem?
 intro j
 by_cases hj:j<32
 . rw [us_get _ hj]
   by_cases e:j=k
   . subst e;rw [List.getElem?_set_self (by rw [qdi];exact h)];simp
   . rw [List.getElem?_set_ne (fun h=>e h.symm),us_get _ hj];simp [e]
 . rw [List.getElem?_eq_none (by simp [qdi];omega),List.getElem?_eq_none (by rw [qdi];omega)]
theorem us_one (g:Nat->Nat):(us g).toArray.all (·.oneCell')=true:=by
 rw [Array.all_eq_true_iff_forall_mem]
 intro v hv
 simp only [us,List.mem_toArray,List.mem_map] at hv
 obtain ⟨k,-,rfl⟩:=hv
 rfl
theorem qct:(Tryz.prog.info? 221).map (·.size)=some 32:=by kernel_rfl
theorem qkh (g:Nat->Nat):(Tryz.prog.info? 221).map (·.size)=some (us g).toArray.size:=by rw [qct];simp [us]
section
variable {ops:Array Oper} {rest:List Oper} {o:Oper} {a:Act} {w:World} {Q:Exit->Act->World->Prop}
theorem q0s (hgd:o.guard=none) (x:Operand) (ho:o.op=.load 221 x) (b:Nat) (g:Nat->Nat) (hx:a.eval x=.pointer (some ⟨b,0,none⟩)) (hb:Blk w b 221 (us g))
 (h:wpList Tryz.prog ops Q rest (a.put o.dst (.agg (us g).toArray)) w):wpList Tryz.prog ops Q (o :: rest) a w :=
 wpList_load_row hgd 221 x ho b hx 221 (us g).toArray (0,0) _ hb Tryz.underlying221 rfl (qkh g) h
theorem q0j (hgd:o.guard=none) (x y:Operand) (ho:o.op=.store 221 x y) (b:Nat) (g g':Nat->Nat) (hx:a.eval x=.pointer (some ⟨b,0,none⟩)) (hy:a.eval y=.agg (us g').toArray) (hb:Blk w b 221 (us g))
 (h:∀ w',Blk w' b 221 (us g')->w.grownBy w' (some b)->w'.heap.size=w.heap.size->wpList Tryz.prog ops Q rest (a.put o.dst undef) w'):wpList Tryz.prog ops Q (o :: rest) a w :=
 wpList_plain hgd fun _ hK=>wp_store_row 221 x y ho b (us g').toArray hx hy _ _ hb (qkh g') (by simp [us]) (us_one g')
  (hK _ _ (h _ (setRow_heap w b _ _ _ _ hb) ⟨rfl,rfl,rfl,by simp,fun k _ hk=>setRow_other w b k _ (fun e=>hk (by rw [e]))⟩ (by simp)))
end
theorem idx_lt {n x y:Nat} (hx:x<n) (hy:y<n):x*n+y<n*n:=by
 have:(x+1)*n<=n*n:=Nat.mul_le_mul_right _ hx
 rw [Nat.succ_mul] at this;omega
theorem sq_le {n:Nat} (hn:n<=32):n*n<=1024:=Nat.mul_le_mul hn hn
theorem qbo (a:Option Addr) (m c n x y:Nat) (f:Nat->Bool) (w:World) (hm:n*n<=m) (hx:x<n) (hy:y<n) (hn:n<=32) (ha:Bools w a m f) :
 Calls Tryz.prog 103 #[.slice a m c,.int .i64 n,.int .i64 x,.int .i64 y] w fun e w'=>e=.returned (.bool (f (x*n+y)))/\w'=w:=by
 have h1:=idx_lt hx hy
 have h2:=sq_le hn
 obtain ⟨b,o,rfl,-,hc⟩:=ha (x*n+y) (by omega)
 have h3:0<=(x:Int)*n:=by rw [<- Int.natCast_mul];omega
 have h4:(x:Int)*n+y<m:=by rw [<- Int.natCast_mul];omega
 have h5:(x:Int)*n<=1024:=by rw [<- Int.natCast_mul];omega
 clear ha h1 h2 hm
 go_enter Tryz.func103,Tryz.ntmps103
 go_wp2
 go_ret
 exact ⟨rfl,rfl⟩
def isJoinP (f:Nat->Bool) (n a b c:Nat):Prop:=f (a*n+c)=true/\f (b*n+c)=true/\∀ d,d<n->f (a*n+d)=true->f (b*n+d)=true->f (c*n+d)=true
def isJoin (f:Nat->Bool) (n a b c:Nat):Bool:=f (a*n+c)&&f (b*n+c)&&(List.range n).all fun d=>!f (a*n+d) || !f (b*n+d) || f (c*n+d)
theorem q82 {f:Nat->Bool} {n a b c:Nat}:isJoin f n a b c=true ↔ isJoinP f n a b c:=by
 simp only [isJoin,isJoinP,Bool.and_eq_true,List.all_eq_true,List.mem_range,Bool.or_eq_true,Bool.not_eq_true',and_assoc]
 refine and_congr_right fun _=>and_congr_right fun _=>forall_congr' fun d=>imp_congr_right fun _=>?_
 cases f (a*n+d) <;> cases f (b*n+d) <;> cases f (c*n+d) <;> simp
theorem q5c {f:Nat->Bool} {n a b c:Nat} (h:isJoinP f n a b c):isJoin f n a b c=true:=q82.2 h
theorem q3s {f:Nat->Bool} {n a b c:Nat} (h:¬ isJoinP f n a b c):isJoin f n a b c=false:=by
 cases e:isJoin f n a b c
 . rfl
 . exact absurd (q82.1 e) h
theorem q3w (t:Option Addr) (m cap n a b c:Nat) (f:Nat->Bool) (w:World) (hm:n*n<=m) (hn:n<=32) (ha:a<n) (hb:b<n) (hc:c<n) (ht:Bools w t m f) :
 Calls Tryz.prog 131 #[.slice t m cap,.int .i64 n,.int .i64 a,.int .i64 b,.int .i64 c] w fun e w'=>e=.returned (.bool (isJoin f n a b c))/\w'=w:=by
 have HM:=h_ hm;clear hm
 cases h1:f (a*n+c)
 . have HR:Hid (isJoin f n a b c=false):=q3s fun h=>Bool.false_ne_true (h1.symm.trans h.1)
   go_enter Tryz.func131,Tryz.ntmps131
   go_wp2_with (go_at_call 103;refine (qbo _ _ _ _ _ _ f _ (u_ HM) (by assumption) (by assumption) hn ht).mono ?_;rintro e w' ⟨rfl,rfl⟩)
   go_ret
   exact ⟨qfz (u_ HR).symm,rfl⟩
 cases h2:f (b*n+c)
 . have HR:Hid (isJoin f n a b c=false):=q3s fun h=>Bool.false_ne_true (h2.symm.trans h.2.1)
   go_enter Tryz.func131,Tryz.ntmps131
   go_wp2_with (go_at_call 103;refine (qbo _ _ _ _ _ _ f _ (u_ HM) (by assumption) (by assumption) hn ht).mono ?_;rintro e w' ⟨rfl,rfl⟩)
   go_ret
   exact ⟨qfz (u_ HR).symm,rfl⟩
 go_enter Tryz.func131,Tryz.ntmps131
 go_wp2_with (go_at_call 103;refine (qbo _ _ _ _ _ _ f _ (u_ HM) (by assumption) (by assumption) hn ht).mono ?_;rintro e w' ⟨rfl,rfl⟩)
 go_loop [11] (fun i=>∃ k:Nat,k<=n/\i=.int .i64 k/\∀ d,d<k->f (a*n+d)=true->f (b*n+d)=true->f (c*n+d)=true) (fun i=>n - (intOf i).toNat)
 case atStart=>exact ⟨0,nZ _,rfl,fun d h=>absurd h (nL _)⟩
 case round =>
  obtain ⟨k,hk,rfl,hall⟩:=hrel
  have HA:=h_ hall;clear hall
  by_cases hlt:k<n
  . by_cases hbad:f (a*n+k)=true/\f (b*n+k)=true/\f (c*n+k)=false
    . obtain ⟨h3,h4,h5⟩:=hbad
      have HR:Hid (isJoin f n a b c=false):=q3s fun h=>Bool.false_ne_true (h5.symm.trans (h.2.2 k hlt h3 h4))
      go_wp2_with (go_at_call 103;refine (qbo _ _ _ _ _ _ f _ (u_ HM) (by assumption) (by assumption) hn ht).mono ?_;rintro e w' ⟨rfl,rfl⟩)
      go_ret
      exact ⟨qfz (u_ HR).symm,rfl⟩
    . have HG:Hid (f (a*n+k)=true->f (b*n+k)=true->f (c*n+k)=true):=fun h3 h4=>by
       cases h5:f (c*n+k)
       . exact absurd ⟨h3,h4,h5⟩ hbad
       . rfl
      have HS:Hid (∀ d,d<k+1->f (a*n+d)=true->f (b*n+d)=true->f (c*n+d)=true):=fun d hd=>by
       by_cases e:d=k
       . rw [e];exact u_ HG
       . exact u_ HA d (by omega)
      have hcs:f (a*n+k)=false ∨ (f (a*n+k)=true/\f (b*n+k)=false) ∨ (f (a*n+k)=true/\f (b*n+k)=true/\f (c*n+k)=true):=by
       cases h3:f (a*n+k)
       . exact .inl rfl
       . cases h4:f (b*n+k)
         . exact .inr (.inl ⟨rfl,rfl⟩)
         . exact .inr (.inr ⟨rfl,rfl,u_ HG h3 h4⟩)
      clear hbad
      rcases hcs with h3 | ⟨h3,h4⟩ | ⟨h3,h4,h5⟩
      all_goals
       go_wp2_with (go_at_call 103;refine (qbo _ _ _ _ _ _ f _ (u_ HM) (by assumption) (by assumption) hn ht).mono ?_;rintro e w' ⟨rfl,rfl⟩)
       go_round
       case rel=>exact ⟨k+1,by omega,by go_num,u_ HS⟩
       case measure=>simp [intOf];omega
  . have HR:Hid (isJoin f n a b c=true):=q5c ⟨h1,h2,fun d hd=>u_ HA d (by omega)⟩
    go_wp2
    go_ret
    exact ⟨qfz (u_ HR).symm,rfl⟩
def isMeetP (f:Nat->Bool) (n a b c:Nat):Prop:=f (c*n+a)=true/\f (c*n+b)=true/\∀ d,d<n->f (d*n+a)=true->f (d*n+b)=true->f (d*n+c)=true
def isMeet (f:Nat->Bool) (n a b c:Nat):Bool:=f (c*n+a)&&f (c*n+b)&&(List.range n).all fun d=>!f (d*n+a) || !f (d*n+b) || f (d*n+c)
theorem q85 {f:Nat->Bool} {n a b c:Nat}:isMeet f n a b c=true ↔ isMeetP f n a b c:=by
 simp only [isMeet,isMeetP,Bool.and_eq_true,List.all_eq_true,List.mem_range,Bool.or_eq_true,Bool.not_eq_true',and_assoc]
 refine and_congr_right fun _=>and_congr_right fun _=>forall_congr' fun d=>imp_congr_right fun _=>?_
 cases f (d*n+a) <;> cases f (d*n+b) <;> cases f (d*n+c) <;> simp
theorem q5e {f:Nat->Bool} {n a b c:Nat} (h:isMeetP f n a b c):isMeet f n a b c=true:=q85.2 h
theorem q3u {f:Nat->Bool} {n a b c:Nat} (h:¬ isMeetP f n a b c):isMeet f n a b c=false:=by
 cases e:isMeet f n a b c
 . rfl
 . exact absurd (q85.1 e) h
theorem q3x (t:Option Addr) (m cap n a b c:Nat) (f:Nat->Bool) (w:World) (hm:n*n<=m) (hn:n<=32) (ha:a<n) (hb:b<n) (hc:c<n) (ht:Bools w t m f) :
 Calls Tryz.prog 132 #[.slice t m cap,.int .i64 n,.int .i64 a,.int .i64 b,.int .i64 c] w fun e w'=>e=.returned (.bool (isMeet f n a b c))/\w'=w:=by
 have HM:=h_ hm;clear hm
 cases h1:f (c*n+a)
 . have HR:Hid (isMeet f n a b c=false):=q3u fun h=>Bool.false_ne_true (h1.symm.trans h.1)
   go_enter Tryz.func132,Tryz.ntmps132
   go_wp2_with (go_at_call 103;refine (qbo _ _ _ _ _ _ f _ (u_ HM) (by assumption) (by assumption) hn ht).mono ?_;rintro e w' ⟨rfl,rfl⟩)
   go_ret
   exact ⟨qfz (u_ HR).symm,rfl⟩
 cases h2:f (c*n+b)
 . have HR:Hid (isMeet f n a b c=false):=q3u fun h=>Bool.false_ne_true (h2.symm.trans h.2.1)
   go_enter Tryz.func132,Tryz.ntmps132
   go_wp2_with (go_at_call 103;refine (qbo _ _ _ _ _ _ f _ (u_ HM) (by assumption) (by assumption) hn ht).mono ?_;rintro e w' ⟨rfl,rfl⟩)
   go_ret
   exact ⟨qfz (u_ HR).symm,rfl⟩
 go_enter Tryz.func132,Tryz.ntmps132
 go_wp2_with (go_at_call 103;refine (qbo _ _ _ _ _ _ f _ (u_ HM) (by assumption) (by assumption) hn ht).mono ?_;rintro e w' ⟨rfl,rfl⟩)
 go_loop [11] (fun i=>∃ k:Nat,k<=n/\i=.int .i64 k/\∀ d,d<k->f (d*n+a)=true->f (d*n+b)=true->f (d*n+c)=true) (fun i=>n - (intOf i).toNat)
 case atStart=>exact ⟨0,nZ _,rfl,fun d h=>absurd h (nL _)⟩
 case round =>
  obtain ⟨k,hk,rfl,hall⟩:=hrel
  have HA:=h_ hall;clear hall
  by_cases hlt:k<n
  . by_cases hbad:f (k*n+a)=true/\f (k*n+b)=true/\f (k*n+c)=false
    . obtain ⟨h3,h4,h5⟩:=hbad
      have HR:Hid (isMeet f n a b c=false):=q3u fun h=>Bool.false_ne_true (h5.symm.trans (h.2.2 k hlt h3 h4))
      go_wp2_with (go_at_call 103;refine (qbo _ _ _ _ _ _ f _ (u_ HM) (by assumption) (by assumption) hn ht).mono ?_;rintro e w' ⟨rfl,rfl⟩)
      go_ret
      exact ⟨qfz (u_ HR).symm,rfl⟩
    . have HG:Hid (f (k*n+a)=true->f (k*n+b)=true->f (k*n+c)=true):=fun h3 h4=>by
       cases h5:f (k*n+c)
       . exact absurd ⟨h3,h4,h5⟩ hbad
       . rfl
      have HS:Hid (∀ d,d<k+1->f (d*n+a)=true->f (d*n+b)=true->f (d*n+c)=true):=fun d hd=>by
       by_cases e:d=k
       . rw [e];exact u_ HG
       . exact u_ HA d (by omega)
      have hcs:f (k*n+a)=false ∨ (f (k*n+a)=true/\f (k*n+b)=false) ∨ (f (k*n+a)=true/\f (k*n+b)=true/\f (k*n+c)=true):=by
       cases h3:f (k*n+a)
       . exact .inl rfl
       . cases h4:f (k*n+b)
         . exact .inr (.inl ⟨rfl,rfl⟩)
         . exact .inr (.inr ⟨rfl,rfl,u_ HG h3 h4⟩)
      clear hbad
      rcases hcs with h3 | ⟨h3,h4⟩ | ⟨h3,h4,h5⟩
      all_goals
       go_wp2_with (go_at_call 103;refine (qbo _ _ _ _ _ _ f _ (u_ HM) (by assumption) (by assumption) hn ht).mono ?_;rintro e w' ⟨rfl,rfl⟩)
       go_round
       case rel=>exact ⟨k+1,by omega,by go_num,u_ HS⟩
       case measure=>simp [intOf];omega
  . have HR:Hid (isMeet f n a b c=true):=q5e ⟨h1,h2,fun d hd=>u_ HA d (by omega)⟩
    go_wp2
    go_ret
    exact ⟨qfz (u_ HR).symm,rfl⟩
theorem blk1 (w:World) (o2 o3:Obj) (c:Array Value) (t:TypeId):Blk (((w.alloc (.cells c t)).alloc o2).alloc o3) w.heap.size t c.toList:=((Blk.new w t c).alloc o2).alloc o3
theorem blk3 (w:World) (o1 o2:Obj) (c:Array Value) (g:Nat->Nat) (h:c.toList=us g):Blk (((w.alloc o1).alloc o2).alloc (.cells c 221)) (w.heap.size+1+1) 221 (us g):=by
 rw [<- h];simpa using Blk.new ((w.alloc o1).alloc o2) 221 c
theorem blk2 (w:World) (o1 o3:Obj) (c:Array Value) (g:Nat->Nat) (h:c.toList=us g):Blk (((w.alloc o1).alloc (.cells c 221)).alloc o3) (w.heap.size+1) 221 (us g):=by
 rw [<- h];simpa using (Blk.new (w.alloc o1) 221 c).alloc o3
theorem below3 (w:World) (o1 o2 o3:Obj):Below w.heap.size w (((w.alloc o1).alloc o2).alloc o3):=(((bR _ w).alloc (nR _) o1).alloc (by simp) o2).alloc (by simp;omega) o3
def IsRel (g:Nat->Nat) (R:Nat->Nat->Bool):Prop:=∀ a,a<32->g a<4294967296/\∀ b,(g a).testBit b=R a b
theorem qjz (b i:Nat):(2 ^ b).testBit i=decide (b=i):=by rw [Nat.testBit_two_pow]
theorem IsRel.add {g:Nat->Nat} {R:Nat->Nat->Bool} (h:IsRel g R) {x y:Nat} (hx:x<32) (hy:y<32) :
 IsRel (fun j=>if j=x then g x ||| 2 ^ y else g j) (fun a b=>R a b || (decide (a=x)&&decide (b=y))):=fun a ha=>by
 by_cases e:a=x
 . subst e
   simp only [if_true]
   refine ⟨or_lt (h a ha).1 (two_lt hy),fun b=>?_⟩
   rw [Nat.testBit_or,(h a ha).2 b,qjz]
   cases R a b <;> simp [eq_comm]
 . simp only [if_neg e]
   refine ⟨(h a ha).1,fun b=>?_⟩
   rw [(h a ha).2 b];simp [e]
theorem IsRel.congr {g:Nat->Nat} {R R':Nat->Nat->Bool} (h:IsRel g R) (hR:∀ a b,a<32->R a b=R' a b):IsRel g R':=fun a ha=>⟨(h a ha).1,fun b=>((h a ha).2 b).trans (hR a b ha)⟩
def part (f:Nat->Bool) (n i:Nat):Nat->Nat->Bool:=fun a b=>decide (b<n)&&decide (a*n+b<i)&&f (a*n+b)
end Go.Proofs.YtgkcaeidhkddjaaGreatDoor
