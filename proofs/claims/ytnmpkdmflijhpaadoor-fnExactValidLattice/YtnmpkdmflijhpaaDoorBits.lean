/- Sets of labels as one word of bits: the methods of impl.labelSet. -/
import Derived.Test.YtnmpkdmflijhpaaDoorBase
import Derived.Laws.DeepBits32
import Derived.Lib.TrailingZeros
import Derived.ChangeKeysEq
import Derived.Deep.RegionWith
import Derived.Deep.RegionHeld3
namespace Go.Proofs.YtnmpkdmflijhpaaDoor
open Go Go.RowKit

def minusN (s t : Nat) : Nat := s &&& (4294967295 - t)
def commonN (s t : Nat) : Nat := minusN s (minusN s t)
theorem or_lt {s t : Nat} (hs : s < 4294967296) (ht : t < 4294967296) : s ||| t < 4294967296 := Nat.or_lt_two_pow (n := 32) hs ht
theorem minusN_lt {s t : Nat} (hs : s < 4294967296) : minusN s t < 4294967296 := Nat.lt_of_le_of_lt Nat.and_le_left hs
theorem commonN_lt {s t : Nat} (hs : s < 4294967296) : commonN s t < 4294967296 := minusN_lt hs
theorem two_lt {a : Nat} (ha : a < 32) : 2 ^ a < 4294967296 := Nat.pow_lt_pow_right (by decide) ha
theorem bit_lt {s i : Nat} (hs : s < 4294967296) (h : s.testBit i = true) : i < 32 := by
  apply Nat.lt_of_not_le
  intro hi
  have : s.testBit i = false := Nat.testBit_lt_two_pow (Nat.lt_of_lt_of_le hs (by
    have : 2 ^ 32 ≤ 2 ^ i := Nat.pow_le_pow_right (by omega) hi
    simpa using this))
  exact Bool.false_ne_true (this.symm.trans h)
theorem minusN_bit {s t : Nat} (hs : s < 4294967296) (ht : t < 4294967296) (i : Nat) : (minusN s t).testBit i = (s.testBit i && !t.testBit i) := by
  unfold minusN
  rw [Nat.testBit_and, show 4294967295 - t = 2 ^ 32 - (t + 1) by omega, Nat.testBit_two_pow_sub_succ (by omega)]
  cases h : s.testBit i
  · simp
  · simp [bit_lt hs h]
theorem commonN_bit {s t : Nat} (hs : s < 4294967296) (ht : t < 4294967296) (i : Nat) : (commonN s t).testBit i = (s.testBit i && t.testBit i) := by
  unfold commonN
  rw [minusN_bit hs (minusN_lt hs), minusN_bit hs ht]
  cases s.testBit i <;> cases t.testBit i <;> rfl

theorem wrap_u32_small (n : Int) (h0 : 0 ≤ n) (h1 : n < 4294967296) : IntKind.u32.wrap n = n := by
  simp [IntKind.wrap, IntKind.bits, IntKind.signed]
  omega
theorem u32_or (s t : Nat) (hs : s < 4294967296) (ht : t < 4294967296) : bits .or .u32 (s : Int) (t : Int) = ((s ||| t : Nat) : Int) := by
  show IntKind.u32.wrap ((BitVec.ofInt 32 (s : Int) ||| BitVec.ofInt 32 (t : Int)).toNat : Int) = _
  rw [BitVec.toNat_or, ofInt_u32 s hs, ofInt_u32 t ht]
  exact wrap_u32_small _ (by omega) (by have := or_lt hs ht; omega)
theorem u32_andNot (s t : Nat) (hs : s < 4294967296) (ht : t < 4294967296) : bits .andNot .u32 (s : Int) (t : Int) = ((minusN s t : Nat) : Int) := by
  show IntKind.u32.wrap ((BitVec.ofInt 32 (s : Int) &&& ~~~BitVec.ofInt 32 (t : Int)).toNat : Int) = _
  rw [BitVec.toNat_and, BitVec.toNat_not, ofInt_u32 s hs, ofInt_u32 t ht, show 2 ^ 32 - 1 - t = 4294967295 - t by omega]
  exact wrap_u32_small _ (by omega) (by have := minusN_lt (t := t) hs; unfold minusN at this; omega)
theorem u32_and (s t : Nat) (hs : s < 4294967296) (ht : t < 4294967296) : bits .and .u32 (s : Int) (t : Int) = ((s &&& t : Nat) : Int) := by
  show IntKind.u32.wrap ((BitVec.ofInt 32 (s : Int) &&& BitVec.ofInt 32 (t : Int)).toNat : Int) = _
  rw [BitVec.toNat_and, ofInt_u32 s hs, ofInt_u32 t ht]
  exact wrap_u32_small _ (by omega) (by have : s &&& t ≤ s := Nat.and_le_left; omega)

set_option maxHeartbeats 400000 in
theorem union_any (s t : Nat) (w : World) (hs : s < 4294967296) (ht : t < 4294967296) :
    Calls Tryd.prog 85 #[.agg #[.int .u32 s], .agg #[.int .u32 t]] w fun e w' => e = .returned (.agg #[.int .u32 ((s ||| t : Nat) : Int)]) ∧ w' = ((w.alloc (.cells #[.int .u32 (s : Int)] 73)).alloc (.cells #[.int .u32 (t : Int)] 73)).alloc (.cells #[.int .u32 ((s ||| t : Nat) : Int)] 73) := by
  have h := u32_or s t hs ht
  go_enter Tryd.func85, Tryd.ntmps85
  go_wp2
  refine bodyPost_ret (v := .agg #[.int .u32 ((s ||| t : Nat) : Int)]) (by simp [results, Tryd.results85, go_sem]) rfl ⟨rfl, rfl⟩
set_option maxHeartbeats 400000 in
theorem minus_any (s t : Nat) (w : World) (hs : s < 4294967296) (ht : t < 4294967296) :
    Calls Tryd.prog 105 #[.agg #[.int .u32 s], .agg #[.int .u32 t]] w fun e w' => e = .returned (.agg #[.int .u32 ((minusN s t : Nat) : Int)]) ∧ w' = ((w.alloc (.cells #[.int .u32 (s : Int)] 73)).alloc (.cells #[.int .u32 (t : Int)] 73)).alloc (.cells #[.int .u32 ((minusN s t : Nat) : Int)] 73) := by
  have h := u32_andNot s t hs ht
  go_enter Tryd.func105, Tryd.ntmps105
  go_wp2
  refine bodyPost_ret (v := .agg #[.int .u32 ((minusN s t : Nat) : Int)]) (by simp [results, Tryd.results105, go_sem]) rfl ⟨rfl, rfl⟩
theorem pow_mod {a : Nat} (ha : a < 32) : (2 : Int) ^ a % 4294967296 = ((2 ^ a : Nat) : Int) := by
  rw [show (2 : Int) ^ a = ((2 ^ a : Nat) : Int) by simp, show (4294967296 : Int) = ((4294967296 : Nat) : Int) from rfl, ← Int.natCast_emod, Nat.mod_eq_of_lt (two_lt ha)]
set_option maxHeartbeats 400000 in
theorem one_any (a : Nat) (w : World) (hs : a < 32) :
    Calls Tryd.prog 86 #[.int .i64 a] w fun e w' => e = .returned (.agg #[.int .u32 ((2 ^ a : Nat) : Int)]) ∧ w' = w.alloc (.cells #[.int .u32 ((2 ^ a : Nat) : Int)] 73) := by
  have hp := pow_mod hs
  go_enter Tryd.func86, Tryd.ntmps86
  go_wp2
  refine bodyPost_ret (v := .agg #[.int .u32 ((2 ^ a : Nat) : Int)]) (by simp [results, Tryd.results86, go_sem]) rfl ⟨rfl, by simp⟩
set_option maxHeartbeats 400000 in
theorem has_any (s a : Nat) (w : World) (hs : s < 4294967296) (ht : a < 32) :
    Calls Tryd.prog 104 #[.agg #[.int .u32 s], .int .i64 a] w fun e w' => e = .returned (.bool (s.testBit a)) ∧ w' = w.alloc (.cells #[.int .u32 (s : Int)] 73) := by
  have e : (bits .and .u32 ((s : Int) / 2 ^ a) 1 == 1) = s.testBit a := by
    rw [show (s : Int) / 2 ^ a = ((s / 2 ^ a : Nat) : Int) by simp, show (1 : Int) = ((1 : Nat) : Int) from rfl, u32_and _ 1 (Nat.lt_of_le_of_lt (Nat.div_le_self _ _) hs) (by decide)]
    rw [Nat.and_one_is_mod, Nat.testBit_eq_decide_div_mod_eq]
    generalize s / 2 ^ a = q
    rw [Bool.eq_iff_iff]; simp; omega
  have E := hide e; clear e
  go_enter Tryd.func104, Tryd.ntmps104
  go_wp2
  go_ret
  exact ⟨ret_bool (unhide E), rfl⟩
theorem info_u32 : (Tryd.prog.info? 71).map (fun i => (i.zero, i.size, i.bytes)) = some (some (.int .u32 0), 1, 4) := by kernel_rfl
theorem cells_u32 : Tryd.prog.cellsOf 71 = 1 := by kernel_rfl
theorem eq_set (d : Nat) (a b : Int) (w : World) : (Op.equalIn (d + 2) 73 (.agg #[.int .u32 a]) (.agg #[.int .u32 b])).run Tryd.prog w = .ok (a == b) w := by
  obtain ⟨i0, hi, -⟩ := info_parts info_u32
  rw [run_equalIn_array w (d + 1) _ _ Tryd.underlying73 hi, cells_u32]
  simp [Op.eqItems, part, show List.range 1 = [0] from rfl, run_equalIn_int w d 71 .u32 .u32 a b Tryd.underlying71]
  cases h : a == b <;> simp_all
set_option maxRecDepth 100000 in
set_option maxHeartbeats 400000 in
theorem empty_any (s : Nat) (w : World) :
    Calls Tryd.prog 106 #[.agg #[.int .u32 s]] w fun e w' => e = .returned (.bool (s == 0)) ∧ w' = w.alloc (.cells #[.int .u32 (s : Int)] 73) := by
  have he := fun (a b : Int) w => eq_set 9998 a b w
  have e0 : ((s : Int) == 0) = (s == 0) := by rw [Bool.eq_iff_iff]; simp
  go_enter Tryd.func106, Tryd.ntmps106
  go_wp2
  go_ret
  exact ⟨rfl, rfl⟩
set_option maxHeartbeats 400000 in
theorem common_any (s t : Nat) (w : World) (hs : s < 4294967296) (ht : t < 4294967296) :
    Calls Tryd.prog 103 #[.agg #[.int .u32 s], .agg #[.int .u32 t]] w fun e w' => e = .returned (.agg #[.int .u32 ((commonN s t : Nat) : Int)]) ∧ Below w.heap.size w w' := by
  go_enter Tryd.func103, Tryd.ntmps103
  go_wp2_with fail
  go_region_held3 (fun w' => w'.cell? ⟨w.heap.size, 0, none⟩ = some (.int .u32 (s : Int)) ∧ w'.cell? ⟨w.heap.size + 1, 0, none⟩ = some (.int .u32 (t : Int))) (simp [go_sem, World.cell?_alloc_past]) (first | (go_at_call 105; refine (minus_any _ _ _ (by first | assumption | exact minusN_lt hs) (by first | assumption | exact minusN_lt hs)).mono ?_; rintro e w' ⟨rfl, rfl⟩))
  go_wp2
  refine bodyPost_ret (v := .agg #[.int .u32 ((commonN s t : Nat) : Int)]) (by simp [results, Tryd.results103, go_sem, commonN]) rfl ⟨rfl, ?_⟩
  refine Below.drew ?_
  iterate 9 refine Below.alloc ?_ (by simp <;> omega) _
  exact Below.refl _ _
theorem all_mod : ∀ n, n < 33 → ((2 : Int) ^ n - 1) % 4294967296 = ((2 ^ n - 1 : Nat) : Int) := by decide +kernel
set_option maxHeartbeats 400000 in
theorem all_any (n : Nat) (w : World) (hs : n ≤ 32) :
    Calls Tryd.prog 82 #[.int .i64 n] w fun e w' => e = .returned (.agg #[.int .u32 ((2 ^ n - 1 : Nat) : Int)]) ∧ Below w.heap.size w w' := by
  have E := hide (all_mod n (by omega))
  go_enter Tryd.func82, Tryd.ntmps82
  go_wp2
  refine bodyPost_ret (v := .agg #[.int .u32 ((2 ^ n - 1 : Nat) : Int)]) (by simp [results, Tryd.results82, go_sem]; rw [unhide E]) rfl ⟨rfl, ?_⟩
  exact (Below.refl _ w).alloc (Nat.le_refl _) _
/-- The table of math/bits, as its text lays it. -/
def Tab (w : World) : Prop := ∀ j, j < 32 → w.cell? ⟨0, j, none⟩ = some (.int .u8 ((Lib.deBruijn32tab.getD j 0 : Nat) : Int))
theorem Tab.pos {w : World} (h : Tab w) : 0 < w.heap.size := by
  apply Nat.lt_of_not_le; intro h0
  have := h 0 (by decide)
  simp only [World.cell?] at this
  rw [Array.getElem?_eq_none (by simpa using h0)] at this; cases this
theorem Tab.mono {w w' : World} (h : Tab w) (hb : Below w.heap.size w w') : Tab w' := fun j hj => (hb.cell (p := ⟨0, j, none⟩) h.pos).trans (h j hj)
theorem neg_and (s : Nat) (hs : s < 4294967296) (h0 : s ≠ 0) : bits .and .u32 (s : Int) (-(s : Int) % 4294967296) = ((2 ^ Lib.ctz 32 s : Nat) : Int) := by
  rw [show -(s : Int) % 4294967296 = ((2 ^ 32 - s : Nat) : Int) by omega, u32_and s _ hs (by omega), (Lib.lowest_bit 32 s h0 hs).1]
set_option maxHeartbeats 400000 in
theorem tz_any (s : Nat) (w : World) (hs : s < 4294967296) (h0 : s ≠ 0) (ht : Tab w) :
    Calls Tryd.prog 116 #[.int .u32 s] w fun e w' => e = .returned (.int .i64 (Lib.ctz 32 s)) ∧ w' = w := by
  have hk := (Lib.lowest_bit 32 s h0 hs).2
  obtain ⟨j1, j2⟩ := Lib.deBruijn32_at _ hk
  have e1 := neg_and s hs h0
  have hc := ht _ j1
  rw [j2] at hc
  obtain ⟨k, hk'⟩ : ∃ k, Lib.ctz 32 s = k := ⟨_, rfl⟩
  obtain ⟨p, hp⟩ : ∃ p, 2 ^ Lib.ctz 32 s = p := ⟨_, rfl⟩
  obtain ⟨j, hj⟩ : ∃ j, 2 ^ Lib.ctz 32 s * 125613361 % 4294967296 / 134217728 = j := ⟨_, rfl⟩
  have e2 : (p : Int) * 125613361 % 4294967296 / 134217728 = (j : Int) := by rw [← hj, hp]; omega
  rw [hj] at hc j1; rw [hp] at e1; rw [hk'] at hc hk ⊢
  have hz : ((s : Int) == 0) = false := by simp; omega
  clear hj hp hk' j2 ht h0
  go_enter Tryd.func116, Tryd.ntmps116
  go_wp2
  go_ret
  exact ⟨rfl, rfl⟩
set_option maxHeartbeats 400000 in
theorem lowest_any (s : Nat) (w : World) (hs : s < 4294967296) (h0 : s ≠ 0) (ht : Tab w) :
    Calls Tryd.prog 108 #[.agg #[.int .u32 s]] w fun e w' => e = .returned (.int .i64 (Lib.ctz 32 s)) ∧ w' = w.alloc (.cells #[.int .u32 (s : Int)] 73) := by
  have hT : ∀ o, Tab (w.alloc o) := fun o => ht.mono ((Below.refl _ w).alloc (Nat.le_refl _) o)
  have HT := hide hT; have H0 := hide h0; clear hT ht h0
  go_enter Tryd.func108, Tryd.ntmps108
  go_wp2_with (go_at_call 116; refine (tz_any _ _ hs (unhide H0) (unhide HT _)).mono ?_; rintro e w' ⟨rfl, rfl⟩)
  go_ret
  exact ⟨rfl, rfl⟩
end Go.Proofs.YtnmpkdmflijhpaaDoor
