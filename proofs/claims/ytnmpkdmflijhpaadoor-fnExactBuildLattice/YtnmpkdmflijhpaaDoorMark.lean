/- The marks that package laws writes into slices, and how it finds them again. -/
import Derived.Test.YtnmpkdmflijhpaaDoorLat
import Derived.Test.YtnmpkdmflijhpaaDoorOrd
namespace Go.Proofs.YtnmpkdmflijhpaaDoor
open Go Go.RowKit

/-- Nothing but block G has changed. -/
structure Chg (G : Nat) (w w' : World) : Prop where
  os : w'.os = w.os
  tape : w'.tape = w.tape
  output : w'.output = w.output
  size : w'.heap.size = w.heap.size
  block : ∀ b, b ≠ G → w'.heap[b]? = w.heap[b]?
theorem Chg.refl (G : Nat) (w : World) : Chg G w w := ⟨rfl, rfl, rfl, rfl, fun _ _ => rfl⟩
theorem Chg.trans {G : Nat} {w w' w'' : World} (h : Chg G w w') (h' : Chg G w' w'') : Chg G w w'' := ⟨h'.os.trans h.os, h'.tape.trans h.tape, h'.output.trans h.output, h'.size.trans h.size, fun b hb => (h'.block b hb).trans (h.block b hb)⟩
theorem Chg.set {G : Nat} {w w' : World} (h : Chg G w w') (j : Nat) (v : Value) : Chg G w (w'.setCell ⟨G, j, none⟩ v) :=
  have hb : Below w'.heap.size w' w' := Below.refl _ _
  have h2 : Below G w' (w'.setCell ⟨G, j, none⟩ v) := (Below.refl G w').setCell (Nat.le_refl _) v
  ⟨h2.os.trans h.os, h2.tape.trans h.tape, h2.output.trans h.output, by simp [h.size], fun b hbG => (heap_setCell_other w' ⟨G, j, none⟩ b v hbG).trans (h.block b hbG)⟩
theorem Chg.below {G B : Nat} {w w' : World} (h : Chg G w w') (hB : B ≤ G) : Below B w w' := ⟨h.os, h.tape, h.output, by rw [h.size]; exact Nat.le_refl _, fun b hb => h.block b (by omega)⟩
theorem Chg.blk {G b : Nat} {w w' : World} {t : TypeId} {cs : List Value} (h : Chg G w w') (k : Blk w b t cs) (hb : b ≠ G) : Blk w' b t cs := (h.block b hb).trans k

def mB (k i : Nat) : Bool := (k + i) % 3 == 0
def mI (k i : Nat) : Int := ((k + i : Nat) : Int)
theorem bs_at {n i : Nat} (f : Nat → Bool) (h : i < n) : (bs n f)[i]? = some (.bool (f i)) := by simp [bs, h]
theorem is_at {n i : Nat} (f : Nat → Int) (h : i < n) : (is n f)[i]? = some (.int .i64 (f i)) := by simp [is, h]
theorem bs_upd {n k i : Nat} (f : Nat → Bool) : (bs n fun x => if x < i then mB k x else f x).set i (.bool (mB k i)) = bs n fun x => if x < i + 1 then mB k x else f x := by
  refine list_eq_of (by simp [bs]) fun j hj => ?_
  rw [List.getElem?_set]
  by_cases e : i = j
  · subst e; simp [bs, hj]
  · rw [if_neg e, bs_at _ hj]
    by_cases h : j < i
    · simp [h, show j < i + 1 by omega]
    · simp [h, show ¬ j < i + 1 by omega]
theorem is_upd {n k i : Nat} (f : Nat → Int) : (is n fun x => if x < i then mI k x else f x).set i (.int .i64 (mI k i)) = is n fun x => if x < i + 1 then mI k x else f x := by
  refine list_eq_of (by simp [is]) fun j hj => ?_
  rw [List.getElem?_set]
  by_cases e : i = j
  · subst e; simp [is, hj]
  · rw [if_neg e, is_at _ hj]
    by_cases h : j < i
    · simp [h, show j < i + 1 by omega]
    · simp [h, show ¬ j < i + 1 by omega]

set_option maxRecDepth 100000 in
set_option maxHeartbeats 1000000 in
theorem markBoolS_any (G n k : Nat) (f : Nat → Bool) (w : World) (hn : n ≤ 1048576) (hk : k ≤ 1048576) (hG : Blk w G 4 (bs n f)) :
    Calls Tryd.prog 48 #[.slice (some ⟨G, 0, none⟩) n n, .int .i64 k] w fun e w' => e = .returned (.int .i64 ((k + n : Nat) : Int)) ∧ Blk w' G 4 (bs n (mB k)) ∧ Chg G w w' := by
  go_enter Tryd.func48, Tryd.ntmps48
  go_wp2
  go_loopw [1, 5] (fun kv i wr => ∃ j : Nat, j ≤ n ∧ i = .int .i64 j ∧ kv = .int .i64 ((k + j : Nat) : Int) ∧ Blk wr G 4 (bs n fun x => if x < j then mB k x else f x) ∧ Chg G w wr) (fun _ i _ => n - (intOf i).toNat)
  case atStart => exact ⟨0, Nat.zero_le _, rfl, rfl, by simpa using hG, Chg.refl _ _⟩
  case round =>
    obtain ⟨j, hj, rfl, rfl, hB, hC⟩ := hrel
    have HB := hide hB; have HC := hide hC
    by_cases hlt : j < n
    · have c0 := hB.cell j; have f0 := hB.free j
      rw [bs_at _ hlt] at c0
      simp only [Nat.lt_irrefl, if_false] at c0
      have hv : ((((k + j : Nat) : Int) % 3) == 0) = mB k j := by
        rw [mB, Bool.eq_iff_iff, beq_iff_eq, beq_iff_eq]; omega
      obtain ⟨K, hK⟩ : ∃ K : Nat, k + j = K := ⟨_, rfl⟩
      have hKb : K ≤ 2097152 := by omega
      rw [hK] at hv ⊢
      have HK := hide hK
      clear hB hC hK
      go_wp2
      go_roundw
      case rel =>
        refine ⟨j + 1, by omega, by go_num, ?_, ?_, (unhide HC).set j _⟩
        · have := unhide HK; congr 1; omega
        · rw [← bs_upd]; exact (unhide HB).set j _
      case measure => simp [intOf]; omega
    · obtain rfl : n = j := by omega
      clear hB hC
      obtain ⟨K, hK⟩ : ∃ K : Nat, k + n = K := ⟨_, rfl⟩
      rw [hK]
      have HK := hide hK; clear hK
      go_wp2
      go_ret
      refine ⟨ret_int (by have := unhide HK; omega), ?_, unhide HC⟩
      have h2 := unhide HB
      have e : bs n (fun x => if x < n then mB k x else f x) = bs n (mB k) := List.map_congr_left fun i hi => by simp [List.mem_range.1 hi]
      rw [e] at h2; exact h2

set_option maxRecDepth 100000 in
set_option maxHeartbeats 1000000 in
theorem markIntS_any (G n k : Nat) (f : Nat → Int) (w : World) (hn : n ≤ 1048576) (hk : k ≤ 1048576) (hG : Blk w G 3 (is n f)) :
    Calls Tryd.prog 49 #[.slice (some ⟨G, 0, none⟩) n n, .int .i64 k] w fun e w' => e = .returned (.int .i64 ((k + n : Nat) : Int)) ∧ Blk w' G 3 (is n (mI k)) ∧ Chg G w w' := by
  go_enter Tryd.func49, Tryd.ntmps49
  go_wp2
  go_loopw [1, 5] (fun kv i wr => ∃ j : Nat, j ≤ n ∧ i = .int .i64 j ∧ kv = .int .i64 ((k + j : Nat) : Int) ∧ Blk wr G 3 (is n fun x => if x < j then mI k x else f x) ∧ Chg G w wr) (fun _ i _ => n - (intOf i).toNat)
  case atStart => exact ⟨0, Nat.zero_le _, rfl, rfl, by simpa using hG, Chg.refl _ _⟩
  case round =>
    obtain ⟨j, hj, rfl, rfl, hB, hC⟩ := hrel
    have HB := hide hB; have HC := hide hC
    by_cases hlt : j < n
    · have c0 := hB.cell j; have f0 := hB.free j
      rw [is_at _ hlt] at c0
      simp only [Nat.lt_irrefl, if_false] at c0
      obtain ⟨K, hK⟩ : ∃ K : Nat, k + j = K := ⟨_, rfl⟩
      have hKb : K ≤ 2097152 := by omega
      rw [hK]
      have HK := hide hK
      clear hB hC hK
      go_wp2
      go_roundw
      case rel =>
        refine ⟨j + 1, by omega, by go_num, ?_, ?_, (unhide HC).set j _⟩
        · have := unhide HK; congr 1; omega
        · rw [show ((K : Nat) : Int) = mI k j by rw [mI, unhide HK]]; rw [← is_upd]; exact (unhide HB).set j _
      case measure => simp [intOf]; omega
    · obtain rfl : n = j := by omega
      clear hB hC
      obtain ⟨K, hK⟩ : ∃ K : Nat, k + n = K := ⟨_, rfl⟩
      rw [hK]
      have HK := hide hK; clear hK
      go_wp2
      go_ret
      refine ⟨ret_int (by have := unhide HK; omega), ?_, unhide HC⟩
      have h2 := unhide HB
      have e : is n (fun x => if x < n then mI k x else f x) = is n (mI k) := List.map_congr_left fun i hi => by simp [List.mem_range.1 hi]
      rw [e] at h2; exact h2

set_option maxRecDepth 100000 in
set_option maxHeartbeats 1000000 in
theorem heldBoolS_any (G n k : Nat) (w : World) (hn : n ≤ 1048576) (hk : k ≤ 1048576) (hG : Blk w G 4 (bs n (mB k))) :
    Calls Tryd.prog 50 #[.slice (some ⟨G, 0, none⟩) n n, .int .i64 k] w fun e w' => e = .returned (.int .i64 ((k + n : Nat) : Int)) ∧ w' = w := by
  go_enter Tryd.func50, Tryd.ntmps50
  go_wp2
  go_loopw [1, 5] (fun kv i wr => ∃ j : Nat, j ≤ n ∧ i = .int .i64 j ∧ kv = .int .i64 ((k + j : Nat) : Int) ∧ wr = w) (fun _ i _ => n - (intOf i).toNat)
  case atStart => exact ⟨0, Nat.zero_le _, rfl, rfl, rfl⟩
  case round =>
    obtain ⟨j, hj, rfl, rfl, rfl⟩ := hrel
    by_cases hlt : j < n
    · have c0 := hG.cell j
      rw [bs_at _ hlt] at c0
      have hv : ((((k + j : Nat) : Int) % 3) == 0) = mB k j := by
        rw [mB, Bool.eq_iff_iff, beq_iff_eq, beq_iff_eq]; omega
      obtain ⟨K, hK⟩ : ∃ K : Nat, k + j = K := ⟨_, rfl⟩
      have hKb : K ≤ 2097152 := by omega
      rw [hK] at hv ⊢
      have HK := hide hK
      clear hK
      cases hb : mB k j <;> rw [hb] at c0 hv
      all_goals
        go_wp2
        go_roundw
        case rel => exact ⟨j + 1, by omega, by go_num, by have := unhide HK; congr 1; omega, trivial⟩
        case measure => simp [intOf]; omega
    · obtain rfl : n = j := by omega
      obtain ⟨K, hK⟩ : ∃ K : Nat, k + n = K := ⟨_, rfl⟩
      rw [hK]
      have HK := hide hK; clear hK
      go_wp2
      go_ret
      exact ⟨ret_int (by have := unhide HK; omega), rfl⟩

set_option maxRecDepth 100000 in
set_option maxHeartbeats 1000000 in
theorem heldIntS_any (G n k : Nat) (w : World) (hn : n ≤ 1048576) (hk : k ≤ 1048576) (hG : Blk w G 3 (is n (mI k))) :
    Calls Tryd.prog 51 #[.slice (some ⟨G, 0, none⟩) n n, .int .i64 k] w fun e w' => e = .returned (.int .i64 ((k + n : Nat) : Int)) ∧ w' = w := by
  go_enter Tryd.func51, Tryd.ntmps51
  go_wp2
  go_loopw [1, 5] (fun kv i wr => ∃ j : Nat, j ≤ n ∧ i = .int .i64 j ∧ kv = .int .i64 ((k + j : Nat) : Int) ∧ wr = w) (fun _ i _ => n - (intOf i).toNat)
  case atStart => exact ⟨0, Nat.zero_le _, rfl, rfl, rfl⟩
  case round =>
    obtain ⟨j, hj, rfl, rfl, rfl⟩ := hrel
    by_cases hlt : j < n
    · have c0 := hG.cell j
      rw [is_at _ hlt] at c0
      have e9 : mI k j = ((k + j : Nat) : Int) := rfl
      rw [e9] at c0
      obtain ⟨K, hK⟩ : ∃ K : Nat, k + j = K := ⟨_, rfl⟩
      have hKb : K ≤ 2097152 := by omega
      rw [hK] at c0 ⊢
      have HK := hide hK
      clear hK
      go_wp2
      go_roundw
      case rel => exact ⟨j + 1, by omega, by go_num, by have := unhide HK; congr 1; omega, trivial⟩
      case measure => simp [intOf]; omega
    · obtain rfl : n = j := by omega
      obtain ⟨K, hK⟩ : ∃ K : Nat, k + n = K := ⟨_, rfl⟩
      rw [hK]
      have HK := hide hK; clear hK
      go_wp2
      go_ret
      exact ⟨ret_int (by have := unhide HK; omega), rfl⟩
end Go.Proofs.YtnmpkdmflijhpaaDoor
