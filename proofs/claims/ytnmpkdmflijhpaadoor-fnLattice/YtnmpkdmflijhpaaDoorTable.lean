/- impl.labelSets.table: the table of a relation. -/
import Derived.Test.YtnmpkdmflijhpaaDoorFit
namespace Go.Proofs.YtnmpkdmflijhpaaDoor
open Go Go.RowKit

theorem bs_snoc (m : Nat) (F : Nat → Bool) : bs (m + 1) F = bs m F ++ [.bool (F m)] := by simp [bs, List.range_succ]
theorem is_snoc (m : Nat) (F : Nat → Int) : is (m + 1) F = is m F ++ [.int .i64 (F m)] := by simp [is, List.range_succ]
theorem bs_length (m : Nat) (F : Nat → Bool) : (bs m F).length = m := by simp [bs]
theorem is_length (m : Nat) (F : Nat → Int) : (is m F).length = m := by simp [is]
/-- A relation by rows as one table. -/
def tabB (n : Nat) (R : Nat → Nat → Bool) (i : Nat) : Bool := R (i / n) (i % n)
theorem tabB_at {n : Nat} (R : Nat → Nat → Bool) {a b : Nat} (hb : b < n) : tabB n R (a * n + b) = R a b := by
  unfold tabB
  rw [Nat.add_comm, Nat.add_mul_div_right _ _ (by omega), Nat.div_eq_of_lt hb, Nat.add_mul_mod_self_right, Nat.mod_eq_of_lt hb, Nat.zero_add]

set_option maxRecDepth 100000 in
set_option maxHeartbeats 2000000 in
theorem table_any (n : Nat) (g : Nat → Nat) (R : Nat → Nat → Bool) (w : World) (h1 : 1 ≤ n) (hn : n ≤ 32) (hg : IsRel g R) :
    Calls Tryd.prog 83 #[.agg (us g).toArray, .int .i64 n] w fun e w' => ∃ G, e = .returned (.slice (some ⟨G, 0, none⟩) (n * n) (n * n)) ∧ Blk w' G 4 (bs (n * n) (tabB n R)) ∧ w.heap.size ≤ G ∧ Below w.heap.size w w' := by
  obtain ⟨i0, hi, hz0, hz1, hz2⟩ := info_parts info_bool
  have q1 : (n : Int) * n ≤ 1024 := by rw [← Int.natCast_mul]; have := sq_le hn; omega
  have q0 : 0 ≤ (n : Int) * n := by rw [← Int.natCast_mul]; omega
  have q2 := sq_le hn
  have hbn : i0.bytes * (n * n) ≤ 281474976710656 := by rw [hz2]; omega
  have hC : ((n : Int) * n) = ((n * n : Nat) : Int) := by simp
  have HC := hide hC; clear hC
  go_enter Tryd.func83, Tryd.ntmps83
  go_wp2_with (at_make; refine wpList_make_own _ rfl _ (.tmp 10) 26 rfl w.heap.size 4 i0 (.bool false) 1 Tryd.underlying26 hi hz0 hz1 .i64 .i64 _ (n * n) rfl rfl (unhide HC) hbn (by unfold maxLen; omega) (by simp) ?_; intro w1 hown hgrow)
  have hb1 : Below w.heap.size w w1 := ((Below.refl _ w).alloc (Nat.le_refl _) _).trans ((Below.refl w.heap.size _).grown hgrow (by simp) (fun k e => by cases e))
  have hB := (Blk.new w 75 (us g).toArray).grown hgrow (by simp)
  have HO := hide hown; have HB1 := hide hb1; have HB := hide hB
  clear hown hb1 hB hgrow hbn
  go_loopw [5, 13] (fun v i wr => ∃ k : Nat, k ≤ n ∧ i = .int .i64 k ∧ v = .slice (some ⟨w.heap.size + 1, 0, none⟩) (k * n) (n * n) ∧ wr.ownsRow w.heap.size 4 1 (.slice (some ⟨w.heap.size + 1, 0, none⟩) (k * n) (n * n)) (k * n) (bs (k * n) (tabB n R)) ∧ Blk wr w.heap.size 75 (us g) ∧ Below w.heap.size w wr) (fun _ i _ => n - (intOf i).toNat)
  case atStart => exact ⟨0, Nat.zero_le _, rfl, by simp, by simpa [bs] using unhide HO, unhide HB, unhide HB1⟩
  case round =>
    clear HO HB HB1
    obtain ⟨k, hk, rfl, rfl, hown, hB, hW⟩ := hrel
    have HO := hide hown; have HB := hide hB; have HW := hide hW; clear hown hB hW
    by_cases hlt : k < n
    · go_wp2_with fail
      go_loopw [5, 17] (fun v i wr => ∃ j : Nat, j ≤ n ∧ i = .int .i64 j ∧ v = .slice (some ⟨w.heap.size + 1, 0, none⟩) (k * n + j) (n * n) ∧ wr.ownsRow w.heap.size 4 1 (.slice (some ⟨w.heap.size + 1, 0, none⟩) (k * n + j) (n * n)) (k * n + j) (bs (k * n + j) (tabB n R)) ∧ Blk wr w.heap.size 75 (us g) ∧ Below w.heap.size w wr) (fun _ i _ => n - (intOf i).toNat)
      case atStart => exact ⟨0, Nat.zero_le _, rfl, by simp, by simpa using unhide HO, unhide HB, unhide HW⟩
      case round =>
        clear HO HB HW
        obtain ⟨j, hj, rfl, rfl, hown, hB, hW⟩ := hrel
        by_cases hlj : j < n
        · have k32 : k < 32 := by omega
          have j32 : j < 32 := by omega
          have c0 := hB.cell k
          rw [us_get _ k32] at c0
          have l0 := hB.lt
          have gk := (hg k k32).1
          have hlen := idx_lt hlt hlj
          have k0i : (0 : Int) ≤ k := by omega
          have k1i : (k : Int) < 32 := by omega
          have HO := hide hown; have HB := hide hB; have HW := hide hW; clear hown hB hW
          have hF : (g k).testBit j = tabB n R (k * n + j) := by rw [(hg k k32).2 j, tabB_at R hlj]
          go_wp2_with (first | (go_at_call 104; refine (has_any _ _ _ gk j32).mono ?_; rintro e w' ⟨rfl, rfl⟩) | (at_builtin; refine wpList_append_fits _ rfl _ _ 26 rfl w.heap.size 4 i0 1 Tryd.underlying26 hi hz1 (w.heap.size + 1) (k * n + j) (n * n) _ rfl (((unhide HO).alloc _).alloc _) ⟨wr.heap.size + 1, 0, none⟩ 1 1 [.bool (tabB n R (k * n + j))] rfl rfl ?c1 (by simp [Value.oneCell']) hlen ?_))
          case c1 =>
            intro q u hq
            match q, hq with
            | 0, hq => simp at hq; subst hq; simp [Addr.add]
          · intro w2 hown2 hgrow2
            rw [← bs_snoc] at hown2
            have bw2 : Below wr.heap.size wr ((wr.alloc (.cells #[.int .u32 (g k : Int)] 73)).alloc (.cells #[.bool (tabB n R (k * n + j))] 4)) := ((Below.refl _ _).alloc (Nat.le_refl _) _).alloc (by simp) _
            have hB2 := ((unhide HB).mono bw2 l0).grown hgrow2 (by simp)
            have hW2 := ((unhide HW).trans (bw2.mono (unhide HW).size)).grown hgrow2 (by have := (unhide HW).size; simp; omega) (fun q e => by cases e; omega)
            have HO2 := hide hown2; have HB2 := hide hB2; have HW2 := hide hW2; clear hown2 hgrow2 bw2 hB2 hW2
            go_wp2
            go_roundw
            case rel => exact ⟨j + 1, by omega, by go_num, rfl, unhide HO2, unhide HB2, unhide HW2⟩
            case measure => simp [intOf]; omega
        · obtain rfl : j = n := by omega
          have HO := hide hown; have HB := hide hB; have HW := hide hW; clear hown hB hW
          go_wp2_with fail
          go_roundw
          case rel => exact ⟨k + 1, by omega, by go_num, by rw [Nat.succ_mul], by rw [Nat.succ_mul]; exact unhide HO, unhide HB, unhide HW⟩
          case measure => simp [intOf]; omega
    · obtain rfl : k = n := by omega
      go_wp2
      go_ret
      exact ⟨_, rfl, Blk.of_owns (unhide HO), by omega, unhide HW⟩
end Go.Proofs.YtnmpkdmflijhpaaDoor
