/- impl.hasTwoWays, slices.Equal on integers, impl.tablesFit. -/
import Derived.Test.YtnmpkdmflijhpaaDoorFit
import Derived.Test.YtnmpkdmflijhpaaDoorSpec2
namespace Go.Proofs.YtnmpkdmflijhpaaDoor
open Go Go.RowKit

set_option maxRecDepth 100000 in
set_option maxHeartbeats 2000000 in
theorem twoWays_any (n : Nat) (g d : Nat → Nat) (w : World) (hn : n ≤ 32) (hg : ∀ a, a < 32 → g a < 4294967296) (hd : ∀ a, a < 32 → d a < 4294967296) (V : Bool) (hV : V = true ↔ ∃ a, a < n ∧ ¬ commonN (g a) (d a) = 2 ^ a) :
    Calls Tryd.prog 80 #[.int .i64 n, .agg (us g).toArray, .agg (us d).toArray] w fun e w' => e = .returned (.bool V) ∧ Below w.heap.size w w' := by
  have HV := hide hV; clear hV
  have B0 := (Blk.new w 75 (us g).toArray).alloc (.cells (us d).toArray 75)
  have B1 := Blk.new (w.alloc (.cells (us g).toArray 75)) 75 (us d).toArray
  have BW : Below w.heap.size w ((w.alloc (.cells (us g).toArray 75)).alloc (.cells (us d).toArray 75)) := ((Below.refl _ _).alloc (Nat.le_refl _) _).alloc (by simp) _
  simp only [World.size_alloc] at B1
  have H0 := hide B0; have H1 := hide B1; have HW := hide BW; clear B0 B1 BW
  go_enter Tryd.func80, Tryd.ntmps80
  go_wp2_with fail
  go_loopw [9] (fun i wr => ∃ k : Nat, k ≤ n ∧ i = .int .i64 k ∧ (∀ a, a < k → commonN (g a) (d a) = 2 ^ a) ∧ Blk wr w.heap.size 75 (us g) ∧ Blk wr (w.heap.size + 1) 75 (us d) ∧ Below w.heap.size w wr) (fun i _ => n - (intOf i).toNat)
  case atStart => exact ⟨0, Nat.zero_le _, rfl, fun a h => absurd h (Nat.not_lt_zero _), unhide H0, unhide H1, unhide HW⟩
  case round =>
    clear H0 H1 HW
    obtain ⟨k, hk, rfl, hall, b0, b1, bw⟩ := hrel
    have HA := hide hall; clear hall
    by_cases hlt : k < n
    · have k32 : k < 32 := by omega
      have c0 := b0.cell k
      have c1 := b1.cell k
      rw [us_get _ k32] at c0 c1
      have l1 := b1.lt
      have g1 := hg k k32; have d1 := hd k k32
      have k0i : (0 : Int) ≤ k := by omega
      have k1i : (k : Int) < 32 := by omega
      have he := fun (a b : Int) w => eq_set 9998 a b w
      have H0 := hide b0; have H1 := hide b1; have HW := hide bw; clear b0 b1 bw
      cases hz : ((commonN (g k) (d k) : Nat) == (2 ^ k : Nat))
      · have hz' : (((commonN (g k) (d k) : Nat) : Int) == 2 ^ k) = false := by
          rw [show (2 : Int) ^ k = ((2 ^ k : Nat) : Int) by simp]; simp at hz ⊢; exact_mod_cast hz
        have HT : Hid (V = true) := (unhide HV).2 ⟨k, hlt, by simpa using hz⟩
        go_wp2_with fail
        go_region_with (first | (go_at_call 103; refine (common_any _ _ _ g1 d1).mono ?_; rintro e w' ⟨rfl, hb⟩; replace hb : Hid (Below wr.heap.size wr w') := ⟨hb.os, hb.tape, hb.output, hb.size, hb.block⟩) | (go_at_call 86; refine (one_any _ _ k32).mono ?_; rintro e w' ⟨rfl, rfl⟩))
        all_goals
          have hq := ‹Hid (Below wr.heap.size wr _)›
          go_wp2
          go_ret
          exact ⟨ret_bool (unhide HT).symm, ((unhide HW).trans ((unhide hq).mono (unhide HW).size)).alloc (by have := (unhide hq).size; have := (unhide HW).size; omega) _⟩
      · have hz' : (((commonN (g k) (d k) : Nat) : Int) == 2 ^ k) = true := by
          rw [show (2 : Int) ^ k = ((2 ^ k : Nat) : Int) by simp]; simp at hz ⊢; exact_mod_cast hz
        have HS : Hid (∀ a, a < k + 1 → commonN (g a) (d a) = 2 ^ a) := upto_succ (f := fun a => commonN (g a) (d a)) (g := fun a => 2 ^ a) (unhide HA) (by simpa using hz)
        go_wp2_with fail
        go_region_with (first | (go_at_call 103; refine (common_any _ _ _ g1 d1).mono ?_; rintro e w' ⟨rfl, hb⟩; replace hb : Hid (Below wr.heap.size wr w') := ⟨hb.os, hb.tape, hb.output, hb.size, hb.block⟩) | (go_at_call 86; refine (one_any _ _ k32).mono ?_; rintro e w' ⟨rfl, rfl⟩))
        all_goals
          have hq := ‹Hid (Below wr.heap.size wr _)›
          go_wp2
          go_roundw
          case rel => exact ⟨k + 1, by omega, by go_num, unhide HS, ((unhide H0).mono (unhide hq) (unhide H0).lt).alloc _, ((unhide H1).mono (unhide hq) (unhide H1).lt).alloc _, ((unhide HW).trans ((unhide hq).mono (unhide HW).size)).alloc (by have := (unhide hq).size; have := (unhide HW).size; omega) _⟩
          case measure => simp [intOf]; omega
    · have HF : Hid (V = false) := bool_false (unhide HV) fun ⟨a, ha, hne⟩ => hne (unhide HA a (by omega))
      clear b0 b1
      have HW := hide bw; clear bw
      go_wp2
      go_ret
      exact ⟨ret_bool (unhide HF).symm, unhide HW⟩

set_option maxHeartbeats 400000 in
theorem equal_any (a b : Option Addr) (f g : Nat → Int) (n : Nat) (ca cb : Nat) (w : World) (ha : Ints w a n f) (hb : Ints w b n g) (hlx : n ≤ 140737488355328) :
    Calls Tryd.prog 89 #[.slice a n ca, .slice b n cb] w fun e w' => e = .returned (.bool (sameI n f g)) ∧ Below w.heap.size w w' := by
  go_enter Tryd.func89, Tryd.ntmps89
  go_wp2
  go_loopw [13] (fun i wr => ∃ k : Nat, k ≤ n ∧ i = .int .i64 k ∧ (∀ j, j < k → f j = g j) ∧ ∃ n, wr = w.drewN n) (fun i _ => n - (intOf i).toNat)
  case atStart => exact ⟨0, Nat.zero_le _, rfl, fun j h => absurd h (Nat.not_lt_zero _), 0, rfl⟩
  case round =>
    obtain ⟨k, hk, rfl, heq, m, rfl⟩ := hrel
    have HE : Hid (∀ j, j < k → f j = g j) := heq
    clear heq
    by_cases hlt : k < n
    · obtain ⟨b1, o1, rfl, -, hc1⟩ := ha k hlt
      obtain ⟨b2, o2, rfl, -, hc2⟩ := hb k hlt
      go_wp2
      go_quiet (fail)
      go_wp2
      · have ht : (f k != g k) = true := by assumption
        go_ret
        exact ⟨ret_bool (sameI_false k hlt (ine_tt ht)).symm, ⟨rfl, rfl, rfl, Nat.le_refl _, fun _ _ => rfl⟩⟩
      · have ht : (f k != g k) = false := by assumption
        go_roundw
        case rel => exact ⟨k + 1, by omega, by go_num, upto_succ HE.out (ine_ff ht), _, rfl⟩
        case measure => simp [intOf]; omega
    · go_wp2
      go_ret
      exact ⟨ret_bool (sameI_true fun j hj => HE.out j (by omega)).symm, ⟨rfl, rfl, rfl, Nat.le_refl _, fun _ _ => rfl⟩⟩

set_option maxHeartbeats 1000000 in
theorem fit_N (N bot top : Int) (a1 a2 a3 : Option Addr) (n1 n2 n3 c1 c2 c3 : Nat) (w : World) (hN : N < 1 ∨ 32 < N) :
    Calls Tryd.prog 57 #[.agg #[.int .i64 N, .slice a1 n1 c1, .slice a2 n2 c2, .slice a3 n3 c3, .int .i64 bot, .int .i64 top]] w fun e w' =>
      e = .returned (.bool false) ∧ Below w.heap.size w w' := by
  have hcs : N < 1 ∨ (1 ≤ N ∧ 32 < N) := by omega
  clear hN
  rcases hcs with hN | ⟨hN, hN'⟩
  all_goals
    go_enter Tryd.func57, Tryd.ntmps57
    go_wp2
    go_ret
    exact ⟨rfl, (Below.refl _ _).alloc (Nat.le_refl _) _⟩
set_option maxHeartbeats 1000000 in
theorem fit_len (n : Nat) (bot top : Int) (a1 a2 a3 : Option Addr) (n1 n2 n3 c1 c2 c3 : Nat) (w : World) (h1 : 1 ≤ n) (h32 : n ≤ 32) (V : Bool) (hV : V = true ↔ n1 = n * n ∧ n2 = n * n ∧ n3 = n * n) :
    Calls Tryd.prog 57 #[.agg #[.int .i64 n, .slice a1 n1 c1, .slice a2 n2 c2, .slice a3 n3 c3, .int .i64 bot, .int .i64 top]] w fun e w' =>
      e = .returned (.bool V) ∧ Below w.heap.size w w' := by
  have q1 : (n : Int) * n ≤ 1024 := by rw [← Int.natCast_mul]; have := sq_le h32; omega
  have q0 : 0 ≤ (n : Int) * n := by rw [← Int.natCast_mul]; omega
  have e : ∀ k : Nat, (((k : Int) == (n : Int) * n) = true ↔ k = n * n) := fun k => by rw [← Int.natCast_mul]; simp; omega
  have hcs : (((n1 : Int) == (n : Int) * n) = false ∧ V = false) ∨ (((n1 : Int) == (n : Int) * n) = true ∧ ((n2 : Int) == (n : Int) * n) = false ∧ V = false) ∨ (((n1 : Int) == (n : Int) * n) = true ∧ ((n2 : Int) == (n : Int) * n) = true ∧ ((n3 : Int) == (n : Int) * n) = false ∧ V = false) ∨ (((n1 : Int) == (n : Int) * n) = true ∧ ((n2 : Int) == (n : Int) * n) = true ∧ ((n3 : Int) == (n : Int) * n) = true ∧ V = true) := by
    cases k1 : ((n1 : Int) == (n : Int) * n)
    · exact .inl ⟨rfl, bool_false hV fun h => Bool.false_ne_true (k1.symm.trans ((e n1).2 h.1))⟩
    · cases k2 : ((n2 : Int) == (n : Int) * n)
      · exact .inr (.inl ⟨rfl, rfl, bool_false hV fun h => Bool.false_ne_true (k2.symm.trans ((e n2).2 h.2.1))⟩)
      · cases k3 : ((n3 : Int) == (n : Int) * n)
        · exact .inr (.inr (.inl ⟨rfl, rfl, rfl, bool_false hV fun h => Bool.false_ne_true (k3.symm.trans ((e n3).2 h.2.2))⟩))
        · exact .inr (.inr (.inr ⟨rfl, rfl, rfl, hV.2 ⟨(e n1).1 k1, (e n2).1 k2, (e n3).1 k3⟩⟩))
  clear e hV
  rcases hcs with ⟨k1, rfl⟩ | ⟨k1, k2, rfl⟩ | ⟨k1, k2, k3, rfl⟩ | ⟨k1, k2, k3, rfl⟩
  all_goals
    go_enter Tryd.func57, Tryd.ntmps57
    go_wp2
    go_ret
    exact ⟨rfl, (Below.refl _ _).alloc (Nat.le_refl _) _⟩
end Go.Proofs.YtnmpkdmflijhpaaDoor
