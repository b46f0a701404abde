/- The model: whether the stack rule is kept; how long a list is at least when printed; the ends of an operator's arguments. -/
import Derived.Test.YtonmaniehocbbaaGreatDoorSpE1
import Derived.Test.YtonmaniehocbbaaGreatDoorOwn
namespace Go.Proofs.YtonmaniehocbbaaGreatDoor
open Go Go.RowKit

def stB (e : Nat → Nx) (m : Nat) : Bool := ((List.range m).all fun k => decide (arn (e k) ≤ (stk e k).length)) && decide ((stk e m).length = 1)
theorem stB_iff (e : Nat → Nx) (m : Nat) : stB e m = true ↔ stkOk e m ∧ (stk e m).length = 1 := by
  unfold stB stkOk
  simp [List.all_eq_true]
theorem stB_no {e : Nat → Nx} {m k : Nat} (hk : k < m) (h : (stk e k).length < arn (e k)) : stB e m = false := by
  cases hb : stB e m
  · rfl
  · have := ((stB_iff e m).1 hb).1 k hk; omega
theorem stB_end {e : Nat → Nx} {m : Nat} (h : stkOk e m) : stB e m = decide ((stk e m).length = 1) := by
  rw [Bool.eq_iff_iff, stB_iff, decide_eq_true_eq]
  exact ⟨fun x => x.2, fun x => ⟨h, x⟩⟩

set_option maxRecDepth 100000 in
set_option maxHeartbeats 4000000 in
theorem l3Stack_any (a : Option Addr) (m c : Nat) (e : Nat → Nx) (w : World) (hm : m ≤ 1000) (ha : Nods w a m e) :
    Calls Tryz.prog 80 #[.slice a m c] w fun r w' => r = .returned (.bool (stB e m)) ∧ Below w.heap.size w w' := by
  have HA := hide ha
  clear ha
  go_enter Tryz.func80, Tryz.ntmps80
  go_wp2_with fail
  go_loopw [3, 4, 5] (fun hd i _ wr => ∃ k : Nat, k ≤ m ∧ hd = .int .i64 (stk e k).length ∧ i = .int .i64 k ∧ stkOk e k ∧ Below w.heap.size w wr) (fun _ i _ _ => m - (intOf i).toNat)
  case atStart => exact ⟨0, Nat.zero_le _, rfl, rfl, fun k hk => absurd hk (Nat.not_lt_zero _), Below.refl _ _⟩
  case round =>
    obtain ⟨k, hk, rfl, rfl, hok, hb⟩ := hrel
    have HB := hide hb; have HK := hide hok
    have HV := hide ((unhide HA).mono hb)
    have hl := stk_len e k
    clear hb hok
    by_cases hlt : k < m
    · have hlt' : (k : Int) < m := by omega
      obtain ⟨b, o, rfl, -, c0, c1, c2, c3, c4⟩ := unhide HV k hlt
      go_wp2_with fail
      refine (l3NodeArity_any (e k) _).mono ?_
      rintro r w1 ⟨rfl, hb⟩
      replace HB := hide ((unhide HB).trans (hb.mono (unhide HB).size))
      clear hb c0 c1 c2 c3 c4
      have har := arn_le (e k)
      have HS : Hid ((stk e (k + 1)).length = (stk e k).length - arn (e k) + 1) := hide (by simp [stk])
      obtain ⟨x, hx⟩ : ∃ x, arn (e k) = x := ⟨_, rfl⟩
      obtain ⟨y, hy⟩ : ∃ y, (stk e k).length = y := ⟨_, rfl⟩
      by_cases hgt : y < x
      · have hgt' : (y : Int) < x := by omega
        have HN : Hid (stB e m = false) := hide (stB_no hlt (by rw [hx, hy]; exact hgt))
        rw [hx, hy]
        clear hx hy HS
        go_wp2_with fail
        go_ret
        exact ⟨ret_bool (unhide HN).symm, unhide HB⟩
      · have hgt' : ¬ (y : Int) < x := by omega
        have HN : Hid (stkOk e (k + 1)) := hide fun j hj => by
          by_cases ej : j = k
          · subst ej; rw [hx, hy]; omega
          · exact unhide HK j (by omega)
        rw [hx, hy] at HS ⊢; rw [hx] at har; rw [hy] at hl
        clear hx hy
        go_wp2_with fail
        go_roundw
        case rel => exact ⟨k + 1, by omega, by rw [unhide HS]; go_num, by go_num, unhide HN, unhide HB⟩
        case measure => simp [intOf]; omega
    · obtain rfl : k = m := by omega
      have HN := hide (stB_end (unhide HK))
      obtain ⟨y, hy⟩ : ∃ y, (stk e k).length = y := ⟨_, rfl⟩
      rw [hy] at HN ⊢
      clear hy hl
      go_wp2_with fail
      go_ret
      exact ⟨ret_bool (by rw [unhide HN, Bool.eq_iff_iff]; simp; omega), unhide HB⟩

theorem txtSum_le {e : Nat → Nx} {m : Nat} (h : ∀ k, k < m → (e k).v.s.size ≤ 1000) : ∀ k, k ≤ m → txtSum e k ≤ 1001 * k := by
  intro k
  induction k with
  | zero => intro _; exact Nat.le_refl _
  | succ k ih => intro hk; have := ih (by omega); have := h k (by omega); simp only [txtSum]; omega

set_option maxRecDepth 100000 in
set_option maxHeartbeats 4000000 in
theorem l3PrintSize_any (a : Option Addr) (m c : Nat) (e : Nat → Nx) (w : World) (hm : m ≤ 1000) (ha : Nods w a m e) (hs : ∀ k, k < m → (e k).v.s.size ≤ 1000) :
    Calls Tryz.prog 82 #[.slice a m c] w fun r w' => r = .returned (.int .i64 (txtSum e m)) ∧ Below w.heap.size w w' := by
  have HA := hide ha; have HT := hide (txtSum_le hs); have HS := hide hs
  clear ha hs
  go_enter Tryz.func82, Tryz.ntmps82
  go_wp2_with fail
  go_loopw [3, 4] (fun n i wr => ∃ k : Nat, k ≤ m ∧ n = .int .i64 (txtSum e k) ∧ i = .int .i64 k ∧ Below w.heap.size w wr) (fun _ i _ => m - (intOf i).toNat)
  case atStart => exact ⟨0, Nat.zero_le _, rfl, rfl, Below.refl _ _⟩
  case round =>
    obtain ⟨k, hk, rfl, rfl, hb⟩ := hrel
    have HB := hide hb
    have HV := hide ((unhide HA).mono hb)
    have ht := unhide HT k hk
    clear hb
    by_cases hlt : k < m
    · have hlt' : (k : Int) < m := by omega
      obtain ⟨b, o, rfl, -, c0, c1, c2, c3, c4⟩ := unhide HV k hlt
      have hsk := unhide HS k hlt
      have HE : Hid (txtSum e (k + 1) = txtSum e k + 1 + (e k).v.s.size) := hide rfl
      obtain ⟨y, hy⟩ : ∃ y, txtSum e k = y := ⟨_, rfl⟩
      rw [hy] at HE ht ⊢
      clear hy
      go_wp2_with fail
      go_roundw
      case rel => exact ⟨k + 1, by omega, by rw [unhide HE]; go_num, by go_num, unhide HB⟩
      case measure => simp [intOf]; omega
    · obtain rfl : k = m := by omega
      go_wp2_with fail
      go_ret
      exact ⟨rfl, unhide HB⟩
end Go.Proofs.YtonmaniehocbbaaGreatDoor
