/- The small functions of the model of chapter 1: reading a table, joins and meets by search. -/
import Derived.Test.YtnmpkdmflijhpaaDoorLat
namespace Go.Proofs.YtnmpkdmflijhpaaDoor
open Go Go.RowKit

theorem idx_lt {n x y : Nat} (hx : x < n) (hy : y < n) : x * n + y < n * n := by
  have : (x + 1) * n ≤ n * n := Nat.mul_le_mul_right _ hx
  rw [Nat.succ_mul] at this; omega
theorem sq_le {n : Nat} (hn : n ≤ 32) : n * n ≤ 1024 := Nat.mul_le_mul hn hn

set_option maxHeartbeats 400000 in
theorem l1Leq_any (a : Option Addr) (m c n x y : Nat) (f : Nat → Bool) (w : World) (hm : n * n ≤ m) (hx : x < n) (hy : y < n) (hn : n ≤ 32) (ha : Bools w a m f) :
    Calls Tryd.prog 37 #[.slice a m c, .int .i64 n, .int .i64 x, .int .i64 y] w fun e w' => e = .returned (.bool (f (x * n + y))) ∧ w' = w := by
  have h1 := idx_lt hx hy
  have h2 := sq_le hn
  obtain ⟨b, o, rfl, -, hc⟩ := ha (x * n + y) (by omega)
  have h3 : 0 ≤ (x : Int) * n := by rw [← Int.natCast_mul]; omega
  have h4 : (x : Int) * n + y < m := by rw [← Int.natCast_mul]; omega
  have h5 : (x : Int) * n ≤ 1024 := by rw [← Int.natCast_mul]; omega
  clear ha h1 h2 hm
  go_enter Tryd.func37, Tryd.ntmps37
  go_wp2
  go_ret
  exact ⟨rfl, rfl⟩

def isJoinP (f : Nat → Bool) (n a b c : Nat) : Prop := f (a * n + c) = true ∧ f (b * n + c) = true ∧ ∀ d, d < n → f (a * n + d) = true → f (b * n + d) = true → f (c * n + d) = true
def isJoin (f : Nat → Bool) (n a b c : Nat) : Bool := f (a * n + c) && f (b * n + c) && (List.range n).all fun d => !f (a * n + d) || !f (b * n + d) || f (c * n + d)
theorem isJoin_iff {f : Nat → Bool} {n a b c : Nat} : isJoin f n a b c = true ↔ isJoinP f n a b c := by
  simp only [isJoin, isJoinP, Bool.and_eq_true, List.all_eq_true, List.mem_range, Bool.or_eq_true, Bool.not_eq_true', and_assoc]
  refine and_congr_right fun _ => and_congr_right fun _ => forall_congr' fun d => imp_congr_right fun _ => ?_
  cases f (a * n + d) <;> cases f (b * n + d) <;> cases f (c * n + d) <;> simp
theorem isJoin_true {f : Nat → Bool} {n a b c : Nat} (h : isJoinP f n a b c) : isJoin f n a b c = true := isJoin_iff.2 h
theorem isJoin_false {f : Nat → Bool} {n a b c : Nat} (h : ¬ isJoinP f n a b c) : isJoin f n a b c = false := by
  cases e : isJoin f n a b c
  · rfl
  · exact absurd (isJoin_iff.1 e) h

set_option maxHeartbeats 1000000 in
theorem l1IsJoin_any (t : Option Addr) (m cap n a b c : Nat) (f : Nat → Bool) (w : World) (hm : n * n ≤ m) (hn : n ≤ 32) (ha : a < n) (hb : b < n) (hc : c < n) (ht : Bools w t m f) :
    Calls Tryd.prog 54 #[.slice t m cap, .int .i64 n, .int .i64 a, .int .i64 b, .int .i64 c] w fun e w' => e = .returned (.bool (isJoin f n a b c)) ∧ w' = w := by
  have HM := hide hm; clear hm
  cases h1 : f (a * n + c)
  · have HR : Hid (isJoin f n a b c = false) := isJoin_false fun h => Bool.false_ne_true (h1.symm.trans h.1)
    go_enter Tryd.func54, Tryd.ntmps54
    go_wp2_with (go_at_call 37; refine (l1Leq_any _ _ _ _ _ _ f _ (unhide HM) (by assumption) (by assumption) hn ht).mono ?_; rintro e w' ⟨rfl, rfl⟩)
    go_ret
    exact ⟨ret_bool (unhide HR).symm, rfl⟩
  cases h2 : f (b * n + c)
  · have HR : Hid (isJoin f n a b c = false) := isJoin_false fun h => Bool.false_ne_true (h2.symm.trans h.2.1)
    go_enter Tryd.func54, Tryd.ntmps54
    go_wp2_with (go_at_call 37; refine (l1Leq_any _ _ _ _ _ _ f _ (unhide HM) (by assumption) (by assumption) hn ht).mono ?_; rintro e w' ⟨rfl, rfl⟩)
    go_ret
    exact ⟨ret_bool (unhide HR).symm, rfl⟩
  go_enter Tryd.func54, Tryd.ntmps54
  go_wp2_with (go_at_call 37; refine (l1Leq_any _ _ _ _ _ _ f _ (unhide HM) (by assumption) (by assumption) hn ht).mono ?_; rintro e w' ⟨rfl, rfl⟩)
  go_loop [11] (fun i => ∃ k : Nat, k ≤ n ∧ i = .int .i64 k ∧ ∀ d, d < k → f (a * n + d) = true → f (b * n + d) = true → f (c * n + d) = true) (fun i => n - (intOf i).toNat)
  case atStart => exact ⟨0, Nat.zero_le _, rfl, fun d h => absurd h (Nat.not_lt_zero _)⟩
  case round =>
    obtain ⟨k, hk, rfl, hall⟩ := hrel
    have HA := hide hall; clear hall
    by_cases hlt : k < n
    · by_cases hbad : f (a * n + k) = true ∧ f (b * n + k) = true ∧ f (c * n + k) = false
      · obtain ⟨h3, h4, h5⟩ := hbad
        have HR : Hid (isJoin f n a b c = false) := isJoin_false fun h => Bool.false_ne_true (h5.symm.trans (h.2.2 k hlt h3 h4))
        go_wp2_with (go_at_call 37; refine (l1Leq_any _ _ _ _ _ _ f _ (unhide HM) (by assumption) (by assumption) hn ht).mono ?_; rintro e w' ⟨rfl, rfl⟩)
        go_ret
        exact ⟨ret_bool (unhide HR).symm, rfl⟩
      · have HG : Hid (f (a * n + k) = true → f (b * n + k) = true → f (c * n + k) = true) := fun h3 h4 => by
          cases h5 : f (c * n + k)
          · exact absurd ⟨h3, h4, h5⟩ hbad
          · rfl
        have HS : Hid (∀ d, d < k + 1 → f (a * n + d) = true → f (b * n + d) = true → f (c * n + d) = true) := fun d hd => by
          by_cases e : d = k
          · rw [e]; exact unhide HG
          · exact unhide HA d (by omega)
        have hcs : f (a * n + k) = false ∨ (f (a * n + k) = true ∧ f (b * n + k) = false) ∨ (f (a * n + k) = true ∧ f (b * n + k) = true ∧ f (c * n + k) = true) := by
          cases h3 : f (a * n + k)
          · exact .inl rfl
          · cases h4 : f (b * n + k)
            · exact .inr (.inl ⟨rfl, rfl⟩)
            · exact .inr (.inr ⟨rfl, rfl, unhide HG h3 h4⟩)
        clear hbad
        rcases hcs with h3 | ⟨h3, h4⟩ | ⟨h3, h4, h5⟩
        all_goals
          go_wp2_with (go_at_call 37; refine (l1Leq_any _ _ _ _ _ _ f _ (unhide HM) (by assumption) (by assumption) hn ht).mono ?_; rintro e w' ⟨rfl, rfl⟩)
          go_round
          case rel => exact ⟨k + 1, by omega, by go_num, unhide HS⟩
          case measure => simp [intOf]; omega
    · have HR : Hid (isJoin f n a b c = true) := isJoin_true ⟨h1, h2, fun d hd => unhide HA d (by omega)⟩
      go_wp2
      go_ret
      exact ⟨ret_bool (unhide HR).symm, rfl⟩

def isMeetP (f : Nat → Bool) (n a b c : Nat) : Prop := f (c * n + a) = true ∧ f (c * n + b) = true ∧ ∀ d, d < n → f (d * n + a) = true → f (d * n + b) = true → f (d * n + c) = true
def isMeet (f : Nat → Bool) (n a b c : Nat) : Bool := f (c * n + a) && f (c * n + b) && (List.range n).all fun d => !f (d * n + a) || !f (d * n + b) || f (d * n + c)
theorem isMeet_iff {f : Nat → Bool} {n a b c : Nat} : isMeet f n a b c = true ↔ isMeetP f n a b c := by
  simp only [isMeet, isMeetP, Bool.and_eq_true, List.all_eq_true, List.mem_range, Bool.or_eq_true, Bool.not_eq_true', and_assoc]
  refine and_congr_right fun _ => and_congr_right fun _ => forall_congr' fun d => imp_congr_right fun _ => ?_
  cases f (d * n + a) <;> cases f (d * n + b) <;> cases f (d * n + c) <;> simp
theorem isMeet_true {f : Nat → Bool} {n a b c : Nat} (h : isMeetP f n a b c) : isMeet f n a b c = true := isMeet_iff.2 h
theorem isMeet_false {f : Nat → Bool} {n a b c : Nat} (h : ¬ isMeetP f n a b c) : isMeet f n a b c = false := by
  cases e : isMeet f n a b c
  · rfl
  · exact absurd (isMeet_iff.1 e) h

set_option maxHeartbeats 1000000 in
theorem l1IsMeet_any (t : Option Addr) (m cap n a b c : Nat) (f : Nat → Bool) (w : World) (hm : n * n ≤ m) (hn : n ≤ 32) (ha : a < n) (hb : b < n) (hc : c < n) (ht : Bools w t m f) :
    Calls Tryd.prog 55 #[.slice t m cap, .int .i64 n, .int .i64 a, .int .i64 b, .int .i64 c] w fun e w' => e = .returned (.bool (isMeet f n a b c)) ∧ w' = w := by
  have HM := hide hm; clear hm
  cases h1 : f (c * n + a)
  · have HR : Hid (isMeet f n a b c = false) := isMeet_false fun h => Bool.false_ne_true (h1.symm.trans h.1)
    go_enter Tryd.func55, Tryd.ntmps55
    go_wp2_with (go_at_call 37; refine (l1Leq_any _ _ _ _ _ _ f _ (unhide HM) (by assumption) (by assumption) hn ht).mono ?_; rintro e w' ⟨rfl, rfl⟩)
    go_ret
    exact ⟨ret_bool (unhide HR).symm, rfl⟩
  cases h2 : f (c * n + b)
  · have HR : Hid (isMeet f n a b c = false) := isMeet_false fun h => Bool.false_ne_true (h2.symm.trans h.2.1)
    go_enter Tryd.func55, Tryd.ntmps55
    go_wp2_with (go_at_call 37; refine (l1Leq_any _ _ _ _ _ _ f _ (unhide HM) (by assumption) (by assumption) hn ht).mono ?_; rintro e w' ⟨rfl, rfl⟩)
    go_ret
    exact ⟨ret_bool (unhide HR).symm, rfl⟩
  go_enter Tryd.func55, Tryd.ntmps55
  go_wp2_with (go_at_call 37; refine (l1Leq_any _ _ _ _ _ _ f _ (unhide HM) (by assumption) (by assumption) hn ht).mono ?_; rintro e w' ⟨rfl, rfl⟩)
  go_loop [11] (fun i => ∃ k : Nat, k ≤ n ∧ i = .int .i64 k ∧ ∀ d, d < k → f (d * n + a) = true → f (d * n + b) = true → f (d * n + c) = true) (fun i => n - (intOf i).toNat)
  case atStart => exact ⟨0, Nat.zero_le _, rfl, fun d h => absurd h (Nat.not_lt_zero _)⟩
  case round =>
    obtain ⟨k, hk, rfl, hall⟩ := hrel
    have HA := hide hall; clear hall
    by_cases hlt : k < n
    · by_cases hbad : f (k * n + a) = true ∧ f (k * n + b) = true ∧ f (k * n + c) = false
      · obtain ⟨h3, h4, h5⟩ := hbad
        have HR : Hid (isMeet f n a b c = false) := isMeet_false fun h => Bool.false_ne_true (h5.symm.trans (h.2.2 k hlt h3 h4))
        go_wp2_with (go_at_call 37; refine (l1Leq_any _ _ _ _ _ _ f _ (unhide HM) (by assumption) (by assumption) hn ht).mono ?_; rintro e w' ⟨rfl, rfl⟩)
        go_ret
        exact ⟨ret_bool (unhide HR).symm, rfl⟩
      · have HG : Hid (f (k * n + a) = true → f (k * n + b) = true → f (k * n + c) = true) := fun h3 h4 => by
          cases h5 : f (k * n + c)
          · exact absurd ⟨h3, h4, h5⟩ hbad
          · rfl
        have HS : Hid (∀ d, d < k + 1 → f (d * n + a) = true → f (d * n + b) = true → f (d * n + c) = true) := fun d hd => by
          by_cases e : d = k
          · rw [e]; exact unhide HG
          · exact unhide HA d (by omega)
        have hcs : f (k * n + a) = false ∨ (f (k * n + a) = true ∧ f (k * n + b) = false) ∨ (f (k * n + a) = true ∧ f (k * n + b) = true ∧ f (k * n + c) = true) := by
          cases h3 : f (k * n + a)
          · exact .inl rfl
          · cases h4 : f (k * n + b)
            · exact .inr (.inl ⟨rfl, rfl⟩)
            · exact .inr (.inr ⟨rfl, rfl, unhide HG h3 h4⟩)
        clear hbad
        rcases hcs with h3 | ⟨h3, h4⟩ | ⟨h3, h4, h5⟩
        all_goals
          go_wp2_with (go_at_call 37; refine (l1Leq_any _ _ _ _ _ _ f _ (unhide HM) (by assumption) (by assumption) hn ht).mono ?_; rintro e w' ⟨rfl, rfl⟩)
          go_round
          case rel => exact ⟨k + 1, by omega, by go_num, unhide HS⟩
          case measure => simp [intOf]; omega
    · have HR : Hid (isMeet f n a b c = true) := isMeet_true ⟨h1, h2, fun d hd => unhide HA d (by omega)⟩
      go_wp2
      go_ret
      exact ⟨ret_bool (unhide HR).symm, rfl⟩
end Go.Proofs.YtnmpkdmflijhpaaDoor
