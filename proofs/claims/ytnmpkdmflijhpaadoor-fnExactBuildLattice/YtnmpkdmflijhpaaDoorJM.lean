/- The model's join and meet of two labels, by search. -/
import Derived.Test.YtnmpkdmflijhpaaDoorSpec1
namespace Go.Proofs.YtnmpkdmflijhpaaDoor
open Go Go.RowKit

/-- The first label of which p holds, or -1. -/
def firstN (p : Nat → Bool) (n : Nat) : Int := match (List.range n).find? p with
  | some c => c
  | none => -1
theorem first_hit {p : Nat → Bool} {n k : Nat} (hk : k < n) (h : ∀ c, c < k → p c = false) (hp : p k = true) : firstN p n = k := by
  have : (List.range n).find? p = some k := by
    rw [List.find?_range_eq_some]
    exact ⟨hp, by simpa using hk, fun j hj => by simp [h j hj]⟩
  rw [firstN, this]
theorem first_none {p : Nat → Bool} {n : Nat} (h : ∀ c, c < n → p c = false) : firstN p n = -1 := by
  have : (List.range n).find? p = none := by
    rw [List.find?_eq_none]
    intro x hx
    simp [h x (List.mem_range.1 hx)]
  rw [firstN, this]
theorem first_cases (p : Nat → Bool) (n : Nat) : (∃ c : Nat, c < n ∧ firstN p n = c ∧ p c = true) ∨ (firstN p n = -1 ∧ ∀ c, c < n → p c = false) := by
  cases e : (List.range n).find? p with
  | some c =>
    left
    have h1 := List.find?_some e
    have h2 := List.mem_of_find?_eq_some e
    exact ⟨c, List.mem_range.1 h2, by rw [firstN, e], h1⟩
  | none =>
    right
    refine ⟨by rw [firstN, e], fun c hc => ?_⟩
    have := (List.find?_eq_none.1 e) c (List.mem_range.2 hc)
    simpa using this
theorem snocP {p : Nat → Bool} {k : Nat} (h : ∀ c, c < k → p c = false) (hk : p k = false) : ∀ c, c < k + 1 → p c = false := fun c hc => by
  by_cases e : c = k
  · rw [e]; exact hk
  · exact h c (by omega)

set_option maxHeartbeats 1000000 in
theorem l1Join_any (t : Option Addr) (m cap n a b : Nat) (f : Nat → Bool) (w : World) (hm : n * n ≤ m) (hn : n ≤ 32) (ha : a < n) (hb : b < n) (ht : Bools w t m f) (r : Int) (hr : firstN (isJoin f n a b) n = r) :
    Calls Tryd.prog 38 #[.slice t m cap, .int .i64 n, .int .i64 a, .int .i64 b] w fun e w' => e = .returned (.int .i64 r) ∧ w' = w := by
  have HM := hide hm; have HR := hide hr; clear hm hr
  go_enter Tryd.func38, Tryd.ntmps38
  go_wp2
  go_loop [9] (fun i => ∃ k : Nat, k ≤ n ∧ i = .int .i64 k ∧ ∀ c, c < k → isJoin f n a b c = false) (fun i => n - (intOf i).toNat)
  case atStart => exact ⟨0, Nat.zero_le _, rfl, fun c h => absurd h (Nat.not_lt_zero _)⟩
  case round =>
    obtain ⟨k, hk, rfl, hall⟩ := hrel
    have HA := hide hall; clear hall
    by_cases hlt : k < n
    · cases hj : isJoin f n a b k
      · go_wp2_with (go_at_call 54; refine (l1IsJoin_any _ _ _ _ _ _ _ f _ (unhide HM) hn ha hb hlt ht).mono ?_; rintro e w' ⟨rfl, rfl⟩; rw [hj])
        go_round
        case rel => exact ⟨k + 1, by omega, by go_num, snocP (unhide HA) hj⟩
        case measure => simp [intOf]; omega
      · have hv := first_hit hlt (unhide HA) hj
        rw [unhide HR] at hv
        subst hv
        go_wp2_with (go_at_call 54; refine (l1IsJoin_any _ _ _ _ _ _ _ f _ (unhide HM) hn ha hb hlt ht).mono ?_; rintro e w' ⟨rfl, rfl⟩; rw [hj])
        go_ret
        exact ⟨rfl, rfl⟩
    · have hv := first_none (p := isJoin f n a b) (n := n) fun c hc => unhide HA c (by omega)
      rw [unhide HR] at hv
      subst hv
      go_wp2
      go_ret
      exact ⟨rfl, rfl⟩

set_option maxHeartbeats 1000000 in
theorem l1Meet_any (t : Option Addr) (m cap n a b : Nat) (f : Nat → Bool) (w : World) (hm : n * n ≤ m) (hn : n ≤ 32) (ha : a < n) (hb : b < n) (ht : Bools w t m f) (r : Int) (hr : firstN (isMeet f n a b) n = r) :
    Calls Tryd.prog 39 #[.slice t m cap, .int .i64 n, .int .i64 a, .int .i64 b] w fun e w' => e = .returned (.int .i64 r) ∧ w' = w := by
  have HM := hide hm; have HR := hide hr; clear hm hr
  go_enter Tryd.func39, Tryd.ntmps39
  go_wp2
  go_loop [9] (fun i => ∃ k : Nat, k ≤ n ∧ i = .int .i64 k ∧ ∀ c, c < k → isMeet f n a b c = false) (fun i => n - (intOf i).toNat)
  case atStart => exact ⟨0, Nat.zero_le _, rfl, fun c h => absurd h (Nat.not_lt_zero _)⟩
  case round =>
    obtain ⟨k, hk, rfl, hall⟩ := hrel
    have HA := hide hall; clear hall
    by_cases hlt : k < n
    · cases hj : isMeet f n a b k
      · go_wp2_with (go_at_call 55; refine (l1IsMeet_any _ _ _ _ _ _ _ f _ (unhide HM) hn ha hb hlt ht).mono ?_; rintro e w' ⟨rfl, rfl⟩; rw [hj])
        go_round
        case rel => exact ⟨k + 1, by omega, by go_num, snocP (unhide HA) hj⟩
        case measure => simp [intOf]; omega
      · have hv := first_hit hlt (unhide HA) hj
        rw [unhide HR] at hv
        subst hv
        go_wp2_with (go_at_call 55; refine (l1IsMeet_any _ _ _ _ _ _ _ f _ (unhide HM) hn ha hb hlt ht).mono ?_; rintro e w' ⟨rfl, rfl⟩; rw [hj])
        go_ret
        exact ⟨rfl, rfl⟩
    · have hv := first_none (p := isMeet f n a b) (n := n) fun c hc => unhide HA c (by omega)
      rw [unhide HR] at hv
      subst hv
      go_wp2
      go_ret
      exact ⟨rfl, rfl⟩
end Go.Proofs.YtnmpkdmflijhpaaDoor
