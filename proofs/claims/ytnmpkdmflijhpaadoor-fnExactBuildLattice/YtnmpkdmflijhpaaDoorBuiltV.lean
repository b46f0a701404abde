/- What BuildLattice gives is a valid lattice. -/
import Derived.Test.YtnmpkdmflijhpaaDoorBldM
namespace Go.Proofs.YtnmpkdmflijhpaaDoor
open Go Go.RowKit

section
variable {F : Nat → Bool} {n : Nat}
theorem place_lt {a b : Nat} (ha : a < n) (hb : b < n) : a * n + b < n * n := by
  have : (a + 1) * n ≤ n * n := Nat.mul_le_mul_right n (by omega)
  rw [Nat.add_mul] at this
  omega
theorem place_div {a b : Nat} (hb : b < n) : (a * n + b) / n = a := by
  rw [Nat.mul_comm, Nat.mul_add_div (by omega), Nat.div_eq_of_lt hb]; rfl
theorem place_mod {a b : Nat} (hb : b < n) : (a * n + b) % n = b := by
  rw [Nat.mul_comm, Nat.mul_add_mod, Nat.mod_eq_of_lt hb]
theorem jf_is {a b : Nat} (ha : a < n) (hb : b < n) (hJ : ∀ i, i < n * n → 0 ≤ JF F n i) : ∃ j : Nat, JF F n (a * n + b) = j ∧ j < n ∧ isJoinP F n a b j := by
  have h := hJ _ (place_lt ha hb)
  unfold JF at h ⊢
  rw [place_div hb, place_mod hb] at h ⊢
  rcases first_cases (isJoin F n a b) n with ⟨c, hc, e, hp⟩ | ⟨e, -⟩
  · exact ⟨c, e, hc, isJoin_iff.1 hp⟩
  · rw [e] at h; omega
theorem mf_is {a b : Nat} (ha : a < n) (hb : b < n) (hM : ∀ i, i < n * n → 0 ≤ MF F n i) : ∃ j : Nat, MF F n (a * n + b) = j ∧ j < n ∧ isMeetP F n a b j := by
  have h := hM _ (place_lt ha hb)
  unfold MF at h ⊢
  rw [place_div hb, place_mod hb] at h ⊢
  rcases first_cases (isMeet F n a b) n with ⟨c, hc, e, hp⟩ | ⟨e, -⟩
  · exact ⟨c, e, hc, isMeet_iff.1 hp⟩
  · rw [e] at h; omega

theorem built_valid (h1 : 1 ≤ n) (h32 : n ≤ 32) (hr : ∀ a, a < n → F (a * n + a) = true) (ht : ∀ a b c, a < n → b < n → c < n → F (a * n + b) = true → F (b * n + c) = true → F (a * n + c) = true) (hT : ¬ TwoW F n)
    (hJ : ∀ i, i < n * n → 0 ≤ JF F n i) (hM : ∀ i, i < n * n → 0 ≤ MF F n i) : Valid n (n * n) (n * n) (n * n) F (JF F n) (MF F n) (lastN (belowAll F n n) n) (lastN (aboveAll F n n) n) := by
  have anti : ∀ a b, a < n → b < n → F (a * n + b) = true → F (b * n + a) = true → a = b := fun a b ha hb x y => Classical.byContradiction fun h => hT ⟨a, b, ha, hb, h, x, y⟩
  have low : ∀ k, k ≤ n → 1 ≤ k → ∃ c, c < n ∧ ∀ d, d < k → F (c * n + d) = true := by
    intro k
    induction k with
    | zero => intro _ h; omega
    | succ k ih =>
      intro hk _
      by_cases h0 : k = 0
      · refine ⟨0, by omega, fun d hd => ?_⟩
        obtain rfl : d = 0 := by omega
        exact hr 0 (by omega)
      · obtain ⟨c, hc, hd⟩ := ih (by omega) (by omega)
        obtain ⟨j, -, hj, m1, m2, -⟩ := mf_is (F := F) hc (show k < n by omega) hM
        refine ⟨j, hj, fun d hdk => ?_⟩
        by_cases e : d = k
        · rw [e]; exact m2
        · exact ht j c d hj hc (by omega) m1 (hd d (by omega))
  have high : ∀ k, k ≤ n → 1 ≤ k → ∃ c, c < n ∧ ∀ d, d < k → F (d * n + c) = true := by
    intro k
    induction k with
    | zero => intro _ h; omega
    | succ k ih =>
      intro hk _
      by_cases h0 : k = 0
      · refine ⟨0, by omega, fun d hd => ?_⟩
        obtain rfl : d = 0 := by omega
        exact hr 0 (by omega)
      · obtain ⟨c, hc, hd⟩ := ih (by omega) (by omega)
        obtain ⟨j, -, hj, m1, m2, -⟩ := jf_is (F := F) hc (show k < n by omega) hJ
        refine ⟨j, hj, fun d hdk => ?_⟩
        by_cases e : d = k
        · rw [e]; exact m2
        · exact ht d c j (by omega) hc hj (hd d (by omega)) m1
  obtain ⟨bt, hbt, hb⟩ := low n (Nat.le_refl _) h1
  obtain ⟨tp, htp, hp⟩ := high n (Nat.le_refl _) h1
  have e1 : lastN (belowAll F n n) n = bt := last_of (belowAll_iff.2 hb) hbt fun c hc h => anti c bt hc hbt (belowAll_iff.1 h bt hbt) (hb c hc)
  have e2 : lastN (aboveAll F n n) n = tp := last_of (aboveAll_iff.2 hp) htp fun c hc h => anti c tp hc htp (hp c hc) (aboveAll_iff.1 h tp htp)
  refine ⟨n, bt, tp, rfl, h1, h32, rfl, rfl, rfl, e1, e2, hbt, htp, fun a ha => ⟨hr a ha, hb a ha, hp a ha, fun b hb => ⟨fun h => h.1 (anti a b ha hb h.2.1 h.2.2), fun c hc x y => ht a b c ha hb hc x y⟩⟩, fun a ha b hb => ?_⟩
  obtain ⟨j, ej, hj, pj⟩ := jf_is (F := F) ha hb hJ
  obtain ⟨m, em, hm, pm⟩ := mf_is (F := F) ha hb hM
  exact ⟨j, m, ej, em, hj, hm, pj, pm⟩
/-- The zero lattice is none. -/
theorem zero_not_valid : ¬ Valid 0 0 0 0 (fun _ => false) (fun _ => 0) (fun _ => 0) 0 0 := by
  rintro ⟨n, bt, tp, h⟩
  have := h.hN; have := h.h1
  omega
end
end Go.Proofs.YtnmpkdmflijhpaaDoor
