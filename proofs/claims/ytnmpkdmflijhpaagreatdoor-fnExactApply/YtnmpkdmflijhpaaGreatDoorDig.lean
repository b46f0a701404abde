/- Lists of decimal digits, the lowest first. No model in this text. -/
import Derived.Lib.ItoaNum
namespace Go.Proofs.YtnmpkdmflijhpaaGreatDoor

def dval : List Nat → Nat
  | [] => 0
  | d :: r => d + 10 * dval r
def Dig (l : List Nat) : Prop := ∀ d, d ∈ l → d < 10
def digs (n : Nat) : List Nat := if _h : n = 0 then [] else n % 10 :: digs (n / 10)
  termination_by n
  decreasing_by omega

theorem digs_zero : digs 0 = [] := by rw [digs]; simp
theorem digs_pos {n : Nat} (h : n ≠ 0) : digs n = n % 10 :: digs (n / 10) := by rw [digs, dif_neg h]
theorem dval_digs (n : Nat) : dval (digs n) = n := by
  induction n using Nat.strongRecOn with
  | _ n ih =>
    by_cases h : n = 0
    · subst h; rw [digs_zero]; rfl
    · rw [digs_pos h, dval, ih (n / 10) (by omega)]; omega
theorem dig_digs (n : Nat) : Dig (digs n) := by
  induction n using Nat.strongRecOn with
  | _ n ih =>
    by_cases h : n = 0
    · subst h; rw [digs_zero]; intro d hd; cases hd
    · rw [digs_pos h]; intro d hd
      rcases List.mem_cons.1 hd with rfl | hd
      · omega
      · exact ih (n / 10) (by omega) d hd
theorem digs_nil {n : Nat} : digs n = [] ↔ n = 0 := by
  refine ⟨fun h => ?_, fun h => by rw [h, digs_zero]⟩
  rw [← dval_digs n, h]; rfl
theorem dval_append (l m : List Nat) : dval (l ++ m) = dval l + 10 ^ l.length * dval m := by
  induction l with
  | nil => simp [dval]
  | cons d r ih => rw [List.cons_append, dval, dval, ih, List.length_cons, Nat.pow_succ, Nat.mul_add, Nat.mul_comm (10 ^ r.length) 10, Nat.mul_assoc, Nat.add_assoc]
theorem dval_snoc (l : List Nat) (d : Nat) : dval (l ++ [d]) = dval l + 10 ^ l.length * d := by rw [dval_append]; simp [dval]
theorem Dig.tail {d : Nat} {l : List Nat} (h : Dig (d :: l)) : Dig l := fun e he => h e (List.mem_cons_of_mem _ he)
theorem Dig.head {d : Nat} {l : List Nat} (h : Dig (d :: l)) : d < 10 := h d (List.mem_cons_self ..)
theorem Dig.snoc {l : List Nat} {d : Nat} (h : Dig l) (hd : d < 10) : Dig (l ++ [d]) := fun e he => by
  rcases List.mem_append.1 he with he | he
  · exact h e he
  · rw [List.mem_singleton.1 he]; exact hd
theorem Dig.cons {l : List Nat} {d : Nat} (h : Dig l) (hd : d < 10) : Dig (d :: l) := fun e he => by
  rcases List.mem_cons.1 he with rfl | he
  · exact hd
  · exact h e he
theorem Dig.take {l : List Nat} (h : Dig l) (k : Nat) : Dig (l.take k) := fun e he => h e (List.mem_of_mem_take he)
theorem dval_lt {l : List Nat} (h : Dig l) : dval l < 10 ^ l.length := by
  induction l with
  | nil => simp [dval]
  | cons d r ih =>
    have := ih h.tail; have := h.head
    rw [dval, List.length_cons, Nat.pow_succ]; omega
/-- Place i of a list of digits. -/
theorem dig_at {l : List Nat} (h : Dig l) : ∀ i, l.getD i 0 = dval l / 10 ^ i % 10 := by
  induction l with
  | nil => intro i; simp [dval]
  | cons d r ih =>
    intro i
    have hd := h.head
    cases i with
    | zero => simp [dval]; omega
    | succ i =>
      have e : dval (d :: r) / 10 ^ (i + 1) = dval r / 10 ^ i := by
        rw [dval, Nat.pow_succ, Nat.mul_comm (10 ^ i) 10, ← Nat.div_div_eq_div_mul]
        congr 1; omega
      rw [e, ← ih h.tail i]; simp
theorem digs_dval_of_last {l : List Nat} (h : Dig l) (hl : l = [] ∨ l.getD (l.length - 1) 0 ≠ 0) : digs (dval l) = l := by
  induction l with
  | nil => simp [dval, digs_zero]
  | cons d r ih =>
    have hd := h.head
    have hr : r = [] ∨ r.getD (r.length - 1) 0 ≠ 0 := by
      cases r with
      | nil => exact .inl rfl
      | cons e s => exact .inr (by simpa using hl)
    have hi := ih h.tail hr
    have hne : dval (d :: r) ≠ 0 := by
      intro e0
      have e0' : d = 0 ∧ dval r = 0 := by rw [dval] at e0; omega
      have : r = [] := by rw [← hi, e0'.2, digs_zero]
      subst this
      simp [e0'.1] at hl
    rw [digs_pos hne, dval, show (d + 10 * dval r) % 10 = d by omega, show (d + 10 * dval r) / 10 = dval r by omega, hi]
/-- What is left when zeros are cut off at the top. -/
theorem trim_eq {l : List Nat} (h : Dig l) {k : Nat} (hk : k ≤ l.length) (hz : ∀ j, k ≤ j → j < l.length → l.getD j 0 = 0) (hl : k = 0 ∨ l.getD (k - 1) 0 ≠ 0) : l.take k = digs (dval l) := by
  have hv : dval l = dval (l.take k) := by
    conv => lhs; rw [← List.take_append_drop k l]
    rw [dval_append]
    have : ∀ m : List Nat, (∀ j, j < m.length → m.getD j 0 = 0) → dval m = 0 := by
      intro m
      induction m with
      | nil => intro _; rfl
      | cons d r ih =>
        intro hm
        have h0 := hm 0 (by simp)
        have h1 := ih (fun j hj => by have := hm (j + 1) (by simpa using hj); simpa using this)
        simp at h0
        rw [dval, h0, h1]
    rw [this (l.drop k) (fun j hj => by
      have hj' : k + j < l.length := by simp at hj; omega
      have := hz (k + j) (by omega) hj'
      simpa [List.getD, List.getElem?_drop] using this)]
    simp
  rw [hv, digs_dval_of_last (h.take k)]
  rcases hl with h0 | h0
  · left; subst h0; simp
  · by_cases hk0 : k = 0
    · left; subst hk0; simp
    · right
      have : (l.take k).length = k := by simp; omega
      rw [this]
      simpa [List.getD, List.getElem?_take, show k - 1 < k by omega] using h0
theorem digs_length_le {n k : Nat} (h : n < 10 ^ k) : (digs n).length ≤ k := by
  induction k generalizing n with
  | zero => have : n = 0 := by simpa using h
            subst this; simp [digs_zero]
  | succ k ih =>
    by_cases h0 : n = 0
    · subst h0; simp [digs_zero]
    · rw [digs_pos h0, List.length_cons]
      have := ih (n := n / 10) (by rw [Nat.pow_succ] at h; omega)
      omega
theorem lt_digs (n : Nat) : n < 10 ^ (digs n).length := by
  have := dval_lt (dig_digs n); rwa [dval_digs] at this
theorem digs_at (n i : Nat) : (digs n).getD i 0 = n / 10 ^ i % 10 := by rw [dig_at (dig_digs n), dval_digs]
theorem digs_ge {n : Nat} (h : n ≠ 0) : 10 ^ ((digs n).length - 1) ≤ n := by
  induction n using Nat.strongRecOn with
  | _ n ih =>
    rw [digs_pos h, List.length_cons, Nat.add_sub_cancel]
    by_cases h' : n / 10 = 0
    · rw [h', digs_zero]; simp; omega
    · have := ih (n / 10) (by omega) h'
      have hl : (digs (n / 10)).length ≠ 0 := by
        intro e; exact h' (digs_nil.1 (List.length_eq_zero_iff.1 e))
      obtain ⟨m, hm⟩ : ∃ m, (digs (n / 10)).length = m + 1 := ⟨(digs (n / 10)).length - 1, by omega⟩
      rw [hm] at this ⊢
      simp only [Nat.add_sub_cancel] at this
      rw [Nat.pow_succ]; omega
theorem digs_len_lt {m n : Nat} (h : (digs m).length < (digs n).length) : m < n := by
  have h1 := lt_digs m
  have hn : n ≠ 0 := by intro e; subst e; simp [digs_zero] at h
  have h2 := digs_ge hn
  have h3 : 10 ^ (digs m).length ≤ 10 ^ ((digs n).length - 1) := Nat.pow_le_pow_right (by decide) (by omega)
  omega
/-- One place down. -/
theorem div_step (n i : Nat) : n / 10 ^ i = 10 * (n / 10 ^ (i + 1)) + n / 10 ^ i % 10 := by
  rw [Nat.pow_succ, ← Nat.div_div_eq_div_mul]; omega
theorem mod_step (n i : Nat) : n % 10 ^ (i + 1) = n % 10 ^ i + 10 ^ i * (n / 10 ^ i % 10) := by
  rw [Nat.pow_succ, Nat.mod_mul]
theorem div_lt_of {m n p : Nat} (h : m / p < n / p) : m < n := by
  rcases Nat.lt_or_ge m n with h' | h'
  · exact h'
  · exact absurd (Nat.div_le_div_right (c := p) h') (by omega)

/-- Adding two digits and what was carried. -/
theorem add_step {L p c s A B x y : Nat} (h : L + c * p = A + B) (hs : s = x + y + c) : (L + p * (s % 10)) + (s / 10) * (p * 10) = (A + p * x) + (B + p * y) := by
  have e : p * (s % 10) + (s / 10) * (p * 10) = p * s := by
    rw [Nat.mul_comm (s / 10), Nat.mul_assoc, ← Nat.mul_add, Nat.mod_add_div]
  have e2 : p * s = p * x + p * y + c * p := by rw [hs, Nat.mul_add, Nat.mul_add, Nat.mul_comm c p]
  omega
/-- Taking a digit and what was borrowed from a digit. -/
theorem sub_step {L p c A B x y : Nat} (h : A + c * p = L + B) (hc : c ≤ 1) (hx : x < 10) (hy : y < 10) :
    ∃ d b, b ≤ 1 ∧ d < 10 ∧ (x + 10 * b = y + c + d) ∧ (b = 1 ↔ x < y + c) ∧ (A + p * x) + b * (p * 10) = (L + p * d) + (B + p * y) := by
  by_cases hlt : x < y + c
  · refine ⟨x + 10 - y - c, 1, by omega, by omega, by omega, by omega, ?_⟩
    have e : p * x + p * 10 = p * (x + 10 - y - c) + p * y + p * c := by rw [← Nat.mul_add, ← Nat.mul_add, ← Nat.mul_add]; congr 1; omega
    rw [Nat.mul_comm c p] at h
    omega
  · refine ⟨x - y - c, 0, by omega, by omega, by omega, by omega, ?_⟩
    have e : p * x = p * (x - y - c) + p * y + p * c := by rw [← Nat.mul_add, ← Nat.mul_add]; congr 1; omega
    rw [Nat.mul_comm c p] at h
    omega
/-- Multiplying a digit. -/
theorem mul_step {L p c s A x y : Nat} (h : L + c * p = A * y) (hs : s = x * y + c) : (L + p * (s % 10)) + (s / 10) * (p * 10) = (A + p * x) * y := by
  have e : p * (s % 10) + (s / 10) * (p * 10) = p * s := by
    rw [Nat.mul_comm (s / 10), Nat.mul_assoc, ← Nat.mul_add, Nat.mod_add_div]
  have e2 : p * s = p * x * y + c * p := by rw [hs, Nat.mul_add, Nat.mul_comm c p, Nat.mul_assoc]
  rw [Nat.add_mul]
  omega
/-- Long division: one place. -/
theorem div_place {n m i r : Nat} (hm : 0 < m) (hr : r = n / 10 ^ (i + 1) % m) :
    (10 * r + n / 10 ^ i % 10) / m < 10 ∧ (10 * r + n / 10 ^ i % 10) / m = n / m / 10 ^ i % 10 ∧ (10 * r + n / 10 ^ i % 10) % m = n / 10 ^ i % m := by
  have h1 : r < m := by rw [hr]; exact Nat.mod_lt _ hm
  have hq : n / 10 ^ (i + 1) = m * (n / 10 ^ (i + 1) / m) + r := by rw [hr]; exact (Nat.div_add_mod _ _).symm
  have hd : n / 10 ^ i % 10 < 10 := Nat.mod_lt _ (by decide)
  have hs := div_step n i
  generalize n / 10 ^ i % 10 = d at *
  generalize n / 10 ^ (i + 1) / m = q at *
  have hN : n / 10 ^ i = m * (10 * q) + (10 * r + d) := by
    rw [hs, hq, Nat.mul_add, Nat.mul_left_comm]; omega
  have hlt : (10 * r + d) / m < 10 := by rw [Nat.div_lt_iff_lt_mul hm]; omega
  refine ⟨hlt, ?_, ?_⟩
  · rw [Nat.div_div_eq_div_mul, Nat.mul_comm m, ← Nat.div_div_eq_div_mul, hN, Nat.mul_add_div hm]
    generalize (10 * r + d) / m = x at *
    omega
  · rw [hN, Nat.mul_add_mod]
/-- The numeral of a number and its digits. -/
theorem decDigits_digs {n : Nat} (h : n ≠ 0) : Lib.decDigits n = (digs n).reverse.map fun d => UInt8.ofNat (48 + d) := by
  induction n using Nat.strongRecOn with
  | _ n ih =>
    rw [digs_pos h, Lib.decDigits]
    by_cases h' : n < 10
    · rw [dif_pos h', show n / 10 = 0 by omega, digs_zero, Nat.mod_eq_of_lt h']; simp
    · rw [dif_neg h', ih (n / 10) (by omega) (by omega)]; simp
end Go.Proofs.YtnmpkdmflijhpaaGreatDoor
