import Derived.Lib.ItoaNum
import Derived.Lib.ItoaLen
import Derived.Lib.ParseIntBTie
import Derived.Test.YtjgngbmkpiihgaaGreatDoorGOw
/- Lists of decimal digits, the lowest first. No model in this text. -/
namespace Go.Proofs.YtjgngbmkpiihgaaGreatDoor

def dval : List Nat → Nat
  | [] => 0
  | d :: r => d + 10 * dval r
def Dig (l : List Nat) : Prop := ∀ d, d ∈ l → d < 10
def digs (n : Nat) : List Nat := if _h : n = 0 then [] else n % 10 :: digs (n / 10)
  termination_by n
  decreasing_by omega

theorem digs_zero : digs 0 = [] := by rw [digs]; simp
theorem digs_pos {n : Nat} (h : n ≠ 0) : digs n = n % 10 :: digs (n / 10) := by rw [digs, dif_neg h]
theorem dval_digs (n : Nat) : dval (digs n) = n := by
  induction n using Nat.strongRecOn with
  | _ n ih =>
    by_cases h : n = 0
    · subst h; rw [digs_zero]; rfl
    · rw [digs_pos h, dval, ih (n / 10) (by omega)]; omega
theorem dig_digs (n : Nat) : Dig (digs n) := by
  induction n using Nat.strongRecOn with
  | _ n ih =>
    by_cases h : n = 0
    · subst h; rw [digs_zero]; intro d hd; cases hd
    · rw [digs_pos h]; intro d hd
      rcases List.mem_cons.1 hd with rfl | hd
      · omega
      · exact ih (n / 10) (by omega) d hd
theorem digs_nil {n : Nat} : digs n = [] ↔ n = 0 := by
  refine ⟨fun h => ?_, fun h => by rw [h, digs_zero]⟩
  rw [← dval_digs n, h]; rfl
theorem dval_append (l m : List Nat) : dval (l ++ m) = dval l + 10 ^ l.length * dval m := by
  induction l with
  | nil => simp [dval]
  | cons d r ih => rw [List.cons_append, dval, dval, ih, List.length_cons, Nat.pow_succ, Nat.mul_add, Nat.mul_comm (10 ^ r.length) 10, Nat.mul_assoc, Nat.add_assoc]
theorem dval_snoc (l : List Nat) (d : Nat) : dval (l ++ [d]) = dval l + 10 ^ l.length * d := by rw [dval_append]; simp [dval]
theorem Dig.tail {d : Nat} {l : List Nat} (h : Dig (d :: l)) : Dig l := fun e he => h e (List.mem_cons_of_mem _ he)
theorem Dig.head {d : Nat} {l : List Nat} (h : Dig (d :: l)) : d < 10 := h d (List.mem_cons_self ..)
theorem Dig.snoc {l : List Nat} {d : Nat} (h : Dig l) (hd : d < 10) : Dig (l ++ [d]) := fun e he => by
  rcases List.mem_append.1 he with he | he
  · exact h e he
  · rw [List.mem_singleton.1 he]; exact hd
theorem Dig.cons {l : List Nat} {d : Nat} (h : Dig l) (hd : d < 10) : Dig (d :: l) := fun e he => by
  rcases List.mem_cons.1 he with rfl | he
  · exact hd
  · exact h e he
theorem Dig.take {l : List Nat} (h : Dig l) (k : Nat) : Dig (l.take k) := fun e he => h e (List.mem_of_mem_take he)
theorem dval_lt {l : List Nat} (h : Dig l) : dval l < 10 ^ l.length := by
  induction l with
  | nil => simp [dval]
  | cons d r ih =>
    have := ih h.tail; have := h.head
    rw [dval, List.length_cons, Nat.pow_succ]; omega
/-- Place i of a list of digits. -/
theorem dig_at {l : List Nat} (h : Dig l) : ∀ i, l.getD i 0 = dval l / 10 ^ i % 10 := by
  induction l with
  | nil => intro i; simp [dval]
  | cons d r ih =>
    intro i
    have hd := h.head
    cases i with
    | zero => simp [dval]; omega
    | succ i =>
      have e : dval (d :: r) / 10 ^ (i + 1) = dval r / 10 ^ i := by
        rw [dval, Nat.pow_succ, Nat.mul_comm (10 ^ i) 10, ← Nat.div_div_eq_div_mul]
        congr 1; omega
      rw [e, ← ih h.tail i]; simp
theorem digs_dval_of_last {l : List Nat} (h : Dig l) (hl : l = [] ∨ l.getD (l.length - 1) 0 ≠ 0) : digs (dval l) = l := by
  induction l with
  | nil => simp [dval, digs_zero]
  | cons d r ih =>
    have hd := h.head
    have hr : r = [] ∨ r.getD (r.length - 1) 0 ≠ 0 := by
      cases r with
      | nil => exact .inl rfl
      | cons e s => exact .inr (by simpa using hl)
    have hi := ih h.tail hr
    have hne : dval (d :: r) ≠ 0 := by
      intro e0
      have e0' : d = 0 ∧ dval r = 0 := by rw [dval] at e0; omega
      have : r = [] := by rw [← hi, e0'.2, digs_zero]
      subst this
      simp [e0'.1] at hl
    rw [digs_pos hne, dval, show (d + 10 * dval r) % 10 = d by omega, show (d + 10 * dval r) / 10 = dval r by omega, hi]
/-- What is left when zeros are cut off at the top. -/
theorem trim_eq {l : List Nat} (h : Dig l) {k : Nat} (hk : k ≤ l.length) (hz : ∀ j, k ≤ j → j < l.length → l.getD j 0 = 0) (hl : k = 0 ∨ l.getD (k - 1) 0 ≠ 0) : l.take k = digs (dval l) := by
  have hv : dval l = dval (l.take k) := by
    conv => lhs; rw [← List.take_append_drop k l]
    rw [dval_append]
    have : ∀ m : List Nat, (∀ j, j < m.length → m.getD j 0 = 0) → dval m = 0 := by
      intro m
      induction m with
      | nil => intro _; rfl
      | cons d r ih =>
        intro hm
        have h0 := hm 0 (by simp)
        have h1 := ih (fun j hj => by have := hm (j + 1) (by simpa using hj); simpa using this)
        simp at h0
        rw [dval, h0, h1]
    rw [this (l.drop k) (fun j hj => by
      have hj' : k + j < l.length := by simp at hj; omega
      have := hz (k + j) (by omega) hj'
      simpa [List.getD, List.getElem?_drop] using this)]
    simp
  rw [hv, digs_dval_of_last (h.take k)]
  rcases hl with h0 | h0
  · left; subst h0; simp
  · by_cases hk0 : k = 0
    · left; subst hk0; simp
    · right
      have : (l.take k).length = k := by simp; omega
      rw [this]
      simpa [List.getD, List.getElem?_take, show k - 1 < k by omega] using h0
theorem digs_length_le {n k : Nat} (h : n < 10 ^ k) : (digs n).length ≤ k := by
  induction k generalizing n with
  | zero => have : n = 0 := by simpa using h
            subst this; simp [digs_zero]
  | succ k ih =>
    by_cases h0 : n = 0
    · subst h0; simp [digs_zero]
    · rw [digs_pos h0, List.length_cons]
      have := ih (n := n / 10) (by rw [Nat.pow_succ] at h; omega)
      omega
theorem lt_digs (n : Nat) : n < 10 ^ (digs n).length := by
  have := dval_lt (dig_digs n); rwa [dval_digs] at this
theorem digs_at (n i : Nat) : (digs n).getD i 0 = n / 10 ^ i % 10 := by rw [dig_at (dig_digs n), dval_digs]
theorem digs_ge {n : Nat} (h : n ≠ 0) : 10 ^ ((digs n).length - 1) ≤ n := by
  induction n using Nat.strongRecOn with
  | _ n ih =>
    rw [digs_pos h, List.length_cons, Nat.add_sub_cancel]
    by_cases h' : n / 10 = 0
    · rw [h', digs_zero]; simp; omega
    · have := ih (n / 10) (by omega) h'
      have hl : (digs (n / 10)).length ≠ 0 := by
        intro e; exact h' (digs_nil.1 (List.length_eq_zero_iff.1 e))
      obtain ⟨m, hm⟩ : ∃ m, (digs (n / 10)).length = m + 1 := ⟨(digs (n / 10)).length - 1, by omega⟩
      rw [hm] at this ⊢
      simp only [Nat.add_sub_cancel] at this
      rw [Nat.pow_succ]; omega
theorem digs_len_lt {m n : Nat} (h : (digs m).length < (digs n).length) : m < n := by
  have h1 := lt_digs m
  have hn : n ≠ 0 := by intro e; subst e; simp [digs_zero] at h
  have h2 := digs_ge hn
  have h3 : 10 ^ (digs m).length ≤ 10 ^ ((digs n).length - 1) := Nat.pow_le_pow_right (by decide) (by omega)
  omega
/-- One place down. -/
theorem div_step (n i : Nat) : n / 10 ^ i = 10 * (n / 10 ^ (i + 1)) + n / 10 ^ i % 10 := by
  rw [Nat.pow_succ, ← Nat.div_div_eq_div_mul]; omega
theorem mod_step (n i : Nat) : n % 10 ^ (i + 1) = n % 10 ^ i + 10 ^ i * (n / 10 ^ i % 10) := by
  rw [Nat.pow_succ, Nat.mod_mul]
theorem div_lt_of {m n p : Nat} (h : m / p < n / p) : m < n := by
  rcases Nat.lt_or_ge m n with h' | h'
  · exact h'
  · exact absurd (Nat.div_le_div_right (c := p) h') (by omega)

/-- Adding two digits and what was carried. -/
theorem add_step {L p c s A B x y : Nat} (h : L + c * p = A + B) (hs : s = x + y + c) : (L + p * (s % 10)) + (s / 10) * (p * 10) = (A + p * x) + (B + p * y) := by
  have e : p * (s % 10) + (s / 10) * (p * 10) = p * s := by
    rw [Nat.mul_comm (s / 10), Nat.mul_assoc, ← Nat.mul_add, Nat.mod_add_div]
  have e2 : p * s = p * x + p * y + c * p := by rw [hs, Nat.mul_add, Nat.mul_add, Nat.mul_comm c p]
  omega
/-- Taking a digit and what was borrowed from a digit. -/
theorem sub_step {L p c A B x y : Nat} (h : A + c * p = L + B) (hc : c ≤ 1) (hx : x < 10) (hy : y < 10) :
    ∃ d b, b ≤ 1 ∧ d < 10 ∧ (x + 10 * b = y + c + d) ∧ (b = 1 ↔ x < y + c) ∧ (A + p * x) + b * (p * 10) = (L + p * d) + (B + p * y) := by
  by_cases hlt : x < y + c
  · refine ⟨x + 10 - y - c, 1, by omega, by omega, by omega, by omega, ?_⟩
    have e : p * x + p * 10 = p * (x + 10 - y - c) + p * y + p * c := by rw [← Nat.mul_add, ← Nat.mul_add, ← Nat.mul_add]; congr 1; omega
    rw [Nat.mul_comm c p] at h
    omega
  · refine ⟨x - y - c, 0, by omega, by omega, by omega, by omega, ?_⟩
    have e : p * x = p * (x - y - c) + p * y + p * c := by rw [← Nat.mul_add, ← Nat.mul_add]; congr 1; omega
    rw [Nat.mul_comm c p] at h
    omega
/-- Multiplying a digit. -/
theorem mul_step {L p c s A x y : Nat} (h : L + c * p = A * y) (hs : s = x * y + c) : (L + p * (s % 10)) + (s / 10) * (p * 10) = (A + p * x) * y := by
  have e : p * (s % 10) + (s / 10) * (p * 10) = p * s := by
    rw [Nat.mul_comm (s / 10), Nat.mul_assoc, ← Nat.mul_add, Nat.mod_add_div]
  have e2 : p * s = p * x * y + c * p := by rw [hs, Nat.mul_add, Nat.mul_comm c p, Nat.mul_assoc]
  rw [Nat.add_mul]
  omega
/-- Long division: one place. -/
theorem div_place {n m i r : Nat} (hm : 0 < m) (hr : r = n / 10 ^ (i + 1) % m) :
    (10 * r + n / 10 ^ i % 10) / m < 10 ∧ (10 * r + n / 10 ^ i % 10) / m = n / m / 10 ^ i % 10 ∧ (10 * r + n / 10 ^ i % 10) % m = n / 10 ^ i % m := by
  have h1 : r < m := by rw [hr]; exact Nat.mod_lt _ hm
  have hq : n / 10 ^ (i + 1) = m * (n / 10 ^ (i + 1) / m) + r := by rw [hr]; exact (Nat.div_add_mod _ _).symm
  have hd : n / 10 ^ i % 10 < 10 := Nat.mod_lt _ (by decide)
  have hs := div_step n i
  generalize n / 10 ^ i % 10 = d at *
  generalize n / 10 ^ (i + 1) / m = q at *
  have hN : n / 10 ^ i = m * (10 * q) + (10 * r + d) := by
    rw [hs, hq, Nat.mul_add, Nat.mul_left_comm]; omega
  have hlt : (10 * r + d) / m < 10 := by rw [Nat.div_lt_iff_lt_mul hm]; omega
  refine ⟨hlt, ?_, ?_⟩
  · rw [Nat.div_div_eq_div_mul, Nat.mul_comm m, ← Nat.div_div_eq_div_mul, hN, Nat.mul_add_div hm]
    generalize (10 * r + d) / m = x at *
    omega
  · rw [hN, Nat.mul_add_mod]
/-- The numeral of a number and its digits. -/
theorem decDigits_digs {n : Nat} (h : n ≠ 0) : Lib.decDigits n = (digs n).reverse.map fun d => UInt8.ofNat (48 + d) := by
  induction n using Nat.strongRecOn with
  | _ n ih =>
    rw [digs_pos h, Lib.decDigits]
    by_cases h' : n < 10
    · rw [dif_pos h', show n / 10 = 0 by omega, digs_zero, Nat.mod_eq_of_lt h']; simp
    · rw [dif_neg h', ih (n / 10) (by omega) (by omega)]; simp
end Go.Proofs.YtjgngbmkpiihgaaGreatDoor

/- A plain decimal is read back as the number that it shows. No model in this text. -/
namespace Go.Proofs.YtjgngbmkpiihgaaGreatDoor
open Go.Lib

def hval (acc : Nat) : List Nat → Nat
  | [] => acc
  | d :: r => hval (acc * 10 + d) r
theorem hval_ge (l : List Nat) : ∀ acc, acc ≤ hval acc l := by
  induction l with
  | nil => intro acc; exact Nat.le_refl _
  | cons d r ih => intro acc; have := ih (acc * 10 + d); rw [hval]; omega
theorem hval_append (l m : List Nat) : ∀ acc, hval acc (l ++ m) = hval (hval acc l) m := by
  induction l with
  | nil => intro acc; rfl
  | cons d r ih => intro acc; exact ih _
def hdig (l : List Nat) : List UInt8 := l.map fun d => UInt8.ofNat (48 + d)
theorem parse_high (l : List Nat) : ∀ (acc : Nat), (∀ d, d ∈ l → d < 10) → hval acc l < 18446744073709551616 → parseUintM 18446744073709551615 acc (hdig l) = .ok (hval acc l) := by
  induction l with
  | nil => intro acc _ _; rfl
  | cons d r ih =>
    intro acc hd hv
    have h0 : d < 10 := hd d (List.mem_cons_self ..)
    have hg := hval_ge r (acc * 10 + d)
    rw [hval] at hv ⊢
    have e : (UInt8.ofNat (48 + d)).toNat = 48 + d := by rw [UInt8.toNat_ofNat']; omega
    show parseUintM _ acc (UInt8.ofNat (48 + d) :: hdig r) = _
    rw [parseUintM, e, if_pos (by omega), if_neg (by omega), if_neg (by omega), show 48 + d - 48 = d by omega]
    exact ih _ (fun e he => hd e (List.mem_cons_of_mem _ he)) hv
/-- The digits of a number, the highest first; one for 0. -/
def hiDigs (n : Nat) : List Nat := if _h : n < 10 then [n] else hiDigs (n / 10) ++ [n % 10]
  termination_by n
  decreasing_by omega
theorem hd_spec (n : Nat) : hval 0 (hiDigs n) = n ∧ (∀ d, d ∈ hiDigs n → d < 10) ∧ decDigits n = hdig (hiDigs n) ∧ hiDigs n ≠ [] := by
  induction n using Nat.strongRecOn with
  | _ n ih =>
    by_cases h : n < 10
    · rw [hiDigs, dif_pos h, decDigits, dif_pos h]
      refine ⟨by simp [hval], fun d hd => ?_, rfl, by simp⟩
      rw [List.mem_singleton.1 hd]; exact h
    · obtain ⟨a, b, c, -⟩ := ih (n / 10) (by omega)
      rw [hiDigs, dif_neg h, decDigits, dif_neg h]
      refine ⟨?_, fun d hd => ?_, ?_, by simp⟩
      · rw [hval_append, a]; simp only [hval]; omega
      · rcases List.mem_append.1 hd with hd | hd
        · exact b d hd
        · rw [List.mem_singleton.1 hd]; omega
      · rw [c]; simp [hdig]
theorem dec_ne (n : Nat) : decDigits n ≠ [] := by
  obtain ⟨-, -, c, d⟩ := hd_spec n
  rw [c]; simpa [hdig] using d
theorem dec_head (n : Nat) : ∃ c r, decDigits n = c :: r ∧ 48 ≤ c.toNat ∧ c.toNat ≤ 57 := by
  obtain ⟨-, b, c, d⟩ := hd_spec n
  match e : hiDigs n with
  | [] => exact absurd e d
  | x :: r =>
    rw [c, e]
    have hx := b x (by rw [e]; exact List.mem_cons_self ..)
    refine ⟨UInt8.ofNat (48 + x), hdig r, rfl, ?_⟩
    have : (UInt8.ofNat (48 + x)).toNat = 48 + x := by rw [UInt8.toNat_ofNat']; omega
    omega
theorem parse_dec {n : Nat} (h : n < 18446744073709551616) : parseUintB 64 (decDigits n) = .ok n := by
  obtain ⟨a, b, c, -⟩ := hd_spec n
  have := parse_high (hiDigs n) 0 b (by rw [a]; exact h)
  rw [parseUintB, if_neg (dec_ne n), show 2 ^ 64 - 1 = 18446744073709551615 from rfl, c, this, a]
/-- What shows a number is read as that number. -/
theorem parse_itoa {n : Int} (h0 : -9223372036854775808 ≤ n) (h1 : n ≤ 9223372036854775807) : parseIntB 64 (itoa n) = .ok n := by
  have hp : 2 ^ (64 - 1) = 9223372036854775808 := rfl
  unfold itoa
  split
  · have := parse_dec (n := n.natAbs) (by omega)
    simp only [parseIntB, hp]
    rw [if_pos (Or.inr (by decide)), this]
    have e : (45 : UInt8).toNat = 45 := rfl
    simp only [e, not_true_eq_false, false_and, if_false, true_and]
    rw [if_neg (by omega), if_pos trivial, show -(n.natAbs : Int) = n by omega]
  · have := parse_dec (n := n.toNat) (by omega)
    obtain ⟨c, r, e, h48, h57⟩ := dec_head n.toNat
    rw [e] at this ⊢
    simp only [parseIntB, hp]
    rw [if_neg (by omega), this]
    have : ¬ c.toNat = 45 := by omega
    simp only [this, not_false_eq_true, false_and, if_false, true_and]
    rw [if_neg (by omega), show (n.toNat : Int) = n by omega]
theorem itoa_inj {m n : Int} (m0 : -9223372036854775808 ≤ m) (m1 : m ≤ 9223372036854775807) (n0 : -9223372036854775808 ≤ n) (n1 : n ≤ 9223372036854775807) (h : itoa m = itoa n) : m = n := by
  have a := parse_itoa m0 m1
  rw [h, parse_itoa n0 n1] at a
  injection a with a
  exact a.symm
def I64 (n : Int) : Prop := -9223372036854775808 ≤ n ∧ n ≤ 9223372036854775807
/-- How a text is read as a plain decimal. -/
def readDec (l : List UInt8) : Option Int := match parseIntB 64 l with
  | .ok n => if itoa n = l then some n else none
  | _ => none
theorem readDec_itoa {n : Int} (h : I64 n) : readDec (itoa n) = some n := by
  rw [readDec, parse_itoa h.1 h.2]; simp
theorem readDec_none {l : List UInt8} (h : ∀ n, I64 n → itoa n ≠ l) : readDec l = none := by
  unfold readDec
  split
  · rename_i n hn
    split
    · rename_i e
      have hb := parseIntB_bounds hn
      exact absurd e (h n (by have : (2 : Nat) ^ (64 - 1) = 9223372036854775808 := rfl; unfold I64; omega))
    · rfl
  · rfl
end Go.Proofs.YtjgngbmkpiihgaaGreatDoor

/- The model's exact integers: digits in memory; a number's digits and its plain decimal. -/
namespace Go.Proofs.YtjgngbmkpiihgaaGreatDoor
open Go Go.RowKit

/-- The slice v holds these digits. -/
def DigS (w : World) (v : Value) (l : List Nat) : Prop := ∃ a cap, v = .slice a l.length cap ∧ l.length ≤ cap ∧ (a = none → cap = 0) ∧ Ints w a l.length (fun k => ((l.getD k 0 : Nat) : Int))
theorem DigS.mono {w w' : World} {v : Value} {l : List Nat} (h : DigS w v l) (hb : Below w.heap.size w w') : DigS w' v l := by
  obtain ⟨a, cap, e, hc, hn, hi⟩ := h
  exact ⟨a, cap, e, hc, hn, hi.mono hb⟩
theorem digS_of_owns {w : World} {base : Nat} {e : TypeId} {v : Value} {us : List Nat} (h : w.ownsRow base e 1 v us.length (ui us)) : DigS w v us := by
  rcases h.2 with ⟨rfl, h0⟩ | ⟨g, cap, cur, rfl, hb, hg, hc, -, hs, htake⟩
  · exact ⟨none, 0, by rw [h0], by omega, fun _ => rfl, fun k hk => absurd hk (by omega)⟩
  · obtain ⟨a, cap', e1, hI⟩ := ints_of_owns h
    simp only [Value.slice.injEq] at e1
    obtain ⟨rfl, -, rfl⟩ := e1
    exact ⟨_, _, rfl, by omega, (fun h => by cases h), hI⟩
theorem owns_other {w : World} {base : Nat} {e : TypeId} {v : Value} {n : Nat} {xs : List Value} (h : w.ownsRow base e 1 v n xs) {b : Nat} (hb : b < base) (j : Nat) (u : Value) : (w.setCell ⟨b, j, none⟩ u).ownsRow base e 1 v n xs := by
  rcases h.2 with h' | ⟨g, cap, cur, e', hb', hg, hc, hx, hs, htake⟩
  · exact ⟨h.1, .inl h'⟩
  · exact ⟨h.1, .inr ⟨g, cap, cur, e', hb', (heap_setCell_other w ⟨b, j, none⟩ g u (by simp; omega)).trans hg, hc, hx, hs, htake⟩⟩
theorem tmod_abs (y : Int) : (y.tmod 10 < 0 → -(y.tmod 10) = ((y.natAbs % 10 : Nat) : Int)) ∧ (¬ y.tmod 10 < 0 → y.tmod 10 = ((y.natAbs % 10 : Nat) : Int)) := by
  have e : ∀ n : Nat, (n : Int).tmod 10 = ((n % 10 : Nat) : Int) := fun n => (Int.ofNat_tmod n 10).symm
  rcases Int.lt_or_le y 0 with h | h
  · obtain ⟨n, rfl⟩ : ∃ n : Nat, y = -(n : Int) := ⟨y.natAbs, by omega⟩
    rw [Int.neg_tmod, e, Int.natAbs_neg]; simp only [Int.natAbs_natCast]; omega
  · obtain ⟨n, rfl⟩ : ∃ n : Nat, y = (n : Int) := ⟨y.toNat, by omega⟩
    rw [e]; simp only [Int.natAbs_natCast]
    exact ⟨fun h => by omega, fun _ => trivial⟩
theorem tdiv_abs (y : Int) : (y.tdiv 10).natAbs = y.natAbs / 10 := by rw [Int.natAbs_tdiv]; rfl

set_option maxRecDepth 100000 in
set_option maxHeartbeats 2000000 in
theorem l2FromInt_any (x : Int) (w : World) (h0 : -9223372036854775808 ≤ x) (h1 : x ≤ 9223372036854775807) :
    Calls Tryz.prog 116 #[.int .i64 x] w fun e w' => ∃ v, e = .returned (.agg #[.bool (decide (x < 0)), v]) ∧ DigS w' v (digs x.natAbs) ∧ Below w.heap.size w w' := by
  have HX := hide (And.intro h0 h1); clear h0 h1
  go_enter Tryz.func116, Tryz.ntmps116
  go_wp2
  have H0 : Hid (((w.alloc (.cells #[.bool false, .slice none 0 0] 108)).alloc (.cells #[] 3)).ownsRow (w.alloc (.cells #[.bool false, .slice none 0 0] 108)).heap.size 3 1 (.slice (some ⟨(w.alloc (.cells #[.bool false, .slice none 0 0] 108)).heap.size, 0, none⟩) 0 0) 0 []) := owns_none _ _
  have HB : Hid (Below (w.heap.size + 1) (w.alloc (.cells #[.bool false, .slice none 0 0] 108)) ((w.alloc (.cells #[.bool false, .slice none 0 0] 108)).alloc (.cells #[] 3))) := (Below.refl _ _).alloc (by simp) _
  have H1 : Hid (Below w.heap.size w (w.alloc (.cells #[.bool false, .slice none 0 0] 108))) := (Below.refl _ _).alloc (Nat.le_refl _) _
  have HR := hide (Blk.new w 108 #[.bool false, .slice none 0 0])
  have hs : (w.alloc (.cells #[.bool false, .slice none 0 0] 108)).heap.size = w.heap.size + 1 := by simp
  rw [hs] at H0
  generalize (w.alloc (.cells #[.bool false, .slice none 0 0] 108)) = W at *
  go_loopw [0, 3] (fun xv v wr => ∃ (y : Int) (l : List Nat), xv = .int .i64 y ∧ -9223372036854775808 ≤ y ∧ y ≤ 9223372036854775807 ∧ l ++ digs y.natAbs = digs x.natAbs ∧ wr.ownsRow (w.heap.size + 1) 3 1 v l.length (ui l) ∧ Below (w.heap.size + 1) W wr) (fun xv _ _ => (intOf xv).natAbs)
  case atStart => exact ⟨x, [], rfl, (unhide HX).1, (unhide HX).2, rfl, unhide H0, unhide HB⟩
  case round =>
    clear H0 HB
    obtain ⟨y, l, rfl, y0, y1, hl, hown, hb⟩ := hrel
    have hlen : l.length + (digs y.natAbs).length ≤ 19 := by
      have e1 := congrArg List.length hl
      have e2 : (digs x.natAbs).length ≤ 19 := digs_length_le (by have := unhide HX; omega)
      simp at e1; omega
    have HY := hide (And.intro y0 y1); clear y0 y1
    have HL := hide hl; have HO := hide hown; have HB := hide hb; clear hl hown hb
    by_cases hy : y = 0
    · subst hy
      have hl := unhide HL
      simp only [Int.natAbs_zero, digs_zero, List.append_nil] at hl
      subst hl
      have hr := (unhide HR).mono (unhide HB) (Nat.lt_succ_self _)
      have HW := hide ((unhide H1).trans ((unhide HB).mono (by omega)))
      have r0 := hr.cell 0; have r1 := hr.cell 1; have f0 := hr.free 0; have f1 := hr.free 1
      simp only [List.getElem?_cons_succ, List.getElem?_cons_zero] at r0 r1
      clear hr HL HB HR H1
      obtain ⟨a3, c3, rfl, -⟩ := ints_of_owns (unhide HO)
      go_wp2
      refine bodyPost_ret (v := .agg #[.bool (decide (x < 0)), .slice a3 (digs x.natAbs).length c3]) (by simp [results, Tryz.results116, go_sem, *]) rfl ⟨_, rfl, ?_, ?_⟩
      · exact digS_of_owns (owns_other (owns_other (unhide HO) (Nat.lt_succ_self _) _ _) (Nat.lt_succ_self _) _ _)
      · exact ((unhide HW).setCell (by simp) _).setCell (by simp) _
    · obtain ⟨m1, m2⟩ := tmod_abs y
      have hd := tdiv_abs y
      have hg := digs_pos (n := y.natAbs) (by omega)
      have HQ : Hid (wrap64 (y.tdiv 10) = y.tdiv 10) := by have := unhide HY; rw [Hid]; unfold wrap64; omega
      by_cases hm : y.tmod 10 < 0
      · have hw : wrap64 (-(y.tmod 10)) = ((y.natAbs % 10 : Nat) : Int) := by have := m1 hm; unfold wrap64; omega
        have HD := hide hd; have HG := hide hg; have HE := hide hw; clear hd hg hw m1 m2
        obtain ⟨i0, hi, hz0, hz1, hz2⟩ := info_parts infoI
        go_wp2_with (at_builtin; refine wpList_append_own _ rfl _ _ 80 rfl (w.heap.size + 1) 3 i0 _ 1 8 Tryz.underlying80 hi hz0 hz1 hz2 rfl (by omega) u3 _ _ rfl ((unhide HO).alloc _) ⟨wr.heap.size, 0, none⟩ 1 1 [.int .i64 (wrap64 (-(y.tmod 10)))] rfl rfl (cell_one wr 3 _) (by simp [Value.oneCell']) (by unfold maxLen; omega) (by omega) (by have := (unhide HB).size; simp; omega) ?_)
        intro v' w' hown' hgrow' _
        have hB' := ((unhide HB).alloc (by have := (unhide HB).size; omega) (.cells #[.int .i64 (wrap64 (-(y.tmod 10)))] 3)).grown hgrow' (by have := (unhide HB).size; simp; omega) (fun q' e => owns_block (unhide HO) e)
        have HO3 : Hid (w'.ownsRow (w.heap.size + 1) 3 1 v' (l ++ [y.natAbs % 10]).length (ui (l ++ [y.natAbs % 10]))) := by
          rw [Hid]; rw [unhide HE] at hown'; simpa [ui] using hown'
        have HB3 := hide hB'
        clear hown' hgrow' hB' hi hz0 hz1 hz2
        go_wp2_with fail
        go_roundw
        case rel =>
          refine ⟨y.tdiv 10, l ++ [y.natAbs % 10], congrArg _ (unhide HQ), ?_, ?_, ?_, unhide HO3, unhide HB3⟩
          · have := unhide HY; have := unhide HD; omega
          · have := unhide HY; have := unhide HD; omega
          · rw [unhide HD, List.append_assoc, List.singleton_append, ← unhide HG]; exact unhide HL
        case measure => simp only [intOf]; rw [unhide HQ]; have := unhide HD; omega
      · have HD := hide hd; have HG := hide hg; have HE := hide (m2 hm); clear hd hg m1 m2
        obtain ⟨i0, hi, hz0, hz1, hz2⟩ := info_parts infoI
        go_wp2_with (at_builtin; refine wpList_append_own _ rfl _ _ 80 rfl (w.heap.size + 1) 3 i0 _ 1 8 Tryz.underlying80 hi hz0 hz1 hz2 rfl (by omega) u3 _ _ rfl ((unhide HO).alloc _) ⟨wr.heap.size, 0, none⟩ 1 1 [.int .i64 (y.tmod 10)] rfl rfl (cell_one wr 3 _) (by simp [Value.oneCell']) (by unfold maxLen; omega) (by omega) (by have := (unhide HB).size; simp; omega) ?_)
        intro v' w' hown' hgrow' _
        have hB' := ((unhide HB).alloc (by have := (unhide HB).size; omega) (.cells #[.int .i64 (y.tmod 10)] 3)).grown hgrow' (by have := (unhide HB).size; simp; omega) (fun q' e => owns_block (unhide HO) e)
        have HO3 : Hid (w'.ownsRow (w.heap.size + 1) 3 1 v' (l ++ [y.natAbs % 10]).length (ui (l ++ [y.natAbs % 10]))) := by
          rw [Hid]; rw [unhide HE] at hown'; simpa [ui] using hown'
        have HB3 := hide hB'
        clear hown' hgrow' hB' hi hz0 hz1 hz2
        go_wp2_with fail
        go_roundw
        case rel =>
          refine ⟨y.tdiv 10, l ++ [y.natAbs % 10], congrArg _ (unhide HQ), ?_, ?_, ?_, unhide HO3, unhide HB3⟩
          · have := unhide HY; have := unhide HD; omega
          · have := unhide HY; have := unhide HD; omega
          · rw [unhide HD, List.append_assoc, List.singleton_append, ← unhide HG]; exact unhide HL
        case measure => simp only [intOf]; rw [unhide HQ]; have := unhide HD; omega
end Go.Proofs.YtjgngbmkpiihgaaGreatDoor

/- The model's plain decimal. -/
namespace Go.Proofs.YtjgngbmkpiihgaaGreatDoor
open Go Go.RowKit

theorem digit_piece : ∀ d : Fin 10, (⟨#[48, 49, 50, 51, 52, 53, 54, 55, 56, 57]⟩ : ByteArray).extract d.val (d.val + 1) = ⟨#[UInt8.ofNat (48 + d.val)]⟩ := by decide +kernel
theorem run_digit (d : Nat) (hd : d < 10) (w : World) : (Instr.slice 9 (.string ⟨#[48, 49, 50, 51, 52, 53, 54, 55, 56, 57]⟩) (some (.int .i64 (d : Int))) (some (.int .i64 ((d : Int) + 1))) none).run Tryz.prog w = .ok (.string ⟨#[UInt8.ofNat (48 + d)]⟩) w := by
  rw [run_slice_string w 9 _ .i64 .i64 _ _ Tryz.underlying9 (by omega) (by omega) (by show (d : Int) + 1 ≤ 10; omega), show ((d : Int)).toNat = d by omega, show ((d : Int) + 1).toNat = d + 1 by omega, digit_piece ⟨d, hd⟩]
theorem string_ext {a b : ByteArray} (h : a.data.toList = b.data.toList) : a = b := by
  obtain ⟨⟨l⟩⟩ := a; obtain ⟨⟨m⟩⟩ := b
  simp at h; rw [h]
theorem take_snoc {l : List Nat} {k d : Nat} (hk : k < l.length) (hd : l.getD k 0 = d) : l.take (k + 1) = l.take k ++ [d] := by
  rw [List.take_add_one, List.getElem?_eq_getElem hk]
  simp [List.getD, List.getElem?_eq_getElem hk] at hd
  simp [hd]
theorem u8_add (d : Nat) : 48 + UInt8.ofNat d = UInt8.ofNat (48 + d) := by simp [UInt8.ofNat_add]
theorem itoa_zero : Lib.itoa 0 = [48] := by rw [Lib.itoa, if_neg (by omega)]; exact Lib.decDigits_one (i := 0) (by omega)
theorem str_append (l m : List UInt8) : (⟨l.toArray⟩ : ByteArray) ++ ⟨m.toArray⟩ = ⟨(l ++ m).toArray⟩ := by
  apply string_ext; simp [ByteArray.data_append]

set_option maxRecDepth 100000 in
set_option maxHeartbeats 2000000 in
theorem l2Decimal_any (x : Int) (w : World) (h0 : -9223372036854775808 ≤ x) (h1 : x ≤ 9223372036854775807) :
    Calls Tryz.prog 90 #[.int .i64 x] w fun e w' => e = .returned (.string ⟨(Lib.itoa x).toArray⟩) ∧ Below w.heap.size w w' := by
  go_enter Tryz.func90, Tryz.ntmps90
  go_wp2_with fail
  refine (l2FromInt_any x _ h0 h1).mono ?_
  rintro e w1 ⟨v, rfl, hv, hb1⟩
  have hlen : (digs x.natAbs).length ≤ 19 := digs_length_le (by omega)
  have HX := hide (And.intro h0 h1); clear h0 h1
  obtain ⟨a, cap, rfl, hc, -, hI⟩ := hv
  have bW : Below w.heap.size w (w1.alloc (.cells #[.bool (decide (x < 0)), .slice a (digs x.natAbs).length cap] 108)) := hb1.alloc hb1.size _
  have hB := Blk.new w1 108 #[.bool (decide (x < 0)), .slice a (digs x.natAbs).length cap]
  have hI2 := hI.mono ((Below.refl w1.heap.size w1).alloc (Nat.le_refl _) (.cells #[.bool (decide (x < 0)), .slice a (digs x.natAbs).length cap] 108))
  have HW := hide bW; have HB := hide hB; have HI := hide hI2; clear bW hB hI2 hI hb1
  by_cases hx : x = 0
  · subst hx
    simp only [Int.natAbs_zero, digs_zero] at *
    go_wp2
    go_ret
    exact ⟨by rw [itoa_zero]; rfl, unhide HW⟩
  · have hn : (digs x.natAbs).length ≠ 0 := by intro e; have := digs_nil.1 (List.length_eq_zero_iff.1 e); omega
    go_wp2
    go_loopw [4, 5] (fun s i wr => ∃ k : Nat, k ≤ (digs x.natAbs).length ∧ i = .int .i64 k ∧ s = .string ⟨(hdig ((digs x.natAbs).take k).reverse).toArray⟩ ∧ wr = w1.alloc (.cells #[.bool (decide (x < 0)), .slice a (digs x.natAbs).length cap] 108)) (fun _ i _ => (digs x.natAbs).length - (intOf i).toNat)
    case atStart => exact ⟨0, Nat.zero_le _, rfl, by simp [hdig], rfl⟩
    case round =>
      obtain ⟨k, hk, rfl, rfl, rfl⟩ := hrel
      by_cases hlt : k < (digs x.natAbs).length
      · obtain ⟨b1, o1, rfl, -, hc1⟩ := unhide HI k hlt
        obtain ⟨d, hd, hD⟩ : ∃ d, d < 10 ∧ (digs x.natAbs).getD k 0 = d := ⟨_, by rw [digs_at]; exact Nat.mod_lt _ (by decide), rfl⟩
        dsimp only at hc1
        rw [hD] at hc1
        have hs := run_digit d hd
        have HD := hide hD; clear hD
        generalize hS : hdig ((digs x.natAbs).take k).reverse = S at *
        have HS := hide hS
        have hSl : S.length ≤ 19 := by rw [← hS]; simp [hdig]; omega
        clear hS
        go_wp2
        go_roundw
        case rel =>
          refine ⟨k + 1, by omega, by go_num, ?_, trivial⟩
          rw [take_snoc hlt (unhide HD), List.reverse_append, ← unhide HS, u8_add]
          exact congrArg _ (str_append [_] _)
        case measure => simp [intOf]; omega
      · obtain rfl : k = (digs x.natAbs).length := by omega
        have hz : Lib.itoa x = (if x < 0 then [45] else []) ++ hdig (digs x.natAbs).reverse := by
          unfold Lib.itoa hdig
          split
          · rw [decDigits_digs (by omega)]; rfl
          · rw [show x.toNat = x.natAbs by omega, decDigits_digs (by omega)]; rfl
        have HZ := hide hz; clear hz
        rw [List.take_length]
        generalize hS : hdig (digs x.natAbs).reverse = S at *
        have hSl : S.length ≤ 19 := by rw [← hS]; simp [hdig]; omega
        clear hS
        by_cases hneg : x < 0
        · go_wp2
          go_ret
          refine ⟨?_, by have hh := unhide HW; rw [decide_eq_true hneg] at hh; exact hh⟩
          rw [unhide HZ, if_pos hneg]
          exact congrArg (fun z => Ending.returned (.string z)) (str_append [45] S)
        · go_wp2
          go_ret
          refine ⟨?_, by have hh := unhide HW; rw [decide_eq_false (by omega)] at hh; exact hh⟩
          rw [unhide HZ, if_neg (by omega)]
          rfl
end Go.Proofs.YtjgngbmkpiihgaaGreatDoor
