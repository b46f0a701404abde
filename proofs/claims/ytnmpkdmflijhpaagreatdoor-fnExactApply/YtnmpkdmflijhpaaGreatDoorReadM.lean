/- How a plain decimal reads, digit by digit. No model in this text. -/
import Derived.Test.YtnmpkdmflijhpaaGreatDoorNum
namespace Go.Proofs.YtnmpkdmflijhpaaGreatDoor
open Go.Lib

def dgt (c : UInt8) : Nat := c.toNat - 48
def Digits (l : List UInt8) : Prop := ∀ c, c ∈ l → 48 ≤ c.toNat ∧ c.toNat ≤ 57
/-- The digits of a text of digits, the lowest first. -/
def low (l : List UInt8) : List Nat := l.reverse.map dgt
theorem low_dig {l : List UInt8} (h : Digits l) : Dig (low l) := fun d hd => by
  obtain ⟨c, hc, rfl⟩ := List.mem_map.1 hd
  have := h c (List.mem_reverse.1 hc)
  unfold dgt; omega
theorem hval_dval (l : List Nat) : ∀ acc, hval acc l = acc * 10 ^ l.length + dval l.reverse := by
  induction l with
  | nil => intro acc; simp [hval, dval]
  | cons d r ih =>
    intro acc
    rw [hval, ih, List.reverse_cons, dval_snoc, List.length_reverse, List.length_cons, Nat.pow_succ, Nat.add_mul, Nat.mul_assoc, Nat.mul_comm 10, Nat.mul_comm d]
    omega
theorem low_dec (n : Nat) : Digits (decDigits n) ∧ dval (low (decDigits n)) = n ∧ decDigits n ≠ [] := by
  obtain ⟨a, b, c, d⟩ := hd_spec n
  have hb : ∀ x, x ∈ hiDigs n → (UInt8.ofNat (48 + x)).toNat = 48 + x := fun x hx => by
    have := b x hx
    rw [UInt8.toNat_ofNat']; omega
  refine ⟨fun x hx => ?_, ?_, dec_ne n⟩
  · rw [c] at hx
    obtain ⟨y, hy, rfl⟩ := List.mem_map.1 hx
    have := b y hy; rw [hb y hy]; omega
  · have e : low (decDigits n) = (hiDigs n).reverse := by
      rw [c, low, hdig, ← List.map_reverse, List.map_map]
      conv => rhs; rw [← List.map_id (hiDigs n).reverse]
      refine List.map_congr_left fun x hx => ?_
      have := hb x (List.mem_reverse.1 hx)
      simp only [Function.comp, dgt, this, id]; omega
    have := hval_dval (hiDigs n) 0
    rw [a] at this
    rw [e]; omega
/-- What a plain decimal looks like. -/
theorem itoa_looks (n : Int) : (n < 0 → ∃ t, itoa n = 45 :: t ∧ t = decDigits n.natAbs) ∧ (¬ n < 0 → itoa n = decDigits n.natAbs ∧ ∃ c r, itoa n = c :: r ∧ c.toNat ≠ 45) := by
  refine ⟨fun h => ⟨_, by rw [itoa, if_pos h], rfl⟩, fun h => ?_⟩
  have e : itoa n = decDigits n.natAbs := by rw [itoa, if_neg h, show n.toNat = n.natAbs by omega]
  obtain ⟨c, r, e2, h1, h2⟩ := dec_head n.natAbs
  exact ⟨e, c, r, by rw [e, e2], by omega⟩
theorem itoa_len (n : Int) (h : I64 n) : 1 ≤ (itoa n).length ∧ (itoa n).length ≤ 20 := by
  have hd : ∀ m : Nat, m ≤ 9223372036854775808 → 1 ≤ (decDigits m).length ∧ (decDigits m).length ≤ 19 := fun m hm => by
    by_cases h0 : m = 0
    · subst h0; rw [decDigits_one (by omega)]; simp
    · rw [decDigits_digs h0]
      have h1 := digs_length_le (n := m) (k := 19) (by omega)
      have h2 : (digs m).length ≠ 0 := fun e => h0 (digs_nil.1 (List.length_eq_zero_iff.1 e))
      simp; omega
  have := hd n.natAbs (by unfold I64 at h; omega)
  by_cases hn : n < 0
  · obtain ⟨t, e, rfl⟩ := (itoa_looks n).1 hn
    rw [e, List.length_cons]; omega
  · rw [((itoa_looks n).2 hn).1]; omega
/-- A text that begins with a minus, or not, and goes on with digits, and the number that it could show. -/
def couldBe (neg : Bool) (l : List UInt8) : Int := if neg then -(dval (low l) : Int) else dval (low l)
theorem could_neg {t : List UInt8} {n : Int} (h : itoa n = 45 :: t) : Digits t ∧ couldBe true t = n := by
  by_cases hn : n < 0
  · obtain ⟨t', e, rfl⟩ := (itoa_looks n).1 hn
    rw [h] at e
    have : t = decDigits n.natAbs := by simpa using e
    subst this
    obtain ⟨a, b, -⟩ := low_dec n.natAbs
    exact ⟨a, by simp only [couldBe, b, if_true]; omega⟩
  · obtain ⟨-, c, r, e, hc⟩ := (itoa_looks n).2 hn
    rw [h] at e
    simp only [List.cons.injEq] at e
    rw [← e.1] at hc
    exact absurd rfl hc
theorem could_pos {c : UInt8} {t : List UInt8} {n : Int} (hc : c.toNat ≠ 45) (h : itoa n = c :: t) : Digits (c :: t) ∧ couldBe false (c :: t) = n := by
  by_cases hn : n < 0
  · obtain ⟨t', e, -⟩ := (itoa_looks n).1 hn
    rw [h] at e
    simp only [List.cons.injEq] at e
    rw [e.1] at hc
    exact absurd rfl hc
  · obtain ⟨e, -⟩ := (itoa_looks n).2 hn
    rw [← h, e]
    obtain ⟨a, b, -⟩ := low_dec n.natAbs
    refine ⟨a, ?_⟩
    simp only [couldBe, b, Bool.false_eq_true, if_false]; omega
end Go.Proofs.YtnmpkdmflijhpaaGreatDoor
