/- A plain decimal is read back as the number that it shows. No model in this text. -/
import Derived.Test.YtnmpkdmflijhpaaGreatDoorDig
import Derived.Lib.ItoaLen
import Derived.Lib.ParseIntBTie
namespace Go.Proofs.YtnmpkdmflijhpaaGreatDoor
open Go.Lib

def hval (acc : Nat) : List Nat → Nat
  | [] => acc
  | d :: r => hval (acc * 10 + d) r
theorem hval_ge (l : List Nat) : ∀ acc, acc ≤ hval acc l := by
  induction l with
  | nil => intro acc; exact Nat.le_refl _
  | cons d r ih => intro acc; have := ih (acc * 10 + d); rw [hval]; omega
theorem hval_append (l m : List Nat) : ∀ acc, hval acc (l ++ m) = hval (hval acc l) m := by
  induction l with
  | nil => intro acc; rfl
  | cons d r ih => intro acc; exact ih _
def hdig (l : List Nat) : List UInt8 := l.map fun d => UInt8.ofNat (48 + d)
theorem parse_high (l : List Nat) : ∀ (acc : Nat), (∀ d, d ∈ l → d < 10) → hval acc l < 18446744073709551616 → parseUintM 18446744073709551615 acc (hdig l) = .ok (hval acc l) := by
  induction l with
  | nil => intro acc _ _; rfl
  | cons d r ih =>
    intro acc hd hv
    have h0 : d < 10 := hd d (List.mem_cons_self ..)
    have hg := hval_ge r (acc * 10 + d)
    rw [hval] at hv ⊢
    have e : (UInt8.ofNat (48 + d)).toNat = 48 + d := by rw [UInt8.toNat_ofNat']; omega
    show parseUintM _ acc (UInt8.ofNat (48 + d) :: hdig r) = _
    rw [parseUintM, e, if_pos (by omega), if_neg (by omega), if_neg (by omega), show 48 + d - 48 = d by omega]
    exact ih _ (fun e he => hd e (List.mem_cons_of_mem _ he)) hv
/-- The digits of a number, the highest first; one for 0. -/
def hiDigs (n : Nat) : List Nat := if _h : n < 10 then [n] else hiDigs (n / 10) ++ [n % 10]
  termination_by n
  decreasing_by omega
theorem hd_spec (n : Nat) : hval 0 (hiDigs n) = n ∧ (∀ d, d ∈ hiDigs n → d < 10) ∧ decDigits n = hdig (hiDigs n) ∧ hiDigs n ≠ [] := by
  induction n using Nat.strongRecOn with
  | _ n ih =>
    by_cases h : n < 10
    · rw [hiDigs, dif_pos h, decDigits, dif_pos h]
      refine ⟨by simp [hval], fun d hd => ?_, rfl, by simp⟩
      rw [List.mem_singleton.1 hd]; exact h
    · obtain ⟨a, b, c, -⟩ := ih (n / 10) (by omega)
      rw [hiDigs, dif_neg h, decDigits, dif_neg h]
      refine ⟨?_, fun d hd => ?_, ?_, by simp⟩
      · rw [hval_append, a]; simp only [hval]; omega
      · rcases List.mem_append.1 hd with hd | hd
        · exact b d hd
        · rw [List.mem_singleton.1 hd]; omega
      · rw [c]; simp [hdig]
theorem dec_ne (n : Nat) : decDigits n ≠ [] := by
  obtain ⟨-, -, c, d⟩ := hd_spec n
  rw [c]; simpa [hdig] using d
theorem dec_head (n : Nat) : ∃ c r, decDigits n = c :: r ∧ 48 ≤ c.toNat ∧ c.toNat ≤ 57 := by
  obtain ⟨-, b, c, d⟩ := hd_spec n
  match e : hiDigs n with
  | [] => exact absurd e d
  | x :: r =>
    rw [c, e]
    have hx := b x (by rw [e]; exact List.mem_cons_self ..)
    refine ⟨UInt8.ofNat (48 + x), hdig r, rfl, ?_⟩
    have : (UInt8.ofNat (48 + x)).toNat = 48 + x := by rw [UInt8.toNat_ofNat']; omega
    omega
theorem parse_dec {n : Nat} (h : n < 18446744073709551616) : parseUintB 64 (decDigits n) = .ok n := by
  obtain ⟨a, b, c, -⟩ := hd_spec n
  have := parse_high (hiDigs n) 0 b (by rw [a]; exact h)
  rw [parseUintB, if_neg (dec_ne n), show 2 ^ 64 - 1 = 18446744073709551615 from rfl, c, this, a]
/-- What shows a number is read as that number. -/
theorem parse_itoa {n : Int} (h0 : -9223372036854775808 ≤ n) (h1 : n ≤ 9223372036854775807) : parseIntB 64 (itoa n) = .ok n := by
  have hp : 2 ^ (64 - 1) = 9223372036854775808 := rfl
  unfold itoa
  split
  · have := parse_dec (n := n.natAbs) (by omega)
    simp only [parseIntB, hp]
    rw [if_pos (Or.inr (by decide)), this]
    have e : (45 : UInt8).toNat = 45 := rfl
    simp only [e, not_true_eq_false, false_and, if_false, true_and]
    rw [if_neg (by omega), if_pos trivial, show -(n.natAbs : Int) = n by omega]
  · have := parse_dec (n := n.toNat) (by omega)
    obtain ⟨c, r, e, h48, h57⟩ := dec_head n.toNat
    rw [e] at this ⊢
    simp only [parseIntB, hp]
    rw [if_neg (by omega), this]
    have : ¬ c.toNat = 45 := by omega
    simp only [this, not_false_eq_true, false_and, if_false, true_and]
    rw [if_neg (by omega), show (n.toNat : Int) = n by omega]
theorem itoa_inj {m n : Int} (m0 : -9223372036854775808 ≤ m) (m1 : m ≤ 9223372036854775807) (n0 : -9223372036854775808 ≤ n) (n1 : n ≤ 9223372036854775807) (h : itoa m = itoa n) : m = n := by
  have a := parse_itoa m0 m1
  rw [h, parse_itoa n0 n1] at a
  injection a with a
  exact a.symm
def I64 (n : Int) : Prop := -9223372036854775808 ≤ n ∧ n ≤ 9223372036854775807
/-- How a text is read as a plain decimal. -/
def readDec (l : List UInt8) : Option Int := match parseIntB 64 l with
  | .ok n => if itoa n = l then some n else none
  | _ => none
theorem readDec_itoa {n : Int} (h : I64 n) : readDec (itoa n) = some n := by
  rw [readDec, parse_itoa h.1 h.2]; simp
theorem readDec_none {l : List UInt8} (h : ∀ n, I64 n → itoa n ≠ l) : readDec l = none := by
  unfold readDec
  split
  · rename_i n hn
    split
    · rename_i e
      have hb := parseIntB_bounds hn
      exact absurd e (h n (by have : (2 : Nat) ^ (64 - 1) = 9223372036854775808 := rfl; unfold I64; omega))
    · rfl
  · rfl
end Go.Proofs.YtnmpkdmflijhpaaGreatDoor
