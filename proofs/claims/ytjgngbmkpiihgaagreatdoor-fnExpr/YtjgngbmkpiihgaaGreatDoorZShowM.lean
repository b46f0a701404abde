import Derived.Test.YtjgngbmkpiihgaaGreatDoorZVal
import Derived.Lib.ItoaLen
/- How a value is shown, and how long that is. No walk in this text. -/
namespace Go.Proofs.YtjgngbmkpiihgaaGreatDoor
open Go

def showB (kind num : Int) (s : ByteArray) : ByteArray :=
  if okVal kind num s then
    if kind = 0 then ⟨#[98, 108, 97, 110, 107]⟩
    else if kind = 1 then ⟨(Lib.itoa num).toArray⟩
    else if kind = 2 then (if num = 1 then ⟨#[116, 114, 117, 101]⟩ else ⟨#[102, 97, 108, 115, 101]⟩)
    else if kind = 3 then ⟨#[34]⟩ ++ s ++ ⟨#[34]⟩
    else ⟨#[33]⟩ ++ ⟨(Lib.itoa num).toArray⟩
  else ⟨#[63]⟩
theorem bsz (a : Array UInt8) : (⟨a⟩ : ByteArray).size = a.size := rfl
theorem itoa_size (x : Int) (h0 : -9223372036854775808 ≤ x) (h1 : x ≤ 9223372036854775807) : (⟨(Lib.itoa x).toArray⟩ : ByteArray).size ≤ 21 := Lib.itoa_length_le x h0 h1
theorem itoa_ne (x : Int) : 1 ≤ (Lib.itoa x).length := by
  unfold Lib.itoa
  split
  · simp
  · rw [Lib.decDigits_length]; exact Lib.nDigits_pos _
theorem showB_size (kind num : Int) (s : ByteArray) (h : okVal kind num s = true) (h0 : 0 ≤ num) (h1 : num ≤ 9223372036854775807) : 1 + s.size ≤ (showB kind num s).size ∧ (showB kind num s).size ≤ 1050 := by
  have hi := itoa_size num (by omega) h1
  have hj : 1 ≤ (⟨(Lib.itoa num).toArray⟩ : ByteArray).size := itoa_ne num
  unfold showB
  rw [if_pos h]
  unfold okVal at h
  by_cases k0 : kind = 0
  · rw [if_pos k0] at h ⊢; simp only [Bool.and_eq_true, decide_eq_true_eq] at h; simp only [bsz, List.size_toArray, List.length_cons, List.length_nil]; omega
  rw [if_neg k0] at h ⊢
  by_cases k1 : kind = 1
  · rw [if_pos k1] at h ⊢; simp only [decide_eq_true_eq] at h; omega
  rw [if_neg k1] at h ⊢
  by_cases k2 : kind = 2
  · rw [if_pos k2] at h ⊢; simp only [Bool.and_eq_true, decide_eq_true_eq] at h; split <;> simp only [bsz, List.size_toArray, List.length_cons, List.length_nil] <;> omega
  rw [if_neg k2] at h ⊢
  by_cases k3 : kind = 3
  · rw [if_pos k3] at h ⊢; simp only [Bool.and_eq_true, decide_eq_true_eq] at h
    have := (okText_iff.1 h.2).1
    simp only [ByteArray.size_append, bsz, List.size_toArray, List.length_cons, List.length_nil]; omega
  rw [if_neg k3] at h ⊢
  by_cases k4 : kind = 4
  · rw [if_pos k4] at h; simp only [Bool.and_eq_true, decide_eq_true_eq] at h
    simp only [ByteArray.size_append]
    have e : (⟨#[33]⟩ : ByteArray).size = 1 := rfl
    omega
  · rw [if_neg k4] at h; cases h
end Go.Proofs.YtjgngbmkpiihgaaGreatDoor
