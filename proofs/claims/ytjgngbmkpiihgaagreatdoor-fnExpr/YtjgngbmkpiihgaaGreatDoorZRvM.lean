import Derived.Test.YtjgngbmkpiihgaaGreatDoorGDi
import Derived.Test.YtjgngbmkpiihgaaGreatDoorZVal
/- What ReadValue answers, as data. -/
namespace Go.Proofs.YtjgngbmkpiihgaaGreatDoor
open Go

def mid (s : ByteArray) : ByteArray := s.extract 1 (s.size - 1)
theorem mid_size (s : ByteArray) : (mid s).size = s.size - 1 - 1 := by simp [mid]
/-- What ReadValue answers. -/
def rv (s : ByteArray) : Int × Int × ByteArray × Bool :=
  if s = ⟨#[98, 108, 97, 110, 107]⟩ then (0, 0, ⟨#[]⟩, true)
  else if s = ⟨#[116, 114, 117, 101]⟩ then (2, 1, ⟨#[]⟩, true)
  else if s = ⟨#[102, 97, 108, 115, 101]⟩ then (2, 0, ⟨#[]⟩, true)
  else match readDec s.data.toList with
    | some n => (1, n, ⟨#[]⟩, true)
    | none => if 2 ≤ s.size ∧ okText (mid s) = true ∧ ⟨#[34]⟩ ++ mid s ++ ⟨#[34]⟩ = s then (3, 0, mid s, true) else (0, 0, ⟨#[]⟩, false)
theorem readDec_some {l : List UInt8} {n : Int} (h : readDec l = some n) : Lib.itoa n = l := by
  unfold readDec at h
  split at h
  · rename_i m _
    split at h
    · rename_i e
      simp only [Option.some.injEq] at h
      rw [← h]; exact e
    · cases h
  · cases h
/-- A plain decimal begins with a digit, or with a minus sign and more. -/
theorem readDec_head {l : List UInt8} {n : Int} (h : readDec l = some n) : ∃ c r, l = c :: r ∧ ((c = 45 ∧ r ≠ []) ∨ (48 ≤ c.toNat ∧ c.toNat ≤ 57)) := by
  have e := readDec_some h
  unfold Lib.itoa at e
  split at e
  · obtain ⟨c, r, h1, -⟩ := dec_head n.natAbs
    exact ⟨45, Lib.decDigits n.natAbs, e.symm, .inl ⟨rfl, by rw [h1]; simp⟩⟩
  · obtain ⟨c, r, h1, h2, h3⟩ := dec_head n.toNat
    exact ⟨c, r, by rw [← e, h1], .inr ⟨h2, h3⟩⟩
/-- What reads as a value begins as one. -/
theorem rv_head {s : ByteArray} (h : (rv s).2.2.2 = true) : s = ⟨#[98, 108, 97, 110, 107]⟩ ∨ s = ⟨#[116, 114, 117, 101]⟩ ∨ s = ⟨#[102, 97, 108, 115, 101]⟩ ∨ ∃ c r, s.data.toList = c :: r ∧ ((c = 45 ∧ r ≠ []) ∨ (48 ≤ c.toNat ∧ c.toNat ≤ 57) ∨ c = 34) := by
  unfold rv at h
  split at h
  · rename_i e; exact .inl e
  · split at h
    · rename_i e; exact .inr (.inl e)
    · split at h
      · rename_i e; exact .inr (.inr (.inl e))
      · split at h
        · rename_i n hn
          obtain ⟨c, r, h1, h2⟩ := readDec_head hn
          exact .inr (.inr (.inr ⟨c, r, h1, by rcases h2 with h | h <;> simp [h]⟩))
        · split at h
          · rename_i hq
            refine .inr (.inr (.inr ⟨34, (mid s).data.toList ++ [34], ?_, .inr (.inr rfl)⟩))
            have := congrArg (fun x : ByteArray => x.data.toList) hq.2.2
            simp only [ByteArray.data_append, Array.toList_append] at this
            rw [← this]; rfl
          · cases h
end Go.Proofs.YtjgngbmkpiihgaaGreatDoor
