import Derived.Test.YtjgngbmkpiihgaaGreatDoorGPc
import Derived.Test.YtjgngbmkpiihgaaGreatDoorZLawRV
/- What an expression's text comes to, as data. -/
namespace Go.Proofs.YtjgngbmkpiihgaaGreatDoor
open Go Go.RowKit

theorem rv_fit (t : ByteArray) (hz : t.size ≤ 1048576) : (rv t).2.2.1.size ≤ 9223372036854775807 ∧ -9223372036854775808 ≤ (rv t).2.1 ∧ (rv t).2.1 ≤ 9223372036854775807 := by
  have hb := rd_bounds t.data.toList
  unfold rv
  split
  · refine ⟨?_, ?_, ?_⟩ <;> decide
  · split
    · refine ⟨?_, ?_, ?_⟩ <;> decide
    · split
      · refine ⟨?_, ?_, ?_⟩ <;> decide
      · split
        · rename_i n hn
          unfold rd at hb
          rw [hn] at hb
          exact ⟨Nat.zero_le _, hb.1, hb.2⟩
        · split
          · refine ⟨?_, show -9223372036854775808 ≤ (0 : Int) by omega, show (0 : Int) ≤ 9223372036854775807 by omega⟩
            show (mid t).size ≤ _
            rw [mid_size]; omega
          · refine ⟨?_, ?_, ?_⟩ <;> decide
theorem k_fit {t : ByteArray} {n : Nx} (hz : t.size ≤ 1048576) (h : tkX.k t = some n) : Fit n := by
  change tkK t = some n at h
  unfold tkK at h
  split at h
  · cases h
    exact ⟨Nat.zero_le _, by show t.size ≤ _; omega, show -9223372036854775808 ≤ (0 : Int) by omega, show (0 : Int) ≤ 9223372036854775807 by omega⟩
  · split at h
    · cases h
      obtain ⟨h1, h2, h3⟩ := rv_fit t hz
      exact ⟨h1, Nat.zero_le _, h2, h3⟩
    · cases h
theorem op_fit (o : Nat) : Fit (opNd o) := ⟨by show (0 : Nat) ≤ _; omega, by show (0 : Nat) ≤ _; omega, by show _ ≤ (0 : Int); omega, by show (0 : Int) ≤ _; omega⟩
theorem Gr.fit {l n : Nat} {ts : List ByteArray} {e : List Nx} (h : Gr tkX l n ts e) (hz : ∀ t, t ∈ ts → t.size ≤ 1048576) : ∀ x, x ∈ e → Fit x := by
  induction h with
  | up _ _ _ ih => exact ih hz
  | bin _ _ _ _ _ _ _ iha ihb =>
    intro x hx
    simp only [List.mem_append, List.mem_singleton] at hx
    rcases hx with (hx | hx) | rfl
    · exact iha (fun t ht => hz t (by simp [ht])) x hx
    · exact ihb (fun t ht => hz t (by simp [ht])) x hx
    · exact op_fit _
  | cmp _ _ _ _ iha ihb =>
    intro x hx
    simp only [List.mem_append, List.mem_singleton] at hx
    rcases hx with (hx | hx) | rfl
    · exact iha (fun t ht => hz t (by simp [ht])) x hx
    · exact ihb (fun t ht => hz t (by simp [ht])) x hx
    · exact op_fit _
  | pre _ _ ih =>
    intro x hx
    simp only [List.mem_append, List.mem_singleton] at hx
    rcases hx with hx | rfl
    · exact ih (fun t ht => hz t (by simp [ht])) x hx
    · exact op_fit _
  | one h1 =>
    intro x hx
    simp only [List.mem_singleton] at hx
    subst hx
    exact k_fit (hz _ (by simp)) h1
  | par _ _ _ ih => exact ih (fun t ht => hz t (by simp [ht]))
  | call _ _ _ _ ih =>
    intro x hx
    simp only [List.mem_append, List.mem_singleton] at hx
    rcases hx with hx | rfl
    · exact ih (fun t ht => hz t (by simp [ht])) x hx
    · exact op_fit _
  | arg _ ih => exact ih hz
  | args _ _ _ iha ihb =>
    intro x hx
    simp only [List.mem_append] at hx
    rcases hx with hx | hx
    · exact iha (fun t ht => hz t (by simp [ht])) x hx
    · exact ihb (fun t ht => hz t (by simp [ht])) x hx
theorem Gr.fitL {l n : Nat} {ts : List ByteArray} {e : List Nx} (h : Gr tkX l n ts e) (hz : ∀ t, t ∈ ts → t.size ≤ 1048576) : ∀ k, k < e.length → Fit (nf e k) := fun k hk => by
  rw [nf_get e k hk]
  exact h.fit hz _ (List.getElem_mem hk)
/-- These tokens are this phrase, its brackets not too deep. -/
def ExG (ts : List ByteArray) (e : List Nx) : Prop := Gr tkX 1 0 ts e ∧ blc tkX 64 0 ts = some 0
/-- What tokens come to. -/
def TksA (ts : List ByteArray) (code : Int) (e : List Nx) : Prop := ((∀ e', ¬ ExG ts e') ∧ code = 3 ∧ e = []) ∨ ∃ e', ExG ts e' ∧ ((vxL e' = false ∧ code = 4 ∧ e = []) ∨ (vxL e' = true ∧ code = 0 ∧ e = e'))
/-- What a text comes to. -/
def PrsA (s : ByteArray) (code : Int) (e : List Nx) : Prop := (4000 < s.size ∧ code = 1 ∧ e = []) ∨ (s.size ≤ 4000 ∧ ((∃ i, lxF s s.size 0 [] = .inl i ∧ code = 2 ∧ e = []) ∨ ∃ ts, lxF s s.size 0 [] = .inr ts ∧ TksA ts code e))
theorem TksA.uniq {ts : List ByteArray} {c c' : Int} {e e' : List Nx} (h : TksA ts c e) (h' : TksA ts c' e') : c = c' ∧ e = e' := by
  rcases h with ⟨h1, rfl, rfl⟩ | ⟨x, hx, h1⟩
  · rcases h' with ⟨-, rfl, rfl⟩ | ⟨y, hy, -⟩
    · exact ⟨rfl, rfl⟩
    · exact absurd hy (h1 y)
  · rcases h' with ⟨h2, -, -⟩ | ⟨y, hy, h2⟩
    · exact absurd hx (h2 x)
    · have := hx.1.uniq tkX_ok hy.1
      subst this
      rcases h1 with ⟨a1, rfl, rfl⟩ | ⟨a1, rfl, rfl⟩
      · rcases h2 with ⟨a2, rfl, rfl⟩ | ⟨a2, rfl, rfl⟩
        · exact ⟨rfl, rfl⟩
        · rw [a1] at a2; cases a2
      · rcases h2 with ⟨a2, rfl, rfl⟩ | ⟨a2, rfl, rfl⟩
        · rw [a1] at a2; cases a2
        · exact ⟨rfl, rfl⟩
theorem PrsA.uniq {s : ByteArray} {c c' : Int} {e e' : List Nx} (h : PrsA s c e) (h' : PrsA s c' e') : c = c' ∧ e = e' := by
  rcases h with ⟨h1, rfl, rfl⟩ | ⟨h1, h2⟩
  · rcases h' with ⟨-, rfl, rfl⟩ | ⟨h2, -⟩
    · exact ⟨rfl, rfl⟩
    · omega
  · rcases h' with ⟨h3, -, -⟩ | ⟨-, h4⟩
    · omega
    · rcases h2 with ⟨i, a1, rfl, rfl⟩ | ⟨ts, a1, a2⟩
      · rcases h4 with ⟨j, b1, rfl, rfl⟩ | ⟨ts', b1, b2⟩
        · exact ⟨rfl, rfl⟩
        · rw [a1] at b1; cases b1
      · rcases h4 with ⟨j, b1, rfl, rfl⟩ | ⟨ts', b1, b2⟩
        · rw [a1] at b1; cases b1
        · rw [a1] at b1
          cases b1
          exact a2.uniq b2
end Go.Proofs.YtjgngbmkpiihgaaGreatDoor
