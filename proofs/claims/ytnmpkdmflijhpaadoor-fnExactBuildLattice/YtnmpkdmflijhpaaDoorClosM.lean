/- The closure reaches just what is reached: N rounds are enough. No model in this text. -/
import Derived.Test.YtnmpkdmflijhpaaDoorClos
import Derived.Test.YtnmpkdmflijhpaaDoorIter2
namespace Go.Proofs.YtnmpkdmflijhpaaDoor

section
variable {f g : Nat → Nat} {m n : Nat}
theorem upd_mono {T : Nat → Nat → Bool} {lo hi a b : Nat} (h : T a b = true) : upd T lo hi a b = true := by simp [upd, h]
theorem pass_mono {T : Nat → Nat → Bool} {a b i : Nat} : ∀ {j}, i ≤ j → pass T f g i a b = true → pass T f g j a b = true := by
  intro j
  induction j with
  | zero => intro hi h; obtain rfl : i = 0 := by omega
            exact h
  | succ j ih =>
    intro hi h
    by_cases e : i = j + 1
    · subst e; exact h
    · exact upd_mono (ih (by omega) h)
theorem pass_covers {T : Nat → Nat → Bool} {a k j : Nat} (hk : k < j) (h : T a (f k) = true) : pass T f g j a (g k) = true := by
  refine pass_mono (i := k + 1) (by omega) ?_
  have h1 : pass T f g k a (f k) = true := pass_mono (i := 0) (by omega) h
  rw [pass]; simp [upd, h1]
def ClosedRow (f g : Nat → Nat) (m : Nat) (T : Nat → Nat → Bool) (a : Nat) : Prop := ∀ k, k < m → T a (f k) = true → T a (g k) = true
theorem pass_closed {T : Nat → Nat → Bool} {a : Nat} (h : ClosedRow f g m T a) : ∀ j, j ≤ m → ∀ b, pass T f g j a b = T a b := by
  intro j
  induction j with
  | zero => intro _ b; rfl
  | succ j ih =>
    intro hj b
    rw [pass, upd, ih (by omega), ih (by omega)]
    by_cases e : b = g j
    · subst e
      cases h1 : T a (f j)
      · simp
      · rw [h j (by omega) h1]; rfl
    · rw [show decide (b = g j) = false from decide_eq_false e]; simp
def cnt (n : Nat) (T : Nat → Nat → Bool) (a : Nat) : Nat := ((List.range n).filter (T a)).length
theorem filter_le {p q : Nat → Bool} (l : List Nat) (h : ∀ x, p x = true → q x = true) : (l.filter p).length ≤ (l.filter q).length := by
  induction l with
  | nil => simp
  | cons x r ih =>
    simp only [List.filter_cons]
    cases hp : p x
    · cases hq : q x
      · simpa using ih
      · simp; omega
    · rw [h x hp]; simpa using ih
theorem filter_lt {p q : Nat → Bool} (l : List Nat) (h : ∀ x, p x = true → q x = true) {y : Nat} (hy : y ∈ l) (h1 : p y = false) (h2 : q y = true) : (l.filter p).length < (l.filter q).length := by
  induction l with
  | nil => cases hy
  | cons x r ih =>
    simp only [List.filter_cons]
    rcases List.mem_cons.1 hy with rfl | hy
    · rw [h1, h2]
      have := filter_le r h
      simp; omega
    · have := ih hy
      cases hp : p x
      · cases hq : q x
        · simpa using this
        · simp; omega
      · rw [h x hp]; simpa using this
theorem rounds_mono {T : Nat → Nat → Bool} {a b : Nat} : ∀ r, T a b = true → rounds T f g m r a b = true
  | 0, h => h
  | r + 1, h => pass_mono (i := 0) (by omega) (rounds_mono r h)
theorem rounds_count (hg : ∀ k, k < m → g k < n) {a : Nat} (ha : a < n) : ∀ r, ClosedRow f g m (rounds diag f g m r) a ∨ r + 1 ≤ cnt n (rounds diag f g m r) a
  | 0 => by
    right
    have : (List.filter (fun _ => false) (List.range n)).length < cnt n (rounds diag f g m 0) a := filter_lt (y := a) _ (fun x h => by cases h) (by simpa using ha) rfl (by simp [rounds, diag])
    omega
  | r + 1 => by
    rcases rounds_count hg ha r with h | h
    · left
      intro k hk h1
      rw [rounds, pass_closed h m (Nat.le_refl _)] at h1 ⊢
      exact h k hk h1
    · by_cases hc : ClosedRow f g m (rounds diag f g m r) a
      · left
        intro k hk h1
        rw [rounds, pass_closed hc m (Nat.le_refl _)] at h1 ⊢
        exact hc k hk h1
      · right
        have : ∃ k, k < m ∧ rounds diag f g m r a (f k) = true ∧ ¬ rounds diag f g m r a (g k) = true := by
          apply Classical.byContradiction
          intro hn
          exact hc fun k hk h1 => Classical.byContradiction fun h2 => hn ⟨k, hk, h1, h2⟩
        obtain ⟨k, hk, h1, h2⟩ := this
        have : cnt n (rounds diag f g m r) a < cnt n (rounds diag f g m (r + 1)) a :=
          filter_lt (y := g k) _ (fun x hx => pass_mono (i := 0) (by omega) hx) (by simpa using hg k hk) (by simpa using h2) (pass_covers hk h1)
        omega
theorem rounds_closed (hg : ∀ k, k < m → g k < n) {a : Nat} (ha : a < n) : ClosedRow f g m (rounds diag f g m n) a := by
  rcases rounds_count (f := f) (m := m) hg ha n with h | h
  · exact h
  · have : cnt n (rounds diag f g m n) a ≤ n := by
      have := List.length_filter_le (rounds diag f g m n a) (List.range n)
      simpa [cnt] using this
    omega
/-- The bits of u are the pairs. -/
def PairBits (u : Nat → Nat) (f g : Nat → Nat) (m : Nat) : Prop := ∀ x, x < 32 → ∀ y, (u x).testBit y = true ↔ ∃ k, k < m ∧ f k = x ∧ g k = y
theorem pass_reach {u : Nat → Nat} (hu : PairBits u f g m) (hf : ∀ k, k < m → f k < 32) {T : Nat → Nat → Bool} {a : Nat} (h : ∀ b, T a b = true → Reach u a b) : ∀ j, j ≤ m → ∀ b, pass T f g j a b = true → Reach u a b
  | 0, _, b, hb => h b hb
  | j + 1, hj, b, hb => by
    rw [pass, upd] at hb
    simp only [Bool.or_eq_true, Bool.and_eq_true, decide_eq_true_eq] at hb
    rcases hb with hb | ⟨rfl, hb⟩
    · exact pass_reach hu hf h j (by omega) b hb
    · exact (pass_reach hu hf h j (by omega) _ hb).step (hf j (by omega)) ((hu _ (hf j (by omega)) _).2 ⟨j, by omega, rfl, rfl⟩)
theorem rounds_reach {u : Nat → Nat} (hu : PairBits u f g m) (hf : ∀ k, k < m → f k < 32) {a : Nat} : ∀ r b, rounds diag f g m r a b = true → Reach u a b
  | 0, b, h => by
    simp only [rounds, diag, decide_eq_true_eq] at h
    subst h; exact Reach.refl _ _
  | r + 1, b, h => pass_reach hu hf (fun b hb => rounds_reach hu hf r b hb) m (Nat.le_refl _) b h
theorem closure_iff {u : Nat → Nat} (hn : n ≤ 32) (hu : PairBits u f g m) (hf : ∀ k, k < m → f k < n) (hg : ∀ k, k < m → g k < n) {a b : Nat} (ha : a < n) : rounds diag f g m n a b = true ↔ Reach u a b := by
  refine ⟨rounds_reach hu (fun k hk => by have := hf k hk; omega) n b, fun h => ?_⟩
  refine (h (fun x => x < n ∧ rounds diag f g m n a x = true) ⟨ha, rounds_mono n (by simp [diag])⟩ ?_).2
  rintro x y ⟨hx, hT⟩ hx32 hy
  obtain ⟨k, hk, rfl, rfl⟩ := (hu x hx32 y).1 hy
  exact ⟨hg k hk, rounds_closed hg ha k hk hT⟩
end
end Go.Proofs.YtnmpkdmflijhpaaDoor
