/- The model's ValidLattice: it answers by the clauses of a valid lattice. -/
import Derived.Test.YtnmpkdmflijhpaaDoorSpec1
namespace Go.Proofs.YtnmpkdmflijhpaaDoor
open Go Go.RowKit

/-- What a row of the first table must be. -/
def rowP (f : Nat → Bool) (n bt tp a : Nat) : Prop :=
  f (a * n + a) = true ∧ f (bt * n + a) = true ∧ f (a * n + tp) = true ∧
    ∀ b, b < n → ¬ (a ≠ b ∧ f (a * n + b) = true ∧ f (b * n + a) = true) ∧ ∀ c, c < n → f (a * n + b) = true → f (b * n + c) = true → f (a * n + c) = true
/-- What an entry of the other two must be. -/
def entP (f : Nat → Bool) (g h : Nat → Int) (n a b : Nat) : Prop :=
  ∃ j m : Nat, g (a * n + b) = j ∧ h (a * n + b) = m ∧ j < n ∧ m < n ∧ isJoinP f n a b j ∧ isMeetP f n a b m
structure ValidP (N : Int) (n1 n2 n3 : Nat) (f : Nat → Bool) (g h : Nat → Int) (bot top : Int) (n bt tp : Nat) : Prop where
  hN : N = n
  h1 : 1 ≤ n
  h32 : n ≤ 32
  l1 : n1 = n * n
  l2 : n2 = n * n
  l3 : n3 = n * n
  hb : bot = bt
  ht : top = tp
  bb : bt < n
  tt : tp < n
  rows : ∀ a, a < n → rowP f n bt tp a
  ents : ∀ a, a < n → ∀ b, b < n → entP f g h n a b
def Valid (N : Int) (n1 n2 n3 : Nat) (f : Nat → Bool) (g h : Nat → Int) (bot top : Int) : Prop := ∃ n bt tp, ValidP N n1 n2 n3 f g h bot top n bt tp

theorem bool_false {V : Bool} {p : Prop} (hV : V = true ↔ p) (h : ¬ p) : V = false := by
  cases V
  · rfl
  · exact absurd (hV.1 rfl) h

set_option maxRecDepth 100000 in
set_option maxHeartbeats 2000000 in
theorem specValid_N (N bot top : Int) (a1 a2 a3 : Option Addr) (n1 n2 n3 c1 c2 c3 : Nat) (w : World) (hN : N < 1 ∨ 32 < N) :
    Calls Tryd.prog 19 #[.agg #[.int .i64 N, .slice a1 n1 c1, .slice a2 n2 c2, .slice a3 n3 c3, .int .i64 bot, .int .i64 top]] w fun e w' =>
      e = .returned (.bool false) ∧ Below w.heap.size w w' := by
  rcases hN with hN | hN
  · go_enter Tryd.func19, Tryd.ntmps19
    go_wp2
    go_ret
    exact ⟨rfl, (Below.refl _ _).alloc (Nat.le_refl _) _⟩
  · have hN' : ¬ N < 1 := by omega
    go_enter Tryd.func19, Tryd.ntmps19
    go_wp2
    go_ret
    exact ⟨rfl, (Below.refl _ _).alloc (Nat.le_refl _) _⟩

set_option maxRecDepth 100000 in
set_option maxHeartbeats 2000000 in
theorem specValid_len (n : Nat) (bot top : Int) (a1 a2 a3 : Option Addr) (n1 n2 n3 c1 c2 c3 : Nat) (w : World) (h1 : 1 ≤ n) (h32 : n ≤ 32) (hl : n1 ≠ n * n ∨ n2 ≠ n * n ∨ n3 ≠ n * n) :
    Calls Tryd.prog 19 #[.agg #[.int .i64 n, .slice a1 n1 c1, .slice a2 n2 c2, .slice a3 n3 c3, .int .i64 bot, .int .i64 top]] w fun e w' =>
      e = .returned (.bool false) ∧ Below w.heap.size w w' := by
  have q1 : (n : Int) * n ≤ 1024 := by rw [← Int.natCast_mul]; have := sq_le h32; omega
  have q0 : 0 ≤ (n : Int) * n := by rw [← Int.natCast_mul]; omega
  have e : ∀ k : Nat, (((k : Int) != (n : Int) * n) = true ↔ k ≠ n * n) := fun k => by rw [← Int.natCast_mul]; simp; omega
  have hcs : (((n1 : Int) != (n : Int) * n) = true) ∨ (((n1 : Int) != (n : Int) * n) = false ∧ ((n2 : Int) != (n : Int) * n) = true) ∨ (((n1 : Int) != (n : Int) * n) = false ∧ ((n2 : Int) != (n : Int) * n) = false ∧ ((n3 : Int) != (n : Int) * n) = true) := by
    cases k1 : ((n1 : Int) != (n : Int) * n)
    · cases k2 : ((n2 : Int) != (n : Int) * n)
      · cases k3 : ((n3 : Int) != (n : Int) * n)
        · exfalso
          have x1 := fun h => Bool.false_ne_true (k1.symm.trans ((e n1).2 h)); have x2 := fun h => Bool.false_ne_true (k2.symm.trans ((e n2).2 h)); have x3 := fun h => Bool.false_ne_true (k3.symm.trans ((e n3).2 h))
          exact hl.elim x1 (fun h => h.elim x2 x3)
        · exact .inr (.inr ⟨rfl, rfl, rfl⟩)
      · exact .inr (.inl ⟨rfl, rfl⟩)
    · exact .inl rfl
  clear e hl
  rcases hcs with k1 | ⟨k1, k2⟩ | ⟨k1, k2, k3⟩
  all_goals
    go_enter Tryd.func19, Tryd.ntmps19
    go_wp2
    go_ret
    exact ⟨rfl, (Below.refl _ _).alloc (Nat.le_refl _) _⟩

set_option maxRecDepth 100000 in
set_option maxHeartbeats 2000000 in
theorem specValid_ends (n : Nat) (bot top : Int) (a1 a2 a3 : Option Addr) (n1 n2 n3 c1 c2 c3 : Nat) (w : World) (h1 : 1 ≤ n) (h32 : n ≤ 32) (l1 : n1 = n * n) (l2 : n2 = n * n) (l3 : n3 = n * n)
    (hl : bot < 0 ∨ (n : Int) ≤ bot ∨ top < 0 ∨ (n : Int) ≤ top) :
    Calls Tryd.prog 19 #[.agg #[.int .i64 n, .slice a1 n1 c1, .slice a2 n2 c2, .slice a3 n3 c3, .int .i64 bot, .int .i64 top]] w fun e w' =>
      e = .returned (.bool false) ∧ Below w.heap.size w w' := by
  have q1 : (n : Int) * n ≤ 1024 := by rw [← Int.natCast_mul]; have := sq_le h32; omega
  have q0 : 0 ≤ (n : Int) * n := by rw [← Int.natCast_mul]; omega
  have e : ∀ k : Nat, k = n * n → (((k : Int) != (n : Int) * n) = false) := fun k hk => by rw [← Int.natCast_mul]; simp; omega
  have k1 := e _ l1; have k2 := e _ l2; have k3 := e _ l3
  clear e l1 l2 l3
  have hcs : bot < 0 ∨ (0 ≤ bot ∧ (n : Int) ≤ bot) ∨ (0 ≤ bot ∧ bot < n ∧ top < 0) ∨ (0 ≤ bot ∧ bot < n ∧ 0 ≤ top ∧ (n : Int) ≤ top) := by omega
  clear hl
  rcases hcs with j1 | ⟨j1, j2⟩ | ⟨j1, j2, j3⟩ | ⟨j1, j2, j3, j4⟩
  all_goals
    go_enter Tryd.func19, Tryd.ntmps19
    go_wp2
    go_ret
    exact ⟨rfl, (Below.refl _ _).alloc (Nat.le_refl _) _⟩
end Go.Proofs.YtnmpkdmflijhpaaDoor
