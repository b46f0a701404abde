/- Nodes in memory; which nodes are good ones: the model and the program. -/
import Derived.Test.YtonmaniehocbbaaGreatDoorNam2
import Derived.Test.YtonmaniehocbbaaGreatDoorOpn
import Derived.Test.YtonmaniehocbbaaGreatDoorMk
namespace Go.Proofs.YtonmaniehocbbaaGreatDoor
open Go Go.RowKit

def nv (n : Nx) : Value := .agg #[.int .i64 n.op, .int .i64 n.v.k, .int .i64 n.v.n, .string n.v.s, .string n.nm]
/-- The cells of a node. -/
def NCel (w : World) (b o : Nat) (n : Nx) : Prop := b < w.heap.size ∧ w.cell? ⟨b, o, none⟩ = some (.int .i64 n.op) ∧ w.cell? ⟨b, o + 1, none⟩ = some (.int .i64 n.v.k) ∧ w.cell? ⟨b, o + 2, none⟩ = some (.int .i64 n.v.n) ∧ w.cell? ⟨b, o + 3, none⟩ = some (.string n.v.s) ∧ w.cell? ⟨b, o + 4, none⟩ = some (.string n.nm)
theorem NCel.mono {w w' : World} {b o : Nat} {n : Nx} (h : NCel w b o n) (hb : Below w.heap.size w w') : NCel w' b o n :=
  ⟨Nat.lt_of_lt_of_le h.1 hb.size, (hb.cell h.1).trans h.2.1, (hb.cell h.1).trans h.2.2.1, (hb.cell h.1).trans h.2.2.2.1, (hb.cell h.1).trans h.2.2.2.2.1, (hb.cell h.1).trans h.2.2.2.2.2⟩
/-- A slice of nodes. -/
def Nods (w : World) (a : Option Addr) (m : Nat) (e : Nat → Nx) : Prop := ∀ k, k < m → ∃ b o, a = some ⟨b, o, none⟩ ∧ NCel w b (o + k * 5) (e k)
theorem Nods.mono {w w' : World} {a : Option Addr} {m : Nat} {e : Nat → Nx} (h : Nods w a m e) (hb : Below w.heap.size w w') : Nods w' a m e := fun k hk => by
  obtain ⟨b, o, e, hc⟩ := h k hk
  exact ⟨b, o, e, hc.mono hb⟩
/-- What every node of a list can be reckoned with. -/
def Fit (n : Nx) : Prop := n.v.s.size ≤ 9223372036854775807 ∧ n.nm.size ≤ 9223372036854775807 ∧ -9223372036854775808 ≤ n.v.n ∧ n.v.n ≤ 9223372036854775807

theorem five {w : World} {b : Nat} {t : TypeId} {v0 v1 v2 v3 v4 : Value} (h : Blk w b t [v0, v1, v2, v3, v4]) :
    w.cell? ⟨b, 0, none⟩ = some v0 ∧ w.cell? ⟨b, 1, none⟩ = some v1 ∧ w.cell? ⟨b, 2, none⟩ = some v2 ∧ w.cell? ⟨b, 3, none⟩ = some v3 ∧ w.cell? ⟨b, 4, none⟩ = some v4 := ⟨h.cell 0, h.cell 1, h.cell 2, h.cell 3, h.cell 4⟩

theorem ar_nn (op : Int) : 0 ≤ ar op := by
  unfold ar
  split
  · omega
  · split
    · omega
    · split <;> omega
theorem arn_cast (n : Nx) : ((arn n : Nat) : Int) = ar n.op := by have := ar_nn n.op; unfold arn; omega
theorem ops2 (op : Int) : op = 0 ∨ op = 1 ∨ (¬ op = 0 ∧ ¬ op = 1) := by omega

set_option maxRecDepth 100000 in
set_option maxHeartbeats 1000000 in
theorem l3NodeArity_any (n : Nx) (w : World) : Calls Tryz.prog 105 #[nv n] w fun e w' => e = .returned (.int .i64 (arn n)) ∧ Below w.heap.size w w' := by
  rw [arn_cast]
  unfold nv
  have HB := hide ((Below.refl w.heap.size w).alloc (Nat.le_refl _) (.cells #[.int .i64 n.op, .int .i64 n.v.k, .int .i64 n.v.n, .string n.v.s, .string n.nm] 91))
  go_enter Tryz.func105, Tryz.ntmps105
  go_wp2_with fail
  refine (l2Arity_any _ _).mono ?_
  rintro e w' ⟨rfl, hw⟩
  replace hw := hw.symm; subst hw
  go_wp2_with fail
  go_ret
  exact ⟨rfl, unhide HB⟩
set_option maxRecDepth 100000 in
set_option maxHeartbeats 1000000 in
theorem l3ZeroValue_any (u : Vx) (w : World) : Calls Tryz.prog 104 #[vv u] w fun e w' => e = .returned (.bool (decide (u.k = 0 ∧ u.n = 0 ∧ u.s.size = 0))) ∧ Below w.heap.size w w' := by
  unfold vv
  have HB := hide ((Below.refl w.heap.size w).alloc (Nat.le_refl _) (.cells #[.int .i64 u.k, .int .i64 u.n, .string u.s] 89))
  have e0 := size0 u.s
  by_cases h1 : u.k = 0
  · by_cases h2 : u.n = 0
    · by_cases h3 : u.s.size = 0
      · rw [decide_eq_true h3] at e0
        rw [decide_eq_true ⟨h1, h2, h3⟩]
        have h1' : (u.k == 0) = true := by simp [h1]
        have h2' : (u.n == 0) = true := by simp [h2]
        clear h1 h2 h3
        go_enter Tryz.func104, Tryz.ntmps104
        go_wp2_with fail
        go_ret
        exact ⟨rfl, unhide HB⟩
      · rw [decide_eq_false h3] at e0
        rw [decide_eq_false (fun h => h3 h.2.2)]
        have h1' : (u.k == 0) = true := by simp [h1]
        have h2' : (u.n == 0) = true := by simp [h2]
        clear h1 h2 h3
        go_enter Tryz.func104, Tryz.ntmps104
        go_wp2_with fail
        go_ret
        exact ⟨rfl, unhide HB⟩
    · rw [decide_eq_false (fun h => h2 h.2.1)]
      have h1' : (u.k == 0) = true := by simp [h1]
      have h2' : (u.n == 0) = false := beq_eq_false_iff_ne.2 h2
      clear h1 h2 e0
      go_enter Tryz.func104, Tryz.ntmps104
      go_wp2_with fail
      go_ret
      exact ⟨rfl, unhide HB⟩
  · rw [decide_eq_false (fun h => h1 h.1)]
    have h1' : (u.k == 0) = false := beq_eq_false_iff_ne.2 h1
    clear h1 e0
    go_enter Tryz.func104, Tryz.ntmps104
    go_wp2_with fail
    go_ret
    exact ⟨rfl, unhide HB⟩
end Go.Proofs.YtonmaniehocbbaaGreatDoor
