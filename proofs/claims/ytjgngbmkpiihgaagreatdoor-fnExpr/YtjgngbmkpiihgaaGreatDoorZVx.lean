import Derived.Test.YtjgngbmkpiihgaaGreatDoorGOw
/- Values as triples, how they lie in memory; how many arguments an operator takes, by the model. -/
namespace Go.Proofs.YtjgngbmkpiihgaaGreatDoor
open Go Go.RowKit

structure Vx where
  k : Int
  n : Int
  s : ByteArray
def vv (u : Vx) : Value := .agg #[.int .i64 u.k, .int .i64 u.n, .string u.s]
def errX (c : Int) : Vx := ⟨4, c, ⟨#[]⟩⟩
def intX (n : Int) : Vx := ⟨1, n, ⟨#[]⟩⟩
def boolX (b : Bool) : Vx := ⟨2, if b then 1 else 0, ⟨#[]⟩⟩
def textX (s : ByteArray) : Vx := ⟨3, 0, s⟩
def blankX : Vx := ⟨0, 0, ⟨#[]⟩⟩
/-- The cells of a value. -/
def Cel (w : World) (b o : Nat) (u : Vx) : Prop := b < w.heap.size ∧ w.cell? ⟨b, o, none⟩ = some (.int .i64 u.k) ∧ w.cell? ⟨b, o + 1, none⟩ = some (.int .i64 u.n) ∧ w.cell? ⟨b, o + 2, none⟩ = some (.string u.s)
theorem Cel.mono {w w' : World} {b o : Nat} {u : Vx} (h : Cel w b o u) (hb : Below w.heap.size w w') : Cel w' b o u :=
  ⟨Nat.lt_of_lt_of_le h.1 hb.size, (hb.cell h.1).trans h.2.1, (hb.cell h.1).trans h.2.2.1, (hb.cell h.1).trans h.2.2.2⟩

def eqX (p q : Vx) : Bool := if p.k = q.k then if p.n = q.n then decide (p.s.toList = q.s.toList) else false else false
/-- A slice of values. -/
def Vals (w : World) (a : Option Addr) (m : Nat) (f : Nat → Vx) : Prop := ∀ k, k < m → ∃ b o, a = some ⟨b, o, none⟩ ∧ Cel w b (o + k * 3) (f k)
theorem Vals.mono {w w' : World} {a : Option Addr} {m : Nat} {f : Nat → Vx} (h : Vals w a m f) (hb : Below w.heap.size w w') : Vals w' a m f := fun k hk => by
  obtain ⟨b, o, e, hc⟩ := h k hk
  exact ⟨b, o, e, hc.mono hb⟩

def ar (op : Int) : Int := if op = 2 ∨ op = 3 ∨ op = 21 ∨ op = 22 ∨ op = 23 ∨ op = 24 ∨ op = 25 then 1 else if op = 16 then 3 else if 4 ≤ op ∧ op ≤ 20 then 2 else 0
theorem ar_cases (op : Int) : (op = 2 ∨ op = 3 ∨ op = 21 ∨ op = 22 ∨ op = 23 ∨ op = 24 ∨ op = 25 ∨ op = 16) ∨ ((¬ op = 2 ∧ ¬ op = 3 ∧ ¬ op = 21 ∧ ¬ op = 22) ∧ (¬ op = 23 ∧ ¬ op = 24 ∧ ¬ op = 25 ∧ ¬ op = 16) ∧ (op < 4 ∨ (4 ≤ op ∧ op ≤ 20) ∨ (4 ≤ op ∧ 20 < op))) := by omega

set_option maxRecDepth 100000 in
set_option maxHeartbeats 4000000 in
theorem l2Arity_any (op : Int) (w : World) : Calls Tryz.prog 43 #[.int .i64 op] w fun e w' => e = .returned (.int .i64 (ar op)) ∧ w' = w := by
  rcases ar_cases op with (rfl | rfl | rfl | rfl | rfl | rfl | rfl | rfl) | ⟨⟨n1, n2, n3, n4⟩, ⟨n5, n6, n7, n8⟩, h⟩
  case inr =>
    have e0 : ¬ (op = 2 ∨ op = 3 ∨ op = 21 ∨ op = 22 ∨ op = 23 ∨ op = 24 ∨ op = 25) := by omega
    have m8 := n8
    replace n1 : (op == 2) = false := beq_eq_false_iff_ne.2 n1
    replace n2 : (op == 3) = false := beq_eq_false_iff_ne.2 n2
    replace n3 : (op == 21) = false := beq_eq_false_iff_ne.2 n3
    replace n4 : (op == 22) = false := beq_eq_false_iff_ne.2 n4
    replace n5 : (op == 23) = false := beq_eq_false_iff_ne.2 n5
    replace n6 : (op == 24) = false := beq_eq_false_iff_ne.2 n6
    replace n7 : (op == 25) = false := beq_eq_false_iff_ne.2 n7
    replace n8 : (op == 16) = false := beq_eq_false_iff_ne.2 n8
    rcases h with h | ⟨h, h'⟩ | ⟨h, h'⟩
    · have e : ar op = 0 := by rw [ar, if_neg e0, if_neg m8, if_neg (by omega)]
      rw [e]
      clear e e0 m8
      go_enter Tryz.func43, Tryz.ntmps43
      go_wp2
      go_ret
      exact ⟨rfl, rfl⟩
    · have e : ar op = 2 := by rw [ar, if_neg e0, if_neg m8, if_pos ⟨h, h'⟩]
      rw [e]
      clear e e0 m8
      go_enter Tryz.func43, Tryz.ntmps43
      go_wp2
      go_ret
      exact ⟨rfl, rfl⟩
    · have e : ar op = 0 := by rw [ar, if_neg e0, if_neg m8, if_neg (by omega)]
      rw [e]
      clear e e0 m8
      go_enter Tryz.func43, Tryz.ntmps43
      go_wp2
      go_ret
      exact ⟨rfl, rfl⟩
  all_goals (
    go_enter Tryz.func43, Tryz.ntmps43
    go_wp2
    go_ret
    exact ⟨rfl, rfl⟩)

end Go.Proofs.YtjgngbmkpiihgaaGreatDoor
