/- Values as triples, and the answers that an operator can give. -/
import Derived.Test.YtnmpkdmflijhpaaGreatDoorVx
import Derived.Test.YtnmpkdmflijhpaaGreatDoorBig11
import Derived.Test.YtnmpkdmflijhpaaGreatDoorTextL
import Derived.Test.YtnmpkdmflijhpaaGreatDoorDec
namespace Go.Proofs.YtnmpkdmflijhpaaGreatDoor
open Go Go.RowKit

def chkX (z : Int) : Vx := if fitsB z then intX z else errX 2
theorem vv_chk (z : Int) : chkV z = vv (chkX z) := by unfold chkV chkX; split <;> rfl
/-- What the operators of two whole numbers give. -/
def int2 (op x y : Int) : Vx :=
  if op = 4 then chkX (x * y) else if op = 7 then chkX (x + y) else if op = 8 then chkX (x + -y)
  else if op = 5 then (if y = 0 then errX 3 else chkX (x.tdiv y))
  else if op = 6 then (if y = 0 then errX 3 else chkX (x + -(y * x.tdiv y)))
  else if op = 10 then boolX (decide (x = y)) else if op = 11 then boolX (decide (x ≠ y))
  else if op = 12 then boolX (decide (x < y)) else if op = 13 then boolX (decide (x ≤ y))
  else if op = 17 then intX (if x < y then x else y) else if op = 18 then intX (if x < y then y else x) else errX 1

/-- What is held while two exact integers are worked with. -/
structure OI (w W : World) (b o X5 X6 : Nat) (p q : Vx) (v5 v6 : Value) (s5 u5 s6 u6 : Value) : Prop where
  R : Blk W w.heap.size 25 [.int .i64 0, .int .i64 0, .string ⟨#[]⟩]
  B5 : Blk W X5 46 [s5, u5]
  B6 : Blk W X6 46 [s6, u6]
  e5 : v5 = .agg #[s5, u5]
  e6 : v6 = .agg #[s6, u6]
  V5 : BigV W v5 p.n
  V6 : BigV W v6 q.n
  c0 : Cel W b o p
  c1 : Cel W b (o + 3) q
  low : Below w.heap.size w W
theorem OI.mono {w W W' : World} {b o X5 X6 : Nat} {p q : Vx} {v5 v6 s5 u5 s6 u6 : Value} (h : OI w W b o X5 X6 p q v5 v6 s5 u5 s6 u6) (k : Below W.heap.size W W') : OI w W' b o X5 X6 p q v5 v6 s5 u5 s6 u6 :=
  ⟨h.R.mono k h.R.lt, h.B5.mono k h.B5.lt, h.B6.mono k h.B6.lt, h.e5, h.e6, h.V5.mono k, h.V6.mono k, h.c0.mono k, h.c1.mono k, h.low.trans (k.mono h.low.size)⟩
theorem vx_out {w W : World} (low : Below w.heap.size w W) (x y z : Value) : Below w.heap.size w (((W.setCell ⟨w.heap.size, 0, none⟩ x).setCell ⟨w.heap.size, 1, none⟩ y).setCell ⟨w.heap.size, 2, none⟩ z) :=
  ((low.setCell (by simp) _).setCell (by simp) _).setCell (by simp) _
end Go.Proofs.YtnmpkdmflijhpaaGreatDoor
