/- The model's BuildLattice. -/
import Derived.Test.YtnmpkdmflijhpaaDoorClosM
import Derived.Test.YtnmpkdmflijhpaaDoorJM
import Derived.Test.YtnmpkdmflijhpaaDoorLatOf
import Derived.Test.YtnmpkdmflijhpaaDoorOwn
import Derived.Maps.AppendAt
namespace Go.Proofs.YtnmpkdmflijhpaaDoor
open Go Go.RowKit

def JF (F : Nat → Bool) (n i : Nat) : Int := firstN (isJoin F n (i / n) (i % n)) n
def MF (F : Nat → Bool) (n i : Nat) : Int := firstN (isMeet F n (i / n) (i % n)) n
def TwoW (F : Nat → Bool) (n : Nat) : Prop := ∃ a b, a < n ∧ b < n ∧ a ≠ b ∧ F (a * n + b) = true ∧ F (b * n + a) = true
/-- The last label of which p holds, or 0. -/
def lastN (p : Nat → Bool) : Nat → Int
  | 0 => 0
  | k + 1 => if p k then (k : Int) else lastN p k
def belowAll (F : Nat → Bool) (n m c : Nat) : Bool := (List.range m).all fun d => F (c * n + d)
def aboveAll (F : Nat → Bool) (n m c : Nat) : Bool := (List.range m).all fun d => F (d * n + c)
theorem belowAll_succ (F : Nat → Bool) (n m c : Nat) : belowAll F n (m + 1) c = (belowAll F n m c && F (c * n + m)) := by simp [belowAll, List.range_succ]
theorem aboveAll_succ (F : Nat → Bool) (n m c : Nat) : aboveAll F n (m + 1) c = (aboveAll F n m c && F (m * n + c)) := by simp [aboveAll, List.range_succ]
/-- What the model's BuildLattice comes to, at a valid order. -/
def SpecOut (n : Nat) (F : Nat → Bool) (e : Ending) (w' : World) : Prop :=
  (TwoW F n ∧ e = .returned (.tuple #[zeroL, .int .i64 2])) ∨
  (¬ TwoW F n ∧ (∃ i, i < n * n ∧ JF F n i < 0) ∧ e = .returned (.tuple #[zeroL, .int .i64 3])) ∨
  (¬ TwoW F n ∧ (∀ i, i < n * n → 0 ≤ JF F n i) ∧ (∃ i, i < n * n ∧ MF F n i < 0) ∧ e = .returned (.tuple #[zeroL, .int .i64 4])) ∨
  (¬ TwoW F n ∧ (∀ i, i < n * n → 0 ≤ JF F n i) ∧ (∀ i, i < n * n → 0 ≤ MF F n i) ∧ ∃ a1 a2 a3 c1 c2 c3, e = .returned (.tuple #[.agg #[.int .i64 n, .slice a1 (n * n) c1, .slice a2 (n * n) c2, .slice a3 (n * n) c3, .int .i64 (lastN (belowAll F n n) n), .int .i64 (lastN (aboveAll F n n) n)], .int .i64 0]) ∧
    Bools w' a1 (n * n) F ∧ Ints w' a2 (n * n) (JF F n) ∧ Ints w' a3 (n * n) (MF F n))
theorem six' {w : World} {b : Nat} {t : TypeId} {v0 v1 v2 v3 v4 v5 : Value} (h : Blk w b t [v0, v1, v2, v3, v4, v5]) :
    (w.cell? ⟨b, 0, none⟩ = some v0 ∧ w.cell? ⟨b, 1, none⟩ = some v1 ∧ w.cell? ⟨b, 2, none⟩ = some v2 ∧ w.cell? ⟨b, 3, none⟩ = some v3 ∧ w.cell? ⟨b, 4, none⟩ = some v4 ∧ w.cell? ⟨b, 5, none⟩ = some v5) ∧ (w.frozen? ⟨b, 0, none⟩ = false ∧ w.frozen? ⟨b, 1, none⟩ = false ∧ w.frozen? ⟨b, 2, none⟩ = false ∧ w.frozen? ⟨b, 3, none⟩ = false ∧ w.frozen? ⟨b, 4, none⟩ = false ∧ w.frozen? ⟨b, 5, none⟩ = false) :=
  ⟨⟨h.cell 0, h.cell 1, h.cell 2, h.cell 3, h.cell 4, h.cell 5⟩, ⟨h.free 0, h.free 1, h.free 2, h.free 3, h.free 4, h.free 5⟩⟩
theorem below_set6 {B : Nat} {w w' : World} (h : Below B w w') {R : Nat} (hR : B ≤ R) (v0 v1 v2 v3 v4 v5 : Value) : Below B w ((((((w'.setCell ⟨R, 0, none⟩ v0).setCell ⟨R, 1, none⟩ v1).setCell ⟨R, 2, none⟩ v2).setCell ⟨R, 3, none⟩ v3).setCell ⟨R, 4, none⟩ v4).setCell ⟨R, 5, none⟩ v5) :=
  (((((h.setCell (p := ⟨R, 0, none⟩) hR v0).setCell (p := ⟨R, 1, none⟩) hR v1).setCell (p := ⟨R, 2, none⟩) hR v2).setCell (p := ⟨R, 3, none⟩) hR v3).setCell (p := ⟨R, 4, none⟩) hR v4).setCell (p := ⟨R, 5, none⟩) hR v5

set_option maxRecDepth 100000 in
set_option maxHeartbeats 2000000 in
theorem specBuild_bad (N : Int) (a : Option Addr) (m c : Nat) (w : World) (hc : ∀ w', Below w.heap.size w w' → Calls Tryd.prog 35 #[.agg #[.int .i64 N, .slice a m c]] w' fun e w'' => e = .returned (.bool false) ∧ Below w'.heap.size w' w'') :
    Calls Tryd.prog 10 #[.agg #[.int .i64 N, .slice a m c]] w fun e w' => e = .returned (.tuple #[zeroL, .int .i64 1]) ∧ Below w.heap.size w w' := by
  have HR := hide (by simpa using Blk.new (w.alloc (.cells #[.int .i64 N, .slice a m c] 34)) 29 #[.int .i64 0, .slice none 0 0, .slice none 0 0, .slice none 0 0, .int .i64 0, .int .i64 0] : Blk ((w.alloc (.cells #[.int .i64 N, .slice a m c] 34)).alloc (.cells #[.int .i64 0, .slice none 0 0, .slice none 0 0, .slice none 0 0, .int .i64 0, .int .i64 0] 29)) (w.heap.size + 1) 29 [.int .i64 0, .slice none 0 0, .slice none 0 0, .slice none 0 0, .int .i64 0, .int .i64 0])
  have H0 := hide ((Blk.new w 34 #[.int .i64 N, .slice a m c]).alloc (.cells #[.int .i64 0, .slice none 0 0, .slice none 0 0, .slice none 0 0, .int .i64 0, .int .i64 0] 29))
  have HW : Hid (Below w.heap.size w ((w.alloc (.cells #[.int .i64 N, .slice a m c] 34)).alloc (.cells #[.int .i64 0, .slice none 0 0, .slice none 0 0, .slice none 0 0, .int .i64 0, .int .i64 0] 29))) := ((Below.refl _ w).alloc (Nat.le_refl _) _).alloc (by simp) _
  go_enter Tryd.func10, Tryd.ntmps10
  go_wp2_with fail
  refine (hc _ (unhide HW)).mono ?_
  rintro e w1 ⟨rfl, hb⟩
  replace HR := hide ((unhide HR).mono hb (unhide HR).lt); replace H0 := hide ((unhide H0).mono hb (unhide H0).lt); replace HW := hide ((unhide HW).trans (hb.mono (unhide HW).size))
  clear hb
  obtain ⟨⟨r0, r1, r2, r3, r4, r5⟩, ⟨f0, f1, f2, f3, f4, f5⟩⟩ := six' (unhide HR)
  have HZ := hide (below_set6 (unhide HW) (Nat.le_succ _) (.int .i64 0) (.slice none 0 0) (.slice none 0 0) (.slice none 0 0) (.int .i64 0) (.int .i64 0))
  go_wp2
  refine bodyPost_ret (v := .tuple #[zeroL, .int .i64 1]) (by simp [results, Tryd.results10, go_sem, zeroL, *]) rfl ⟨?_, unhide HZ⟩
  rfl

end Go.Proofs.YtnmpkdmflijhpaaDoor
