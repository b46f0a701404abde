import Derived.Test.YtnmpkdmflijhpaaGreatDoorM1
import Derived.Test.YtnmpkdmflijhpaaGreatDoorHand
import Derived.Test.YtnmpkdmflijhpaaGreatDoorBnd
import Derived.Test.YtnmpkdmflijhpaaGreatDoorShelf
import Derived.Test.YtnmpkdmflijhpaaGreatDoorVal
import Derived.Lib.ItoaLen
import Derived.Test.YtnmpkdmflijhpaaGreatDoorDec
import Derived.Lib.AppendIntMem
import Derived.Test.YtnmpkdmflijhpaaGreatDoorReadI
import Derived.Test.YtnmpkdmflijhpaaGreatDoorM2
/- The program's comparisons for order. -/
namespace Go.Proofs.YtnmpkdmflijhpaaGreatDoor
open Go Go.RowKit

def cmpX (p q : Vx) : Int := if p.k = 3 then Lib.compareBytes p.s.data.toList q.s.data.toList else Lib.compareInt p.n q.n

set_option maxRecDepth 100000 in
theorem isNaN_any (x : Int) (w : World) : Calls Tryz.prog 115 #[.int .i64 x] w fun e w' => e = .returned (.bool false) ∧ w' = w := by
  go_enter Tryz.func115, Tryz.ntmps115
  go_wp2
  go_ret
  exact ⟨by simp, rfl⟩
set_option maxRecDepth 100000 in
set_option maxHeartbeats 1000000 in
theorem compare_any (x y : Int) (w : World) : Calls Tryz.prog 108 #[.int .i64 x, .int .i64 y] w fun e w' => e = .returned (.int .i64 (Lib.compareInt x y)) ∧ w' = w := by
  go_enter Tryz.func108, Tryz.ntmps108
  go_wp2_with (go_at_call 115; refine (isNaN_any _ _).mono ?_; rintro e w' ⟨rfl, hw⟩; rw [hw])
  all_goals (go_ret; refine ⟨?_, rfl⟩; unfold Lib.compareInt; (repeat' split) <;> first | rfl | (exfalso; omega))
set_option maxRecDepth 100000 in
set_option maxHeartbeats 4000000 in
theorem compareValues_any (p q : Vx) (w : World) : Calls Tryz.prog 102 #[.agg #[.int .i64 p.k, .int .i64 p.n, .string p.s], .agg #[.int .i64 q.k, .int .i64 q.n, .string q.s]] w fun e w' => e = .returned (.int .i64 (cmpX p q)) ∧ Below w.heap.size w w' := by
  have HB : ∀ o1 o2, Hid (Below w.heap.size w ((w.alloc o1).alloc o2)) := fun o1 o2 => hide (((Below.refl _ w).alloc (Nat.le_refl _) o1).alloc (by simp) o2)
  by_cases h : p.k = 3
  · have HE : Hid (cmpX p q = Lib.compareBytes p.s.data.toList q.s.data.toList) := hide (by rw [cmpX, if_pos h])
    have h' : (p.k == 3) = true := beq_iff_eq.2 h
    clear h
    go_enter Tryz.func102, Tryz.ntmps102
    go_wp2_with fail
    refine (Tryz.strings_Compare p.s q.s _).mono ?_
    rintro e w1 ⟨rfl, hw⟩
    rw [hw]
    clear hw w1
    obtain ⟨z, hz⟩ : ∃ z, Lib.compareBytes p.s.data.toList q.s.data.toList = z := ⟨_, rfl⟩
    rw [hz] at HE ⊢
    clear hz
    go_wp2
    go_ret
    exact ⟨by rw [unhide HE]; rfl, unhide (HB _ _)⟩
  · have HE : Hid (cmpX p q = Lib.compareInt p.n q.n) := hide (by rw [cmpX, if_neg h])
    have h' : (p.k == 3) = false := beq_eq_false_iff_ne.2 h
    clear h
    go_enter Tryz.func102, Tryz.ntmps102
    go_wp2_with fail
    refine (compare_any p.n q.n _).mono ?_
    rintro e w1 ⟨rfl, hw⟩
    rw [hw]
    clear hw w1
    obtain ⟨z, hz⟩ : ∃ z, Lib.compareInt p.n q.n = z := ⟨_, rfl⟩
    rw [hz] at HE ⊢
    clear hz
    go_wp2
    go_ret
    exact ⟨by rw [unhide HE]; rfl, unhide (HB _ _)⟩

set_option maxRecDepth 100000 in
set_option maxHeartbeats 8000000 in
theorem isLess_any (b o m c : Nat) (p q : Vx) (w : World) (hm : 2 ≤ m) (h0 : Cel w b o p) (h1 : Cel w b (o + 3) q) : Calls Tryz.prog 75 #[.slice (some ⟨b, o, none⟩) m c] w fun e w' => e = .returned (vv (boolX (decide (cmpX p q < 0)))) ∧ Below w.heap.size w w' := by
  have hm' : (0 : Int) < m := by omega
  have hm0 : ¬ m = 0 := by omega
  obtain ⟨u, hu⟩ : ∃ u, boolX (decide (cmpX p q < 0)) = u := ⟨_, rfl⟩
  rw [hu]
  have HU := hide hu
  clear hu
  have hm2 : (1 : Int) < m := by omega
  obtain ⟨W0, hW0⟩ : ∃ W0, w.alloc (.cells #[.int .i64 0, .int .i64 0, .string ⟨#[]⟩] 25) = W0 := ⟨_, rfl⟩
  have hb0 : Below w.heap.size w W0 := by rw [← hW0]; exact (Below.refl _ _).alloc (Nat.le_refl _) _
  have bR : Blk W0 w.heap.size 25 [.int .i64 0, .int .i64 0, .string ⟨#[]⟩] := by rw [← hW0]; exact Blk.new w 25 #[.int .i64 0, .int .i64 0, .string ⟨#[]⟩]
  have HC0 := hide (h0.mono hb0)
  obtain ⟨-, a0, a1, a2⟩ := h0.mono hb0
  have HC1 := hide (h1.mono hb0)
  obtain ⟨-, b0, b1, b2⟩ := h1.mono hb0
  have HR2 := hide bR; have HW2 := hide hb0
  have hblt : b < w.heap.size := h0.1
  clear hb0 bR h0 h1
  go_enter Tryz.func75, Tryz.ntmps75
  go_wp2_with fail
  try rw [hW0]
  clear hW0
  refine wp_region_held_drew (S := fun w' => w'.cell? ⟨b, o, none⟩ = some (.int .i64 p.k) ∧ w'.cell? ⟨b, o + 1, none⟩ = some (.int .i64 p.n) ∧ w'.cell? ⟨b, o + 2, none⟩ = some (.string p.s) ∧ w'.cell? ⟨b, o + 3, none⟩ = some (.int .i64 q.k) ∧ w'.cell? ⟨b, o + 3 + 1, none⟩ = some (.int .i64 q.n) ∧ w'.cell? ⟨b, o + 3 + 2, none⟩ = some (.string q.s)) (by kernel_rfl) ⟨a0, a1, a2, b0, b1, b2⟩ (fun hHeld => ?_)
  clear a0 a1 a2 b0 b1 b2
  refine takeY (i := 0) (v := .slice (some ⟨b, o, none⟩) m c) 3 rfl rfl (by kernel_rfl) (by kernel_rfl) (by kernel_rfl) (fun _ _ _ _ h => h) (by rfl) (fun w hS => by obtain ⟨q0, q1, q2, q3, q4, q5⟩ := hS; simp [execOp, go_sem, *]) hHeld ?_
  simp only [List.setIfInBounds_toArray, List.set_cons_zero, List.set_cons_succ]
  refine takeY (i := 1) (v := .pointer (some ⟨b, o, none⟩)) 4 rfl rfl (by kernel_rfl) (by kernel_rfl) (by kernel_rfl) (fun _ _ _ _ h => h) (by rfl) (fun w hS => by obtain ⟨q0, q1, q2, q3, q4, q5⟩ := hS; simp [execOp, go_sem, *]) hHeld ?_
  simp only [List.setIfInBounds_toArray, List.set_cons_zero, List.set_cons_succ]
  refine takeY (i := 2) (v := .agg #[.int .i64 p.k, .int .i64 p.n, .string p.s]) 5 rfl rfl (by kernel_rfl) (by kernel_rfl) (by kernel_rfl) (fun _ _ _ _ h => h) (by rfl) (fun w hS => by obtain ⟨q0, q1, q2, q3, q4, q5⟩ := hS; simp [execOp, go_sem, *]) hHeld ?_
  simp only [List.setIfInBounds_toArray, List.set_cons_zero, List.set_cons_succ]
  refine takeY (i := 3) (v := .slice (some ⟨b, o, none⟩) m c) 6 rfl rfl (by kernel_rfl) (by kernel_rfl) (by kernel_rfl) (fun _ _ _ _ h => h) (by rfl) (fun w hS => by obtain ⟨q0, q1, q2, q3, q4, q5⟩ := hS; simp [execOp, go_sem, *]) hHeld ?_
  simp only [List.setIfInBounds_toArray, List.set_cons_zero, List.set_cons_succ]
  refine takeY (i := 4) (v := .pointer (some ⟨b, o + 3, none⟩)) 7 rfl rfl (by kernel_rfl) (by kernel_rfl) (by kernel_rfl) (fun _ _ _ _ h => h) (by rfl) (fun w hS => by obtain ⟨q0, q1, q2, q3, q4, q5⟩ := hS; simp [execOp, go_sem, *]) hHeld ?_
  simp only [List.setIfInBounds_toArray, List.set_cons_zero, List.set_cons_succ]
  refine takeY (i := 5) (v := .agg #[.int .i64 q.k, .int .i64 q.n, .string q.s]) 8 rfl rfl (by kernel_rfl) (by kernel_rfl) (by kernel_rfl) (fun _ _ _ _ h => h) (by rfl) (fun w hS => by obtain ⟨q0, q1, q2, q3, q4, q5⟩ := hS; simp [execOp, go_sem, *]) hHeld ?_
  simp only [List.setIfInBounds_toArray, List.set_cons_zero, List.set_cons_succ]
  refine callY (i := 6) (f := 102) (args := #[.agg #[.int .i64 p.k, .int .i64 p.n, .string p.s], .agg #[.int .i64 q.k, .int .i64 q.n, .string q.s]]) (R := fun r wz => r = .int .i64 (cmpX p q) ∧ Below W0.heap.size W0 wz) 9 rfl rfl (by rfl) (by kernel_rfl) ?hrun6 ((compareValues_any p q _).mono fun e w6 ⟨he, hb⟩ => ⟨_, he, rfl, below_of_drew hb⟩) ?_
  case hrun6 => simp [execOp, go_sem]
  rintro r3 w3 ⟨rfl, hb⟩
  have HR3 := hide ((unhide HR2).mono hb (unhide HR2).lt); have HW3 := hide ((unhide HW2).trans (hb.mono (unhide HW2).size))
  have hc0 := (unhide HC0).mono hb; have hc1 := (unhide HC1).mono hb
  clear hb
  refine ⟨⟨hc0.2.1, hc0.2.2.1, hc0.2.2.2, hc1.2.1, hc1.2.2.1, hc1.2.2.2⟩, ?_⟩
  simp only [List.setIfInBounds_toArray, List.set_cons_zero, List.set_cons_succ]
  refine takeY (i := 7) (v := .bool (decide (cmpX p q < 0))) 10 rfl rfl (by kernel_rfl) (by kernel_rfl) (by kernel_rfl) (fun _ _ _ _ h => h) (by rfl) (fun w hS => by obtain ⟨q0, q1, q2, q3, q4, q5⟩ := hS; simp [execOp, go_sem, *]) ⟨hc0.2.1, hc0.2.2.1, hc0.2.2.2, hc1.2.1, hc1.2.2.1, hc1.2.2.2⟩ ?_
  simp only [List.setIfInBounds_toArray, List.set_cons_zero, List.set_cons_succ]
  refine callY (i := 8) (f := 97) (args := #[.bool (decide (cmpX p q < 0))]) (R := fun r wz => r = vv (boolX (decide (cmpX p q < 0))) ∧ Below w3.heap.size w3 wz) 11 rfl rfl (by rfl) (by kernel_rfl) ?hrun8 ((boolValue_any (decide (cmpX p q < 0)) _).mono fun e w6 ⟨he, hb⟩ => ⟨_, he, rfl, hb⟩) ?_
  case hrun8 => simp [execOp, go_sem]
  rintro r4 w4 ⟨rfl, hb⟩
  have HR4 := hide ((unhide HR3).mono hb (unhide HR3).lt); have HW4 := hide ((unhide HW3).trans (hb.mono (unhide HW3).size))
  replace hc0 := hc0.mono hb; replace hc1 := hc1.mono hb
  clear hb
  refine ⟨⟨hc0.2.1, hc0.2.2.1, hc0.2.2.2, hc1.2.1, hc1.2.2.1, hc1.2.2.2⟩, ?_⟩
  simp only [List.setIfInBounds_toArray, List.set_cons_zero, List.set_cons_succ]
  obtain ⟨z, hz⟩ : ∃ z, boolX (decide (cmpX p q < 0)) = z := ⟨_, rfl⟩
  have HZ : Hid (u = z) := hide (by
    rw [← unhide HU, ← hz]
    skip)
  rw [hz]
  clear hz
  unfold vv
  obtain ⟨r0, r1, r2⟩ := three (unhide HR4)
  have f0 := (unhide HR4).free 0; have f1 := (unhide HR4).free 1; have f2 := (unhide HR4).free 2
  have nb : b ≠ w.heap.size := fun e => by omega
  have far : ∀ (w' : World) (j i : Nat) (u : Value), (w'.setCell ⟨w.heap.size, j, none⟩ u).cell? ⟨b, i, none⟩ = w'.cell? ⟨b, i, none⟩ := fun w' j i u => World.cell?_of_block (w := w') (heap_setCell_other w' ⟨w.heap.size, j, none⟩ b u nb)
  refine storeY (i := 9) (w' := ((w4.setCell ⟨w.heap.size, 0, none⟩ (.int .i64 z.k)).setCell ⟨w.heap.size, 1, none⟩ (.int .i64 z.n)).setCell ⟨w.heap.size, 2, none⟩ (.string z.s)) rfl (by rfl) (by kernel_rfl) rfl ?hrunS rfl ⟨by rw [far, far, far]; exact hc0.2.1, by rw [far, far, far]; exact hc0.2.2.1, by rw [far, far, far]; exact hc0.2.2.2, by rw [far, far, far]; exact hc1.2.1, by rw [far, far, far]; exact hc1.2.2.1, by rw [far, far, far]; exact hc1.2.2.2⟩ ?_
  case hrunS => simp [execOp, go_sem, r0, r1, r2, f0, f1, f2]
  refine wpAnyH_done (by kernel_rfl) ?_ _
  obtain ⟨W9, hW9⟩ : ∃ W9, ((w4.setCell ⟨w.heap.size, 0, none⟩ (.int .i64 z.k)).setCell ⟨w.heap.size, 1, none⟩ (.int .i64 z.n)).setCell ⟨w.heap.size, 2, none⟩ (.string z.s) = W9 := ⟨_, rfl⟩
  have bR9 := ((((unhide HR4).set 0 (.int .i64 z.k)).set 1 (.int .i64 z.n)).set 2 (.string z.s))
  have HB9 := hide (vx_out (unhide HW4) (.int .i64 z.k) (.int .i64 z.n) (.string z.s))
  rw [hW9] at bR9 HB9 ⊢
  obtain ⟨k0, k1, k2⟩ := three bR9
  clear hW9 bR9 r0 r1 r2 f0 f1 f2 far hc0 hc1
  go_wp2
  exact bodyPost_ret (v := .agg #[.int .i64 z.k, .int .i64 z.n, .string z.s]) (by simp [results, Tryz.results75, go_sem, *]) rfl ⟨by rw [unhide HZ]; rfl, unhide HB9⟩

set_option maxRecDepth 100000 in
set_option maxHeartbeats 8000000 in
theorem isLessOrEqual_any (b o m c : Nat) (p q : Vx) (w : World) (hm : 2 ≤ m) (h0 : Cel w b o p) (h1 : Cel w b (o + 3) q) : Calls Tryz.prog 76 #[.slice (some ⟨b, o, none⟩) m c] w fun e w' => e = .returned (vv (boolX (decide (cmpX p q ≤ 0)))) ∧ Below w.heap.size w w' := by
  have hm' : (0 : Int) < m := by omega
  have hm0 : ¬ m = 0 := by omega
  obtain ⟨u, hu⟩ : ∃ u, boolX (decide (cmpX p q ≤ 0)) = u := ⟨_, rfl⟩
  rw [hu]
  have HU := hide hu
  clear hu
  have hm2 : (1 : Int) < m := by omega
  obtain ⟨W0, hW0⟩ : ∃ W0, w.alloc (.cells #[.int .i64 0, .int .i64 0, .string ⟨#[]⟩] 25) = W0 := ⟨_, rfl⟩
  have hb0 : Below w.heap.size w W0 := by rw [← hW0]; exact (Below.refl _ _).alloc (Nat.le_refl _) _
  have bR : Blk W0 w.heap.size 25 [.int .i64 0, .int .i64 0, .string ⟨#[]⟩] := by rw [← hW0]; exact Blk.new w 25 #[.int .i64 0, .int .i64 0, .string ⟨#[]⟩]
  have HC0 := hide (h0.mono hb0)
  obtain ⟨-, a0, a1, a2⟩ := h0.mono hb0
  have HC1 := hide (h1.mono hb0)
  obtain ⟨-, b0, b1, b2⟩ := h1.mono hb0
  have HR2 := hide bR; have HW2 := hide hb0
  have hblt : b < w.heap.size := h0.1
  clear hb0 bR h0 h1
  go_enter Tryz.func76, Tryz.ntmps76
  go_wp2_with fail
  try rw [hW0]
  clear hW0
  refine wp_region_held_drew (S := fun w' => w'.cell? ⟨b, o, none⟩ = some (.int .i64 p.k) ∧ w'.cell? ⟨b, o + 1, none⟩ = some (.int .i64 p.n) ∧ w'.cell? ⟨b, o + 2, none⟩ = some (.string p.s) ∧ w'.cell? ⟨b, o + 3, none⟩ = some (.int .i64 q.k) ∧ w'.cell? ⟨b, o + 3 + 1, none⟩ = some (.int .i64 q.n) ∧ w'.cell? ⟨b, o + 3 + 2, none⟩ = some (.string q.s)) (by kernel_rfl) ⟨a0, a1, a2, b0, b1, b2⟩ (fun hHeld => ?_)
  clear a0 a1 a2 b0 b1 b2
  refine takeY (i := 0) (v := .slice (some ⟨b, o, none⟩) m c) 3 rfl rfl (by kernel_rfl) (by kernel_rfl) (by kernel_rfl) (fun _ _ _ _ h => h) (by rfl) (fun w hS => by obtain ⟨q0, q1, q2, q3, q4, q5⟩ := hS; simp [execOp, go_sem, *]) hHeld ?_
  simp only [List.setIfInBounds_toArray, List.set_cons_zero, List.set_cons_succ]
  refine takeY (i := 1) (v := .pointer (some ⟨b, o, none⟩)) 4 rfl rfl (by kernel_rfl) (by kernel_rfl) (by kernel_rfl) (fun _ _ _ _ h => h) (by rfl) (fun w hS => by obtain ⟨q0, q1, q2, q3, q4, q5⟩ := hS; simp [execOp, go_sem, *]) hHeld ?_
  simp only [List.setIfInBounds_toArray, List.set_cons_zero, List.set_cons_succ]
  refine takeY (i := 2) (v := .agg #[.int .i64 p.k, .int .i64 p.n, .string p.s]) 5 rfl rfl (by kernel_rfl) (by kernel_rfl) (by kernel_rfl) (fun _ _ _ _ h => h) (by rfl) (fun w hS => by obtain ⟨q0, q1, q2, q3, q4, q5⟩ := hS; simp [execOp, go_sem, *]) hHeld ?_
  simp only [List.setIfInBounds_toArray, List.set_cons_zero, List.set_cons_succ]
  refine takeY (i := 3) (v := .slice (some ⟨b, o, none⟩) m c) 6 rfl rfl (by kernel_rfl) (by kernel_rfl) (by kernel_rfl) (fun _ _ _ _ h => h) (by rfl) (fun w hS => by obtain ⟨q0, q1, q2, q3, q4, q5⟩ := hS; simp [execOp, go_sem, *]) hHeld ?_
  simp only [List.setIfInBounds_toArray, List.set_cons_zero, List.set_cons_succ]
  refine takeY (i := 4) (v := .pointer (some ⟨b, o + 3, none⟩)) 7 rfl rfl (by kernel_rfl) (by kernel_rfl) (by kernel_rfl) (fun _ _ _ _ h => h) (by rfl) (fun w hS => by obtain ⟨q0, q1, q2, q3, q4, q5⟩ := hS; simp [execOp, go_sem, *]) hHeld ?_
  simp only [List.setIfInBounds_toArray, List.set_cons_zero, List.set_cons_succ]
  refine takeY (i := 5) (v := .agg #[.int .i64 q.k, .int .i64 q.n, .string q.s]) 8 rfl rfl (by kernel_rfl) (by kernel_rfl) (by kernel_rfl) (fun _ _ _ _ h => h) (by rfl) (fun w hS => by obtain ⟨q0, q1, q2, q3, q4, q5⟩ := hS; simp [execOp, go_sem, *]) hHeld ?_
  simp only [List.setIfInBounds_toArray, List.set_cons_zero, List.set_cons_succ]
  refine callY (i := 6) (f := 102) (args := #[.agg #[.int .i64 p.k, .int .i64 p.n, .string p.s], .agg #[.int .i64 q.k, .int .i64 q.n, .string q.s]]) (R := fun r wz => r = .int .i64 (cmpX p q) ∧ Below W0.heap.size W0 wz) 9 rfl rfl (by rfl) (by kernel_rfl) ?hrun6 ((compareValues_any p q _).mono fun e w6 ⟨he, hb⟩ => ⟨_, he, rfl, below_of_drew hb⟩) ?_
  case hrun6 => simp [execOp, go_sem]
  rintro r3 w3 ⟨rfl, hb⟩
  have HR3 := hide ((unhide HR2).mono hb (unhide HR2).lt); have HW3 := hide ((unhide HW2).trans (hb.mono (unhide HW2).size))
  have hc0 := (unhide HC0).mono hb; have hc1 := (unhide HC1).mono hb
  clear hb
  refine ⟨⟨hc0.2.1, hc0.2.2.1, hc0.2.2.2, hc1.2.1, hc1.2.2.1, hc1.2.2.2⟩, ?_⟩
  simp only [List.setIfInBounds_toArray, List.set_cons_zero, List.set_cons_succ]
  refine takeY (i := 7) (v := .bool (decide (cmpX p q ≤ 0))) 10 rfl rfl (by kernel_rfl) (by kernel_rfl) (by kernel_rfl) (fun _ _ _ _ h => h) (by rfl) (fun w hS => by obtain ⟨q0, q1, q2, q3, q4, q5⟩ := hS; simp [execOp, go_sem, *]) ⟨hc0.2.1, hc0.2.2.1, hc0.2.2.2, hc1.2.1, hc1.2.2.1, hc1.2.2.2⟩ ?_
  simp only [List.setIfInBounds_toArray, List.set_cons_zero, List.set_cons_succ]
  refine callY (i := 8) (f := 97) (args := #[.bool (decide (cmpX p q ≤ 0))]) (R := fun r wz => r = vv (boolX (decide (cmpX p q ≤ 0))) ∧ Below w3.heap.size w3 wz) 11 rfl rfl (by rfl) (by kernel_rfl) ?hrun8 ((boolValue_any (decide (cmpX p q ≤ 0)) _).mono fun e w6 ⟨he, hb⟩ => ⟨_, he, rfl, hb⟩) ?_
  case hrun8 => simp [execOp, go_sem]
  rintro r4 w4 ⟨rfl, hb⟩
  have HR4 := hide ((unhide HR3).mono hb (unhide HR3).lt); have HW4 := hide ((unhide HW3).trans (hb.mono (unhide HW3).size))
  replace hc0 := hc0.mono hb; replace hc1 := hc1.mono hb
  clear hb
  refine ⟨⟨hc0.2.1, hc0.2.2.1, hc0.2.2.2, hc1.2.1, hc1.2.2.1, hc1.2.2.2⟩, ?_⟩
  simp only [List.setIfInBounds_toArray, List.set_cons_zero, List.set_cons_succ]
  obtain ⟨z, hz⟩ : ∃ z, boolX (decide (cmpX p q ≤ 0)) = z := ⟨_, rfl⟩
  have HZ : Hid (u = z) := hide (by
    rw [← unhide HU, ← hz]
    skip)
  rw [hz]
  clear hz
  unfold vv
  obtain ⟨r0, r1, r2⟩ := three (unhide HR4)
  have f0 := (unhide HR4).free 0; have f1 := (unhide HR4).free 1; have f2 := (unhide HR4).free 2
  have nb : b ≠ w.heap.size := fun e => by omega
  have far : ∀ (w' : World) (j i : Nat) (u : Value), (w'.setCell ⟨w.heap.size, j, none⟩ u).cell? ⟨b, i, none⟩ = w'.cell? ⟨b, i, none⟩ := fun w' j i u => World.cell?_of_block (w := w') (heap_setCell_other w' ⟨w.heap.size, j, none⟩ b u nb)
  refine storeY (i := 9) (w' := ((w4.setCell ⟨w.heap.size, 0, none⟩ (.int .i64 z.k)).setCell ⟨w.heap.size, 1, none⟩ (.int .i64 z.n)).setCell ⟨w.heap.size, 2, none⟩ (.string z.s)) rfl (by rfl) (by kernel_rfl) rfl ?hrunS rfl ⟨by rw [far, far, far]; exact hc0.2.1, by rw [far, far, far]; exact hc0.2.2.1, by rw [far, far, far]; exact hc0.2.2.2, by rw [far, far, far]; exact hc1.2.1, by rw [far, far, far]; exact hc1.2.2.1, by rw [far, far, far]; exact hc1.2.2.2⟩ ?_
  case hrunS => simp [execOp, go_sem, r0, r1, r2, f0, f1, f2]
  refine wpAnyH_done (by kernel_rfl) ?_ _
  obtain ⟨W9, hW9⟩ : ∃ W9, ((w4.setCell ⟨w.heap.size, 0, none⟩ (.int .i64 z.k)).setCell ⟨w.heap.size, 1, none⟩ (.int .i64 z.n)).setCell ⟨w.heap.size, 2, none⟩ (.string z.s) = W9 := ⟨_, rfl⟩
  have bR9 := ((((unhide HR4).set 0 (.int .i64 z.k)).set 1 (.int .i64 z.n)).set 2 (.string z.s))
  have HB9 := hide (vx_out (unhide HW4) (.int .i64 z.k) (.int .i64 z.n) (.string z.s))
  rw [hW9] at bR9 HB9 ⊢
  obtain ⟨k0, k1, k2⟩ := three bR9
  clear hW9 bR9 r0 r1 r2 f0 f1 f2 far hc0 hc1
  go_wp2
  exact bodyPost_ret (v := .agg #[.int .i64 z.k, .int .i64 z.n, .string z.s]) (by simp [results, Tryz.results76, go_sem, *]) rfl ⟨by rw [unhide HZ]; rfl, unhide HB9⟩

end Go.Proofs.YtnmpkdmflijhpaaGreatDoor

/- The program's search for a piece. -/
namespace Go.Proofs.YtnmpkdmflijhpaaGreatDoor
open Go Go.RowKit

/-- The library's number, whatever it is. -/
def MaxL (w : World) : Prop := ∃ z, 0 < w.heap.size ∧ w.cell? ⟨0, 0, none⟩ = some (.int .i64 z)
theorem MaxL.mono {w w' : World} (h : MaxL w) (hb : Below w.heap.size w w') : MaxL w' := by
  obtain ⟨z, h1, h2⟩ := h
  exact ⟨z, Nat.lt_of_lt_of_le h1 hb.size, (hb.cell (p := ⟨0, 0, none⟩) h1).trans h2⟩

set_option maxRecDepth 100000 in
set_option maxHeartbeats 8000000 in
theorem hasPiece_any (b o m c : Nat) (p q : Vx) (w : World) (hm : 2 ≤ m) (hs : p.s.size ≤ 1000) (hM : MaxL w) (h0 : Cel w b o p) (h1 : Cel w b (o + 3) q) : Calls Tryz.prog 86 #[.slice (some ⟨b, o, none⟩) m c] w fun e w' => e = .returned (vv (boolX (Lib.contains p.s.data.toList q.s.data.toList))) ∧ Below w.heap.size w w' := by
  have hm' : (0 : Int) < m := by omega
  have hm0 : ¬ m = 0 := by omega
  obtain ⟨u, hu⟩ : ∃ u, boolX (Lib.contains p.s.data.toList q.s.data.toList) = u := ⟨_, rfl⟩
  rw [hu]
  have HU := hide hu
  clear hu
  have hm2 : (1 : Int) < m := by omega
  obtain ⟨W0, hW0⟩ : ∃ W0, w.alloc (.cells #[.int .i64 0, .int .i64 0, .string ⟨#[]⟩] 25) = W0 := ⟨_, rfl⟩
  have hb0 : Below w.heap.size w W0 := by rw [← hW0]; exact (Below.refl _ _).alloc (Nat.le_refl _) _
  have bR : Blk W0 w.heap.size 25 [.int .i64 0, .int .i64 0, .string ⟨#[]⟩] := by rw [← hW0]; exact Blk.new w 25 #[.int .i64 0, .int .i64 0, .string ⟨#[]⟩]
  have HC0 := hide (h0.mono hb0)
  obtain ⟨-, a0, a1, a2⟩ := h0.mono hb0
  have HC1 := hide (h1.mono hb0)
  obtain ⟨-, b0, b1, b2⟩ := h1.mono hb0
  obtain ⟨mz, -, hM0⟩ := hM.mono hb0
  have HM := hide hM0
  clear hM0 hM
  have HR2 := hide bR; have HW2 := hide hb0
  have hblt : b < w.heap.size := h0.1
  clear hb0 bR h0 h1
  go_enter Tryz.func86, Tryz.ntmps86
  go_wp2_with fail
  try rw [hW0]
  clear hW0
  refine wp_region_held_drew (S := fun w' => w'.cell? ⟨b, o + 2, none⟩ = some (.string p.s) ∧ w'.cell? ⟨b, o + 3 + 2, none⟩ = some (.string q.s)) (by kernel_rfl) ⟨a2, b2⟩ (fun hHeld => ?_)
  clear a0 a1 a2 b0 b1 b2
  refine takeY (i := 0) (v := .slice (some ⟨b, o, none⟩) m c) 3 rfl rfl (by kernel_rfl) (by kernel_rfl) (by kernel_rfl) (fun _ _ _ _ h => h) (by rfl) (fun w hS => by obtain ⟨q0, q1⟩ := hS; simp [execOp, go_sem, *]) hHeld ?_
  simp only [List.setIfInBounds_toArray, List.set_cons_zero, List.set_cons_succ]
  refine takeY (i := 1) (v := .pointer (some ⟨b, o, none⟩)) 4 rfl rfl (by kernel_rfl) (by kernel_rfl) (by kernel_rfl) (fun _ _ _ _ h => h) (by rfl) (fun w hS => by obtain ⟨q0, q1⟩ := hS; simp [execOp, go_sem, *]) hHeld ?_
  simp only [List.setIfInBounds_toArray, List.set_cons_zero, List.set_cons_succ]
  refine takeY (i := 2) (v := .pointer (some ⟨b, o + 2, none⟩)) 5 rfl rfl (by kernel_rfl) (by kernel_rfl) (by kernel_rfl) (fun _ _ _ _ h => h) (by rfl) (fun w hS => by obtain ⟨q0, q1⟩ := hS; simp [execOp, go_sem, *]) hHeld ?_
  simp only [List.setIfInBounds_toArray, List.set_cons_zero, List.set_cons_succ]
  refine takeY (i := 3) (v := .string p.s) 6 rfl rfl (by kernel_rfl) (by kernel_rfl) (by kernel_rfl) (fun _ _ _ _ h => h) (by rfl) (fun w hS => by obtain ⟨q0, q1⟩ := hS; simp [execOp, go_sem, *]) hHeld ?_
  simp only [List.setIfInBounds_toArray, List.set_cons_zero, List.set_cons_succ]
  refine takeY (i := 4) (v := .slice (some ⟨b, o, none⟩) m c) 7 rfl rfl (by kernel_rfl) (by kernel_rfl) (by kernel_rfl) (fun _ _ _ _ h => h) (by rfl) (fun w hS => by obtain ⟨q0, q1⟩ := hS; simp [execOp, go_sem, *]) hHeld ?_
  simp only [List.setIfInBounds_toArray, List.set_cons_zero, List.set_cons_succ]
  refine takeY (i := 5) (v := .pointer (some ⟨b, o + 3, none⟩)) 8 rfl rfl (by kernel_rfl) (by kernel_rfl) (by kernel_rfl) (fun _ _ _ _ h => h) (by rfl) (fun w hS => by obtain ⟨q0, q1⟩ := hS; simp [execOp, go_sem, *]) hHeld ?_
  simp only [List.setIfInBounds_toArray, List.set_cons_zero, List.set_cons_succ]
  refine takeY (i := 6) (v := .pointer (some ⟨b, o + 3 + 2, none⟩)) 9 rfl rfl (by kernel_rfl) (by kernel_rfl) (by kernel_rfl) (fun _ _ _ _ h => h) (by rfl) (fun w hS => by obtain ⟨q0, q1⟩ := hS; simp [execOp, go_sem, *]) hHeld ?_
  simp only [List.setIfInBounds_toArray, List.set_cons_zero, List.set_cons_succ]
  refine takeY (i := 7) (v := .string q.s) 10 rfl rfl (by kernel_rfl) (by kernel_rfl) (by kernel_rfl) (fun _ _ _ _ h => h) (by rfl) (fun w hS => by obtain ⟨q0, q1⟩ := hS; simp [execOp, go_sem, *]) hHeld ?_
  simp only [List.setIfInBounds_toArray, List.set_cons_zero, List.set_cons_succ]
  refine callY (i := 8) (f := 104) (args := #[.string p.s, .string q.s]) (R := fun r wz => r = .bool (Lib.contains p.s.data.toList q.s.data.toList) ∧ Below W0.heap.size W0 wz) 11 rfl rfl (by rfl) (by kernel_rfl) ?hrun8 ((Tryz.strings_Contains p.s q.s mz W0.drew (by omega) (unhide HM)).mono fun e w6 ⟨he, hb⟩ => ⟨_, he, rfl, below_of_drew (by rw [hb]; exact Below.refl _ _)⟩) ?_
  case hrun8 => simp [execOp, go_sem]
  rintro r3 w3 ⟨rfl, hb⟩
  have HR3 := hide ((unhide HR2).mono hb (unhide HR2).lt); have HW3 := hide ((unhide HW2).trans (hb.mono (unhide HW2).size))
  have hc0 := (unhide HC0).mono hb; have hc1 := (unhide HC1).mono hb
  clear hb
  refine ⟨⟨hc0.2.2.2, hc1.2.2.2⟩, ?_⟩
  simp only [List.setIfInBounds_toArray, List.set_cons_zero, List.set_cons_succ]
  obtain ⟨y, hy⟩ : ∃ y, Lib.contains p.s.data.toList q.s.data.toList = y := ⟨_, rfl⟩
  rw [hy]
  have HY := hide hy
  clear hy
  refine callY (i := 9) (f := 97) (args := #[.bool y]) (R := fun r wz => r = vv (boolX y) ∧ Below w3.heap.size w3 wz) 12 rfl rfl (by rfl) (by kernel_rfl) ?hrun9 ((boolValue_any y _).mono fun e w6 ⟨he, hb⟩ => ⟨_, he, rfl, hb⟩) ?_
  case hrun9 => simp [execOp, go_sem]
  rintro r4 w4 ⟨rfl, hb⟩
  have HR4 := hide ((unhide HR3).mono hb (unhide HR3).lt); have HW4 := hide ((unhide HW3).trans (hb.mono (unhide HW3).size))
  replace hc0 := hc0.mono hb; replace hc1 := hc1.mono hb
  clear hb
  refine ⟨⟨hc0.2.2.2, hc1.2.2.2⟩, ?_⟩
  simp only [List.setIfInBounds_toArray, List.set_cons_zero, List.set_cons_succ]
  obtain ⟨z, hz⟩ : ∃ z, boolX y = z := ⟨_, rfl⟩
  have HZ : Hid (u = z) := hide (by
    rw [← unhide HU, ← hz]
    rw [← unhide HY])
  rw [hz]
  clear hz
  unfold vv
  obtain ⟨r0, r1, r2⟩ := three (unhide HR4)
  have f0 := (unhide HR4).free 0; have f1 := (unhide HR4).free 1; have f2 := (unhide HR4).free 2
  have nb : b ≠ w.heap.size := fun e => by omega
  have far : ∀ (w' : World) (j i : Nat) (u : Value), (w'.setCell ⟨w.heap.size, j, none⟩ u).cell? ⟨b, i, none⟩ = w'.cell? ⟨b, i, none⟩ := fun w' j i u => World.cell?_of_block (w := w') (heap_setCell_other w' ⟨w.heap.size, j, none⟩ b u nb)
  refine storeY (i := 10) (w' := ((w4.setCell ⟨w.heap.size, 0, none⟩ (.int .i64 z.k)).setCell ⟨w.heap.size, 1, none⟩ (.int .i64 z.n)).setCell ⟨w.heap.size, 2, none⟩ (.string z.s)) rfl (by rfl) (by kernel_rfl) rfl ?hrunS rfl ⟨by rw [far, far, far]; exact hc0.2.2.2, by rw [far, far, far]; exact hc1.2.2.2⟩ ?_
  case hrunS => simp [execOp, go_sem, r0, r1, r2, f0, f1, f2]
  refine wpAnyH_done (by kernel_rfl) ?_ _
  obtain ⟨W9, hW9⟩ : ∃ W9, ((w4.setCell ⟨w.heap.size, 0, none⟩ (.int .i64 z.k)).setCell ⟨w.heap.size, 1, none⟩ (.int .i64 z.n)).setCell ⟨w.heap.size, 2, none⟩ (.string z.s) = W9 := ⟨_, rfl⟩
  have bR9 := ((((unhide HR4).set 0 (.int .i64 z.k)).set 1 (.int .i64 z.n)).set 2 (.string z.s))
  have HB9 := hide (vx_out (unhide HW4) (.int .i64 z.k) (.int .i64 z.n) (.string z.s))
  rw [hW9] at bR9 HB9 ⊢
  obtain ⟨k0, k1, k2⟩ := three bR9
  clear hW9 bR9 r0 r1 r2 f0 f1 f2 far hc0 hc1
  go_wp2
  exact bodyPost_ret (v := .agg #[.int .i64 z.k, .int .i64 z.n, .string z.s]) (by simp [results, Tryz.results86, go_sem, *]) rfl ⟨by rw [unhide HZ]; rfl, unhide HB9⟩

end Go.Proofs.YtnmpkdmflijhpaaGreatDoor

/- How a value is shown, and how long that is. No walk in this text. -/
namespace Go.Proofs.YtnmpkdmflijhpaaGreatDoor
open Go

def showB (kind num : Int) (s : ByteArray) : ByteArray :=
  if okVal kind num s then
    if kind = 0 then ⟨#[98, 108, 97, 110, 107]⟩
    else if kind = 1 then ⟨(Lib.itoa num).toArray⟩
    else if kind = 2 then (if num = 1 then ⟨#[116, 114, 117, 101]⟩ else ⟨#[102, 97, 108, 115, 101]⟩)
    else if kind = 3 then ⟨#[34]⟩ ++ s ++ ⟨#[34]⟩
    else ⟨#[33]⟩ ++ ⟨(Lib.itoa num).toArray⟩
  else ⟨#[63]⟩
theorem bsz (a : Array UInt8) : (⟨a⟩ : ByteArray).size = a.size := rfl
theorem itoa_size (x : Int) (h0 : -9223372036854775808 ≤ x) (h1 : x ≤ 9223372036854775807) : (⟨(Lib.itoa x).toArray⟩ : ByteArray).size ≤ 21 := Lib.itoa_length_le x h0 h1
theorem itoa_ne (x : Int) : 1 ≤ (Lib.itoa x).length := by
  unfold Lib.itoa
  split
  · simp
  · rw [Lib.decDigits_length]; exact Lib.nDigits_pos _
theorem showB_size (kind num : Int) (s : ByteArray) (h : okVal kind num s = true) (h0 : 0 ≤ num) (h1 : num ≤ 9223372036854775807) : 1 + s.size ≤ (showB kind num s).size ∧ (showB kind num s).size ≤ 1050 := by
  have hi := itoa_size num (by omega) h1
  have hj : 1 ≤ (⟨(Lib.itoa num).toArray⟩ : ByteArray).size := itoa_ne num
  unfold showB
  rw [if_pos h]
  unfold okVal at h
  by_cases k0 : kind = 0
  · rw [if_pos k0] at h ⊢; simp only [Bool.and_eq_true, decide_eq_true_eq] at h; simp only [bsz, List.size_toArray, List.length_cons, List.length_nil]; omega
  rw [if_neg k0] at h ⊢
  by_cases k1 : kind = 1
  · rw [if_pos k1] at h ⊢; simp only [decide_eq_true_eq] at h; omega
  rw [if_neg k1] at h ⊢
  by_cases k2 : kind = 2
  · rw [if_pos k2] at h ⊢; simp only [Bool.and_eq_true, decide_eq_true_eq] at h; split <;> simp only [bsz, List.size_toArray, List.length_cons, List.length_nil] <;> omega
  rw [if_neg k2] at h ⊢
  by_cases k3 : kind = 3
  · rw [if_pos k3] at h ⊢; simp only [Bool.and_eq_true, decide_eq_true_eq] at h
    have := (okText_iff.1 h.2).1
    simp only [ByteArray.size_append, bsz, List.size_toArray, List.length_cons, List.length_nil]; omega
  rw [if_neg k3] at h ⊢
  by_cases k4 : kind = 4
  · rw [if_pos k4] at h; simp only [Bool.and_eq_true, decide_eq_true_eq] at h
    simp only [ByteArray.size_append]
    have e : (⟨#[33]⟩ : ByteArray).size = 1 := rfl
    omega
  · rw [if_neg k4] at h; cases h
end Go.Proofs.YtnmpkdmflijhpaaGreatDoor

/- The program's decimal and plain text. -/
namespace Go.Proofs.YtnmpkdmflijhpaaGreatDoor
open Go Go.RowKit

theorem ret_str {a b : ByteArray} (h : a = b) : Ending.returned (.string a) = .returned (.string b) := by rw [h]
def Pow (w : World) : Prop := Lib.TabIs Tryz.prog w "internal/strconv.uint64pow10" .u64 Lib.pow10Tab
theorem Pow.mono {w w' : World} (h : Pow w) (hb : Below w.heap.size w w') : Pow w' := Lib.tabBelow_of_tabIs h w' hb

set_option maxRecDepth 100000 in
set_option maxHeartbeats 1000000 in
theorem decimal_any (x : Int) (w : World) (h0 : -9223372036854775808 ≤ x) (h1 : x ≤ 9223372036854775807) (ht : Pow w) :
    Calls Tryz.prog 112 #[.int .i64 x] w fun e w' => e = .returned (.string ⟨(Lib.itoa x).toArray⟩) ∧ Below w.heap.size w w' := by
  have HX := hide (And.intro h0 h1); clear h0 h1
  go_enter Tryz.func112, Tryz.ntmps112
  go_wp2_with fail
  refine (Tryz.strconv_FormatInt_10 x (unhide HX).1 (unhide HX).2 _ ht).mono ?_
  rintro e w1 ⟨rfl, k, os, rfl⟩
  have hb := hide (Lib.below_grow w.heap.size w (Nat.le_refl _) k os)
  go_wp2
  go_ret
  exact ⟨rfl, unhide hb⟩


theorem fb_true : (⟨(Lib.formatBool true).toArray⟩ : ByteArray) = ⟨#[116, 114, 117, 101]⟩ := by decide +kernel
theorem fb_false : (⟨(Lib.formatBool false).toArray⟩ : ByteArray) = ⟨#[102, 97, 108, 115, 101]⟩ := by decide +kernel

/-- What the program's plainText gives. -/
def plainB (kind num : Int) (s : ByteArray) : ByteArray :=
  if kind = 1 then ⟨(Lib.itoa num).toArray⟩ else if kind = 2 then (if num = 1 then ⟨#[116, 114, 117, 101]⟩ else ⟨#[102, 97, 108, 115, 101]⟩) else s

set_option maxRecDepth 100000 in
set_option maxHeartbeats 4000000 in
theorem plainText_any (kind num : Int) (s : ByteArray) (w : World) (h0 : -9223372036854775808 ≤ num) (h1 : num ≤ 9223372036854775807) (ht : Pow w) :
    Calls Tryz.prog 106 #[.agg #[.int .i64 kind, .int .i64 num, .string s]] w fun e w' => e = .returned (.string (plainB kind num s)) ∧ Below w.heap.size w w' := by
  have HX := hide (And.intro h0 h1); clear h0 h1
  have HW : Hid (Below w.heap.size w (w.alloc (.cells #[.int .i64 kind, .int .i64 num, .string s] 25))) := (Below.refl _ _).alloc (Nat.le_refl _) _
  by_cases k1 : kind = 1
  · subst k1
    go_enter Tryz.func106, Tryz.ntmps106
    go_wp2_with fail
    refine (decimal_any num _ (unhide HX).1 (unhide HX).2 (ht.mono (unhide HW))).mono ?_
    rintro e w2 ⟨rfl, hb2⟩
    replace HW := hide ((unhide HW).trans (hb2.mono (unhide HW).size)); clear hb2
    go_wp2
    go_ret
    exact ⟨ret_str (by simp [plainB]), unhide HW⟩
  · by_cases k2 : kind = 2
    · subst k2
      by_cases n1 : num = 1
      · subst n1
        go_enter Tryz.func106, Tryz.ntmps106
        go_wp2_with fail
        refine (Tryz.strconv_FormatBool true _).mono ?_
        rintro e w2 ⟨rfl, rfl⟩
        rw [fb_true]
        go_wp2
        go_ret
        exact ⟨ret_str (by simp [plainB]), unhide HW⟩
      · have hf : (num == 1) = false := by simpa using n1
        go_enter Tryz.func106, Tryz.ntmps106
        go_wp2_with fail
        refine (Tryz.strconv_FormatBool false _).mono ?_
        rintro e w2 ⟨rfl, rfl⟩
        rw [fb_false]
        go_wp2
        go_ret
        exact ⟨ret_str (by simp [plainB, n1]), unhide HW⟩
    · go_enter Tryz.func106, Tryz.ntmps106
      go_wp2
      go_ret
      exact ⟨ret_str (by simp [plainB, k1, k2]), unhide HW⟩
end Go.Proofs.YtnmpkdmflijhpaaGreatDoor

/- The program's reading of a plain decimal. -/
namespace Go.Proofs.YtnmpkdmflijhpaaGreatDoor
open Go Go.RowKit

/-- A package-level variable that holds an error that is not nil. -/
def ErrV (name : String) (w : World) : Prop := ∃ tp p, w.var? Tryz.prog name = some #[.iface tp p]
theorem var_mono {w w' : World} {P : Program} {name : String} {cs : Array Value} (h : w.var? P name = some cs) (hb : Below w.heap.size w w') : w'.var? P name = some cs := by
  unfold World.var? at h ⊢
  cases hg : P.globalNamed name with
  | none => rw [hg] at h; cases h
  | some g =>
    rw [hg] at h
    simp only [Option.bind_some] at h ⊢
    have hlt : g < w.heap.size := by
      apply Nat.lt_of_not_le; intro h0
      rw [Array.getElem?_eq_none h0] at h; cases h
    rw [hb.block g hlt]; exact h
theorem ErrV.mono {name : String} {w w' : World} (h : ErrV name w) (hb : Below w.heap.size w w') : ErrV name w' := by
  obtain ⟨tp, p, h⟩ := h
  exact ⟨tp, p, var_mono h hb⟩

set_option maxRecDepth 100000 in
set_option maxHeartbeats 4000000 in
theorem readDecimal_any (s : ByteArray) (w : World) (hs : s.size ≤ 1048576) (hp : Pow w) (h1 : ErrV "strconv.ErrSyntax" w) (h2 : ErrV "strconv.ErrRange" w) (x : Int) (ok : Bool) (hr : rd s.data.toList = (x, ok)) :
    Calls Tryz.prog 105 #[.string s] w fun e w' => e = .returned (.tuple #[.int .i64 x, .bool ok]) ∧ Below w.heap.size w w' := by
  have HP := hide hp; have HR := hide hr; clear hp hr
  cases hq : Lib.parseIntB 64 s.data.toList with
  | ok n =>
    have hb := Lib.parseIntB_bounds hq
    have hn : I64 n := by have : (2 : Nat) ^ (64 - 1) = 9223372036854775808 := rfl; unfold I64; omega
    have HN := hide hn; clear hb hn
    go_enter Tryz.func105, Tryz.ntmps105
    go_wp2_with fail
    refine (Tryz.strconv_ParseInt_10_at64_ok s (by omega) n hq w).mono ?_
    rintro e w1 ⟨rfl, hw1⟩
    have hb1 : Below w.heap.size w w1 := by
      rcases hw1 with rfl | ⟨t, rfl⟩
      · exact Below.refl _ _
      · exact Lib.bytesWorld_below _ _ _
    clear hw1
    have HW := hide hb1; clear hb1
    go_wp2_with fail
    refine (decimal_any n _ (unhide HN).1 (unhide HN).2 ((unhide HP).mono (unhide HW))).mono ?_
    rintro e w2 ⟨rfl, hb2⟩
    replace HW := hide ((unhide HW).trans (hb2.mono (unhide HW).size)); clear hb2
    by_cases heq : Lib.itoa n = s.data.toList
    · have hx : x = n ∧ ok = true := by
        have h3 := unhide HR
        rw [rd, readDec, hq] at h3
        simp only [if_pos heq, Prod.mk.injEq] at h3
        exact ⟨h3.1.symm, h3.2.symm⟩
      obtain ⟨rfl, rfl⟩ := hx
      have e5 : ((⟨(Lib.itoa x).toArray⟩ : ByteArray).toList == s.toList) = true := by rw [ByteArray.toList_eq, ByteArray.toList_eq, ← heq]; simp
      obtain ⟨T, hT⟩ : ∃ T : ByteArray, T = ⟨(Lib.itoa x).toArray⟩ := ⟨_, rfl⟩
      rw [← hT] at e5 ⊢
      clear hT heq hq
      go_wp2
      exact bodyPost_ret (v := .tuple #[.int .i64 x, .bool true]) (by simp [results, Tryz.results105, go_sem]) rfl ⟨rfl, unhide HW⟩
    · have hx : x = 0 ∧ ok = false := by
        have h3 := unhide HR
        rw [rd, readDec, hq] at h3
        simp only [if_neg heq, Prod.mk.injEq] at h3
        exact ⟨h3.1.symm, h3.2.symm⟩
      obtain ⟨rfl, rfl⟩ := hx
      have e5 : ((⟨(Lib.itoa n).toArray⟩ : ByteArray).toList == s.toList) = false := by rw [ByteArray.toList_eq, ByteArray.toList_eq, beq_eq_false_iff_ne]; simpa using heq
      obtain ⟨T, hT⟩ : ∃ T : ByteArray, T = ⟨(Lib.itoa n).toArray⟩ := ⟨_, rfl⟩
      rw [← hT] at e5 ⊢
      clear hT heq hq
      go_wp2
      exact bodyPost_ret (v := .tuple #[.int .i64 0, .bool false]) (by simp [results, Tryz.results105, go_sem]) rfl ⟨rfl, unhide HW⟩
  | «syntax» =>
    obtain ⟨tp, p, hv⟩ := h1
    have hx : x = 0 ∧ ok = false := by
      have h3 := unhide HR
      rw [rd, readDec, hq] at h3
      simp only [Prod.mk.injEq] at h3
      exact ⟨h3.1.symm, h3.2.symm⟩
    obtain ⟨rfl, rfl⟩ := hx
    go_enter Tryz.func105, Tryz.ntmps105
    go_wp2_with fail
    refine (Tryz.strconv_ParseInt_10_at64_syntax_var s (by omega) hq tp p w hv).mono ?_
    rintro e w1 ⟨N, rfl, -, -, hb1⟩
    have HW := hide hb1; clear hb1 hq
    go_wp2
    exact bodyPost_ret (v := .tuple #[.int .i64 0, .bool false]) (by simp [results, Tryz.results105, go_sem]) rfl ⟨rfl, unhide HW⟩
  | range =>
    obtain ⟨tp, p, hv⟩ := h2
    have hx : x = 0 ∧ ok = false := by
      have h3 := unhide HR
      rw [rd, readDec, hq] at h3
      simp only [Prod.mk.injEq] at h3
      exact ⟨h3.1.symm, h3.2.symm⟩
    obtain ⟨rfl, rfl⟩ := hx
    go_enter Tryz.func105, Tryz.ntmps105
    go_wp2_with fail
    refine (Tryz.strconv_ParseInt_10_at64_range_var s (by omega) hq tp p w hv).mono ?_
    rintro e w1 ⟨N, rfl, -, -, hb1⟩
    have HW := hide hb1; clear hb1 hq
    go_wp2
    exact bodyPost_ret (v := .tuple #[.int .i64 0, .bool false]) (by simp [results, Tryz.results105, go_sem]) rfl ⟨rfl, unhide HW⟩
end Go.Proofs.YtnmpkdmflijhpaaGreatDoor

/- The program's number of a text and text of a value. -/
namespace Go.Proofs.YtnmpkdmflijhpaaGreatDoor
open Go Go.RowKit

/-- What the package-level variables hold. -/
structure Glob (w : World) : Prop where
  pow : Pow w
  es : ErrV "strconv.ErrSyntax" w
  er : ErrV "strconv.ErrRange" w
  mx : MaxL w
theorem Glob.mono {w w' : World} (h : Glob w) (hb : Below w.heap.size w w') : Glob w' := ⟨h.pow.mono hb, h.es.mono hb, h.er.mono hb, h.mx.mono hb⟩

set_option maxRecDepth 100000 in
set_option maxHeartbeats 4000000 in
theorem readInt_any (b o m c : Nat) (p : Vx) (w : World) (hm : 1 ≤ m) (hs : p.s.size ≤ 1000) (hg : Glob w) (h0 : Cel w b o p) : Calls Tryz.prog 88 #[.slice (some ⟨b, o, none⟩) m c] w fun e w' => e = .returned (vv (if (rd p.s.data.toList).2 then intX (rd p.s.data.toList).1 else errX 5)) ∧ Below w.heap.size w w' := by
  obtain ⟨hlt, c0, c1, c2⟩ := h0
  have hm' : (0 : Int) < m := by omega
  obtain ⟨x, ok, hr⟩ : ∃ x ok, rd p.s.data.toList = (x, ok) := ⟨_, _, rfl⟩
  rw [hr]
  dsimp only
  obtain ⟨u, hu⟩ : ∃ u, (if ok = true then intX x else errX 5) = u := ⟨_, rfl⟩
  rw [hu]
  have HU := hide hu; have HRD := hide hr
  clear hu hr
  obtain ⟨W, hW⟩ : ∃ W, w.alloc (.cells #[.int .i64 0, .int .i64 0, .string ⟨#[]⟩] 25) = W := ⟨_, rfl⟩
  have hb : Below w.heap.size w W := by rw [← hW]; exact (Below.refl _ _).alloc (Nat.le_refl _) _
  have bR : Blk W w.heap.size 25 [.int .i64 0, .int .i64 0, .string ⟨#[]⟩] := by rw [← hW]; exact Blk.new w 25 #[.int .i64 0, .int .i64 0, .string ⟨#[]⟩]
  have HB := hide hb; have HR := hide bR; have HG := hide (hg.mono hb)
  clear hb bR hg
  have HW := hide hW
  clear hW
  go_enter Tryz.func88, Tryz.ntmps88
  go_wp2_with fail
  try rw [unhide HW]
  clear HW
  refine (readDecimal_any p.s W (by omega) (unhide HG).pow (unhide HG).es (unhide HG).er x ok (unhide HRD)).mono ?_
  rintro e w1 ⟨rfl, hb⟩
  replace HR := hide ((unhide HR).mono hb (unhide HR).lt); replace HB := hide ((unhide HB).trans (hb.mono (unhide HB).size))
  clear hb
  cases ok
  · have HE : Hid (u = errX 5) := hide (by rw [← unhide HU]; rfl)
    go_wp2_with fail
    refine (errValue_any 5 w1).mono ?_
    rintro e w2 ⟨rfl, hb⟩
    have HR1 := hide ((unhide HR).mono hb (unhide HR).lt); have HB1 := hide ((unhide HB).trans (hb.mono (unhide HB).size))
    clear hb
    obtain ⟨r0, r1, r2⟩ := three (unhide HR1)
    have f0 := (unhide HR1).free 0; have f1 := (unhide HR1).free 1; have f2 := (unhide HR1).free 2
    unfold vv errX
    go_wp2
    exact bodyPost_ret (v := .agg #[.int .i64 4, .int .i64 5, .string ⟨#[]⟩]) (by simp [results, Tryz.results88, go_sem, *]) rfl ⟨by rw [unhide HE]; rfl, vx_out (unhide HB1) _ _ _⟩
  · have HE : Hid (u = intX x) := hide (by rw [← unhide HU]; rfl)
    go_wp2_with fail
    refine (intValue_any x w1).mono ?_
    rintro e w2 ⟨rfl, hb⟩
    have HR1 := hide ((unhide HR).mono hb (unhide HR).lt); have HB1 := hide ((unhide HB).trans (hb.mono (unhide HB).size))
    clear hb
    obtain ⟨r0, r1, r2⟩ := three (unhide HR1)
    have f0 := (unhide HR1).free 0; have f1 := (unhide HR1).free 1; have f2 := (unhide HR1).free 2
    go_wp2
    exact bodyPost_ret (v := .agg #[.int .i64 1, .int .i64 x, .string ⟨#[]⟩]) (by simp [results, Tryz.results88, go_sem, *]) rfl ⟨by rw [unhide HE]; rfl, vx_out (unhide HB1) _ _ _⟩

set_option maxRecDepth 100000 in
set_option maxHeartbeats 4000000 in
theorem writeText_any (b o m c : Nat) (p : Vx) (w : World) (hm : 1 ≤ m) (hp : -9223372036854775808 ≤ p.n ∧ p.n ≤ 9223372036854775807) (hg : Glob w) (h0 : Cel w b o p) : Calls Tryz.prog 89 #[.slice (some ⟨b, o, none⟩) m c] w fun e w' => e = .returned (vv (textX (plainB p.k p.n p.s))) ∧ Below w.heap.size w w' := by
  obtain ⟨hlt, c0, c1, c2⟩ := h0
  have hm' : (0 : Int) < m := by omega
  have HP := hide hp
  clear hp
  obtain ⟨t, ht⟩ : ∃ t, plainB p.k p.n p.s = t := ⟨_, rfl⟩
  rw [ht]
  have HT := hide ht
  clear ht
  obtain ⟨W, hW⟩ : ∃ W, w.alloc (.cells #[.int .i64 0, .int .i64 0, .string ⟨#[]⟩] 25) = W := ⟨_, rfl⟩
  have hb : Below w.heap.size w W := by rw [← hW]; exact (Below.refl _ _).alloc (Nat.le_refl _) _
  have bR : Blk W w.heap.size 25 [.int .i64 0, .int .i64 0, .string ⟨#[]⟩] := by rw [← hW]; exact Blk.new w 25 #[.int .i64 0, .int .i64 0, .string ⟨#[]⟩]
  have HB := hide hb; have HR := hide bR; have HG := hide (hg.mono hb)
  clear hb bR hg
  have HW := hide hW
  clear hW
  go_enter Tryz.func89, Tryz.ntmps89
  go_wp2_with fail
  try rw [unhide HW]
  clear HW
  refine (plainText_any p.k p.n p.s W (unhide HP).1 (unhide HP).2 (unhide HG).pow).mono ?_
  rw [unhide HT]
  rintro e w1 ⟨rfl, hb⟩
  replace HR := hide ((unhide HR).mono hb (unhide HR).lt); replace HB := hide ((unhide HB).trans (hb.mono (unhide HB).size))
  clear hb
  go_wp2_with fail
  refine (textValue_any t w1).mono ?_
  rintro e w2 ⟨rfl, hb⟩
  have HR1 := hide ((unhide HR).mono hb (unhide HR).lt); have HB1 := hide ((unhide HB).trans (hb.mono (unhide HB).size))
  clear hb
  obtain ⟨r0, r1, r2⟩ := three (unhide HR1)
  have f0 := (unhide HR1).free 0; have f1 := (unhide HR1).free 1; have f2 := (unhide HR1).free 2
  go_wp2
  exact bodyPost_ret (v := .agg #[.int .i64 3, .int .i64 0, .string t]) (by simp [results, Tryz.results89, go_sem, *]) rfl ⟨rfl, vx_out (unhide HB1) _ _ _⟩
end Go.Proofs.YtnmpkdmflijhpaaGreatDoor

/- The program's products. -/
namespace Go.Proofs.YtnmpkdmflijhpaaGreatDoor
open Go Go.RowKit

theorem mul_abs (x y : Int) : (if (decide (x < 0) != decide (y < 0)) then -((x.natAbs * y.natAbs : Nat) : Int) else ((x.natAbs * y.natAbs : Nat) : Int)) = x * y := by
  have h : ((x * y).natAbs : Int) = ((x.natAbs * y.natAbs : Nat) : Int) := by rw [Int.natAbs_mul]
  rw [← h]
  by_cases hx : x < 0
  · by_cases hy : y < 0
    · have : 0 ≤ x * y := Int.le_of_lt (Int.mul_pos_of_neg_of_neg hx hy)
      simp [hx, hy]; omega
    · have : x * y ≤ 0 := Int.mul_nonpos_of_nonpos_of_nonneg (by omega) (by omega)
      simp [hx, hy]; omega
  · by_cases hy : y < 0
    · have : x * y ≤ 0 := Int.mul_nonpos_of_nonneg_of_nonpos (by omega) (by omega)
      simp [hx, hy]; omega
    · have : 0 ≤ x * y := Int.mul_nonneg (by omega) (by omega)
      simp [hx, hy]; omega
theorem mul_big {x y : Int} (h : 18446744073709551616 ≤ x.natAbs * y.natAbs) : chkX (x * y) = errX 2 := by
  unfold chkX fitsB
  rw [if_neg]
  have h1 : (x * y).natAbs = x.natAbs * y.natAbs := Int.natAbs_mul x y
  simp only [decide_eq_true_eq]
  omega

set_option maxRecDepth 100000 in
set_option maxHeartbeats 4000000 in
theorem multiplyInts_any (b o m c : Nat) (p q : Vx) (w : World) (hm : 2 ≤ m) (hp : -9223372036854775808 ≤ p.n ∧ p.n ≤ 9223372036854775807) (hq : -9223372036854775808 ≤ q.n ∧ q.n ≤ 9223372036854775807) (h0 : Cel w b o p) (h1 : Cel w b (o + 3) q) : Calls Tryz.prog 64 #[.slice (some ⟨b, o, none⟩) m c] w fun e w' => e = .returned (vv (chkX (p.n * q.n))) ∧ Below w.heap.size w w' := by
  obtain ⟨u, hu⟩ : ∃ u, chkX (p.n * q.n) = u := ⟨_, rfl⟩
  rw [hu]
  have HU := hide hu
  clear hu
  obtain ⟨hlt, c0, c1, c2⟩ := h0
  obtain ⟨-, d0, d1, d2⟩ := h1
  have hpa : p.n.natAbs < 18446744073709551616 := by omega
  have hqa : q.n.natAbs < 18446744073709551616 := by omega
  have HP := hide hp; have HQ := hide hq; have HPA := hide hpa; have HQA := hide hqa
  clear hp hq hpa hqa
  have hm' : (0 : Int) < m := by omega
  have hm2 : (1 : Int) < m := by omega
  obtain ⟨W, hW⟩ : ∃ W, w.alloc (.cells #[.int .i64 0, .int .i64 0, .string ⟨#[]⟩] 25) = W := ⟨_, rfl⟩
  have hb : Below w.heap.size w W := by rw [← hW]; exact (Below.refl _ _).alloc (Nat.le_refl _) _
  have bR : Blk W w.heap.size 25 [.int .i64 0, .int .i64 0, .string ⟨#[]⟩] := by rw [← hW]; exact Blk.new w 25 #[.int .i64 0, .int .i64 0, .string ⟨#[]⟩]
  have HB := hide hb; have HR := hide bR
  clear hb bR
  have HW := hide hW
  clear hW
  go_enter Tryz.func64, Tryz.ntmps64
  go_wp2_with fail
  go_region
  go_wp2_with fail
  try rw [unhide HW]
  clear HW
  obtain ⟨V, hV⟩ : ∃ V, W.drew = V := ⟨_, rfl⟩
  have hbV : Below W.heap.size W V := by rw [← hV]; exact (Below.refl _ _).drew
  rw [hV]
  clear hV
  have HB := hide ((unhide HB).trans (hbV.mono (unhide HB).size)); have HR := hide ((unhide HR).mono hbV (unhide HR).lt)
  clear hbV
  refine (magnitude_any p.n V (unhide HP)).mono ?_
  rintro e w0 ⟨rfl, hw0⟩
  rw [hw0]
  clear hw0 w0
  go_wp2_with fail
  refine (magnitude_any q.n V (unhide HQ)).mono ?_
  rintro e w0 ⟨rfl, hw0⟩
  rw [hw0]
  clear hw0 w0
  go_wp2_with fail
  refine (Tryz.bits_Mul64 p.n.natAbs q.n.natAbs (unhide HPA) (unhide HQA) V).mono ?_
  rintro e w0 ⟨rfl, hw0⟩
  rw [hw0]
  clear hw0 w0
  obtain ⟨hi, hhi⟩ : ∃ hi, p.n.natAbs * q.n.natAbs / 18446744073709551616 = hi := ⟨_, rfl⟩
  obtain ⟨lo, hlo⟩ : ∃ lo, p.n.natAbs * q.n.natAbs % 18446744073709551616 = lo := ⟨_, rfl⟩
  rw [hhi, hlo]
  have HHI := hide hhi; have HLO := hide hlo
  clear hhi hlo
  by_cases hz : hi = 0
  · have hz' : ((hi : Int) == 0) = true := beq_iff_eq.2 (by omega)
    have hlt9 : lo < 18446744073709551616 := by have := unhide HLO; omega
    have hpr : lo = p.n.natAbs * q.n.natAbs := by have h1 := unhide HLO; have h2 := unhide HHI; omega
    have HS : Hid (chkX (if (decide (p.n < 0) != decide (q.n < 0)) then -(lo : Int) else (lo : Int)) = u) := hide (by rw [hpr, mul_abs]; exact unhide HU)
    have HL := hide hlt9
    clear hz hlt9 hpr
    go_wp2_with fail
    refine (signedValue_any lo (decide (p.n < 0) != decide (q.n < 0)) V (unhide HL)).mono ?_
    rw [unhide HS]
    rintro e w1 ⟨rfl, hb⟩
    have HR1 := hide ((unhide HR).mono hb (unhide HR).lt); have HB1 := hide ((unhide HB).trans (hb.mono (unhide HB).size))
    clear hb
    obtain ⟨r0, r1, r2⟩ := three (unhide HR1)
    have f0 := (unhide HR1).free 0; have f1 := (unhide HR1).free 1; have f2 := (unhide HR1).free 2
    unfold vv
    go_wp2
    exact bodyPost_ret (v := .agg #[.int .i64 u.k, .int .i64 u.n, .string u.s]) (by simp [results, Tryz.results64, go_sem, *]) rfl ⟨rfl, vx_out (unhide HB1) _ _ _⟩
  · have hz' : ((hi : Int) == 0) = false := beq_eq_false_iff_ne.2 (by omega)
    have hE : u = errX 2 := by rw [← unhide HU]; exact mul_big (by have := unhide HHI; omega)
    have HE := hide hE
    clear hz hE
    go_wp2_with fail
    refine (errValue_any 2 V).mono ?_
    rintro e w1 ⟨rfl, hb⟩
    have HR1 := hide ((unhide HR).mono hb (unhide HR).lt); have HB1 := hide ((unhide HB).trans (hb.mono (unhide HB).size))
    clear hb
    obtain ⟨r0, r1, r2⟩ := three (unhide HR1)
    have f0 := (unhide HR1).free 0; have f1 := (unhide HR1).free 1; have f2 := (unhide HR1).free 2
    unfold vv errX
    go_wp2
    exact bodyPost_ret (v := .agg #[.int .i64 4, .int .i64 2, .string ⟨#[]⟩]) (by simp [results, Tryz.results64, go_sem, *]) rfl ⟨by rw [unhide HE]; rfl, vx_out (unhide HB1) _ _ _⟩
end Go.Proofs.YtnmpkdmflijhpaaGreatDoor
