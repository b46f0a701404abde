import Derived.Test.YtnmpkdmflijhpaaGreatDoorM1
import Derived.Test.YtnmpkdmflijhpaaGreatDoorHand
import Derived.Test.YtnmpkdmflijhpaaGreatDoorBnd
/- The program's sums and differences. -/
namespace Go.Proofs.YtnmpkdmflijhpaaGreatDoor
open Go Go.RowKit

theorem add_fits {x y : Int} (h1 : -9223372036854775808 ≤ x ∧ x ≤ 9223372036854775807) (h2 : -9223372036854775808 ≤ y ∧ y ≤ 9223372036854775807) :
    (if (decide (x ≤ wrap64 (x + y)) == decide (0 ≤ y)) then intX (wrap64 (x + y)) else errX 2) = chkX (x + y) := by
  unfold chkX fitsB
  by_cases hs : -9223372036854775808 ≤ x + y ∧ x + y ≤ 9223372036854775807
  · rw [wrap64_small hs.1 hs.2, if_pos (by rw [beq_iff_eq]; exact decide_eq_decide.2 (by omega)), if_pos (decide_eq_true hs)]
  · rw [if_neg (by rw [beq_iff_eq, decide_eq_decide]; unfold wrap64; omega), if_neg (by simpa using hs)]
theorem sub_fits {x y : Int} (h1 : -9223372036854775808 ≤ x ∧ x ≤ 9223372036854775807) (h2 : -9223372036854775808 ≤ y ∧ y ≤ 9223372036854775807) :
    (if (decide (wrap64 (x - y) ≤ x) == decide (0 ≤ y)) then intX (wrap64 (x - y)) else errX 2) = chkX (x - y) := by
  unfold chkX fitsB
  by_cases hs : -9223372036854775808 ≤ x - y ∧ x - y ≤ 9223372036854775807
  · rw [wrap64_small hs.1 hs.2, if_pos (by rw [beq_iff_eq]; exact decide_eq_decide.2 (by omega)), if_pos (decide_eq_true hs)]
  · rw [if_neg (by rw [beq_iff_eq, decide_eq_decide]; unfold wrap64; omega), if_neg (by simpa using hs)]

set_option maxRecDepth 100000 in
set_option maxHeartbeats 4000000 in
theorem addInts_any (b o m c : Nat) (p q : Vx) (w : World) (hm : 2 ≤ m) (hp : -9223372036854775808 ≤ p.n ∧ p.n ≤ 9223372036854775807) (hq : -9223372036854775808 ≤ q.n ∧ q.n ≤ 9223372036854775807) (h0 : Cel w b o p) (h1 : Cel w b (o + 3) q) : Calls Tryz.prog 67 #[.slice (some ⟨b, o, none⟩) m c] w fun e w' => e = .returned (vv (chkX (p.n + q.n))) ∧ Below w.heap.size w w' := by
  obtain ⟨hlt, c0, c1, c2⟩ := h0
  obtain ⟨-, d0, d1, d2⟩ := h1
  have HP := hide hp; have HQ := hide hq
  clear hp hq
  have hm' : (0 : Int) < m := by omega
  have hm2 : (1 : Int) < m := by omega
  obtain ⟨W, hW⟩ : ∃ W, w.alloc (.cells #[.int .i64 0, .int .i64 0, .string ⟨#[]⟩] 25) = W := ⟨_, rfl⟩
  have hb : Below w.heap.size w W := by rw [← hW]; exact (Below.refl _ _).alloc (Nat.le_refl _) _
  have bR : Blk W w.heap.size 25 [.int .i64 0, .int .i64 0, .string ⟨#[]⟩] := by rw [← hW]; exact Blk.new w 25 #[.int .i64 0, .int .i64 0, .string ⟨#[]⟩]
  have HB := hide hb; have HR := hide bR
  clear hb bR
  have HW := hide hW
  clear hW
  go_enter Tryz.func67, Tryz.ntmps67
  go_wp2_with fail
  go_region
  go_wp2_with fail
  try rw [unhide HW]
  clear HW
  obtain ⟨V, hV⟩ : ∃ V, W.drew = V := ⟨_, rfl⟩
  have hbV : Below W.heap.size W V := by rw [← hV]; exact (Below.refl _ _).drew
  rw [hV]
  clear hV
  have HB := hide ((unhide HB).trans (hbV.mono (unhide HB).size)); have HR := hide ((unhide HR).mono hbV (unhide HR).lt)
  clear hbV
  refine (exactValue_any (wrap64 (p.n + q.n)) (decide (p.n ≤ wrap64 (p.n + q.n)) == decide (0 ≤ q.n)) V).mono ?_
  rw [show (if (decide (p.n ≤ wrap64 (p.n + q.n)) == decide (0 ≤ q.n)) then intX (wrap64 (p.n + q.n)) else errX 2) = chkX (p.n + q.n) from add_fits (unhide HP) (unhide HQ)]
  rintro e w1 ⟨rfl, hb⟩
  have HR1 := hide ((unhide HR).mono hb (unhide HR).lt); have HB1 := hide ((unhide HB).trans (hb.mono (unhide HB).size))
  clear hb
  obtain ⟨r0, r1, r2⟩ := three (unhide HR1)
  have f0 := (unhide HR1).free 0; have f1 := (unhide HR1).free 1; have f2 := (unhide HR1).free 2
  obtain ⟨u, hu⟩ : ∃ u, chkX (p.n + q.n) = u := ⟨_, rfl⟩
  have HU := hide hu
  rw [hu]
  clear hu
  unfold vv
  go_wp2
  exact bodyPost_ret (v := .agg #[.int .i64 u.k, .int .i64 u.n, .string u.s]) (by simp [results, Tryz.results67, go_sem, *]) rfl ⟨by rw [unhide HU]; rfl, vx_out (unhide HB1) _ _ _⟩

set_option maxRecDepth 100000 in
set_option maxHeartbeats 4000000 in
theorem subtractInts_any (b o m c : Nat) (p q : Vx) (w : World) (hm : 2 ≤ m) (hp : -9223372036854775808 ≤ p.n ∧ p.n ≤ 9223372036854775807) (hq : -9223372036854775808 ≤ q.n ∧ q.n ≤ 9223372036854775807) (h0 : Cel w b o p) (h1 : Cel w b (o + 3) q) : Calls Tryz.prog 68 #[.slice (some ⟨b, o, none⟩) m c] w fun e w' => e = .returned (vv (chkX (p.n - q.n))) ∧ Below w.heap.size w w' := by
  obtain ⟨hlt, c0, c1, c2⟩ := h0
  obtain ⟨-, d0, d1, d2⟩ := h1
  have HP := hide hp; have HQ := hide hq
  clear hp hq
  have hm' : (0 : Int) < m := by omega
  have hm2 : (1 : Int) < m := by omega
  obtain ⟨W, hW⟩ : ∃ W, w.alloc (.cells #[.int .i64 0, .int .i64 0, .string ⟨#[]⟩] 25) = W := ⟨_, rfl⟩
  have hb : Below w.heap.size w W := by rw [← hW]; exact (Below.refl _ _).alloc (Nat.le_refl _) _
  have bR : Blk W w.heap.size 25 [.int .i64 0, .int .i64 0, .string ⟨#[]⟩] := by rw [← hW]; exact Blk.new w 25 #[.int .i64 0, .int .i64 0, .string ⟨#[]⟩]
  have HB := hide hb; have HR := hide bR
  clear hb bR
  have HW := hide hW
  clear hW
  go_enter Tryz.func68, Tryz.ntmps68
  go_wp2_with fail
  go_region
  go_wp2_with fail
  try rw [unhide HW]
  clear HW
  obtain ⟨V, hV⟩ : ∃ V, W.drew = V := ⟨_, rfl⟩
  have hbV : Below W.heap.size W V := by rw [← hV]; exact (Below.refl _ _).drew
  rw [hV]
  clear hV
  have HB := hide ((unhide HB).trans (hbV.mono (unhide HB).size)); have HR := hide ((unhide HR).mono hbV (unhide HR).lt)
  clear hbV
  refine (exactValue_any (wrap64 (p.n - q.n)) (decide (wrap64 (p.n - q.n) ≤ p.n) == decide (0 ≤ q.n)) V).mono ?_
  rw [show (if (decide (wrap64 (p.n - q.n) ≤ p.n) == decide (0 ≤ q.n)) then intX (wrap64 (p.n - q.n)) else errX 2) = chkX (p.n - q.n) from sub_fits (unhide HP) (unhide HQ)]
  rintro e w1 ⟨rfl, hb⟩
  have HR1 := hide ((unhide HR).mono hb (unhide HR).lt); have HB1 := hide ((unhide HB).trans (hb.mono (unhide HB).size))
  clear hb
  obtain ⟨r0, r1, r2⟩ := three (unhide HR1)
  have f0 := (unhide HR1).free 0; have f1 := (unhide HR1).free 1; have f2 := (unhide HR1).free 2
  obtain ⟨u, hu⟩ : ∃ u, chkX (p.n - q.n) = u := ⟨_, rfl⟩
  have HU := hide hu
  rw [hu]
  clear hu
  unfold vv
  go_wp2
  exact bodyPost_ret (v := .agg #[.int .i64 u.k, .int .i64 u.n, .string u.s]) (by simp [results, Tryz.results68, go_sem, *]) rfl ⟨by rw [unhide HU]; rfl, vx_out (unhide HB1) _ _ _⟩
end Go.Proofs.YtnmpkdmflijhpaaGreatDoor

/- The program's smaller and greater of two. -/
namespace Go.Proofs.YtnmpkdmflijhpaaGreatDoor
open Go Go.RowKit

set_option maxRecDepth 100000 in
set_option maxHeartbeats 8000000 in
theorem smallerInt_any (b o m c : Nat) (p q : Vx) (w : World) (hm : 2 ≤ m) (h0 : Cel w b o p) (h1 : Cel w b (o + 3) q) : Calls Tryz.prog 82 #[.slice (some ⟨b, o, none⟩) m c] w fun e w' => e = .returned (vv (intX (if p.n < q.n then p.n else q.n))) ∧ Below w.heap.size w w' := by
  have hm' : (0 : Int) < m := by omega
  have hm0 : ¬ m = 0 := by omega
  obtain ⟨u, hu⟩ : ∃ u, intX (if p.n < q.n then p.n else q.n) = u := ⟨_, rfl⟩
  rw [hu]
  have HU := hide hu
  clear hu
  have hm2 : (1 : Int) < m := by omega
  obtain ⟨W0, hW0⟩ : ∃ W0, w.alloc (.cells #[.int .i64 0, .int .i64 0, .string ⟨#[]⟩] 25) = W0 := ⟨_, rfl⟩
  have hb0 : Below w.heap.size w W0 := by rw [← hW0]; exact (Below.refl _ _).alloc (Nat.le_refl _) _
  have bR : Blk W0 w.heap.size 25 [.int .i64 0, .int .i64 0, .string ⟨#[]⟩] := by rw [← hW0]; exact Blk.new w 25 #[.int .i64 0, .int .i64 0, .string ⟨#[]⟩]
  have HC0 := hide (h0.mono hb0)
  obtain ⟨-, a0, a1, a2⟩ := h0.mono hb0
  have HC1 := hide (h1.mono hb0)
  obtain ⟨-, b0, b1, b2⟩ := h1.mono hb0
  have HR2 := hide bR; have HW2 := hide hb0
  have hblt : b < w.heap.size := h0.1
  clear hb0 bR h0 h1
  go_enter Tryz.func82, Tryz.ntmps82
  go_wp2_with fail
  try rw [hW0]
  clear hW0
  refine wp_region_held_drew (S := fun w' => w'.cell? ⟨b, o + 1, none⟩ = some (.int .i64 p.n) ∧ w'.cell? ⟨b, o + 3 + 1, none⟩ = some (.int .i64 q.n)) (by kernel_rfl) ⟨a1, b1⟩ (fun hHeld => ?_)
  clear a0 a1 a2 b0 b1 b2
  refine takeY (i := 0) (v := .slice (some ⟨b, o, none⟩) m c) 3 rfl rfl (by kernel_rfl) (by kernel_rfl) (by kernel_rfl) (fun _ _ _ _ h => h) (by rfl) (fun w hS => by obtain ⟨q0, q1⟩ := hS; simp [execOp, go_sem, *]) hHeld ?_
  simp only [List.setIfInBounds_toArray, List.set_cons_zero, List.set_cons_succ]
  refine takeY (i := 1) (v := .pointer (some ⟨b, o, none⟩)) 4 rfl rfl (by kernel_rfl) (by kernel_rfl) (by kernel_rfl) (fun _ _ _ _ h => h) (by rfl) (fun w hS => by obtain ⟨q0, q1⟩ := hS; simp [execOp, go_sem, *]) hHeld ?_
  simp only [List.setIfInBounds_toArray, List.set_cons_zero, List.set_cons_succ]
  refine takeY (i := 2) (v := .pointer (some ⟨b, o + 1, none⟩)) 5 rfl rfl (by kernel_rfl) (by kernel_rfl) (by kernel_rfl) (fun _ _ _ _ h => h) (by rfl) (fun w hS => by obtain ⟨q0, q1⟩ := hS; simp [execOp, go_sem, *]) hHeld ?_
  simp only [List.setIfInBounds_toArray, List.set_cons_zero, List.set_cons_succ]
  refine takeY (i := 3) (v := .int .i64 p.n) 6 rfl rfl (by kernel_rfl) (by kernel_rfl) (by kernel_rfl) (fun _ _ _ _ h => h) (by rfl) (fun w hS => by obtain ⟨q0, q1⟩ := hS; simp [execOp, go_sem, *]) hHeld ?_
  simp only [List.setIfInBounds_toArray, List.set_cons_zero, List.set_cons_succ]
  refine takeY (i := 4) (v := .slice (some ⟨b, o, none⟩) m c) 7 rfl rfl (by kernel_rfl) (by kernel_rfl) (by kernel_rfl) (fun _ _ _ _ h => h) (by rfl) (fun w hS => by obtain ⟨q0, q1⟩ := hS; simp [execOp, go_sem, *]) hHeld ?_
  simp only [List.setIfInBounds_toArray, List.set_cons_zero, List.set_cons_succ]
  refine takeY (i := 5) (v := .pointer (some ⟨b, o + 3, none⟩)) 8 rfl rfl (by kernel_rfl) (by kernel_rfl) (by kernel_rfl) (fun _ _ _ _ h => h) (by rfl) (fun w hS => by obtain ⟨q0, q1⟩ := hS; simp [execOp, go_sem, *]) hHeld ?_
  simp only [List.setIfInBounds_toArray, List.set_cons_zero, List.set_cons_succ]
  refine takeY (i := 6) (v := .pointer (some ⟨b, o + 3 + 1, none⟩)) 9 rfl rfl (by kernel_rfl) (by kernel_rfl) (by kernel_rfl) (fun _ _ _ _ h => h) (by rfl) (fun w hS => by obtain ⟨q0, q1⟩ := hS; simp [execOp, go_sem, *]) hHeld ?_
  simp only [List.setIfInBounds_toArray, List.set_cons_zero, List.set_cons_succ]
  refine takeY (i := 7) (v := .int .i64 q.n) 10 rfl rfl (by kernel_rfl) (by kernel_rfl) (by kernel_rfl) (fun _ _ _ _ h => h) (by rfl) (fun w hS => by obtain ⟨q0, q1⟩ := hS; simp [execOp, go_sem, *]) hHeld ?_
  simp only [List.setIfInBounds_toArray, List.set_cons_zero, List.set_cons_succ]
  refine takeY (i := 8) (v := .int .i64 (if q.n < p.n then q.n else p.n)) 11 rfl rfl (by kernel_rfl) (by kernel_rfl) (by kernel_rfl) (fun _ _ _ _ h => h) (by rfl) (fun w hS => by obtain ⟨q0, q1⟩ := hS; simp [execOp, go_sem, *]) hHeld ?_
  simp only [List.setIfInBounds_toArray, List.set_cons_zero, List.set_cons_succ]
  obtain ⟨y, hy⟩ : ∃ y, (if q.n < p.n then q.n else p.n) = y := ⟨_, rfl⟩
  rw [hy]
  have HY := hide hy
  clear hy
  refine callY (i := 9) (f := 99) (args := #[.int .i64 y]) (R := fun r wz => r = vv (intX y) ∧ Below W0.heap.size W0 wz) 12 rfl rfl (by rfl) (by kernel_rfl) ?hrun9 ((intValue_any y _).mono fun e w6 ⟨he, hb⟩ => ⟨_, he, rfl, below_of_drew hb⟩) ?_
  case hrun9 => simp [execOp, go_sem]
  rintro r3 w3 ⟨rfl, hb⟩
  have HR3 := hide ((unhide HR2).mono hb (unhide HR2).lt); have HW3 := hide ((unhide HW2).trans (hb.mono (unhide HW2).size))
  have hc0 := (unhide HC0).mono hb; have hc1 := (unhide HC1).mono hb
  clear hb
  refine ⟨⟨hc0.2.2.1, hc1.2.2.1⟩, ?_⟩
  simp only [List.setIfInBounds_toArray, List.set_cons_zero, List.set_cons_succ]
  obtain ⟨z, hz⟩ : ∃ z, intX y = z := ⟨_, rfl⟩
  have HZ : Hid (u = z) := hide (by
    rw [← unhide HU, ← hz]
    rw [← unhide HY]; congr 1; split <;> split <;> omega)
  rw [hz]
  clear hz
  unfold vv
  obtain ⟨r0, r1, r2⟩ := three (unhide HR3)
  have f0 := (unhide HR3).free 0; have f1 := (unhide HR3).free 1; have f2 := (unhide HR3).free 2
  have nb : b ≠ w.heap.size := fun e => by omega
  have far : ∀ (w' : World) (j i : Nat) (u : Value), (w'.setCell ⟨w.heap.size, j, none⟩ u).cell? ⟨b, i, none⟩ = w'.cell? ⟨b, i, none⟩ := fun w' j i u => World.cell?_of_block (w := w') (heap_setCell_other w' ⟨w.heap.size, j, none⟩ b u nb)
  refine storeY (i := 10) (w' := ((w3.setCell ⟨w.heap.size, 0, none⟩ (.int .i64 z.k)).setCell ⟨w.heap.size, 1, none⟩ (.int .i64 z.n)).setCell ⟨w.heap.size, 2, none⟩ (.string z.s)) rfl (by rfl) (by kernel_rfl) rfl ?hrunS rfl ⟨by rw [far, far, far]; exact hc0.2.2.1, by rw [far, far, far]; exact hc1.2.2.1⟩ ?_
  case hrunS => simp [execOp, go_sem, r0, r1, r2, f0, f1, f2]
  refine wpAnyH_done (by kernel_rfl) ?_ _
  obtain ⟨W9, hW9⟩ : ∃ W9, ((w3.setCell ⟨w.heap.size, 0, none⟩ (.int .i64 z.k)).setCell ⟨w.heap.size, 1, none⟩ (.int .i64 z.n)).setCell ⟨w.heap.size, 2, none⟩ (.string z.s) = W9 := ⟨_, rfl⟩
  have bR9 := ((((unhide HR3).set 0 (.int .i64 z.k)).set 1 (.int .i64 z.n)).set 2 (.string z.s))
  have HB9 := hide (vx_out (unhide HW3) (.int .i64 z.k) (.int .i64 z.n) (.string z.s))
  rw [hW9] at bR9 HB9 ⊢
  obtain ⟨k0, k1, k2⟩ := three bR9
  clear hW9 bR9 r0 r1 r2 f0 f1 f2 far hc0 hc1
  go_wp2
  exact bodyPost_ret (v := .agg #[.int .i64 z.k, .int .i64 z.n, .string z.s]) (by simp [results, Tryz.results82, go_sem, *]) rfl ⟨by rw [unhide HZ]; rfl, unhide HB9⟩

set_option maxRecDepth 100000 in
set_option maxHeartbeats 8000000 in
theorem largerInt_any (b o m c : Nat) (p q : Vx) (w : World) (hm : 2 ≤ m) (h0 : Cel w b o p) (h1 : Cel w b (o + 3) q) : Calls Tryz.prog 83 #[.slice (some ⟨b, o, none⟩) m c] w fun e w' => e = .returned (vv (intX (if p.n < q.n then q.n else p.n))) ∧ Below w.heap.size w w' := by
  have hm' : (0 : Int) < m := by omega
  have hm0 : ¬ m = 0 := by omega
  obtain ⟨u, hu⟩ : ∃ u, intX (if p.n < q.n then q.n else p.n) = u := ⟨_, rfl⟩
  rw [hu]
  have HU := hide hu
  clear hu
  have hm2 : (1 : Int) < m := by omega
  obtain ⟨W0, hW0⟩ : ∃ W0, w.alloc (.cells #[.int .i64 0, .int .i64 0, .string ⟨#[]⟩] 25) = W0 := ⟨_, rfl⟩
  have hb0 : Below w.heap.size w W0 := by rw [← hW0]; exact (Below.refl _ _).alloc (Nat.le_refl _) _
  have bR : Blk W0 w.heap.size 25 [.int .i64 0, .int .i64 0, .string ⟨#[]⟩] := by rw [← hW0]; exact Blk.new w 25 #[.int .i64 0, .int .i64 0, .string ⟨#[]⟩]
  have HC0 := hide (h0.mono hb0)
  obtain ⟨-, a0, a1, a2⟩ := h0.mono hb0
  have HC1 := hide (h1.mono hb0)
  obtain ⟨-, b0, b1, b2⟩ := h1.mono hb0
  have HR2 := hide bR; have HW2 := hide hb0
  have hblt : b < w.heap.size := h0.1
  clear hb0 bR h0 h1
  go_enter Tryz.func83, Tryz.ntmps83
  go_wp2_with fail
  try rw [hW0]
  clear hW0
  refine wp_region_held_drew (S := fun w' => w'.cell? ⟨b, o + 1, none⟩ = some (.int .i64 p.n) ∧ w'.cell? ⟨b, o + 3 + 1, none⟩ = some (.int .i64 q.n)) (by kernel_rfl) ⟨a1, b1⟩ (fun hHeld => ?_)
  clear a0 a1 a2 b0 b1 b2
  refine takeY (i := 0) (v := .slice (some ⟨b, o, none⟩) m c) 3 rfl rfl (by kernel_rfl) (by kernel_rfl) (by kernel_rfl) (fun _ _ _ _ h => h) (by rfl) (fun w hS => by obtain ⟨q0, q1⟩ := hS; simp [execOp, go_sem, *]) hHeld ?_
  simp only [List.setIfInBounds_toArray, List.set_cons_zero, List.set_cons_succ]
  refine takeY (i := 1) (v := .pointer (some ⟨b, o, none⟩)) 4 rfl rfl (by kernel_rfl) (by kernel_rfl) (by kernel_rfl) (fun _ _ _ _ h => h) (by rfl) (fun w hS => by obtain ⟨q0, q1⟩ := hS; simp [execOp, go_sem, *]) hHeld ?_
  simp only [List.setIfInBounds_toArray, List.set_cons_zero, List.set_cons_succ]
  refine takeY (i := 2) (v := .pointer (some ⟨b, o + 1, none⟩)) 5 rfl rfl (by kernel_rfl) (by kernel_rfl) (by kernel_rfl) (fun _ _ _ _ h => h) (by rfl) (fun w hS => by obtain ⟨q0, q1⟩ := hS; simp [execOp, go_sem, *]) hHeld ?_
  simp only [List.setIfInBounds_toArray, List.set_cons_zero, List.set_cons_succ]
  refine takeY (i := 3) (v := .int .i64 p.n) 6 rfl rfl (by kernel_rfl) (by kernel_rfl) (by kernel_rfl) (fun _ _ _ _ h => h) (by rfl) (fun w hS => by obtain ⟨q0, q1⟩ := hS; simp [execOp, go_sem, *]) hHeld ?_
  simp only [List.setIfInBounds_toArray, List.set_cons_zero, List.set_cons_succ]
  refine takeY (i := 4) (v := .slice (some ⟨b, o, none⟩) m c) 7 rfl rfl (by kernel_rfl) (by kernel_rfl) (by kernel_rfl) (fun _ _ _ _ h => h) (by rfl) (fun w hS => by obtain ⟨q0, q1⟩ := hS; simp [execOp, go_sem, *]) hHeld ?_
  simp only [List.setIfInBounds_toArray, List.set_cons_zero, List.set_cons_succ]
  refine takeY (i := 5) (v := .pointer (some ⟨b, o + 3, none⟩)) 8 rfl rfl (by kernel_rfl) (by kernel_rfl) (by kernel_rfl) (fun _ _ _ _ h => h) (by rfl) (fun w hS => by obtain ⟨q0, q1⟩ := hS; simp [execOp, go_sem, *]) hHeld ?_
  simp only [List.setIfInBounds_toArray, List.set_cons_zero, List.set_cons_succ]
  refine takeY (i := 6) (v := .pointer (some ⟨b, o + 3 + 1, none⟩)) 9 rfl rfl (by kernel_rfl) (by kernel_rfl) (by kernel_rfl) (fun _ _ _ _ h => h) (by rfl) (fun w hS => by obtain ⟨q0, q1⟩ := hS; simp [execOp, go_sem, *]) hHeld ?_
  simp only [List.setIfInBounds_toArray, List.set_cons_zero, List.set_cons_succ]
  refine takeY (i := 7) (v := .int .i64 q.n) 10 rfl rfl (by kernel_rfl) (by kernel_rfl) (by kernel_rfl) (fun _ _ _ _ h => h) (by rfl) (fun w hS => by obtain ⟨q0, q1⟩ := hS; simp [execOp, go_sem, *]) hHeld ?_
  simp only [List.setIfInBounds_toArray, List.set_cons_zero, List.set_cons_succ]
  refine takeY (i := 8) (v := .int .i64 (if p.n < q.n then q.n else p.n)) 11 rfl rfl (by kernel_rfl) (by kernel_rfl) (by kernel_rfl) (fun _ _ _ _ h => h) (by rfl) (fun w hS => by obtain ⟨q0, q1⟩ := hS; simp [execOp, go_sem, *]) hHeld ?_
  simp only [List.setIfInBounds_toArray, List.set_cons_zero, List.set_cons_succ]
  obtain ⟨y, hy⟩ : ∃ y, (if p.n < q.n then q.n else p.n) = y := ⟨_, rfl⟩
  rw [hy]
  have HY := hide hy
  clear hy
  refine callY (i := 9) (f := 99) (args := #[.int .i64 y]) (R := fun r wz => r = vv (intX y) ∧ Below W0.heap.size W0 wz) 12 rfl rfl (by rfl) (by kernel_rfl) ?hrun9 ((intValue_any y _).mono fun e w6 ⟨he, hb⟩ => ⟨_, he, rfl, below_of_drew hb⟩) ?_
  case hrun9 => simp [execOp, go_sem]
  rintro r3 w3 ⟨rfl, hb⟩
  have HR3 := hide ((unhide HR2).mono hb (unhide HR2).lt); have HW3 := hide ((unhide HW2).trans (hb.mono (unhide HW2).size))
  have hc0 := (unhide HC0).mono hb; have hc1 := (unhide HC1).mono hb
  clear hb
  refine ⟨⟨hc0.2.2.1, hc1.2.2.1⟩, ?_⟩
  simp only [List.setIfInBounds_toArray, List.set_cons_zero, List.set_cons_succ]
  obtain ⟨z, hz⟩ : ∃ z, intX y = z := ⟨_, rfl⟩
  have HZ : Hid (u = z) := hide (by
    rw [← unhide HU, ← hz]
    rw [← unhide HY])
  rw [hz]
  clear hz
  unfold vv
  obtain ⟨r0, r1, r2⟩ := three (unhide HR3)
  have f0 := (unhide HR3).free 0; have f1 := (unhide HR3).free 1; have f2 := (unhide HR3).free 2
  have nb : b ≠ w.heap.size := fun e => by omega
  have far : ∀ (w' : World) (j i : Nat) (u : Value), (w'.setCell ⟨w.heap.size, j, none⟩ u).cell? ⟨b, i, none⟩ = w'.cell? ⟨b, i, none⟩ := fun w' j i u => World.cell?_of_block (w := w') (heap_setCell_other w' ⟨w.heap.size, j, none⟩ b u nb)
  refine storeY (i := 10) (w' := ((w3.setCell ⟨w.heap.size, 0, none⟩ (.int .i64 z.k)).setCell ⟨w.heap.size, 1, none⟩ (.int .i64 z.n)).setCell ⟨w.heap.size, 2, none⟩ (.string z.s)) rfl (by rfl) (by kernel_rfl) rfl ?hrunS rfl ⟨by rw [far, far, far]; exact hc0.2.2.1, by rw [far, far, far]; exact hc1.2.2.1⟩ ?_
  case hrunS => simp [execOp, go_sem, r0, r1, r2, f0, f1, f2]
  refine wpAnyH_done (by kernel_rfl) ?_ _
  obtain ⟨W9, hW9⟩ : ∃ W9, ((w3.setCell ⟨w.heap.size, 0, none⟩ (.int .i64 z.k)).setCell ⟨w.heap.size, 1, none⟩ (.int .i64 z.n)).setCell ⟨w.heap.size, 2, none⟩ (.string z.s) = W9 := ⟨_, rfl⟩
  have bR9 := ((((unhide HR3).set 0 (.int .i64 z.k)).set 1 (.int .i64 z.n)).set 2 (.string z.s))
  have HB9 := hide (vx_out (unhide HW3) (.int .i64 z.k) (.int .i64 z.n) (.string z.s))
  rw [hW9] at bR9 HB9 ⊢
  obtain ⟨k0, k1, k2⟩ := three bR9
  clear hW9 bR9 r0 r1 r2 f0 f1 f2 far hc0 hc1
  go_wp2
  exact bodyPost_ret (v := .agg #[.int .i64 z.k, .int .i64 z.n, .string z.s]) (by simp [results, Tryz.results83, go_sem, *]) rfl ⟨by rw [unhide HZ]; rfl, unhide HB9⟩

end Go.Proofs.YtnmpkdmflijhpaaGreatDoor

/- The program's negation. -/
namespace Go.Proofs.YtnmpkdmflijhpaaGreatDoor
open Go Go.RowKit

theorem neg_abs (x : Int) : (if decide (0 ≤ x) then -(x.natAbs : Int) else (x.natAbs : Int)) = -x := by
  by_cases h : 0 ≤ x
  · rw [if_pos (decide_eq_true h)]; omega
  · rw [if_neg (by simpa using h)]; omega

set_option maxRecDepth 100000 in
set_option maxHeartbeats 8000000 in
theorem negateInt_any (b o m c : Nat) (p : Vx) (w : World) (hm : 1 ≤ m) (hp : -9223372036854775808 ≤ p.n ∧ p.n ≤ 9223372036854775807) (h0 : Cel w b o p) : Calls Tryz.prog 61 #[.slice (some ⟨b, o, none⟩) m c] w fun e w' => e = .returned (vv (chkX (-p.n))) ∧ Below w.heap.size w w' := by
  have hm' : (0 : Int) < m := by omega
  have hm0 : ¬ m = 0 := by omega
  obtain ⟨u, hu⟩ : ∃ u, chkX (-p.n) = u := ⟨_, rfl⟩
  rw [hu]
  have HU := hide hu
  clear hu
  have hlt : p.n.natAbs < 18446744073709551616 := by omega
  have HP := hide hp; have HL := hide hlt
  clear hp hlt
  obtain ⟨W0, hW0⟩ : ∃ W0, w.alloc (.cells #[.int .i64 0, .int .i64 0, .string ⟨#[]⟩] 25) = W0 := ⟨_, rfl⟩
  have hb0 : Below w.heap.size w W0 := by rw [← hW0]; exact (Below.refl _ _).alloc (Nat.le_refl _) _
  have bR : Blk W0 w.heap.size 25 [.int .i64 0, .int .i64 0, .string ⟨#[]⟩] := by rw [← hW0]; exact Blk.new w 25 #[.int .i64 0, .int .i64 0, .string ⟨#[]⟩]
  have HC0 := hide (h0.mono hb0)
  obtain ⟨-, a0, a1, a2⟩ := h0.mono hb0
  have HR2 := hide bR; have HW2 := hide hb0
  have hblt : b < w.heap.size := h0.1
  clear hb0 bR h0
  go_enter Tryz.func61, Tryz.ntmps61
  go_wp2_with fail
  try rw [hW0]
  clear hW0
  refine wp_region_held_drew (S := fun w' => w'.cell? ⟨b, o + 1, none⟩ = some (.int .i64 p.n)) (by kernel_rfl) a1 (fun hHeld => ?_)
  clear a0 a1 a2
  refine takeY (i := 0) (v := .slice (some ⟨b, o, none⟩) m c) 3 rfl rfl (by kernel_rfl) (by kernel_rfl) (by kernel_rfl) (fun _ _ _ _ h => h) (by rfl) (fun w hS => by have q0 := hS; simp [execOp, go_sem, *]) hHeld ?_
  simp only [List.setIfInBounds_toArray, List.set_cons_zero, List.set_cons_succ]
  refine takeY (i := 1) (v := .pointer (some ⟨b, o, none⟩)) 4 rfl rfl (by kernel_rfl) (by kernel_rfl) (by kernel_rfl) (fun _ _ _ _ h => h) (by rfl) (fun w hS => by have q0 := hS; simp [execOp, go_sem, *]) hHeld ?_
  simp only [List.setIfInBounds_toArray, List.set_cons_zero, List.set_cons_succ]
  refine takeY (i := 2) (v := .pointer (some ⟨b, o + 1, none⟩)) 5 rfl rfl (by kernel_rfl) (by kernel_rfl) (by kernel_rfl) (fun _ _ _ _ h => h) (by rfl) (fun w hS => by have q0 := hS; simp [execOp, go_sem, *]) hHeld ?_
  simp only [List.setIfInBounds_toArray, List.set_cons_zero, List.set_cons_succ]
  refine takeY (i := 3) (v := .int .i64 p.n) 6 rfl rfl (by kernel_rfl) (by kernel_rfl) (by kernel_rfl) (fun _ _ _ _ h => h) (by rfl) (fun w hS => by have q0 := hS; simp [execOp, go_sem, *]) hHeld ?_
  simp only [List.setIfInBounds_toArray, List.set_cons_zero, List.set_cons_succ]
  refine takeY (i := 5) (v := .slice (some ⟨b, o, none⟩) m c) 8 rfl rfl (by kernel_rfl) (by kernel_rfl) (by kernel_rfl) (fun _ _ _ _ h => h) (by rfl) (fun w hS => by have q0 := hS; simp [execOp, go_sem, *]) hHeld ?_
  simp only [List.setIfInBounds_toArray, List.set_cons_zero, List.set_cons_succ]
  refine takeY (i := 6) (v := .pointer (some ⟨b, o, none⟩)) 9 rfl rfl (by kernel_rfl) (by kernel_rfl) (by kernel_rfl) (fun _ _ _ _ h => h) (by rfl) (fun w hS => by have q0 := hS; simp [execOp, go_sem, *]) hHeld ?_
  simp only [List.setIfInBounds_toArray, List.set_cons_zero, List.set_cons_succ]
  refine takeY (i := 7) (v := .pointer (some ⟨b, o + 1, none⟩)) 10 rfl rfl (by kernel_rfl) (by kernel_rfl) (by kernel_rfl) (fun _ _ _ _ h => h) (by rfl) (fun w hS => by have q0 := hS; simp [execOp, go_sem, *]) hHeld ?_
  simp only [List.setIfInBounds_toArray, List.set_cons_zero, List.set_cons_succ]
  refine takeY (i := 8) (v := .int .i64 p.n) 11 rfl rfl (by kernel_rfl) (by kernel_rfl) (by kernel_rfl) (fun _ _ _ _ h => h) (by rfl) (fun w hS => by have q0 := hS; simp [execOp, go_sem, *]) hHeld ?_
  simp only [List.setIfInBounds_toArray, List.set_cons_zero, List.set_cons_succ]
  refine takeY (i := 9) (v := .bool (decide (0 ≤ p.n))) 12 rfl rfl (by kernel_rfl) (by kernel_rfl) (by kernel_rfl) (fun _ _ _ _ h => h) (by rfl) (fun w hS => by have q0 := hS; simp [execOp, go_sem, *]) hHeld ?_
  simp only [List.setIfInBounds_toArray, List.set_cons_zero, List.set_cons_succ]
  refine callY (i := 4) (f := 96) (args := #[.int .i64 p.n]) (R := fun r wz => r = .int .u64 (p.n.natAbs : Int) ∧ Below W0.heap.size W0 wz) 7 rfl rfl (by rfl) (by kernel_rfl) ?hrun4 ((magnitude_any p.n _ (unhide HP)).mono fun e w6 ⟨he, hb⟩ => ⟨_, he, rfl, below_of_drew (by rw [hb]; exact Below.refl _ _)⟩) ?_
  case hrun4 => simp [execOp, go_sem]
  rintro r3 w3 ⟨rfl, hb⟩
  have HR3 := hide ((unhide HR2).mono hb (unhide HR2).lt); have HW3 := hide ((unhide HW2).trans (hb.mono (unhide HW2).size))
  have hc0 := (unhide HC0).mono hb
  clear hb
  refine ⟨hc0.2.2.1, ?_⟩
  simp only [List.setIfInBounds_toArray, List.set_cons_zero, List.set_cons_succ]
  refine callY (i := 10) (f := 95) (args := #[.int .u64 (p.n.natAbs : Int), .bool (decide (0 ≤ p.n))]) (R := fun r wz => r = vv (chkX (if decide (0 ≤ p.n) then -(p.n.natAbs : Int) else (p.n.natAbs : Int))) ∧ Below w3.heap.size w3 wz) 13 rfl rfl (by rfl) (by kernel_rfl) ?hrun10 ((signedValue_any p.n.natAbs (decide (0 ≤ p.n)) w3 (unhide HL)).mono fun e w6 ⟨he, hb⟩ => ⟨_, he, rfl, hb⟩) ?_
  case hrun10 => simp [execOp, go_sem]
  rintro r4 w4 ⟨rfl, hb⟩
  have HR4 := hide ((unhide HR3).mono hb (unhide HR3).lt); have HW4 := hide ((unhide HW3).trans (hb.mono (unhide HW3).size))
  replace hc0 := hc0.mono hb
  clear hb
  refine ⟨hc0.2.2.1, ?_⟩
  simp only [List.setIfInBounds_toArray, List.set_cons_zero, List.set_cons_succ]
  obtain ⟨z, hz⟩ : ∃ z, chkX (if decide (0 ≤ p.n) then -(p.n.natAbs : Int) else (p.n.natAbs : Int)) = z := ⟨_, rfl⟩
  have HZ : Hid (u = z) := hide (by
    rw [← unhide HU, ← hz]
    rw [neg_abs])
  rw [hz]
  clear hz
  unfold vv
  obtain ⟨r0, r1, r2⟩ := three (unhide HR4)
  have f0 := (unhide HR4).free 0; have f1 := (unhide HR4).free 1; have f2 := (unhide HR4).free 2
  have nb : b ≠ w.heap.size := fun e => by omega
  have far : ∀ (w' : World) (j i : Nat) (u : Value), (w'.setCell ⟨w.heap.size, j, none⟩ u).cell? ⟨b, i, none⟩ = w'.cell? ⟨b, i, none⟩ := fun w' j i u => World.cell?_of_block (w := w') (heap_setCell_other w' ⟨w.heap.size, j, none⟩ b u nb)
  refine storeY (i := 11) (w' := ((w4.setCell ⟨w.heap.size, 0, none⟩ (.int .i64 z.k)).setCell ⟨w.heap.size, 1, none⟩ (.int .i64 z.n)).setCell ⟨w.heap.size, 2, none⟩ (.string z.s)) rfl (by rfl) (by kernel_rfl) rfl ?hrunS rfl (by rw [far, far, far]; exact hc0.2.2.1) ?_
  case hrunS => simp [execOp, go_sem, r0, r1, r2, f0, f1, f2]
  refine wpAnyH_done (by kernel_rfl) ?_ _
  obtain ⟨W9, hW9⟩ : ∃ W9, ((w4.setCell ⟨w.heap.size, 0, none⟩ (.int .i64 z.k)).setCell ⟨w.heap.size, 1, none⟩ (.int .i64 z.n)).setCell ⟨w.heap.size, 2, none⟩ (.string z.s) = W9 := ⟨_, rfl⟩
  have bR9 := ((((unhide HR4).set 0 (.int .i64 z.k)).set 1 (.int .i64 z.n)).set 2 (.string z.s))
  have HB9 := hide (vx_out (unhide HW4) (.int .i64 z.k) (.int .i64 z.n) (.string z.s))
  rw [hW9] at bR9 HB9 ⊢
  obtain ⟨k0, k1, k2⟩ := three bR9
  clear hW9 bR9 r0 r1 r2 f0 f1 f2 far hc0
  go_wp2
  exact bodyPost_ret (v := .agg #[.int .i64 z.k, .int .i64 z.n, .string z.s]) (by simp [results, Tryz.results61, go_sem, *]) rfl ⟨by rw [unhide HZ]; rfl, unhide HB9⟩

end Go.Proofs.YtnmpkdmflijhpaaGreatDoor

/- The program's joining of texts. -/
namespace Go.Proofs.YtnmpkdmflijhpaaGreatDoor
open Go Go.RowKit

set_option maxRecDepth 100000 in
set_option maxHeartbeats 8000000 in
theorem joinTexts_any (b o m c : Nat) (p q : Vx) (w : World) (hm : 2 ≤ m) (hs : p.s.size ≤ 1000 ∧ q.s.size ≤ 1000) (h0 : Cel w b o p) (h1 : Cel w b (o + 3) q) : Calls Tryz.prog 70 #[.slice (some ⟨b, o, none⟩) m c] w fun e w' => e = .returned (vv (if 1000 < p.s.size + q.s.size then errX 4 else textX (p.s ++ q.s))) ∧ Below w.heap.size w w' := by
  have hm' : (0 : Int) < m := by omega
  have hm0 : ¬ m = 0 := by omega
  obtain ⟨u, hu⟩ : ∃ u, (if 1000 < p.s.size + q.s.size then errX 4 else textX (p.s ++ q.s)) = u := ⟨_, rfl⟩
  rw [hu]
  have HU := hide hu
  clear hu
  have hm2 : (1 : Int) < m := by omega
  obtain ⟨hs1, hs2⟩ := hs
  obtain ⟨W0, hW0⟩ : ∃ W0, w.alloc (.cells #[.int .i64 0, .int .i64 0, .string ⟨#[]⟩] 25) = W0 := ⟨_, rfl⟩
  have hb0 : Below w.heap.size w W0 := by rw [← hW0]; exact (Below.refl _ _).alloc (Nat.le_refl _) _
  have bR : Blk W0 w.heap.size 25 [.int .i64 0, .int .i64 0, .string ⟨#[]⟩] := by rw [← hW0]; exact Blk.new w 25 #[.int .i64 0, .int .i64 0, .string ⟨#[]⟩]
  have HC0 := hide (h0.mono hb0)
  obtain ⟨-, a0, a1, a2⟩ := h0.mono hb0
  have HC1 := hide (h1.mono hb0)
  obtain ⟨-, b0, b1, b2⟩ := h1.mono hb0
  have HR2 := hide bR; have HW2 := hide hb0
  have hblt : b < w.heap.size := h0.1
  clear hb0 bR h0 h1
  by_cases hl : 1000 < p.s.size + q.s.size
  · have hl' : (1000 : Int) < (p.s.size : Int) + (q.s.size : Int) := by omega
    have HE : Hid (u = errX 4) := hide (by rw [← unhide HU, if_pos hl])
    have hw6 : wrap64 ((p.s.size : Int) + (q.s.size : Int)) = (p.s.size : Int) + (q.s.size : Int) := wrap64_small (by omega) (by omega)
    have HWR := hide hW0
    clear hl hW0
    go_enter Tryz.func70, Tryz.ntmps70
    go_wp2_with fail
    try rw [unhide HWR]
    clear HWR
    go_region
    go_wp2_with fail
    obtain ⟨V, hV⟩ : ∃ V, W0.drew = V := ⟨_, rfl⟩
    have hbV : Below W0.heap.size W0 V := by rw [← hV]; exact (Below.refl _ _).drew
    rw [hV]
    clear hV
    replace HW2 := hide ((unhide HW2).trans (hbV.mono (unhide HW2).size)); replace HR2 := hide ((unhide HR2).mono hbV (unhide HR2).lt)
    clear hbV
    refine (errValue_any 4 V).mono ?_
    rintro e w1 ⟨rfl, hb⟩
    have HR1 := hide ((unhide HR2).mono hb (unhide HR2).lt); have HB1 := hide ((unhide HW2).trans (hb.mono (unhide HW2).size))
    clear hb
    obtain ⟨r0, r1, r2⟩ := three (unhide HR1)
    have f0 := (unhide HR1).free 0; have f1 := (unhide HR1).free 1; have f2 := (unhide HR1).free 2
    clear a0 a1 a2 b0 b1 b2
    unfold vv errX
    go_wp2
    exact bodyPost_ret (v := .agg #[.int .i64 4, .int .i64 4, .string ⟨#[]⟩]) (by simp [results, Tryz.results70, go_sem, *]) rfl ⟨by rw [unhide HE]; rfl, vx_out (unhide HB1) _ _ _⟩
  have hl' : (p.s.size : Int) + (q.s.size : Int) ≤ 1000 := by omega
  have hl2 : ¬ (1000 : Int) < (p.s.size : Int) + (q.s.size : Int) := by omega
  replace HU := hide ((if_neg hl).symm.trans (unhide HU))
  have hl9 : p.s.size + q.s.size ≤ 9223372036854775807 := by omega
  have hw6 : wrap64 ((p.s.size : Int) + (q.s.size : Int)) = (p.s.size : Int) + (q.s.size : Int) := wrap64_small (by omega) (by omega)
  clear hl
  have HWR := hide hW0
  clear hW0
  go_enter Tryz.func70, Tryz.ntmps70
  go_wp2_with fail
  try rw [unhide HWR]
  clear HWR
  go_region
  go_wp2_with fail
  obtain ⟨V, hV⟩ : ∃ V, W0.drew = V := ⟨_, rfl⟩
  have hbV : Below W0.heap.size W0 V := by rw [← hV]; exact (Below.refl _ _).drew
  rw [hV]
  clear hV
  replace HW2 := hide ((unhide HW2).trans (hbV.mono (unhide HW2).size)); replace HR2 := hide ((unhide HR2).mono hbV (unhide HR2).lt)
  replace HC0 := hide ((unhide HC0).mono hbV); replace HC1 := hide ((unhide HC1).mono hbV)
  clear hbV a0 a1 a2 b0 b1 b2
  obtain ⟨-, a0, a1, a2⟩ := unhide HC0
  obtain ⟨-, b0, b1, b2⟩ := unhide HC1
  refine wp_region_held_drew (S := fun w' => w'.cell? ⟨b, o + 2, none⟩ = some (.string p.s) ∧ w'.cell? ⟨b, o + 3 + 2, none⟩ = some (.string q.s)) (by kernel_rfl) ⟨a2, b2⟩ (fun hHeld => ?_)
  clear a0 a1 a2 b0 b1 b2
  refine takeY (i := 0) (v := .slice (some ⟨b, o, none⟩) m c) 16 rfl rfl (by kernel_rfl) (by kernel_rfl) (by kernel_rfl) (fun _ _ _ _ h => h) (by rfl) (fun w hS => by obtain ⟨q0, q1⟩ := hS; simp [execOp, go_sem, *]) hHeld ?_
  simp only [List.setIfInBounds_toArray, List.set_cons_zero, List.set_cons_succ]
  refine takeY (i := 1) (v := .pointer (some ⟨b, o, none⟩)) 17 rfl rfl (by kernel_rfl) (by kernel_rfl) (by kernel_rfl) (fun _ _ _ _ h => h) (by rfl) (fun w hS => by obtain ⟨q0, q1⟩ := hS; simp [execOp, go_sem, *]) hHeld ?_
  simp only [List.setIfInBounds_toArray, List.set_cons_zero, List.set_cons_succ]
  refine takeY (i := 2) (v := .pointer (some ⟨b, o + 2, none⟩)) 18 rfl rfl (by kernel_rfl) (by kernel_rfl) (by kernel_rfl) (fun _ _ _ _ h => h) (by rfl) (fun w hS => by obtain ⟨q0, q1⟩ := hS; simp [execOp, go_sem, *]) hHeld ?_
  simp only [List.setIfInBounds_toArray, List.set_cons_zero, List.set_cons_succ]
  refine takeY (i := 3) (v := .string p.s) 19 rfl rfl (by kernel_rfl) (by kernel_rfl) (by kernel_rfl) (fun _ _ _ _ h => h) (by rfl) (fun w hS => by obtain ⟨q0, q1⟩ := hS; simp [execOp, go_sem, *]) hHeld ?_
  simp only [List.setIfInBounds_toArray, List.set_cons_zero, List.set_cons_succ]
  refine takeY (i := 4) (v := .slice (some ⟨b, o, none⟩) m c) 20 rfl rfl (by kernel_rfl) (by kernel_rfl) (by kernel_rfl) (fun _ _ _ _ h => h) (by rfl) (fun w hS => by obtain ⟨q0, q1⟩ := hS; simp [execOp, go_sem, *]) hHeld ?_
  simp only [List.setIfInBounds_toArray, List.set_cons_zero, List.set_cons_succ]
  refine takeY (i := 5) (v := .pointer (some ⟨b, o + 3, none⟩)) 21 rfl rfl (by kernel_rfl) (by kernel_rfl) (by kernel_rfl) (fun _ _ _ _ h => h) (by rfl) (fun w hS => by obtain ⟨q0, q1⟩ := hS; simp [execOp, go_sem, *]) hHeld ?_
  simp only [List.setIfInBounds_toArray, List.set_cons_zero, List.set_cons_succ]
  refine takeY (i := 6) (v := .pointer (some ⟨b, o + 3 + 2, none⟩)) 22 rfl rfl (by kernel_rfl) (by kernel_rfl) (by kernel_rfl) (fun _ _ _ _ h => h) (by rfl) (fun w hS => by obtain ⟨q0, q1⟩ := hS; simp [execOp, go_sem, *]) hHeld ?_
  simp only [List.setIfInBounds_toArray, List.set_cons_zero, List.set_cons_succ]
  refine takeY (i := 7) (v := .string q.s) 23 rfl rfl (by kernel_rfl) (by kernel_rfl) (by kernel_rfl) (fun _ _ _ _ h => h) (by rfl) (fun w hS => by obtain ⟨q0, q1⟩ := hS; simp [execOp, go_sem, *]) hHeld ?_
  simp only [List.setIfInBounds_toArray, List.set_cons_zero, List.set_cons_succ]
  refine takeY (i := 8) (v := .string (p.s ++ q.s)) 24 rfl rfl (by kernel_rfl) (by kernel_rfl) (by kernel_rfl) (fun _ _ _ _ h => h) (by rfl) (fun w hS => by obtain ⟨q0, q1⟩ := hS; simp [execOp, go_sem, *]) hHeld ?_
  simp only [List.setIfInBounds_toArray, List.set_cons_zero, List.set_cons_succ]
  refine callY (i := 9) (f := 101) (args := #[.string (p.s ++ q.s)]) (R := fun r wz => r = vv (textX (p.s ++ q.s)) ∧ Below V.heap.size V wz) 25 rfl rfl (by rfl) (by kernel_rfl) ?hrun9 ((textValue_any (p.s ++ q.s) _).mono fun e w6 ⟨he, hb⟩ => ⟨_, he, rfl, below_of_drew hb⟩) ?_
  case hrun9 => simp [execOp, go_sem]
  rintro r3 w3 ⟨rfl, hb⟩
  have HR3 := hide ((unhide HR2).mono hb (unhide HR2).lt); have HW3 := hide ((unhide HW2).trans (hb.mono (unhide HW2).size))
  have hc0 := (unhide HC0).mono hb; have hc1 := (unhide HC1).mono hb
  clear hb
  refine ⟨⟨hc0.2.2.2, hc1.2.2.2⟩, ?_⟩
  simp only [List.setIfInBounds_toArray, List.set_cons_zero, List.set_cons_succ]
  obtain ⟨z, hz⟩ : ∃ z, textX (p.s ++ q.s) = z := ⟨_, rfl⟩
  have HZ : Hid (u = z) := hide (by
    rw [← unhide HU, ← hz]
    skip)
  rw [hz]
  clear hz
  unfold vv
  obtain ⟨r0, r1, r2⟩ := three (unhide HR3)
  have f0 := (unhide HR3).free 0; have f1 := (unhide HR3).free 1; have f2 := (unhide HR3).free 2
  have nb : b ≠ w.heap.size := fun e => by omega
  have far : ∀ (w' : World) (j i : Nat) (u : Value), (w'.setCell ⟨w.heap.size, j, none⟩ u).cell? ⟨b, i, none⟩ = w'.cell? ⟨b, i, none⟩ := fun w' j i u => World.cell?_of_block (w := w') (heap_setCell_other w' ⟨w.heap.size, j, none⟩ b u nb)
  refine storeY (i := 10) (w' := ((w3.setCell ⟨w.heap.size, 0, none⟩ (.int .i64 z.k)).setCell ⟨w.heap.size, 1, none⟩ (.int .i64 z.n)).setCell ⟨w.heap.size, 2, none⟩ (.string z.s)) rfl (by rfl) (by kernel_rfl) rfl ?hrunS rfl ⟨by rw [far, far, far]; exact hc0.2.2.2, by rw [far, far, far]; exact hc1.2.2.2⟩ ?_
  case hrunS => simp [execOp, go_sem, r0, r1, r2, f0, f1, f2]
  refine wpAnyH_done (by kernel_rfl) ?_ _
  obtain ⟨W9, hW9⟩ : ∃ W9, ((w3.setCell ⟨w.heap.size, 0, none⟩ (.int .i64 z.k)).setCell ⟨w.heap.size, 1, none⟩ (.int .i64 z.n)).setCell ⟨w.heap.size, 2, none⟩ (.string z.s) = W9 := ⟨_, rfl⟩
  have bR9 := ((((unhide HR3).set 0 (.int .i64 z.k)).set 1 (.int .i64 z.n)).set 2 (.string z.s))
  have HB9 := hide (vx_out (unhide HW3) (.int .i64 z.k) (.int .i64 z.n) (.string z.s))
  rw [hW9] at bR9 HB9 ⊢
  obtain ⟨k0, k1, k2⟩ := three bR9
  clear hW9 bR9 r0 r1 r2 f0 f1 f2 far hc0 hc1
  go_wp2
  exact bodyPost_ret (v := .agg #[.int .i64 z.k, .int .i64 z.n, .string z.s]) (by simp [results, Tryz.results70, go_sem, *]) rfl ⟨by rw [unhide HZ]; rfl, unhide HB9⟩

end Go.Proofs.YtnmpkdmflijhpaaGreatDoor

/- The program's quotients and remainders. -/
namespace Go.Proofs.YtnmpkdmflijhpaaGreatDoor
open Go Go.RowKit

theorem quo_sign {x y : Int} (hy : y ≠ 0) : (if (decide (x < 0) != decide (y < 0)) then -((x.natAbs / y.natAbs : Nat) : Int) else ((x.natAbs / y.natAbs : Nat) : Int)) = x.tdiv y := by
  have key : ∀ a b : Nat, b ≠ 0 → (Int.tdiv (a : Int) b = ((a / b : Nat) : Int)) := fun a b _ => (Int.ofNat_tdiv a b).symm
  obtain ⟨a, ha⟩ : ∃ a : Nat, x.natAbs = a := ⟨_, rfl⟩
  obtain ⟨d, hd⟩ : ∃ d : Nat, y.natAbs = d := ⟨_, rfl⟩
  have hd0 : d ≠ 0 := by omega
  rw [ha, hd]
  have z0 : a = 0 → a / d = 0 := fun e => by rw [e]; exact Nat.zero_div _
  rcases Int.natAbs_eq x with hx | hx <;> rcases Int.natAbs_eq y with hy' | hy' <;> rw [ha] at hx <;> rw [hd] at hy' <;> rw [hx, hy']
  · rw [key a d hd0, decide_eq_false (by omega), decide_eq_false (by omega)]; rfl
  · rw [Int.tdiv_neg, key a d hd0, decide_eq_false (by omega), decide_eq_true (by omega)]; rfl
  · rw [Int.neg_tdiv, key a d hd0]
    by_cases h0 : a = 0
    · rw [z0 h0]; simp
    · rw [decide_eq_true (by omega), decide_eq_false (by omega)]; rfl
  · rw [Int.tdiv_neg, Int.neg_tdiv, key a d hd0, Int.neg_neg]
    by_cases h0 : a = 0
    · rw [z0 h0]; simp
    · rw [decide_eq_true (by omega), decide_eq_true (by omega)]; rfl

set_option maxRecDepth 100000 in
set_option maxHeartbeats 4000000 in
theorem remainderOfInts_any (b o m c : Nat) (p q : Vx) (w : World) (hm : 2 ≤ m) (hp : -9223372036854775808 ≤ p.n ∧ p.n ≤ 9223372036854775807) (hq : -9223372036854775808 ≤ q.n ∧ q.n ≤ 9223372036854775807) (h0 : Cel w b o p) (h1 : Cel w b (o + 3) q) : Calls Tryz.prog 66 #[.slice (some ⟨b, o, none⟩) m c] w fun e w' => e = .returned (vv (if q.n = 0 then errX 3 else intX (p.n.tmod q.n))) ∧ Below w.heap.size w w' := by
  obtain ⟨hlt, c0, c1, c2⟩ := h0
  obtain ⟨-, d0, d1, d2⟩ := h1
  have HP := hide hp; have HQ := hide hq
  clear hp hq
  have hm' : (0 : Int) < m := by omega
  have hm2 : (1 : Int) < m := by omega
  obtain ⟨W, hW⟩ : ∃ W, w.alloc (.cells #[.int .i64 0, .int .i64 0, .string ⟨#[]⟩] 25) = W := ⟨_, rfl⟩
  have hb : Below w.heap.size w W := by rw [← hW]; exact (Below.refl _ _).alloc (Nat.le_refl _) _
  have bR : Blk W w.heap.size 25 [.int .i64 0, .int .i64 0, .string ⟨#[]⟩] := by rw [← hW]; exact Blk.new w 25 #[.int .i64 0, .int .i64 0, .string ⟨#[]⟩]
  have HB := hide hb; have HR := hide bR
  clear hb bR
  have HW := hide hW
  clear hW
  by_cases hz : q.n = 0
  · rw [if_pos hz]
    have hz' : (q.n == 0) = true := beq_iff_eq.2 hz
    clear hz
    go_enter Tryz.func66, Tryz.ntmps66
    go_wp2_with fail
    go_region
    go_wp2_with fail
    try rw [unhide HW]
    clear HW
    obtain ⟨V, hV⟩ : ∃ V, W.drew = V := ⟨_, rfl⟩
    have hbV : Below W.heap.size W V := by rw [← hV]; exact (Below.refl _ _).drew
    rw [hV]
    clear hV
    have HB := hide ((unhide HB).trans (hbV.mono (unhide HB).size)); have HR := hide ((unhide HR).mono hbV (unhide HR).lt)
    clear hbV
    refine (errValue_any 3 V).mono ?_
    rintro e w1 ⟨rfl, hb⟩
    have HR1 := hide ((unhide HR).mono hb (unhide HR).lt); have HB1 := hide ((unhide HB).trans (hb.mono (unhide HB).size))
    clear hb
    obtain ⟨r0, r1, r2⟩ := three (unhide HR1)
    have f0 := (unhide HR1).free 0; have f1 := (unhide HR1).free 1; have f2 := (unhide HR1).free 2
    unfold vv errX
    go_wp2
    exact bodyPost_ret (v := .agg #[.int .i64 4, .int .i64 3, .string ⟨#[]⟩]) (by simp [results, Tryz.results66, go_sem, *]) rfl ⟨rfl, vx_out (unhide HB1) _ _ _⟩
  · rw [if_neg hz]
    have hz' : (q.n == 0) = false := beq_eq_false_iff_ne.2 hz
    have hmd : wrap64 (p.n.tmod q.n) = p.n.tmod q.n := by
      have h1 : (p.n.tmod q.n).natAbs = p.n.natAbs % q.n.natAbs := Int.natAbs_tmod p.n q.n
      have h2 := unhide HQ
      have h3 : p.n.natAbs % q.n.natAbs < q.n.natAbs := Nat.mod_lt _ (by omega)
      exact wrap64_small (by omega) (by omega)
    go_enter Tryz.func66, Tryz.ntmps66
    go_wp2_with fail
    go_region
    go_wp2_with fail
    try rw [unhide HW]
    clear HW
    obtain ⟨V, hV⟩ : ∃ V, W.drew = V := ⟨_, rfl⟩
    have hbV : Below W.heap.size W V := by rw [← hV]; exact (Below.refl _ _).drew
    rw [hV]
    clear hV
    have HB := hide ((unhide HB).trans (hbV.mono (unhide HB).size)); have HR := hide ((unhide HR).mono hbV (unhide HR).lt)
    clear hbV
    refine (intValue_any (p.n.tmod q.n) V).mono ?_
    rintro e w1 ⟨rfl, hb⟩
    have HR1 := hide ((unhide HR).mono hb (unhide HR).lt); have HB1 := hide ((unhide HB).trans (hb.mono (unhide HB).size))
    clear hb
    obtain ⟨r0, r1, r2⟩ := three (unhide HR1)
    have f0 := (unhide HR1).free 0; have f1 := (unhide HR1).free 1; have f2 := (unhide HR1).free 2
    go_wp2
    exact bodyPost_ret (v := .agg #[.int .i64 1, .int .i64 (p.n.tmod q.n), .string ⟨#[]⟩]) (by simp [results, Tryz.results66, go_sem, *]) rfl ⟨rfl, vx_out (unhide HB1) _ _ _⟩
end Go.Proofs.YtnmpkdmflijhpaaGreatDoor

/- The program's quotients. -/
namespace Go.Proofs.YtnmpkdmflijhpaaGreatDoor
open Go Go.RowKit

theorem wrapU {x : Nat} (h : x < 18446744073709551616) : IntKind.u64.wrap (x : Int) = (x : Int) := by
  simp only [IntKind.wrap, IntKind.bits, IntKind.signed]
  simp
  omega
theorem wrapU_div {x y : Nat} (h : x / y < 18446744073709551616) : IntKind.u64.wrap ((x : Int) / (y : Int)) = ((x / y : Nat) : Int) := by
  rw [← Int.natCast_ediv]
  exact wrapU h

set_option maxRecDepth 100000 in
set_option maxHeartbeats 4000000 in
theorem divideInts_any (b o m c : Nat) (p q : Vx) (w : World) (hm : 2 ≤ m) (hp : -9223372036854775808 ≤ p.n ∧ p.n ≤ 9223372036854775807) (hq : -9223372036854775808 ≤ q.n ∧ q.n ≤ 9223372036854775807) (h0 : Cel w b o p) (h1 : Cel w b (o + 3) q) : Calls Tryz.prog 65 #[.slice (some ⟨b, o, none⟩) m c] w fun e w' => e = .returned (vv (if q.n = 0 then errX 3 else chkX (p.n.tdiv q.n))) ∧ Below w.heap.size w w' := by
  obtain ⟨hlt, c0, c1, c2⟩ := h0
  obtain ⟨-, d0, d1, d2⟩ := h1
  have HP := hide hp; have HQ := hide hq
  clear hp hq
  have hm' : (0 : Int) < m := by omega
  have hm2 : (1 : Int) < m := by omega
  obtain ⟨W, hW⟩ : ∃ W, w.alloc (.cells #[.int .i64 0, .int .i64 0, .string ⟨#[]⟩] 25) = W := ⟨_, rfl⟩
  have hb : Below w.heap.size w W := by rw [← hW]; exact (Below.refl _ _).alloc (Nat.le_refl _) _
  have bR : Blk W w.heap.size 25 [.int .i64 0, .int .i64 0, .string ⟨#[]⟩] := by rw [← hW]; exact Blk.new w 25 #[.int .i64 0, .int .i64 0, .string ⟨#[]⟩]
  have HB := hide hb; have HR := hide bR
  clear hb bR
  have HW := hide hW
  clear hW
  by_cases hz : q.n = 0
  · rw [if_pos hz]
    have hz' : (q.n == 0) = true := beq_iff_eq.2 hz
    clear hz
    go_enter Tryz.func65, Tryz.ntmps65
    go_wp2_with fail
    go_region
    go_wp2_with fail
    try rw [unhide HW]
    clear HW
    obtain ⟨V, hV⟩ : ∃ V, W.drew = V := ⟨_, rfl⟩
    have hbV : Below W.heap.size W V := by rw [← hV]; exact (Below.refl _ _).drew
    rw [hV]
    clear hV
    have HB := hide ((unhide HB).trans (hbV.mono (unhide HB).size)); have HR := hide ((unhide HR).mono hbV (unhide HR).lt)
    clear hbV
    refine (errValue_any 3 V).mono ?_
    rintro e w1 ⟨rfl, hb⟩
    have HR1 := hide ((unhide HR).mono hb (unhide HR).lt); have HB1 := hide ((unhide HB).trans (hb.mono (unhide HB).size))
    clear hb
    obtain ⟨r0, r1, r2⟩ := three (unhide HR1)
    have f0 := (unhide HR1).free 0; have f1 := (unhide HR1).free 1; have f2 := (unhide HR1).free 2
    unfold vv errX
    go_wp2
    exact bodyPost_ret (v := .agg #[.int .i64 4, .int .i64 3, .string ⟨#[]⟩]) (by simp [results, Tryz.results65, go_sem, *]) rfl ⟨rfl, vx_out (unhide HB1) _ _ _⟩
  · rw [if_neg hz]
    have hz' : (q.n == 0) = false := beq_eq_false_iff_ne.2 hz
    have hza : ((q.n.natAbs : Int) == 0) = false := beq_eq_false_iff_ne.2 (by omega)
    have HS := hide (quo_sign (x := p.n) hz)
    have hle : p.n.natAbs / q.n.natAbs ≤ p.n.natAbs := Nat.div_le_self _ _
    have hlt2 : p.n.natAbs / q.n.natAbs < 18446744073709551616 := by have := unhide HP; omega
    have HL := hide hlt2
    clear hle hlt2
    go_enter Tryz.func65, Tryz.ntmps65
    go_wp2_with fail
    go_region
    go_wp2_with fail
    try rw [unhide HW]
    clear HW
    obtain ⟨V, hV⟩ : ∃ V, W.drew = V := ⟨_, rfl⟩
    have hbV : Below W.heap.size W V := by rw [← hV]; exact (Below.refl _ _).drew
    rw [hV]
    clear hV
    have HB := hide ((unhide HB).trans (hbV.mono (unhide HB).size)); have HR := hide ((unhide HR).mono hbV (unhide HR).lt)
    clear hbV
    refine (magnitude_any p.n V (unhide HP)).mono ?_
    rintro e w0 ⟨rfl, hw0⟩
    rw [hw0]
    clear hw0 w0
    go_wp2_with fail
    refine (magnitude_any q.n V (unhide HQ)).mono ?_
    rintro e w0 ⟨rfl, hw0⟩
    rw [hw0]
    clear hw0 w0
    go_wp2_with fail
    rw [wrapU_div (unhide HL)]
    refine (signedValue_any (p.n.natAbs / q.n.natAbs) (decide (p.n < 0) != decide (q.n < 0)) V (unhide HL)).mono ?_
    rw [unhide HS]
    rintro e w1 ⟨rfl, hb⟩
    have HR1 := hide ((unhide HR).mono hb (unhide HR).lt); have HB1 := hide ((unhide HB).trans (hb.mono (unhide HB).size))
    clear hb
    obtain ⟨r0, r1, r2⟩ := three (unhide HR1)
    have f0 := (unhide HR1).free 0; have f1 := (unhide HR1).free 1; have f2 := (unhide HR1).free 2
    obtain ⟨u, hu⟩ : ∃ u, chkX (p.n.tdiv q.n) = u := ⟨_, rfl⟩
    have HU := hide hu
    rw [hu]
    clear hu
    unfold vv
    go_wp2
    exact bodyPost_ret (v := .agg #[.int .i64 u.k, .int .i64 u.n, .string u.s]) (by simp [results, Tryz.results65, go_sem, *]) rfl ⟨by rw [unhide HU]; rfl, vx_out (unhide HB1) _ _ _⟩
end Go.Proofs.YtnmpkdmflijhpaaGreatDoor

/- The program's operators of one argument that ask for nothing but its fields; and the choice of the first that is not blank. -/
namespace Go.Proofs.YtnmpkdmflijhpaaGreatDoor
open Go Go.RowKit

set_option maxRecDepth 100000 in
theorem turnBool_any (b o m c : Nat) (p : Vx) (w : World) (hm : 1 ≤ m) (h0 : Cel w b o p) : Calls Tryz.prog 63 #[.slice (some ⟨b, o, none⟩) m c] w fun e w' => e = .returned (vv (boolX (p.n == 0))) ∧ Below w.heap.size w w' := by
  obtain ⟨hlt, c0, c1, c2⟩ := h0
  have hm' : (0 : Int) < m := by omega
  obtain ⟨W, hW⟩ : ∃ W, w.alloc (.cells #[.int .i64 0, .int .i64 0, .string ⟨#[]⟩] 25) = W := ⟨_, rfl⟩
  have hb : Below w.heap.size w W := by rw [← hW]; exact (Below.refl _ _).alloc (Nat.le_refl _) _
  have bR : Blk W w.heap.size 25 [.int .i64 0, .int .i64 0, .string ⟨#[]⟩] := by rw [← hW]; exact Blk.new w 25 #[.int .i64 0, .int .i64 0, .string ⟨#[]⟩]
  have HB := hide hb; have HR := hide bR
  clear hb bR
  have HW := hide hW
  clear hW
  go_enter Tryz.func63, Tryz.ntmps63
  go_wp2_with fail
  try rw [unhide HW]
  clear HW
  refine (boolValue_any (p.n == 0) W).mono ?_
  rintro e w1 ⟨rfl, hb⟩
  have HR1 := hide ((unhide HR).mono hb (unhide HR).lt); have HB1 := hide ((unhide HB).trans (hb.mono (unhide HB).size))
  clear hb
  obtain ⟨r0, r1, r2⟩ := three (unhide HR1)
  have f0 := (unhide HR1).free 0; have f1 := (unhide HR1).free 1; have f2 := (unhide HR1).free 2
  obtain ⟨z, hz⟩ : ∃ z : Int, (if (p.n == 0) then (1 : Int) else 0) = z := ⟨_, rfl⟩
  have HZ := hide hz
  rw [hz]
  clear hz
  go_wp2
  exact bodyPost_ret (v := .agg #[.int .i64 2, .int .i64 z, .string ⟨#[]⟩]) (by simp [results, Tryz.results63, go_sem, *]) rfl ⟨by rw [← unhide HZ]; rfl, vx_out (unhide HB1) _ _ _⟩

set_option maxRecDepth 100000 in
theorem isBlank_any (b o m c : Nat) (p : Vx) (w : World) (hm : 1 ≤ m) (h0 : Cel w b o p) : Calls Tryz.prog 90 #[.slice (some ⟨b, o, none⟩) m c] w fun e w' => e = .returned (vv (boolX (p.k == 0))) ∧ Below w.heap.size w w' := by
  obtain ⟨hlt, c0, c1, c2⟩ := h0
  have hm' : (0 : Int) < m := by omega
  obtain ⟨W, hW⟩ : ∃ W, w.alloc (.cells #[.int .i64 0, .int .i64 0, .string ⟨#[]⟩] 25) = W := ⟨_, rfl⟩
  have hb : Below w.heap.size w W := by rw [← hW]; exact (Below.refl _ _).alloc (Nat.le_refl _) _
  have bR : Blk W w.heap.size 25 [.int .i64 0, .int .i64 0, .string ⟨#[]⟩] := by rw [← hW]; exact Blk.new w 25 #[.int .i64 0, .int .i64 0, .string ⟨#[]⟩]
  have HB := hide hb; have HR := hide bR
  clear hb bR
  have HW := hide hW
  clear hW
  go_enter Tryz.func90, Tryz.ntmps90
  go_wp2_with fail
  try rw [unhide HW]
  clear HW
  refine (boolValue_any (p.k == 0) W).mono ?_
  rintro e w1 ⟨rfl, hb⟩
  have HR1 := hide ((unhide HR).mono hb (unhide HR).lt); have HB1 := hide ((unhide HB).trans (hb.mono (unhide HB).size))
  clear hb
  obtain ⟨r0, r1, r2⟩ := three (unhide HR1)
  have f0 := (unhide HR1).free 0; have f1 := (unhide HR1).free 1; have f2 := (unhide HR1).free 2
  obtain ⟨z, hz⟩ : ∃ z : Int, (if (p.k == 0) then (1 : Int) else 0) = z := ⟨_, rfl⟩
  have HZ := hide hz
  rw [hz]
  clear hz
  go_wp2
  exact bodyPost_ret (v := .agg #[.int .i64 2, .int .i64 z, .string ⟨#[]⟩]) (by simp [results, Tryz.results90, go_sem, *]) rfl ⟨by rw [← unhide HZ]; rfl, vx_out (unhide HB1) _ _ _⟩

set_option maxRecDepth 100000 in
theorem isError_any (b o m c : Nat) (p : Vx) (w : World) (hm : 1 ≤ m) (h0 : Cel w b o p) : Calls Tryz.prog 91 #[.slice (some ⟨b, o, none⟩) m c] w fun e w' => e = .returned (vv (boolX (p.k == 4))) ∧ Below w.heap.size w w' := by
  obtain ⟨hlt, c0, c1, c2⟩ := h0
  have hm' : (0 : Int) < m := by omega
  obtain ⟨W, hW⟩ : ∃ W, w.alloc (.cells #[.int .i64 0, .int .i64 0, .string ⟨#[]⟩] 25) = W := ⟨_, rfl⟩
  have hb : Below w.heap.size w W := by rw [← hW]; exact (Below.refl _ _).alloc (Nat.le_refl _) _
  have bR : Blk W w.heap.size 25 [.int .i64 0, .int .i64 0, .string ⟨#[]⟩] := by rw [← hW]; exact Blk.new w 25 #[.int .i64 0, .int .i64 0, .string ⟨#[]⟩]
  have HB := hide hb; have HR := hide bR
  clear hb bR
  have HW := hide hW
  clear hW
  go_enter Tryz.func91, Tryz.ntmps91
  go_wp2_with fail
  try rw [unhide HW]
  clear HW
  refine (boolValue_any (p.k == 4) W).mono ?_
  rintro e w1 ⟨rfl, hb⟩
  have HR1 := hide ((unhide HR).mono hb (unhide HR).lt); have HB1 := hide ((unhide HB).trans (hb.mono (unhide HB).size))
  clear hb
  obtain ⟨r0, r1, r2⟩ := three (unhide HR1)
  have f0 := (unhide HR1).free 0; have f1 := (unhide HR1).free 1; have f2 := (unhide HR1).free 2
  obtain ⟨z, hz⟩ : ∃ z : Int, (if (p.k == 4) then (1 : Int) else 0) = z := ⟨_, rfl⟩
  have HZ := hide hz
  rw [hz]
  clear hz
  go_wp2
  exact bodyPost_ret (v := .agg #[.int .i64 2, .int .i64 z, .string ⟨#[]⟩]) (by simp [results, Tryz.results91, go_sem, *]) rfl ⟨by rw [← unhide HZ]; rfl, vx_out (unhide HB1) _ _ _⟩

set_option maxRecDepth 100000 in
theorem countBytes_any (b o m c : Nat) (p : Vx) (w : World) (hm : 1 ≤ m) (hs : p.s.size ≤ 9223372036854775807) (h0 : Cel w b o p) : Calls Tryz.prog 87 #[.slice (some ⟨b, o, none⟩) m c] w fun e w' => e = .returned (vv (intX (p.s.size : Int))) ∧ Below w.heap.size w w' := by
  obtain ⟨hlt, c0, c1, c2⟩ := h0
  have hm' : (0 : Int) < m := by omega
  obtain ⟨W, hW⟩ : ∃ W, w.alloc (.cells #[.int .i64 0, .int .i64 0, .string ⟨#[]⟩] 25) = W := ⟨_, rfl⟩
  have hb : Below w.heap.size w W := by rw [← hW]; exact (Below.refl _ _).alloc (Nat.le_refl _) _
  have bR : Blk W w.heap.size 25 [.int .i64 0, .int .i64 0, .string ⟨#[]⟩] := by rw [← hW]; exact Blk.new w 25 #[.int .i64 0, .int .i64 0, .string ⟨#[]⟩]
  have HB := hide hb; have HR := hide bR
  clear hb bR
  have HW := hide hW
  clear hW
  have hw6 : wrap64 (p.s.size : Int) = (p.s.size : Int) := wrap64_small (by omega) (by omega)
  have HSZ := hide hs
  clear hs
  go_enter Tryz.func87, Tryz.ntmps87
  go_wp2_with fail
  try rw [unhide HW]
  clear HW
  refine (intValue_any (p.s.size : Int) W).mono ?_
  rintro e w1 ⟨rfl, hb⟩
  have HR1 := hide ((unhide HR).mono hb (unhide HR).lt); have HB1 := hide ((unhide HB).trans (hb.mono (unhide HB).size))
  clear hb
  obtain ⟨r0, r1, r2⟩ := three (unhide HR1)
  have f0 := (unhide HR1).free 0; have f1 := (unhide HR1).free 1; have f2 := (unhide HR1).free 2
  go_wp2
  exact bodyPost_ret (v := .agg #[.int .i64 1, .int .i64 (p.s.size : Int), .string ⟨#[]⟩]) (by simp [results, Tryz.results87, go_sem, *]) rfl ⟨rfl, vx_out (unhide HB1) _ _ _⟩

set_option maxRecDepth 100000 in
theorem firstUnlessBlank_any (b o m c : Nat) (p q : Vx) (w : World) (hm : 2 ≤ m) (h0 : Cel w b o p) (h1 : Cel w b (o + 3) q) : Calls Tryz.prog 85 #[.slice (some ⟨b, o, none⟩) m c] w fun e w' => e = .returned (vv (if p.k == 0 then q else p)) ∧ Below w.heap.size w w' := by
  obtain ⟨hlt, c0, c1, c2⟩ := h0
  obtain ⟨-, d0, d1, d2⟩ := h1
  have hm' : (0 : Int) < m := by omega
  have hm2 : (1 : Int) < m := by omega
  have HB : Hid (∀ x, Below w.heap.size w (w.alloc x)) := hide fun x => (Below.refl _ _).alloc (Nat.le_refl _) _
  cases hk : p.k == 0
  · go_enter Tryz.func85, Tryz.ntmps85
    go_wp2
    exact bodyPost_ret (v := vv p) (by simp [results, vv, Tryz.results85, go_sem, *]) rfl ⟨by simp, by first | exact unhide HB _ | exact vx_out (unhide HB _) _ _ _⟩
  · go_enter Tryz.func85, Tryz.ntmps85
    go_wp2
    exact bodyPost_ret (v := vv q) (by simp [results, vv, Tryz.results85, go_sem, *]) rfl ⟨by simp, by first | exact unhide HB _ | exact vx_out (unhide HB _) _ _ _⟩
end Go.Proofs.YtnmpkdmflijhpaaGreatDoor

/- The program's choice of a branch. -/
namespace Go.Proofs.YtnmpkdmflijhpaaGreatDoor
open Go Go.RowKit

set_option maxRecDepth 100000 in
set_option maxHeartbeats 4000000 in
theorem pickBranch_true (b o m c : Nat) (p q : Vx) (w : World) (hm : 2 ≤ m) (hp : p = boolX true) (h0 : Cel w b o p) (h1 : Cel w b (o + 3) q) : Calls Tryz.prog 81 #[.slice (some ⟨b, o, none⟩) m c] w fun e w' => e = .returned (vv q) ∧ Below w.heap.size w w' := by
  subst hp
  obtain ⟨hlt, c0, c1, c2⟩ := h0
  obtain ⟨-, d0, d1, d2⟩ := h1
  simp only [boolX] at c0 c1 c2
  have hm' : (0 : Int) < m := by omega
  have hm2 : (1 : Int) < m := by omega
  obtain ⟨W, hW⟩ : ∃ W, w.alloc (.cells #[.int .i64 0, .int .i64 0, .string ⟨#[]⟩] 25) = W := ⟨_, rfl⟩
  have hb : Below w.heap.size w W := by rw [← hW]; exact (Below.refl _ _).alloc (Nat.le_refl _) _
  have bR : Blk W w.heap.size 25 [.int .i64 0, .int .i64 0, .string ⟨#[]⟩] := by rw [← hW]; exact Blk.new w 25 #[.int .i64 0, .int .i64 0, .string ⟨#[]⟩]
  have HB := hide hb; have HR := hide bR
  clear hb bR
  have HW := hide hW
  clear hW
  have HD : Hid (Cel w b (o + 3) q) := hide ⟨hlt, d0, d1, d2⟩
  go_enter Tryz.func81, Tryz.ntmps81
  go_wp2_with fail
  try rw [unhide HW]
  clear HW
  refine (boolValue_any true W).mono ?_
  rintro e w1 ⟨rfl, hb⟩
  have HR1 := hide ((unhide HR).mono hb (unhide HR).lt); have HB1 := hide ((unhide HB).trans (hb.mono (unhide HB).size))
  clear hb
  have HE := hide ((unhide HD).mono (unhide HB1))
  clear d0 d1 d2
  obtain ⟨hlt1, d0, d1, d2⟩ := unhide HE
  obtain ⟨r0, r1, r2⟩ := three (unhide HR1)
  have f0 := (unhide HR1).free 0; have f1 := (unhide HR1).free 1; have f2 := (unhide HR1).free 2
  go_wp2
  exact bodyPost_ret (v := vv q) (by simp [results, vv, Tryz.results81, go_sem, *]) rfl ⟨rfl, vx_out (unhide HB1) _ _ _⟩
set_option maxRecDepth 100000 in
set_option maxHeartbeats 4000000 in
theorem pickBranch_false (b o m c : Nat) (p r : Vx) (w : World) (hm : 3 ≤ m) (hp : p = boolX false) (h0 : Cel w b o p) (h2 : Cel w b (o + 6) r) : Calls Tryz.prog 81 #[.slice (some ⟨b, o, none⟩) m c] w fun e w' => e = .returned (vv r) ∧ Below w.heap.size w w' := by
  subst hp
  obtain ⟨hlt, c0, c1, c2⟩ := h0
  obtain ⟨-, d0, d1, d2⟩ := h2
  simp only [boolX] at c0 c1 c2
  have hm' : (0 : Int) < m := by omega
  have hm3 : (2 : Int) < m := by omega
  have HD : Hid (Cel w b (o + 6) r) := hide ⟨hlt, d0, d1, d2⟩
  obtain ⟨W, hW⟩ : ∃ W, w.alloc (.cells #[.int .i64 0, .int .i64 0, .string ⟨#[]⟩] 25) = W := ⟨_, rfl⟩
  have hb : Below w.heap.size w W := by rw [← hW]; exact (Below.refl _ _).alloc (Nat.le_refl _) _
  have bR : Blk W w.heap.size 25 [.int .i64 0, .int .i64 0, .string ⟨#[]⟩] := by rw [← hW]; exact Blk.new w 25 #[.int .i64 0, .int .i64 0, .string ⟨#[]⟩]
  have HB := hide hb; have HR := hide bR
  clear hb bR
  have HW := hide hW
  clear hW
  go_enter Tryz.func81, Tryz.ntmps81
  go_wp2_with fail
  try rw [unhide HW]
  clear HW
  refine (boolValue_any true W).mono ?_
  rintro e w1 ⟨rfl, hb⟩
  have HR := hide ((unhide HR).mono hb (unhide HR).lt); have HB := hide ((unhide HB).trans (hb.mono (unhide HB).size))
  clear hb
  go_wp2_with fail
  refine (boolValue_any false w1).mono ?_
  rintro e w2 ⟨rfl, hb⟩
  have HR1 := hide ((unhide HR).mono hb (unhide HR).lt); have HB1 := hide ((unhide HB).trans (hb.mono (unhide HB).size))
  clear hb
  have HE := hide ((unhide HD).mono (unhide HB1))
  clear d0 d1 d2
  obtain ⟨hlt1, d0, d1, d2⟩ := unhide HE
  obtain ⟨r0, r1, r2⟩ := three (unhide HR1)
  have f0 := (unhide HR1).free 0; have f1 := (unhide HR1).free 1; have f2 := (unhide HR1).free 2
  go_wp2
  exact bodyPost_ret (v := vv r) (by simp [results, vv, Tryz.results81, go_sem, *]) rfl ⟨rfl, vx_out (unhide HB1) _ _ _⟩
set_option maxRecDepth 100000 in
set_option maxHeartbeats 4000000 in
theorem pickBranch_else (b o m c : Nat) (p : Vx) (w : World) (hm : 1 ≤ m) (hp : p.k ≠ 2) (h0 : Cel w b o p) : Calls Tryz.prog 81 #[.slice (some ⟨b, o, none⟩) m c] w fun e w' => e = .returned (vv p) ∧ Below w.heap.size w w' := by
  obtain ⟨hlt, d0, d1, d2⟩ := h0
  have hk : (p.k == 2) = false := beq_eq_false_iff_ne.2 hp
  have hm' : (0 : Int) < m := by omega
  have HD : Hid (Cel w b o p) := hide ⟨hlt, d0, d1, d2⟩
  obtain ⟨W, hW⟩ : ∃ W, w.alloc (.cells #[.int .i64 0, .int .i64 0, .string ⟨#[]⟩] 25) = W := ⟨_, rfl⟩
  have hb : Below w.heap.size w W := by rw [← hW]; exact (Below.refl _ _).alloc (Nat.le_refl _) _
  have bR : Blk W w.heap.size 25 [.int .i64 0, .int .i64 0, .string ⟨#[]⟩] := by rw [← hW]; exact Blk.new w 25 #[.int .i64 0, .int .i64 0, .string ⟨#[]⟩]
  have HB := hide hb; have HR := hide bR
  clear hb bR
  have HW := hide hW
  clear hW
  go_enter Tryz.func81, Tryz.ntmps81
  go_wp2_with fail
  try rw [unhide HW]
  clear HW
  refine (boolValue_any true W).mono ?_
  rintro e w1 ⟨rfl, hb⟩
  have HR := hide ((unhide HR).mono hb (unhide HR).lt); have HB := hide ((unhide HB).trans (hb.mono (unhide HB).size))
  clear hb
  go_wp2_with fail
  refine (boolValue_any false w1).mono ?_
  rintro e w2 ⟨rfl, hb⟩
  have HR1 := hide ((unhide HR).mono hb (unhide HR).lt); have HB1 := hide ((unhide HB).trans (hb.mono (unhide HB).size))
  clear hb
  have HE := hide ((unhide HD).mono (unhide HB1))
  clear d0 d1 d2
  obtain ⟨hlt1, d0, d1, d2⟩ := unhide HE
  obtain ⟨r0, r1, r2⟩ := three (unhide HR1)
  have f0 := (unhide HR1).free 0; have f1 := (unhide HR1).free 1; have f2 := (unhide HR1).free 2
  go_wp2
  exact bodyPost_ret (v := vv p) (by simp [results, vv, Tryz.results81, go_sem, *]) rfl ⟨rfl, vx_out (unhide HB1) _ _ _⟩
end Go.Proofs.YtnmpkdmflijhpaaGreatDoor
