import Derived.Test.YtjgngbmkpiihgaaGreatDoorGBg
import Derived.Test.YtjgngbmkpiihgaaGreatDoorGHn
/- The model's exact integers: the sum. -/
namespace Go.Proofs.YtjgngbmkpiihgaaGreatDoor
open Go Go.RowKit

theorem digs_ne {z : Int} (h : z ≠ 0) : (digs z.natAbs).length ≠ 0 := by intro e; have := digs_nil.1 (List.length_eq_zero_iff.1 e); omega
theorem DigS.set {w : World} {v : Value} {l : List Nat} {R : Nat} {t : TypeId} {x : Bool} {y : Value} (h : DigS w v l) (hR : Blk w R t [.bool x, y]) (hy : ∀ z, y ≠ .int .i64 z) (j : Nat) (u : Value) : DigS (w.setCell ⟨R, j, none⟩ u) v l := by
  obtain ⟨a, cap, e, hc, hn, hI⟩ := h
  refine ⟨a, cap, e, hc, hn, fun k hk => ?_⟩
  obtain ⟨b, off, e1, h1, h2⟩ := hI k hk
  have hb : b ≠ R := by
    rintro rfl
    rw [hR.cell] at h2
    match off + k, h2 with
    | 0, h2 => simp at h2
    | 1, h2 => simp at h2; exact hy _ h2
  refine ⟨b, off, e1, by simpa using h1, ?_⟩
  have := World.cell?_of_block (a := ⟨b, off + k, none⟩) (heap_setCell_other w ⟨R, j, none⟩ b u hb)
  exact this.trans h2
def Four (w : World) (A B : Nat) (v0 v1 u0 u1 : Value) : Prop := w.cell? ⟨A, 0, none⟩ = some v0 ∧ w.cell? ⟨A, 1, none⟩ = some v1 ∧ w.cell? ⟨B, 0, none⟩ = some u0 ∧ w.cell? ⟨B, 1, none⟩ = some u1
theorem four {w : World} {A B : Nat} {t : TypeId} {v0 v1 u0 u1 : Value} (h : Blk w A t [v0, v1]) (k : Blk w B t [u0, u1]) : Four w A B v0 v1 u0 u1 := ⟨h.cell 0, h.cell 1, k.cell 0, k.cell 1⟩

set_option maxRecDepth 100000 in
set_option maxHeartbeats 4000000 in
theorem addSame_neg (v1 u1 : Value) (x y : Int) (w : World) (hv1 : DigS w v1 (digs x.natAbs)) (hu1 : DigS w u1 (digs y.natAbs)) (hx : x < 0) (hy : y < 0) (bx : (digs x.natAbs).length ≤ 500) (by' : (digs y.natAbs).length ≤ 500) :
    Calls Tryz.prog 142 #[.agg #[.bool true, v1], .agg #[.bool true, u1]] w fun e w' => ∃ r, e = .returned r ∧ BigV w' r (x + y) ∧ Below w.heap.size w w' := by
  have hB : ∀ o1 o2 o3, Below w.heap.size w (((w.alloc o1).alloc o2).alloc o3) := fun o1 o2 o3 => (((Below.refl _ w).alloc (Nat.le_refl _) o1).alloc (by simp) o2).alloc (by simp; omega) o3
  obtain ⟨W, hW⟩ : ∃ W, ((w.alloc (.cells #[.bool true, v1] 108)).alloc (.cells #[.bool true, u1] 108)).alloc (.cells #[.bool false, .slice none 0 0] 108) = W := ⟨_, rfl⟩
  have bA : Blk W w.heap.size 108 [.bool true, v1] := by rw [← hW]; exact ((Blk.new w 108 #[.bool true, v1]).alloc _).alloc _
  have bB : Blk W (w.heap.size + 1) 108 [.bool true, u1] := by rw [← hW]; simpa using (Blk.new (w.alloc (.cells #[.bool true, v1] 108)) 108 #[.bool true, u1]).alloc (.cells #[.bool false, .slice none 0 0] 108)
  have bR : Blk W (w.heap.size + 1 + 1) 108 [.bool false, .slice none 0 0] := by rw [← hW]; simpa using Blk.new ((w.alloc (.cells #[.bool true, v1] 108)).alloc (.cells #[.bool true, u1] 108)) 108 #[.bool false, .slice none 0 0]
  have hw : Below w.heap.size w W := by rw [← hW]; exact hB _ _ _
  have HA := hide bA; have HBb := hide bB; have HR := hide bR; have HW := hide hw; have HV := hide (hv1.mono hw); have HU := hide (hu1.mono hw)
  obtain ⟨a, ca, rfl, -, -, -⟩ := id hv1
  obtain ⟨b, cb, rfl, -, -, -⟩ := id hu1
  have HDX := hide (And.intro (dig_digs x.natAbs) (dval_digs x.natAbs)); have HDY := hide (And.intro (dig_digs y.natAbs) (dval_digs y.natAbs))
  have HXY := hide (And.intro hx hy)
  have hres : decide (x + y < 0) = true ∧ (x + y).natAbs = x.natAbs + y.natAbs := by
    constructor
    · simp; omega
    · omega
  have HRES := hide hres; clear hres
  have hlen : 0 < (digs x.natAbs).length := by have := digs_ne (z := x) (by omega); omega
  have S0 := hide (four bA bB)
  obtain ⟨z0, z1, z2, z3⟩ := unhide S0
  clear bA bB bR hw hv1 hu1 hB hx hy
  go_enter Tryz.func142, Tryz.ntmps142
  go_wp2_with fail
  try rw [hW]
  clear hW
  refine wp_region_held_drew (S := fun w' => Four w' w.heap.size (w.heap.size + 1) (.bool true) (.slice a (digs x.natAbs).length ca) (.bool true) (.slice b (digs y.natAbs).length cb)) (by kernel_rfl) (unhide S0) (fun hHeld => ?_)
  refine takeY (i := 0) (v := .pointer (some ⟨w.heap.size, 0, none⟩)) 11 rfl rfl (by kernel_rfl) (by kernel_rfl) (by kernel_rfl) (fun _ _ _ _ h => h) (by rfl) (fun w hS => by obtain ⟨q0, q1, q2, q3⟩ := hS; simp [execOp, go_sem, *]) hHeld ?_
  simp only [List.setIfInBounds_toArray, List.set_cons_zero, List.set_cons_succ]
  refine takeY (i := 1) (v := .bool true) 12 rfl rfl (by kernel_rfl) (by kernel_rfl) (by kernel_rfl) (fun _ _ _ _ h => h) (by rfl) (fun w hS => by obtain ⟨q0, q1, q2, q3⟩ := hS; simp [execOp, go_sem, *]) hHeld ?_
  simp only [List.setIfInBounds_toArray, List.set_cons_zero, List.set_cons_succ]
  refine takeY (i := 2) (v := .bool true) 13 rfl rfl (by kernel_rfl) (by kernel_rfl) (by kernel_rfl) (fun _ _ _ _ h => h) (by rfl) (fun w hS => by obtain ⟨q0, q1, q2, q3⟩ := hS; simp [execOp, go_sem, *]) hHeld ?_
  simp only [List.setIfInBounds_toArray, List.set_cons_zero, List.set_cons_succ]
  refine takeY (i := 3) (v := .pointer (some ⟨w.heap.size, 1, none⟩)) 14 rfl rfl (by kernel_rfl) (by kernel_rfl) (by kernel_rfl) (fun _ _ _ _ h => h) (by rfl) (fun w hS => by obtain ⟨q0, q1, q2, q3⟩ := hS; simp [execOp, go_sem, *]) hHeld ?_
  simp only [List.setIfInBounds_toArray, List.set_cons_zero, List.set_cons_succ]
  refine takeY (i := 4) (v := .slice a (digs x.natAbs).length ca) 15 rfl rfl (by kernel_rfl) (by kernel_rfl) (by kernel_rfl) (fun _ _ _ _ h => h) (by rfl) (fun w hS => by obtain ⟨q0, q1, q2, q3⟩ := hS; simp [execOp, go_sem, *]) hHeld ?_
  simp only [List.setIfInBounds_toArray, List.set_cons_zero, List.set_cons_succ]
  refine takeY (i := 5) (v := .int .i64 (digs x.natAbs).length) 16 rfl rfl (by kernel_rfl) (by kernel_rfl) (by kernel_rfl) (fun _ _ _ _ h => h) (by rfl) (fun w hS => by obtain ⟨q0, q1, q2, q3⟩ := hS; simp [execOp, go_sem, *]) hHeld ?_
  simp only [List.setIfInBounds_toArray, List.set_cons_zero, List.set_cons_succ]
  refine takeY (i := 6) (v := .bool true) 17 rfl rfl (by kernel_rfl) (by kernel_rfl) (by kernel_rfl) (fun _ _ _ _ h => h) (by rfl) (fun w hS => by obtain ⟨q0, q1, q2, q3⟩ := hS; simp [execOp, go_sem, *]) hHeld ?_
  simp only [List.setIfInBounds_toArray, List.set_cons_zero, List.set_cons_succ]
  refine takeY (i := 7) (v := .bool true) 18 rfl rfl (by kernel_rfl) (by kernel_rfl) (by kernel_rfl) (fun _ _ _ _ h => h) (by rfl) (fun w hS => by obtain ⟨q0, q1, q2, q3⟩ := hS; simp [execOp, go_sem, *]) hHeld ?_
  simp only [List.setIfInBounds_toArray, List.set_cons_zero, List.set_cons_succ]
  refine takeY (i := 8) (v := .pointer (some ⟨w.heap.size, 1, none⟩)) 19 rfl rfl (by kernel_rfl) (by kernel_rfl) (by kernel_rfl) (fun _ _ _ _ h => h) (by rfl) (fun w hS => by obtain ⟨q0, q1, q2, q3⟩ := hS; simp [execOp, go_sem, *]) hHeld ?_
  simp only [List.setIfInBounds_toArray, List.set_cons_zero, List.set_cons_succ]
  refine takeY (i := 9) (v := .slice a (digs x.natAbs).length ca) 20 rfl rfl (by kernel_rfl) (by kernel_rfl) (by kernel_rfl) (fun _ _ _ _ h => h) (by rfl) (fun w hS => by obtain ⟨q0, q1, q2, q3⟩ := hS; simp [execOp, go_sem, *]) hHeld ?_
  simp only [List.setIfInBounds_toArray, List.set_cons_zero, List.set_cons_succ]
  refine takeY (i := 10) (v := .pointer (some ⟨w.heap.size + 1, 1, none⟩)) 21 rfl rfl (by kernel_rfl) (by kernel_rfl) (by kernel_rfl) (fun _ _ _ _ h => h) (by rfl) (fun w hS => by obtain ⟨q0, q1, q2, q3⟩ := hS; simp [execOp, go_sem, *]) hHeld ?_
  simp only [List.setIfInBounds_toArray, List.set_cons_zero, List.set_cons_succ]
  refine takeY (i := 11) (v := .slice b (digs y.natAbs).length cb) 22 rfl rfl (by kernel_rfl) (by kernel_rfl) (by kernel_rfl) (fun _ _ _ _ h => h) (by rfl) (fun w hS => by obtain ⟨q0, q1, q2, q3⟩ := hS; simp [execOp, go_sem, *]) hHeld ?_
  simp only [List.setIfInBounds_toArray, List.set_cons_zero, List.set_cons_succ]
  refine callY (i := 12) (f := 156) (args := #[.slice a (digs x.natAbs).length ca, .slice b (digs y.natAbs).length cb]) (R := fun r w6 => DigS w6 r (digs (dval (digs x.natAbs) + dval (digs y.natAbs))) ∧ Below W.heap.size W w6) 23 rfl rfl (by rfl) (by kernel_rfl) ?hrun1 ((l2MagAdd_any _ _ _ _ _ ((unhide HV).mono (below_drewN' _ 1)) ((unhide HU).mono (below_drewN' _ 1)) (unhide HDX).1 (unhide HDY).1 bx by').mono fun e w6 ⟨r, he, hr, hb⟩ => ⟨r, he, hr, below_of_drew hb⟩) ?_
  case hrun1 => simp [execOp, go_sem]
  rintro v w6 ⟨hr, hb6⟩
  have A6 := (unhide HA).mono hb6 (unhide HA).lt; have B6 := (unhide HBb).mono hb6 (unhide HBb).lt; have R6 := (unhide HR).mono hb6 (unhide HR).lt
  have hW6 := (unhide HW).trans (hb6.mono (unhide HW).size)
  have hs6 := A6.lt
  refine ⟨four A6 B6, ?_⟩
  simp only [List.setIfInBounds_toArray, List.set_cons_zero, List.set_cons_succ]
  replace hHeld := four A6 B6
  obtain ⟨g, cg, rfl, -⟩ := id hr
  have HRR := hide hr; clear hr
  refine takeY (i := 13) (v := .agg #[.bool true, .slice g (digs (dval (digs x.natAbs) + dval (digs y.natAbs))).length cg]) 24 rfl rfl (by kernel_rfl) (by kernel_rfl) (by kernel_rfl) (fun _ _ _ _ h => h) (by rfl) (fun w hS => by obtain ⟨q0, q1, q2, q3⟩ := hS; simp [execOp, go_sem, *]) hHeld ?_
  simp only [List.setIfInBounds_toArray, List.set_cons_zero, List.set_cons_succ]
  obtain ⟨⟨r0, r1⟩, ⟨f0, f1⟩⟩ := two R6
  refine storeY (i := 14) (w' := (w6.setCell ⟨w.heap.size + 1 + 1, 0, none⟩ (.bool true)).setCell ⟨w.heap.size + 1 + 1, 1, none⟩ (.slice g (digs (dval (digs x.natAbs) + dval (digs y.natAbs))).length cg)) rfl (by rfl) (by kernel_rfl) rfl ?hrun2 rfl ?hS2 ?_
  case hrun2 => simp [execOp, go_sem, r0, r1, f0, f1]
  case hS2 => exact four ((A6.other _ (by simp; omega)).other _ (by simp; omega)) ((B6.other _ (by simp)).other _ (by simp))
  refine wpAnyH_done (by kernel_rfl) ?_ _
  have X0 := ((R6.set 0 (.bool true)).set 1 (.slice g (digs (dval (digs x.natAbs) + dval (digs y.natAbs))).length cg))
  obtain ⟨⟨y0, y1⟩, -⟩ := two X0
  have HWX := hide ((hW6.setCell (p := ⟨w.heap.size + 1 + 1, 0, none⟩) (by simp; omega) (.bool true)).setCell (p := ⟨w.heap.size + 1 + 1, 1, none⟩) (by simp; omega) (.slice g (digs (dval (digs x.natAbs) + dval (digs y.natAbs))).length cg))
  have hD : DigS ((w6.setCell ⟨w.heap.size + 1 + 1, 0, none⟩ (.bool true)).setCell ⟨w.heap.size + 1 + 1, 1, none⟩ (.slice g (digs (dval (digs x.natAbs) + dval (digs y.natAbs))).length cg)) (.slice g (digs (dval (digs x.natAbs) + dval (digs y.natAbs))).length cg) (digs (x + y).natAbs) := by
    have h1 := unhide HRR
    rw [(unhide HDX).2, (unhide HDY).2, ← (unhide HRES).2] at h1 ⊢
    exact (h1.set R6 (fun z h => by cases h) 0 (.bool true)).set (R6.set 0 (.bool true)) (fun z h => by cases h) 1 _
  have HDD := hide hD; clear hD HRR A6 B6 R6 hW6 X0 hHeld hb6
  generalize (w6.setCell ⟨w.heap.size + 1 + 1, 0, none⟩ (.bool true)).setCell ⟨w.heap.size + 1 + 1, 1, none⟩ (.slice g (digs (dval (digs x.natAbs) + dval (digs y.natAbs))).length cg) = W9 at *
  go_wp2
  refine bodyPost_ret (v := .agg #[.bool true, .slice g (digs (dval (digs x.natAbs) + dval (digs y.natAbs))).length cg]) (by simp [results, Tryz.results142, go_sem, *]) rfl ⟨_, rfl, ⟨_, by rw [(unhide HRES).1], unhide HDD⟩, unhide HWX⟩

set_option maxRecDepth 100000 in
set_option maxHeartbeats 4000000 in
theorem addSame_pos (v1 u1 : Value) (x y : Int) (w : World) (hv1 : DigS w v1 (digs x.natAbs)) (hu1 : DigS w u1 (digs y.natAbs)) (hx : 0 ≤ x) (hy : 0 ≤ y) (bx : (digs x.natAbs).length ≤ 500) (by' : (digs y.natAbs).length ≤ 500) :
    Calls Tryz.prog 142 #[.agg #[.bool false, v1], .agg #[.bool false, u1]] w fun e w' => ∃ r, e = .returned r ∧ BigV w' r (x + y) ∧ Below w.heap.size w w' := by
  have hB : ∀ o1 o2 o3, Below w.heap.size w (((w.alloc o1).alloc o2).alloc o3) := fun o1 o2 o3 => (((Below.refl _ w).alloc (Nat.le_refl _) o1).alloc (by simp) o2).alloc (by simp; omega) o3
  obtain ⟨W, hW⟩ : ∃ W, ((w.alloc (.cells #[.bool false, v1] 108)).alloc (.cells #[.bool false, u1] 108)).alloc (.cells #[.bool false, .slice none 0 0] 108) = W := ⟨_, rfl⟩
  have bA : Blk W w.heap.size 108 [.bool false, v1] := by rw [← hW]; exact ((Blk.new w 108 #[.bool false, v1]).alloc _).alloc _
  have bB : Blk W (w.heap.size + 1) 108 [.bool false, u1] := by rw [← hW]; simpa using (Blk.new (w.alloc (.cells #[.bool false, v1] 108)) 108 #[.bool false, u1]).alloc (.cells #[.bool false, .slice none 0 0] 108)
  have bR : Blk W (w.heap.size + 1 + 1) 108 [.bool false, .slice none 0 0] := by rw [← hW]; simpa using Blk.new ((w.alloc (.cells #[.bool false, v1] 108)).alloc (.cells #[.bool false, u1] 108)) 108 #[.bool false, .slice none 0 0]
  have hw : Below w.heap.size w W := by rw [← hW]; exact hB _ _ _
  have HA := hide bA; have HBb := hide bB; have HR := hide bR; have HW := hide hw; have HV := hide (hv1.mono hw); have HU := hide (hu1.mono hw)
  obtain ⟨a, ca, rfl, -, -, -⟩ := id hv1
  obtain ⟨b, cb, rfl, -, -, -⟩ := id hu1
  have HDX := hide (And.intro (dig_digs x.natAbs) (dval_digs x.natAbs)); have HDY := hide (And.intro (dig_digs y.natAbs) (dval_digs y.natAbs))
  have HXY := hide (And.intro hx hy)
  have hres : decide (x + y < 0) = false ∧ (x + y).natAbs = x.natAbs + y.natAbs := by
    constructor
    · simp; omega
    · omega
  have HRES := hide hres; clear hres
  have S0 := hide (four bA bB)
  obtain ⟨z0, z1, z2, z3⟩ := unhide S0
  clear bA bB bR hw hv1 hu1 hB hx hy
  go_enter Tryz.func142, Tryz.ntmps142
  go_wp2_with fail
  try rw [hW]
  clear hW
  refine wp_region_held_drew (S := fun w' => Four w' w.heap.size (w.heap.size + 1) (.bool false) (.slice a (digs x.natAbs).length ca) (.bool false) (.slice b (digs y.natAbs).length cb)) (by kernel_rfl) (unhide S0) (fun hHeld => ?_)
  refine takeY (i := 0) (v := .pointer (some ⟨w.heap.size, 0, none⟩)) 11 rfl rfl (by kernel_rfl) (by kernel_rfl) (by kernel_rfl) (fun _ _ _ _ h => h) (by rfl) (fun w hS => by obtain ⟨q0, q1, q2, q3⟩ := hS; simp [execOp, go_sem, *]) hHeld ?_
  simp only [List.setIfInBounds_toArray, List.set_cons_zero, List.set_cons_succ]
  refine takeY (i := 1) (v := .bool false) 12 rfl rfl (by kernel_rfl) (by kernel_rfl) (by kernel_rfl) (fun _ _ _ _ h => h) (by rfl) (fun w hS => by obtain ⟨q0, q1, q2, q3⟩ := hS; simp [execOp, go_sem, *]) hHeld ?_
  simp only [List.setIfInBounds_toArray, List.set_cons_zero, List.set_cons_succ]
  refine takeY (i := 2) (v := .bool false) 13 rfl rfl (by kernel_rfl) (by kernel_rfl) (by kernel_rfl) (fun _ _ _ _ h => h) (by rfl) (fun w hS => by obtain ⟨q0, q1, q2, q3⟩ := hS; simp [execOp, go_sem, *]) hHeld ?_
  simp only [List.setIfInBounds_toArray, List.set_cons_zero, List.set_cons_succ]
  refine takeN (i := 3) 14 rfl rfl (by kernel_rfl) (by kernel_rfl) (by kernel_rfl) (fun _ _ _ _ h => h) (by rfl) hHeld ?_
  simp only [List.setIfInBounds_toArray, List.set_cons_zero, List.set_cons_succ]
  refine takeN (i := 4) 15 rfl rfl (by kernel_rfl) (by kernel_rfl) (by kernel_rfl) (fun _ _ _ _ h => h) (by rfl) hHeld ?_
  simp only [List.setIfInBounds_toArray, List.set_cons_zero, List.set_cons_succ]
  refine takeN (i := 5) 16 rfl rfl (by kernel_rfl) (by kernel_rfl) (by kernel_rfl) (fun _ _ _ _ h => h) (by rfl) hHeld ?_
  simp only [List.setIfInBounds_toArray, List.set_cons_zero, List.set_cons_succ]
  refine takeN (i := 6) 17 rfl rfl (by kernel_rfl) (by kernel_rfl) (by kernel_rfl) (fun _ _ _ _ h => h) (by rfl) hHeld ?_
  simp only [List.setIfInBounds_toArray, List.set_cons_zero, List.set_cons_succ]
  refine takeY (i := 7) (v := .bool false) 18 rfl rfl (by kernel_rfl) (by kernel_rfl) (by kernel_rfl) (fun _ _ _ _ h => h) (by rfl) (fun w hS => by obtain ⟨q0, q1, q2, q3⟩ := hS; simp [execOp, go_sem, *]) hHeld ?_
  simp only [List.setIfInBounds_toArray, List.set_cons_zero, List.set_cons_succ]
  refine takeY (i := 8) (v := .pointer (some ⟨w.heap.size, 1, none⟩)) 19 rfl rfl (by kernel_rfl) (by kernel_rfl) (by kernel_rfl) (fun _ _ _ _ h => h) (by rfl) (fun w hS => by obtain ⟨q0, q1, q2, q3⟩ := hS; simp [execOp, go_sem, *]) hHeld ?_
  simp only [List.setIfInBounds_toArray, List.set_cons_zero, List.set_cons_succ]
  refine takeY (i := 9) (v := .slice a (digs x.natAbs).length ca) 20 rfl rfl (by kernel_rfl) (by kernel_rfl) (by kernel_rfl) (fun _ _ _ _ h => h) (by rfl) (fun w hS => by obtain ⟨q0, q1, q2, q3⟩ := hS; simp [execOp, go_sem, *]) hHeld ?_
  simp only [List.setIfInBounds_toArray, List.set_cons_zero, List.set_cons_succ]
  refine takeY (i := 10) (v := .pointer (some ⟨w.heap.size + 1, 1, none⟩)) 21 rfl rfl (by kernel_rfl) (by kernel_rfl) (by kernel_rfl) (fun _ _ _ _ h => h) (by rfl) (fun w hS => by obtain ⟨q0, q1, q2, q3⟩ := hS; simp [execOp, go_sem, *]) hHeld ?_
  simp only [List.setIfInBounds_toArray, List.set_cons_zero, List.set_cons_succ]
  refine takeY (i := 11) (v := .slice b (digs y.natAbs).length cb) 22 rfl rfl (by kernel_rfl) (by kernel_rfl) (by kernel_rfl) (fun _ _ _ _ h => h) (by rfl) (fun w hS => by obtain ⟨q0, q1, q2, q3⟩ := hS; simp [execOp, go_sem, *]) hHeld ?_
  simp only [List.setIfInBounds_toArray, List.set_cons_zero, List.set_cons_succ]
  refine callY (i := 12) (f := 156) (args := #[.slice a (digs x.natAbs).length ca, .slice b (digs y.natAbs).length cb]) (R := fun r w6 => DigS w6 r (digs (dval (digs x.natAbs) + dval (digs y.natAbs))) ∧ Below W.heap.size W w6) 23 rfl rfl (by rfl) (by kernel_rfl) ?hrun1 ((l2MagAdd_any _ _ _ _ _ ((unhide HV).mono (below_drewN' _ 1)) ((unhide HU).mono (below_drewN' _ 1)) (unhide HDX).1 (unhide HDY).1 bx by').mono fun e w6 ⟨r, he, hr, hb⟩ => ⟨r, he, hr, below_of_drew hb⟩) ?_
  case hrun1 => simp [execOp, go_sem]
  rintro v w6 ⟨hr, hb6⟩
  have A6 := (unhide HA).mono hb6 (unhide HA).lt; have B6 := (unhide HBb).mono hb6 (unhide HBb).lt; have R6 := (unhide HR).mono hb6 (unhide HR).lt
  have hW6 := (unhide HW).trans (hb6.mono (unhide HW).size)
  have hs6 := A6.lt
  refine ⟨four A6 B6, ?_⟩
  simp only [List.setIfInBounds_toArray, List.set_cons_zero, List.set_cons_succ]
  replace hHeld := four A6 B6
  obtain ⟨g, cg, rfl, -⟩ := id hr
  have HRR := hide hr; clear hr
  refine takeY (i := 13) (v := .agg #[.bool false, .slice g (digs (dval (digs x.natAbs) + dval (digs y.natAbs))).length cg]) 24 rfl rfl (by kernel_rfl) (by kernel_rfl) (by kernel_rfl) (fun _ _ _ _ h => h) (by rfl) (fun w hS => by obtain ⟨q0, q1, q2, q3⟩ := hS; simp [execOp, go_sem, *]) hHeld ?_
  simp only [List.setIfInBounds_toArray, List.set_cons_zero, List.set_cons_succ]
  obtain ⟨⟨r0, r1⟩, ⟨f0, f1⟩⟩ := two R6
  refine storeY (i := 14) (w' := (w6.setCell ⟨w.heap.size + 1 + 1, 0, none⟩ (.bool false)).setCell ⟨w.heap.size + 1 + 1, 1, none⟩ (.slice g (digs (dval (digs x.natAbs) + dval (digs y.natAbs))).length cg)) rfl (by rfl) (by kernel_rfl) rfl ?hrun2 rfl ?hS2 ?_
  case hrun2 => simp [execOp, go_sem, r0, r1, f0, f1]
  case hS2 => exact four ((A6.other _ (by simp; omega)).other _ (by simp; omega)) ((B6.other _ (by simp)).other _ (by simp))
  refine wpAnyH_done (by kernel_rfl) ?_ _
  have X0 := ((R6.set 0 (.bool false)).set 1 (.slice g (digs (dval (digs x.natAbs) + dval (digs y.natAbs))).length cg))
  obtain ⟨⟨y0, y1⟩, -⟩ := two X0
  have HWX := hide ((hW6.setCell (p := ⟨w.heap.size + 1 + 1, 0, none⟩) (by simp; omega) (.bool false)).setCell (p := ⟨w.heap.size + 1 + 1, 1, none⟩) (by simp; omega) (.slice g (digs (dval (digs x.natAbs) + dval (digs y.natAbs))).length cg))
  have hD : DigS ((w6.setCell ⟨w.heap.size + 1 + 1, 0, none⟩ (.bool false)).setCell ⟨w.heap.size + 1 + 1, 1, none⟩ (.slice g (digs (dval (digs x.natAbs) + dval (digs y.natAbs))).length cg)) (.slice g (digs (dval (digs x.natAbs) + dval (digs y.natAbs))).length cg) (digs (x + y).natAbs) := by
    have h1 := unhide HRR
    rw [(unhide HDX).2, (unhide HDY).2, ← (unhide HRES).2] at h1 ⊢
    exact (h1.set R6 (fun z h => by cases h) 0 (.bool false)).set (R6.set 0 (.bool false)) (fun z h => by cases h) 1 _
  have HDD := hide hD; clear hD HRR A6 B6 R6 hW6 X0 hHeld hb6
  generalize (w6.setCell ⟨w.heap.size + 1 + 1, 0, none⟩ (.bool false)).setCell ⟨w.heap.size + 1 + 1, 1, none⟩ (.slice g (digs (dval (digs x.natAbs) + dval (digs y.natAbs))).length cg) = W9 at *
  go_wp2
  refine bodyPost_ret (v := .agg #[.bool false, .slice g (digs (dval (digs x.natAbs) + dval (digs y.natAbs))).length cg]) (by simp [results, Tryz.results142, go_sem, *]) rfl ⟨_, rfl, ⟨_, by rw [(unhide HRES).1], unhide HDD⟩, unhide HWX⟩
end Go.Proofs.YtjgngbmkpiihgaaGreatDoor

/- The model's exact integers: the sum where the signs differ. -/
namespace Go.Proofs.YtjgngbmkpiihgaaGreatDoor
open Go Go.RowKit

set_option maxRecDepth 100000 in
set_option maxHeartbeats 4000000 in
theorem addDiff_neg (v1 u1 : Value) (x y : Int) (w : World) (hv1 : DigS w v1 (digs x.natAbs)) (hu1 : DigS w u1 (digs y.natAbs)) (hx : x < 0) (hy : 0 ≤ y) (bx : (digs x.natAbs).length ≤ 500) (by' : (digs y.natAbs).length ≤ 500) :
    Calls Tryz.prog 142 #[.agg #[.bool true, v1], .agg #[.bool false, u1]] w fun e w' => ∃ r, e = .returned r ∧ BigV w' r (x + y) ∧ Below w.heap.size w w' := by
  have hB : ∀ o1 o2 o3, Below w.heap.size w (((w.alloc o1).alloc o2).alloc o3) := fun o1 o2 o3 => (((Below.refl _ w).alloc (Nat.le_refl _) o1).alloc (by simp) o2).alloc (by simp; omega) o3
  obtain ⟨W, hW⟩ : ∃ W, ((w.alloc (.cells #[.bool true, v1] 108)).alloc (.cells #[.bool false, u1] 108)).alloc (.cells #[.bool false, .slice none 0 0] 108) = W := ⟨_, rfl⟩
  have bA : Blk W w.heap.size 108 [.bool true, v1] := by rw [← hW]; exact ((Blk.new w 108 #[.bool true, v1]).alloc _).alloc _
  have bB : Blk W (w.heap.size + 1) 108 [.bool false, u1] := by rw [← hW]; simpa using (Blk.new (w.alloc (.cells #[.bool true, v1] 108)) 108 #[.bool false, u1]).alloc (.cells #[.bool false, .slice none 0 0] 108)
  have bR : Blk W (w.heap.size + 1 + 1) 108 [.bool false, .slice none 0 0] := by rw [← hW]; simpa using Blk.new ((w.alloc (.cells #[.bool true, v1] 108)).alloc (.cells #[.bool false, u1] 108)) 108 #[.bool false, .slice none 0 0]
  have hw : Below w.heap.size w W := by rw [← hW]; exact hB _ _ _
  have HA := hide bA; have HBb := hide bB; have HR := hide bR; have HW := hide hw; have HV := hide (hv1.mono hw); have HU := hide (hu1.mono hw)
  obtain ⟨a, ca, rfl, -, -, -⟩ := id hv1
  obtain ⟨b, cb, rfl, -, -, -⟩ := id hu1
  have HDX := hide (And.intro (dig_digs x.natAbs) (dval_digs x.natAbs)); have HDY := hide (And.intro (dig_digs y.natAbs) (dval_digs y.natAbs))
  have HXY := hide (And.intro hx hy)
  have S0 := hide (four bA bB)
  obtain ⟨z0, z1, z2, z3⟩ := unhide S0
  clear bA bB bR hw hv1 hu1 hB hx hy
  go_enter Tryz.func142, Tryz.ntmps142
  go_wp2_with fail
  try rw [hW]
  clear hW
  refine (l2MagLess_any _ _ _ _ _ (unhide HV) (unhide HU) (unhide HDX).1 (unhide HDY).1 (by omega) (by omega) (decide (x.natAbs < y.natAbs)) (by rw [decide_eq_true_eq, (unhide HDX).2, (unhide HDY).2])).mono ?_
  rintro e W1 ⟨rfl, n1, hn1⟩
  have hb1 : Below W.heap.size W W1 := by rw [hn1]; exact below_drewN' _ _
  replace HA := hide ((unhide HA).mono hb1 (unhide HA).lt); replace HBb := hide ((unhide HBb).mono hb1 (unhide HBb).lt); replace HR := hide ((unhide HR).mono hb1 (unhide HR).lt)
  replace HW := hide ((unhide HW).trans (hb1.mono (unhide HW).size)); replace HV := hide ((unhide HV).mono hb1); replace HU := hide ((unhide HU).mono hb1)
  clear hb1 hn1 S0 z0 z1 z2 z3
  have S0 := hide (four (unhide HA) (unhide HBb))
  obtain ⟨z0, z1, z2, z3⟩ := unhide S0
  by_cases hlt : x.natAbs < y.natAbs
  · have HRES : Hid (decide (x + y < 0) = false ∧ (x + y).natAbs = y.natAbs - x.natAbs) := by
      have := unhide HXY
      exact ⟨by simp; omega, by omega⟩
    rw [decide_eq_true hlt]
    go_wp2_with fail
    refine wp_region_held_drew (S := (fun w' => Four w' w.heap.size (w.heap.size + 1) (.bool true) (.slice a (digs x.natAbs).length ca) (.bool false) (.slice b (digs y.natAbs).length cb))) (by kernel_rfl) (unhide S0) (fun hHeld => ?_)
    refine takeY (i := 0) (v := .pointer (some ⟨w.heap.size + 1, 0, none⟩)) 30 rfl rfl (by kernel_rfl) (by kernel_rfl) (by kernel_rfl) (fun _ _ _ _ h => h) (by rfl) (fun w hS => by obtain ⟨q0, q1, q2, q3⟩ := hS; simp [execOp, go_sem, *]) hHeld ?_
    simp only [List.setIfInBounds_toArray, List.set_cons_zero, List.set_cons_succ]
    refine takeY (i := 1) (v := .bool false) 31 rfl rfl (by kernel_rfl) (by kernel_rfl) (by kernel_rfl) (fun _ _ _ _ h => h) (by rfl) (fun w hS => by obtain ⟨q0, q1, q2, q3⟩ := hS; simp [execOp, go_sem, *]) hHeld ?_
    simp only [List.setIfInBounds_toArray, List.set_cons_zero, List.set_cons_succ]
    refine takeY (i := 2) (v := .pointer (some ⟨w.heap.size + 1, 1, none⟩)) 32 rfl rfl (by kernel_rfl) (by kernel_rfl) (by kernel_rfl) (fun _ _ _ _ h => h) (by rfl) (fun w hS => by obtain ⟨q0, q1, q2, q3⟩ := hS; simp [execOp, go_sem, *]) hHeld ?_
    simp only [List.setIfInBounds_toArray, List.set_cons_zero, List.set_cons_succ]
    refine takeY (i := 3) (v := .slice b (digs y.natAbs).length cb) 33 rfl rfl (by kernel_rfl) (by kernel_rfl) (by kernel_rfl) (fun _ _ _ _ h => h) (by rfl) (fun w hS => by obtain ⟨q0, q1, q2, q3⟩ := hS; simp [execOp, go_sem, *]) hHeld ?_
    simp only [List.setIfInBounds_toArray, List.set_cons_zero, List.set_cons_succ]
    refine takeY (i := 4) (v := .pointer (some ⟨w.heap.size, 1, none⟩)) 34 rfl rfl (by kernel_rfl) (by kernel_rfl) (by kernel_rfl) (fun _ _ _ _ h => h) (by rfl) (fun w hS => by obtain ⟨q0, q1, q2, q3⟩ := hS; simp [execOp, go_sem, *]) hHeld ?_
    simp only [List.setIfInBounds_toArray, List.set_cons_zero, List.set_cons_succ]
    refine takeY (i := 5) (v := .slice a (digs x.natAbs).length ca) 35 rfl rfl (by kernel_rfl) (by kernel_rfl) (by kernel_rfl) (fun _ _ _ _ h => h) (by rfl) (fun w hS => by obtain ⟨q0, q1, q2, q3⟩ := hS; simp [execOp, go_sem, *]) hHeld ?_
    simp only [List.setIfInBounds_toArray, List.set_cons_zero, List.set_cons_succ]
    refine callY (i := 6) (f := 158) (args := #[.slice b (digs y.natAbs).length cb, .slice a (digs x.natAbs).length ca]) (R := fun r w6 => DigS w6 r (digs (dval (digs y.natAbs) - dval (digs x.natAbs))) ∧ Below W1.heap.size W1 w6) 36 rfl rfl (by rfl) (by kernel_rfl) ?hrun1 ((l2MagSub_any _ _ _ _ _ ((unhide HU).mono (below_drewN' _ 1)) ((unhide HV).mono (below_drewN' _ 1)) (unhide HDY).1 (unhide HDX).1 by' (by rw [(unhide HDX).2, (unhide HDY).2]; omega)).mono fun e w6 ⟨r, he, hr, hb⟩ => ⟨r, he, hr, below_of_drew hb⟩) ?_
    case hrun1 => simp [execOp, go_sem]
    rintro v w6 ⟨hr, hb6⟩
    have A6 := (unhide HA).mono hb6 (unhide HA).lt; have B6 := (unhide HBb).mono hb6 (unhide HBb).lt; have R6 := (unhide HR).mono hb6 (unhide HR).lt
    have hW6 := (unhide HW).trans (hb6.mono (unhide HW).size)
    have hs6 := A6.lt
    refine ⟨four A6 B6, ?_⟩
    simp only [List.setIfInBounds_toArray, List.set_cons_zero, List.set_cons_succ]
    replace hHeld := four A6 B6
    obtain ⟨g, cg, rfl, -⟩ := id hr
    have HRR := hide hr; clear hr
    refine takeY (i := 7) (v := .agg #[.bool false, .slice g (digs (dval (digs y.natAbs) - dval (digs x.natAbs))).length cg]) 37 rfl rfl (by kernel_rfl) (by kernel_rfl) (by kernel_rfl) (fun _ _ _ _ h => h) (by rfl) (fun w hS => by obtain ⟨q0, q1, q2, q3⟩ := hS; simp [execOp, go_sem, *]) hHeld ?_
    simp only [List.setIfInBounds_toArray, List.set_cons_zero, List.set_cons_succ]
    obtain ⟨⟨r0, r1⟩, ⟨f0, f1⟩⟩ := two R6
    refine storeY (i := 8) (w' := (w6.setCell ⟨w.heap.size + 1 + 1, 0, none⟩ (.bool false)).setCell ⟨w.heap.size + 1 + 1, 1, none⟩ (.slice g (digs (dval (digs y.natAbs) - dval (digs x.natAbs))).length cg)) rfl (by rfl) (by kernel_rfl) rfl ?hrun2 rfl ?hS2 ?_
    case hrun2 => simp [execOp, go_sem, r0, r1, f0, f1]
    case hS2 => exact four ((A6.other _ (by simp; omega)).other _ (by simp; omega)) ((B6.other _ (by simp)).other _ (by simp))
    refine wpAnyH_done (by kernel_rfl) ?_ _
    have X0 := ((R6.set 0 (.bool false)).set 1 (.slice g (digs (dval (digs y.natAbs) - dval (digs x.natAbs))).length cg))
    obtain ⟨⟨y0, y1⟩, -⟩ := two X0
    have HWX := hide ((hW6.setCell (p := ⟨w.heap.size + 1 + 1, 0, none⟩) (by simp; omega) (.bool false)).setCell (p := ⟨w.heap.size + 1 + 1, 1, none⟩) (by simp; omega) (.slice g (digs (dval (digs y.natAbs) - dval (digs x.natAbs))).length cg))
    have hD : DigS ((w6.setCell ⟨w.heap.size + 1 + 1, 0, none⟩ (.bool false)).setCell ⟨w.heap.size + 1 + 1, 1, none⟩ (.slice g (digs (dval (digs y.natAbs) - dval (digs x.natAbs))).length cg)) (.slice g (digs (dval (digs y.natAbs) - dval (digs x.natAbs))).length cg) (digs (x + y).natAbs) := by
      have h1 := unhide HRR
      rw [(unhide HDX).2, (unhide HDY).2, ← (unhide HRES).2] at h1 ⊢
      exact (h1.set R6 (fun z h => by cases h) 0 (.bool false)).set (R6.set 0 (.bool false)) (fun z h => by cases h) 1 _
    have HDD := hide hD; clear hD HRR A6 B6 R6 hW6 X0 hHeld hb6
    generalize (w6.setCell ⟨w.heap.size + 1 + 1, 0, none⟩ (.bool false)).setCell ⟨w.heap.size + 1 + 1, 1, none⟩ (.slice g (digs (dval (digs y.natAbs) - dval (digs x.natAbs))).length cg) = W9 at *
    go_wp2
    refine bodyPost_ret (v := .agg #[.bool false, .slice g (digs (dval (digs y.natAbs) - dval (digs x.natAbs))).length cg]) (by simp [results, Tryz.results142, go_sem, *]) rfl ⟨_, rfl, ⟨_, by rw [(unhide HRES).1], unhide HDD⟩, unhide HWX⟩
  · rw [decide_eq_false hlt]
    go_wp2_with fail
    refine (l2MagSub_any _ _ _ _ _ (unhide HV) (unhide HU) (unhide HDX).1 (unhide HDY).1 bx (by rw [(unhide HDX).2, (unhide HDY).2]; omega)).mono ?_
    rintro e w6 ⟨r, rfl, hr, hb6⟩
    have A6 := (unhide HA).mono hb6 (unhide HA).lt; have R6 := (unhide HR).mono hb6 (unhide HR).lt
    have hW6 := (unhide HW).trans (hb6.mono (unhide HW).size)
    have hs6 := A6.lt
    rw [(unhide HDX).2, (unhide HDY).2] at hr
    have hab : (x + y).natAbs = x.natAbs - y.natAbs := by have := unhide HXY; omega
    rw [← hab] at hr
    obtain ⟨g, cg, rfl, -⟩ := id hr
    have HRR := hide hr; clear hr hb6 hab
    clear z0 z1 z2 z3
    obtain ⟨⟨z0, z1⟩, -⟩ := two A6
    obtain ⟨⟨r0, r1⟩, ⟨f0, f1⟩⟩ := two R6
    by_cases hz : x + y = 0
    · have hl0 : (digs (x + y).natAbs).length = 0 := by rw [hz]; simp [digs_zero]
      have hs : decide (x + y < 0) = false := by have := unhide HXY; simp; omega
      have HS := hide hs; clear hs
      have HWX := hide ((hW6.setCell (p := ⟨w.heap.size + 1 + 1, 0, none⟩) (by simp; omega) (.bool false)).setCell (p := ⟨w.heap.size + 1 + 1, 1, none⟩) (by simp; omega) (.slice g (digs (x + y).natAbs).length cg))
      have HD := hide (((unhide HRR).set R6 (fun z h => by cases h) 0 (.bool false)).set (R6.set 0 (.bool false)) (fun z h => by cases h) 1 (.slice g (digs (x + y).natAbs).length cg))
      clear A6 R6 hW6 HRR HA HBb HR HV HU S0
      rw [hl0] at HD HWX ⊢
      go_wp2
      refine bodyPost_ret (v := .agg #[.bool false, .slice g 0 cg]) (by simp [results, Tryz.results142, go_sem, *]) rfl ⟨_, rfl, ⟨_, by rw [unhide HS], unhide HD⟩, unhide HWX⟩
    · have hl0 : 0 < (digs (x + y).natAbs).length := by have := digs_ne hz; omega
      have hs : decide (x + y < 0) = true := by have := unhide HXY; simp; omega
      have HS := hide hs; clear hs
      have HWX := hide ((hW6.setCell (p := ⟨w.heap.size + 1 + 1, 0, none⟩) (by simp; omega) (.bool true)).setCell (p := ⟨w.heap.size + 1 + 1, 1, none⟩) (by simp; omega) (.slice g (digs (x + y).natAbs).length cg))
      have HD := hide (((unhide HRR).set R6 (fun z h => by cases h) 0 (.bool true)).set (R6.set 0 (.bool true)) (fun z h => by cases h) 1 (.slice g (digs (x + y).natAbs).length cg))
      clear A6 R6 hW6 HRR HA HBb HR HV HU S0
      go_wp2
      refine bodyPost_ret (v := .agg #[.bool true, .slice g (digs (x + y).natAbs).length cg]) (by simp [results, Tryz.results142, go_sem, *]) rfl ⟨_, rfl, ⟨_, by rw [unhide HS], unhide HD⟩, unhide HWX⟩

set_option maxRecDepth 100000 in
set_option maxHeartbeats 4000000 in
theorem addDiff_pos (v1 u1 : Value) (x y : Int) (w : World) (hv1 : DigS w v1 (digs x.natAbs)) (hu1 : DigS w u1 (digs y.natAbs)) (hx : 0 ≤ x) (hy : y < 0) (bx : (digs x.natAbs).length ≤ 500) (by' : (digs y.natAbs).length ≤ 500) :
    Calls Tryz.prog 142 #[.agg #[.bool false, v1], .agg #[.bool true, u1]] w fun e w' => ∃ r, e = .returned r ∧ BigV w' r (x + y) ∧ Below w.heap.size w w' := by
  have hB : ∀ o1 o2 o3, Below w.heap.size w (((w.alloc o1).alloc o2).alloc o3) := fun o1 o2 o3 => (((Below.refl _ w).alloc (Nat.le_refl _) o1).alloc (by simp) o2).alloc (by simp; omega) o3
  obtain ⟨W, hW⟩ : ∃ W, ((w.alloc (.cells #[.bool false, v1] 108)).alloc (.cells #[.bool true, u1] 108)).alloc (.cells #[.bool false, .slice none 0 0] 108) = W := ⟨_, rfl⟩
  have bA : Blk W w.heap.size 108 [.bool false, v1] := by rw [← hW]; exact ((Blk.new w 108 #[.bool false, v1]).alloc _).alloc _
  have bB : Blk W (w.heap.size + 1) 108 [.bool true, u1] := by rw [← hW]; simpa using (Blk.new (w.alloc (.cells #[.bool false, v1] 108)) 108 #[.bool true, u1]).alloc (.cells #[.bool false, .slice none 0 0] 108)
  have bR : Blk W (w.heap.size + 1 + 1) 108 [.bool false, .slice none 0 0] := by rw [← hW]; simpa using Blk.new ((w.alloc (.cells #[.bool false, v1] 108)).alloc (.cells #[.bool true, u1] 108)) 108 #[.bool false, .slice none 0 0]
  have hw : Below w.heap.size w W := by rw [← hW]; exact hB _ _ _
  have HA := hide bA; have HBb := hide bB; have HR := hide bR; have HW := hide hw; have HV := hide (hv1.mono hw); have HU := hide (hu1.mono hw)
  obtain ⟨a, ca, rfl, -, -, -⟩ := id hv1
  obtain ⟨b, cb, rfl, -, -, -⟩ := id hu1
  have HDX := hide (And.intro (dig_digs x.natAbs) (dval_digs x.natAbs)); have HDY := hide (And.intro (dig_digs y.natAbs) (dval_digs y.natAbs))
  have HXY := hide (And.intro hx hy)
  have S0 := hide (four bA bB)
  obtain ⟨z0, z1, z2, z3⟩ := unhide S0
  clear bA bB bR hw hv1 hu1 hB hx hy
  go_enter Tryz.func142, Tryz.ntmps142
  go_wp2_with fail
  try rw [hW]
  clear hW
  refine (l2MagLess_any _ _ _ _ _ (unhide HV) (unhide HU) (unhide HDX).1 (unhide HDY).1 (by omega) (by omega) (decide (x.natAbs < y.natAbs)) (by rw [decide_eq_true_eq, (unhide HDX).2, (unhide HDY).2])).mono ?_
  rintro e W1 ⟨rfl, n1, hn1⟩
  have hb1 : Below W.heap.size W W1 := by rw [hn1]; exact below_drewN' _ _
  replace HA := hide ((unhide HA).mono hb1 (unhide HA).lt); replace HBb := hide ((unhide HBb).mono hb1 (unhide HBb).lt); replace HR := hide ((unhide HR).mono hb1 (unhide HR).lt)
  replace HW := hide ((unhide HW).trans (hb1.mono (unhide HW).size)); replace HV := hide ((unhide HV).mono hb1); replace HU := hide ((unhide HU).mono hb1)
  clear hb1 hn1 S0 z0 z1 z2 z3
  have S0 := hide (four (unhide HA) (unhide HBb))
  obtain ⟨z0, z1, z2, z3⟩ := unhide S0
  by_cases hlt : x.natAbs < y.natAbs
  · have HRES : Hid (decide (x + y < 0) = true ∧ (x + y).natAbs = y.natAbs - x.natAbs) := by
      have := unhide HXY
      exact ⟨by simp; omega, by omega⟩
    rw [decide_eq_true hlt]
    go_wp2_with fail
    refine wp_region_held_drew (S := (fun w' => Four w' w.heap.size (w.heap.size + 1) (.bool false) (.slice a (digs x.natAbs).length ca) (.bool true) (.slice b (digs y.natAbs).length cb))) (by kernel_rfl) (unhide S0) (fun hHeld => ?_)
    refine takeY (i := 0) (v := .pointer (some ⟨w.heap.size + 1, 0, none⟩)) 30 rfl rfl (by kernel_rfl) (by kernel_rfl) (by kernel_rfl) (fun _ _ _ _ h => h) (by rfl) (fun w hS => by obtain ⟨q0, q1, q2, q3⟩ := hS; simp [execOp, go_sem, *]) hHeld ?_
    simp only [List.setIfInBounds_toArray, List.set_cons_zero, List.set_cons_succ]
    refine takeY (i := 1) (v := .bool true) 31 rfl rfl (by kernel_rfl) (by kernel_rfl) (by kernel_rfl) (fun _ _ _ _ h => h) (by rfl) (fun w hS => by obtain ⟨q0, q1, q2, q3⟩ := hS; simp [execOp, go_sem, *]) hHeld ?_
    simp only [List.setIfInBounds_toArray, List.set_cons_zero, List.set_cons_succ]
    refine takeY (i := 2) (v := .pointer (some ⟨w.heap.size + 1, 1, none⟩)) 32 rfl rfl (by kernel_rfl) (by kernel_rfl) (by kernel_rfl) (fun _ _ _ _ h => h) (by rfl) (fun w hS => by obtain ⟨q0, q1, q2, q3⟩ := hS; simp [execOp, go_sem, *]) hHeld ?_
    simp only [List.setIfInBounds_toArray, List.set_cons_zero, List.set_cons_succ]
    refine takeY (i := 3) (v := .slice b (digs y.natAbs).length cb) 33 rfl rfl (by kernel_rfl) (by kernel_rfl) (by kernel_rfl) (fun _ _ _ _ h => h) (by rfl) (fun w hS => by obtain ⟨q0, q1, q2, q3⟩ := hS; simp [execOp, go_sem, *]) hHeld ?_
    simp only [List.setIfInBounds_toArray, List.set_cons_zero, List.set_cons_succ]
    refine takeY (i := 4) (v := .pointer (some ⟨w.heap.size, 1, none⟩)) 34 rfl rfl (by kernel_rfl) (by kernel_rfl) (by kernel_rfl) (fun _ _ _ _ h => h) (by rfl) (fun w hS => by obtain ⟨q0, q1, q2, q3⟩ := hS; simp [execOp, go_sem, *]) hHeld ?_
    simp only [List.setIfInBounds_toArray, List.set_cons_zero, List.set_cons_succ]
    refine takeY (i := 5) (v := .slice a (digs x.natAbs).length ca) 35 rfl rfl (by kernel_rfl) (by kernel_rfl) (by kernel_rfl) (fun _ _ _ _ h => h) (by rfl) (fun w hS => by obtain ⟨q0, q1, q2, q3⟩ := hS; simp [execOp, go_sem, *]) hHeld ?_
    simp only [List.setIfInBounds_toArray, List.set_cons_zero, List.set_cons_succ]
    refine callY (i := 6) (f := 158) (args := #[.slice b (digs y.natAbs).length cb, .slice a (digs x.natAbs).length ca]) (R := fun r w6 => DigS w6 r (digs (dval (digs y.natAbs) - dval (digs x.natAbs))) ∧ Below W1.heap.size W1 w6) 36 rfl rfl (by rfl) (by kernel_rfl) ?hrun1 ((l2MagSub_any _ _ _ _ _ ((unhide HU).mono (below_drewN' _ 1)) ((unhide HV).mono (below_drewN' _ 1)) (unhide HDY).1 (unhide HDX).1 by' (by rw [(unhide HDX).2, (unhide HDY).2]; omega)).mono fun e w6 ⟨r, he, hr, hb⟩ => ⟨r, he, hr, below_of_drew hb⟩) ?_
    case hrun1 => simp [execOp, go_sem]
    rintro v w6 ⟨hr, hb6⟩
    have A6 := (unhide HA).mono hb6 (unhide HA).lt; have B6 := (unhide HBb).mono hb6 (unhide HBb).lt; have R6 := (unhide HR).mono hb6 (unhide HR).lt
    have hW6 := (unhide HW).trans (hb6.mono (unhide HW).size)
    have hs6 := A6.lt
    refine ⟨four A6 B6, ?_⟩
    simp only [List.setIfInBounds_toArray, List.set_cons_zero, List.set_cons_succ]
    replace hHeld := four A6 B6
    obtain ⟨g, cg, rfl, -⟩ := id hr
    have HRR := hide hr; clear hr
    refine takeY (i := 7) (v := .agg #[.bool true, .slice g (digs (dval (digs y.natAbs) - dval (digs x.natAbs))).length cg]) 37 rfl rfl (by kernel_rfl) (by kernel_rfl) (by kernel_rfl) (fun _ _ _ _ h => h) (by rfl) (fun w hS => by obtain ⟨q0, q1, q2, q3⟩ := hS; simp [execOp, go_sem, *]) hHeld ?_
    simp only [List.setIfInBounds_toArray, List.set_cons_zero, List.set_cons_succ]
    obtain ⟨⟨r0, r1⟩, ⟨f0, f1⟩⟩ := two R6
    refine storeY (i := 8) (w' := (w6.setCell ⟨w.heap.size + 1 + 1, 0, none⟩ (.bool true)).setCell ⟨w.heap.size + 1 + 1, 1, none⟩ (.slice g (digs (dval (digs y.natAbs) - dval (digs x.natAbs))).length cg)) rfl (by rfl) (by kernel_rfl) rfl ?hrun2 rfl ?hS2 ?_
    case hrun2 => simp [execOp, go_sem, r0, r1, f0, f1]
    case hS2 => exact four ((A6.other _ (by simp; omega)).other _ (by simp; omega)) ((B6.other _ (by simp)).other _ (by simp))
    refine wpAnyH_done (by kernel_rfl) ?_ _
    have X0 := ((R6.set 0 (.bool true)).set 1 (.slice g (digs (dval (digs y.natAbs) - dval (digs x.natAbs))).length cg))
    obtain ⟨⟨y0, y1⟩, -⟩ := two X0
    have HWX := hide ((hW6.setCell (p := ⟨w.heap.size + 1 + 1, 0, none⟩) (by simp; omega) (.bool true)).setCell (p := ⟨w.heap.size + 1 + 1, 1, none⟩) (by simp; omega) (.slice g (digs (dval (digs y.natAbs) - dval (digs x.natAbs))).length cg))
    have hD : DigS ((w6.setCell ⟨w.heap.size + 1 + 1, 0, none⟩ (.bool true)).setCell ⟨w.heap.size + 1 + 1, 1, none⟩ (.slice g (digs (dval (digs y.natAbs) - dval (digs x.natAbs))).length cg)) (.slice g (digs (dval (digs y.natAbs) - dval (digs x.natAbs))).length cg) (digs (x + y).natAbs) := by
      have h1 := unhide HRR
      rw [(unhide HDX).2, (unhide HDY).2, ← (unhide HRES).2] at h1 ⊢
      exact (h1.set R6 (fun z h => by cases h) 0 (.bool true)).set (R6.set 0 (.bool true)) (fun z h => by cases h) 1 _
    have HDD := hide hD; clear hD HRR A6 B6 R6 hW6 X0 hHeld hb6
    generalize (w6.setCell ⟨w.heap.size + 1 + 1, 0, none⟩ (.bool true)).setCell ⟨w.heap.size + 1 + 1, 1, none⟩ (.slice g (digs (dval (digs y.natAbs) - dval (digs x.natAbs))).length cg) = W9 at *
    go_wp2
    refine bodyPost_ret (v := .agg #[.bool true, .slice g (digs (dval (digs y.natAbs) - dval (digs x.natAbs))).length cg]) (by simp [results, Tryz.results142, go_sem, *]) rfl ⟨_, rfl, ⟨_, by rw [(unhide HRES).1], unhide HDD⟩, unhide HWX⟩
  · rw [decide_eq_false hlt]
    go_wp2_with fail
    refine (l2MagSub_any _ _ _ _ _ (unhide HV) (unhide HU) (unhide HDX).1 (unhide HDY).1 bx (by rw [(unhide HDX).2, (unhide HDY).2]; omega)).mono ?_
    rintro e w6 ⟨r, rfl, hr, hb6⟩
    have A6 := (unhide HA).mono hb6 (unhide HA).lt; have R6 := (unhide HR).mono hb6 (unhide HR).lt
    have hW6 := (unhide HW).trans (hb6.mono (unhide HW).size)
    have hs6 := A6.lt
    rw [(unhide HDX).2, (unhide HDY).2] at hr
    have hab : (x + y).natAbs = x.natAbs - y.natAbs := by have := unhide HXY; omega
    rw [← hab] at hr
    obtain ⟨g, cg, rfl, -⟩ := id hr
    have HRR := hide hr; clear hr hb6 hab
    clear z0 z1 z2 z3
    obtain ⟨⟨z0, z1⟩, -⟩ := two A6
    obtain ⟨⟨r0, r1⟩, ⟨f0, f1⟩⟩ := two R6
    have hs : decide (x + y < 0) = false := by have := unhide HXY; simp; omega
    have HS := hide hs; clear hs
    have HWX := hide ((hW6.setCell (p := ⟨w.heap.size + 1 + 1, 0, none⟩) (by simp; omega) (.bool false)).setCell (p := ⟨w.heap.size + 1 + 1, 1, none⟩) (by simp; omega) (.slice g (digs (x + y).natAbs).length cg))
    have HD := hide (((unhide HRR).set R6 (fun z h => by cases h) 0 (.bool false)).set (R6.set 0 (.bool false)) (fun z h => by cases h) 1 (.slice g (digs (x + y).natAbs).length cg))
    clear A6 R6 hW6 HRR HA HBb HR HV HU S0
    go_wp2
    refine bodyPost_ret (v := .agg #[.bool false, .slice g (digs (x + y).natAbs).length cg]) (by simp [results, Tryz.results142, go_sem, *]) rfl ⟨_, rfl, ⟨_, by rw [unhide HS], unhide HD⟩, unhide HWX⟩

theorem l2BigAdd_any (v u : Value) (x y : Int) (w : World) (hv : BigV w v x) (hu : BigV w u y) (bx : (digs x.natAbs).length ≤ 500) (by' : (digs y.natAbs).length ≤ 500) :
    Calls Tryz.prog 142 #[v, u] w fun e w' => ∃ r, e = .returned r ∧ BigV w' r (x + y) ∧ Below w.heap.size w w' := by
  obtain ⟨v1, rfl, hv1⟩ := hv
  obtain ⟨u1, rfl, hu1⟩ := hu
  by_cases hx : x < 0 <;> by_cases hy : y < 0
  · rw [decide_eq_true hx, decide_eq_true hy]; exact addSame_neg v1 u1 x y w hv1 hu1 hx hy bx by'
  · rw [decide_eq_true hx, decide_eq_false hy]; exact addDiff_neg v1 u1 x y w hv1 hu1 hx (by omega) bx by'
  · rw [decide_eq_false hx, decide_eq_true hy]; exact addDiff_pos v1 u1 x y w hv1 hu1 (by omega) hy bx by'
  · rw [decide_eq_false hx, decide_eq_false hy]; exact addSame_pos v1 u1 x y w hv1 hu1 (by omega) (by omega) bx by'
end Go.Proofs.YtjgngbmkpiihgaaGreatDoor
