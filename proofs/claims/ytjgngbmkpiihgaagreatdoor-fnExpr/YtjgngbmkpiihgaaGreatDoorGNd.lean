import Derived.Test.YtjgngbmkpiihgaaGreatDoorGNa
import Derived.Test.YtjgngbmkpiihgaaGreatDoorGHn
import Derived.Test.YtjgngbmkpiihgaaGreatDoorZLev
import Derived.Test.YtjgngbmkpiihgaaGreatDoorGOw
import Derived.Test.YtjgngbmkpiihgaaGreatDoorGSh
import Derived.Test.YtjgngbmkpiihgaaGreatDoorShelf2
/- Which nodes are good ones: the program. -/
namespace Go.Proofs.YtjgngbmkpiihgaaGreatDoor
open Go Go.RowKit

def zv (u : Vx) : Bool := decide (u.k = 0 ∧ u.n = 0 ∧ u.s.size = 0)
theorem zv_eq (u : Vx) : eqX u blankX = zv u := by
  have : (u.s.toList = []) ↔ u.s.size = 0 := by
    have := empty0 u.s
    rw [Bool.eq_iff_iff] at this
    simpa using this
  unfold eqX zv blankX
  by_cases h1 : u.k = 0
  · by_cases h2 : u.n = 0
    · simp [h1, h2, this]
    · simp [h1, h2]
  · simp [h1]

set_option maxRecDepth 100000 in
set_option maxHeartbeats 1000000 in
theorem isConstant_any (u : Vx) (w : World) (hs : u.s.size ≤ 9223372036854775807) : Calls Tryz.prog 78 #[vv u] w fun e w' => e = .returned (.bool (okVal u.k u.n u.s && decide (u.k ≠ 4) && decide (0 ≤ u.n))) ∧ Below w.heap.size w w' := by
  unfold vv
  have H0 := hide (Blk.new w 39 #[.int .i64 u.k, .int .i64 u.n, .string u.s])
  have HB := hide ((Below.refl w.heap.size w).alloc (Nat.le_refl _) (.cells #[.int .i64 u.k, .int .i64 u.n, .string u.s] 39))
  obtain ⟨r, hr⟩ : ∃ r, (okVal u.k u.n u.s && decide (u.k ≠ 4) && decide (0 ≤ u.n)) = r := ⟨_, rfl⟩
  rw [hr]
  go_enter Tryz.func78, Tryz.ntmps78
  go_wp2_with fail
  refine (implValidV_any _ _ _ _ hs).mono ?_
  rintro e w1 ⟨rfl, hb1⟩
  replace H0 := hide ((unhide H0).mono hb1 (unhide H0).lt); replace HB := hide ((unhide HB).trans (hb1.mono (unhide HB).size)); clear hb1
  obtain ⟨z0, z1, z2⟩ := three (unhide H0)
  cases hv : okVal u.k u.n u.s
  · rw [hv] at hr
    have HX : Hid (false = r) := hide hr; clear hr hv
    go_wp2_with fail
    go_ret
    exact ⟨ret_bool (unhide HX), unhide HB⟩
  · rw [hv, Bool.true_and] at hr
    by_cases h4 : u.k = 4
    · have HX : Hid (false = r) := hide (by rw [← hr, decide_eq_false (fun h => h h4)]; rfl); clear hr hv
      rw [h4] at z0 H0
      go_wp2_with fail
      go_ret
      exact ⟨ret_bool (unhide HX), unhide HB⟩
    · rw [decide_eq_true h4, Bool.true_and] at hr
      have h4' : (u.k != 4) = true := by simp [h4]
      have HX := hide hr; clear hr hv h4
      go_wp2_with fail
      go_ret
      exact ⟨ret_bool (unhide HX), unhide HB⟩
set_option maxRecDepth 100000 in
set_option maxHeartbeats 1000000 in
theorem operandsTaken_any (n : Nx) (w : World) : Calls Tryz.prog 45 #[nv n] w fun e w' => e = .returned (.int .i64 (arn n)) ∧ Below w.heap.size w w' := by
  rw [arn_cast, ar_opn]
  unfold nv
  have H0 := hide (Blk.new w 41 #[.int .i64 n.op, .int .i64 n.v.k, .int .i64 n.v.n, .string n.v.s, .string n.nm])
  have HB := hide ((Below.refl w.heap.size w).alloc (Nat.le_refl _) (.cells #[.int .i64 n.op, .int .i64 n.v.k, .int .i64 n.v.n, .string n.v.s, .string n.nm] 41))
  by_cases h : 2 ≤ n.op ∧ n.op ≤ 25
  · rw [if_pos h]
    go_enter Tryz.func45, Tryz.ntmps45
    go_wp2_with (first | (go_at_call 81; refine (isOperator_any _ _).mono ?_; rintro e w' ⟨rfl, hw⟩; replace hw := hw.symm; subst hw; rw [decide_eq_true h]) | (go_at_call 82; refine (operandsOf_any _ _).mono ?_; rintro e w' ⟨rfl, hw⟩; replace hw := hw.symm; subst hw))
    go_ret
    exact ⟨rfl, unhide HB⟩
  · rw [if_neg h]
    go_enter Tryz.func45, Tryz.ntmps45
    go_wp2_with (go_at_call 81; refine (isOperator_any _ _).mono ?_; rintro e w' ⟨rfl, hw⟩; replace hw := hw.symm; subst hw; rw [decide_eq_false h])
    go_ret
    exact ⟨rfl, unhide HB⟩

set_option maxRecDepth 100000 in
set_option maxHeartbeats 4000000 in
theorem isNode_any (n : Nx) (w : World) (hf : Fit n) : Calls Tryz.prog 44 #[nv n] w fun e w' => e = .returned (.bool (okNode n)) ∧ Below w.heap.size w w' := by
  obtain ⟨hs, hm, -, -⟩ := hf
  unfold nv
  obtain ⟨W0, hW0⟩ : ∃ W0, w.alloc (.cells #[.int .i64 n.op, .int .i64 n.v.k, .int .i64 n.v.n, .string n.v.s, .string n.nm] 41) = W0 := ⟨_, rfl⟩
  have H0 := hide (Blk.new w 41 #[.int .i64 n.op, .int .i64 n.v.k, .int .i64 n.v.n, .string n.v.s, .string n.nm])
  have HB := hide ((Below.refl w.heap.size w).alloc (Nat.le_refl _) (.cells #[.int .i64 n.op, .int .i64 n.v.k, .int .i64 n.v.n, .string n.v.s, .string n.nm] 41))
  rw [hW0] at H0 HB
  have e0 := empty0 n.nm
  rcases ops2 n.op with h | h | ⟨h, h'⟩
  · have ho := okNode0 h
    rw [h] at H0 hW0 ⊢
    clear h
    obtain ⟨z0, z1, z2, z3, z4⟩ := five (unhide H0)
    by_cases h0 : n.nm.size = 0
    · rw [decide_eq_true h0] at e0 ho
      rw [Bool.true_and] at ho
      have HX := hide ho; clear ho
      go_enter Tryz.func44, Tryz.ntmps44
      go_wp2_with fail
      try rw [hW0]
      refine (isConstant_any n.v _ hs).mono ?_
      rintro e w1 ⟨rfl, hb1⟩
      replace HB := hide ((unhide HB).trans (hb1.mono (unhide HB).size)); clear hb1
      generalize (okVal n.v.k n.v.n n.v.s && decide (n.v.k ≠ 4) && decide (0 ≤ n.v.n)) = r at *
      cases r
      all_goals
        go_wp2_with fail
        go_ret
        exact ⟨ret_bool (unhide HX).symm, unhide HB⟩
    · rw [decide_eq_false h0] at e0 ho
      have HX : Hid (okNode n = false) := hide ho; clear ho h0
      go_enter Tryz.func44, Tryz.ntmps44
      go_wp2_with fail
      go_ret
      exact ⟨ret_bool (unhide HX).symm, unhide HB⟩
  · have ho := okNode1 h
    rw [h] at H0 hW0 ⊢
    clear h
    obtain ⟨z0, z1, z2, z3, z4⟩ := five (unhide H0)
    go_enter Tryz.func44, Tryz.ntmps44
    go_wp2_with fail
    try rw [hW0]
    clear hW0
    refine wp_region_held_drew (S := fun w' => w'.cell? ⟨w.heap.size, 1, none⟩ = some (.int .i64 n.v.k) ∧ w'.cell? ⟨w.heap.size, 2, none⟩ = some (.int .i64 n.v.n) ∧ w'.cell? ⟨w.heap.size, 3, none⟩ = some (.string n.v.s) ∧ w'.cell? ⟨w.heap.size, 4, none⟩ = some (.string n.nm)) (by kernel_rfl) ⟨z1, z2, z3, z4⟩ (fun hHeld => ?_)
    clear z0 z1 z2 z3 z4
    refine takeY (i := 0) (v := .pointer (some ⟨w.heap.size, 1, none⟩)) 17 rfl rfl (by kernel_rfl) (by kernel_rfl) (by kernel_rfl) (fun _ _ _ _ h => h) (by rfl) (fun w hS => by simp [execOp, go_sem, *]) hHeld ?_
    simp only [List.setIfInBounds_toArray, List.set_cons_zero, List.set_cons_succ]
    refine takeY (i := 1) (v := .agg #[.int .i64 n.v.k, .int .i64 n.v.n, .string n.v.s]) 18 rfl rfl (by kernel_rfl) (by kernel_rfl) (by kernel_rfl) (fun _ _ _ _ h => h) (by rfl) (fun w hS => by simp [execOp, go_sem, *]) hHeld ?_
    simp only [List.setIfInBounds_toArray, List.set_cons_zero, List.set_cons_succ]
    refine callY (i := 2) (f := 79) (args := #[]) (R := fun r wz => r = vv blankX ∧ Below W0.heap.size W0 wz) 19 rfl rfl (by rfl) (by kernel_rfl) ?hrun2 ((blankValue_any _).mono fun e w6 ⟨he, hb⟩ => ⟨_, he, rfl, below_of_drew hb⟩) ?_
    case hrun2 => simp [execOp, go_sem]
    rintro r3 w3 ⟨rfl, hb⟩
    replace H0 := hide ((unhide H0).mono hb (unhide H0).lt); replace HB := hide ((unhide HB).trans (hb.mono (unhide HB).size)); clear hb
    obtain ⟨z0, z1, z2, z3, z4⟩ := five (unhide H0)
    replace hHeld : w3.cell? ⟨w.heap.size, 1, none⟩ = some (.int .i64 n.v.k) ∧ w3.cell? ⟨w.heap.size, 2, none⟩ = some (.int .i64 n.v.n) ∧ w3.cell? ⟨w.heap.size, 3, none⟩ = some (.string n.v.s) ∧ w3.cell? ⟨w.heap.size, 4, none⟩ = some (.string n.nm) := ⟨z1, z2, z3, z4⟩
    clear z0 z1 z2 z3 z4
    refine ⟨hHeld, ?_⟩
    simp only [List.setIfInBounds_toArray, List.set_cons_zero, List.set_cons_succ]
    unfold vv
    refine takeY (i := 3) (v := .bool (eqX n.v blankX)) 20 rfl rfl (by kernel_rfl) (by kernel_rfl) (by kernel_rfl) (fun _ _ _ _ h => h) (by rfl) (fun w hS => by simp [execOp, go_sem, *]; unfold eqX blankX; (repeat' split) <;> simp_all) hHeld ?_
    simp only [List.setIfInBounds_toArray, List.set_cons_zero, List.set_cons_succ]
    rw [zv_eq]
    rw [show decide (n.v.k = 0 ∧ n.v.n = 0 ∧ n.v.s.size = 0) = zv n.v from rfl] at ho
    cases hz : zv n.v
    · have HX : Hid (okNode n = false) := hide (by rw [ho, hz]; rfl)
      clear ho hz
      refine takeY (i := 4) (v := .bool false) 21 rfl rfl (by kernel_rfl) (by kernel_rfl) (by kernel_rfl) (fun _ _ _ _ h => h) (by rfl) (fun w hS => by simp [execOp, go_sem, *]) hHeld ?_
      simp only [List.setIfInBounds_toArray, List.set_cons_zero, List.set_cons_succ]
      refine takeN (i := 5) 22 rfl rfl (by kernel_rfl) (by kernel_rfl) (by kernel_rfl) (fun _ _ _ _ h => h) (by rfl) hHeld ?_
      simp only [List.setIfInBounds_toArray, List.set_cons_zero, List.set_cons_succ]
      refine takeN (i := 6) 23 rfl rfl (by kernel_rfl) (by kernel_rfl) (by kernel_rfl) (fun _ _ _ _ h => h) (by rfl) hHeld ?_
      simp only [List.setIfInBounds_toArray, List.set_cons_zero, List.set_cons_succ]
      refine takeN (i := 7) 24 rfl rfl (by kernel_rfl) (by kernel_rfl) (by kernel_rfl) (fun _ _ _ _ h => h) (by rfl) hHeld ?_
      simp only [List.setIfInBounds_toArray, List.set_cons_zero, List.set_cons_succ]
      refine takeY (i := 8) (v := .bool false) 25 rfl rfl (by kernel_rfl) (by kernel_rfl) (by kernel_rfl) (fun _ _ _ _ h => h) (by rfl) (fun w hS => by simp [execOp, go_sem, *]) hHeld ?_
      simp only [List.setIfInBounds_toArray, List.set_cons_zero, List.set_cons_succ]
      refine takeY (i := 9) (v := .bool false) 2 rfl rfl (by kernel_rfl) (by kernel_rfl) (by kernel_rfl) (fun _ _ _ _ h => h) (by rfl) (fun w hS => by simp [execOp, go_sem, *]) hHeld ?_
      simp only [List.setIfInBounds_toArray, List.set_cons_zero, List.set_cons_succ]
      refine wpAnyH_done (by kernel_rfl) ?_ _
      clear hHeld
      go_wp2
      go_ret
      exact ⟨ret_bool (unhide HX).symm, unhide HB⟩
    · have HX : Hid (okNode n = goodN n.nm) := hide (by rw [ho, hz]; rfl)
      clear ho hz
      refine takeY (i := 4) (v := .bool true) 21 rfl rfl (by kernel_rfl) (by kernel_rfl) (by kernel_rfl) (fun _ _ _ _ h => h) (by rfl) (fun w hS => by simp [execOp, go_sem, *]) hHeld ?_
      simp only [List.setIfInBounds_toArray, List.set_cons_zero, List.set_cons_succ]
      refine takeY (i := 5) (v := .pointer (some ⟨w.heap.size, 4, none⟩)) 22 rfl rfl (by kernel_rfl) (by kernel_rfl) (by kernel_rfl) (fun _ _ _ _ h => h) (by rfl) (fun w hS => by simp [execOp, go_sem, *]) hHeld ?_
      simp only [List.setIfInBounds_toArray, List.set_cons_zero, List.set_cons_succ]
      refine takeY (i := 6) (v := .string n.nm) 23 rfl rfl (by kernel_rfl) (by kernel_rfl) (by kernel_rfl) (fun _ _ _ _ h => h) (by rfl) (fun w hS => by simp [execOp, go_sem, *]) hHeld ?_
      simp only [List.setIfInBounds_toArray, List.set_cons_zero, List.set_cons_succ]
      refine callY (i := 7) (f := 80) (args := #[.string n.nm]) (R := fun r wz => r = .bool (goodN n.nm) ∧ wz = w3) 24 rfl rfl (by rfl) (by kernel_rfl) ?hrun7 ((isGoodName_any _ _ hm).mono fun e w6 ⟨he, hb⟩ => ⟨_, he, rfl, hb⟩) ?_
      case hrun7 => simp [execOp, go_sem]
      rintro r3 w4 ⟨rfl, hw⟩
      replace hw := hw.symm; subst hw
      refine ⟨hHeld, ?_⟩
      simp only [List.setIfInBounds_toArray, List.set_cons_zero, List.set_cons_succ]
      refine takeY (i := 8) (v := .bool (goodN n.nm)) 25 rfl rfl (by kernel_rfl) (by kernel_rfl) (by kernel_rfl) (fun _ _ _ _ h => h) (by rfl) (fun w hS => by simp [execOp, go_sem, *]) hHeld ?_
      simp only [List.setIfInBounds_toArray, List.set_cons_zero, List.set_cons_succ]
      refine takeY (i := 9) (v := .bool (goodN n.nm)) 2 rfl rfl (by kernel_rfl) (by kernel_rfl) (by kernel_rfl) (fun _ _ _ _ h => h) (by rfl) (fun w hS => by simp [execOp, go_sem, *]) hHeld ?_
      simp only [List.setIfInBounds_toArray, List.set_cons_zero, List.set_cons_succ]
      refine wpAnyH_done (by kernel_rfl) ?_ _
      clear hHeld
      go_wp2
      go_ret
      exact ⟨ret_bool (unhide HX).symm, unhide HB⟩
  · have ho := okNode2 h h'
    have h1 : (n.op == 0) = false := beq_eq_false_iff_ne.2 h
    have h2 : (n.op == 1) = false := beq_eq_false_iff_ne.2 h'
    clear h h'
    obtain ⟨z0, z1, z2, z3, z4⟩ := five (unhide H0)
    go_enter Tryz.func44, Tryz.ntmps44
    go_wp2_with fail
    try rw [hW0]
    clear hW0
    refine wp_region_held_drew (S := fun w' => w'.cell? ⟨w.heap.size, 0, none⟩ = some (.int .i64 n.op) ∧ w'.cell? ⟨w.heap.size, 1, none⟩ = some (.int .i64 n.v.k) ∧ w'.cell? ⟨w.heap.size, 2, none⟩ = some (.int .i64 n.v.n) ∧ w'.cell? ⟨w.heap.size, 3, none⟩ = some (.string n.v.s) ∧ w'.cell? ⟨w.heap.size, 4, none⟩ = some (.string n.nm)) (by kernel_rfl) ⟨z0, z1, z2, z3, z4⟩ (fun hHeld => ?_)
    clear z0 z1 z2 z3 z4
    refine takeY (i := 0) (v := .pointer (some ⟨w.heap.size, 0, none⟩)) 26 rfl rfl (by kernel_rfl) (by kernel_rfl) (by kernel_rfl) (fun _ _ _ _ h => h) (by rfl) (fun w hS => by simp [execOp, go_sem, *]) hHeld ?_
    simp only [List.setIfInBounds_toArray, List.set_cons_zero, List.set_cons_succ]
    refine takeY (i := 1) (v := .int .i64 n.op) 27 rfl rfl (by kernel_rfl) (by kernel_rfl) (by kernel_rfl) (fun _ _ _ _ h => h) (by rfl) (fun w hS => by simp [execOp, go_sem, *]) hHeld ?_
    simp only [List.setIfInBounds_toArray, List.set_cons_zero, List.set_cons_succ]
    refine callY (i := 2) (f := 81) (args := #[.int .i64 n.op]) (R := fun r wz => r = .bool (decide (2 ≤ n.op ∧ n.op ≤ 25)) ∧ wz = W0.drew) 28 rfl rfl (by rfl) (by kernel_rfl) ?hrun2 ((isOperator_any _ _).mono fun e w6 ⟨he, hb⟩ => ⟨_, he, rfl, hb⟩) ?_
    case hrun2 => simp [execOp, go_sem]
    rintro r3 w3 ⟨rfl, hw⟩
    subst hw
    refine ⟨hHeld, ?_⟩
    simp only [List.setIfInBounds_toArray, List.set_cons_zero, List.set_cons_succ]
    cases hop : decide (2 ≤ n.op ∧ n.op ≤ 25)
    · have HX : Hid (okNode n = false) := hide (by rw [ho, hop]; rfl)
      clear ho hop
      refine takeY (i := 3) (v := .bool false) 29 rfl rfl (by kernel_rfl) (by kernel_rfl) (by kernel_rfl) (fun _ _ _ _ h => h) (by rfl) (fun w hS => by simp [execOp, go_sem, *]) hHeld ?_
      simp only [List.setIfInBounds_toArray, List.set_cons_zero, List.set_cons_succ]
      refine takeN (i := 4) 30 rfl rfl (by kernel_rfl) (by kernel_rfl) (by kernel_rfl) (fun _ _ _ _ h => h) (by rfl) hHeld ?_
      simp only [List.setIfInBounds_toArray, List.set_cons_zero, List.set_cons_succ]
      refine takeN (i := 5) 31 rfl rfl (by kernel_rfl) (by kernel_rfl) (by kernel_rfl) (fun _ _ _ _ h => h) (by rfl) hHeld ?_
      simp only [List.setIfInBounds_toArray, List.set_cons_zero, List.set_cons_succ]
      refine takeN (i := 6) 32 rfl rfl (by kernel_rfl) (by kernel_rfl) (by kernel_rfl) (fun _ _ _ _ h => h) (by rfl) hHeld ?_
      simp only [List.setIfInBounds_toArray, List.set_cons_zero, List.set_cons_succ]
      refine takeY (i := 7) (v := .bool false) 33 rfl rfl (by kernel_rfl) (by kernel_rfl) (by kernel_rfl) (fun _ _ _ _ h => h) (by rfl) (fun w hS => by simp [execOp, go_sem, *]) hHeld ?_
      simp only [List.setIfInBounds_toArray, List.set_cons_zero, List.set_cons_succ]
      refine takeY (i := 8) (v := .bool false) 34 rfl rfl (by kernel_rfl) (by kernel_rfl) (by kernel_rfl) (fun _ _ _ _ h => h) (by rfl) (fun w hS => by simp [execOp, go_sem, *]) hHeld ?_
      simp only [List.setIfInBounds_toArray, List.set_cons_zero, List.set_cons_succ]
      refine takeN (i := 9) 35 rfl rfl (by kernel_rfl) (by kernel_rfl) (by kernel_rfl) (fun _ _ _ _ h => h) (by rfl) hHeld ?_
      simp only [List.setIfInBounds_toArray, List.set_cons_zero, List.set_cons_succ]
      refine takeN (i := 10) 36 rfl rfl (by kernel_rfl) (by kernel_rfl) (by kernel_rfl) (fun _ _ _ _ h => h) (by rfl) hHeld ?_
      simp only [List.setIfInBounds_toArray, List.set_cons_zero, List.set_cons_succ]
      refine takeN (i := 11) 37 rfl rfl (by kernel_rfl) (by kernel_rfl) (by kernel_rfl) (fun _ _ _ _ h => h) (by rfl) hHeld ?_
      simp only [List.setIfInBounds_toArray, List.set_cons_zero, List.set_cons_succ]
      refine takeN (i := 12) 38 rfl rfl (by kernel_rfl) (by kernel_rfl) (by kernel_rfl) (fun _ _ _ _ h => h) (by rfl) hHeld ?_
      simp only [List.setIfInBounds_toArray, List.set_cons_zero, List.set_cons_succ]
      refine takeY (i := 13) (v := .bool false) 39 rfl rfl (by kernel_rfl) (by kernel_rfl) (by kernel_rfl) (fun _ _ _ _ h => h) (by rfl) (fun w hS => by simp [execOp, go_sem, *]) hHeld ?_
      simp only [List.setIfInBounds_toArray, List.set_cons_zero, List.set_cons_succ]
      refine takeY (i := 14) (v := .bool false) 2 rfl rfl (by kernel_rfl) (by kernel_rfl) (by kernel_rfl) (fun _ _ _ _ h => h) (by rfl) (fun w hS => by simp [execOp, go_sem, *]) hHeld ?_
      simp only [List.setIfInBounds_toArray, List.set_cons_zero, List.set_cons_succ]
      refine wpAnyH_done (by kernel_rfl) ?_ _
      clear hHeld
      go_wp2
      go_ret
      exact ⟨ret_bool (unhide HX).symm, (unhide HB).drew⟩
    rw [hop, Bool.true_and] at ho
    clear hop
    refine takeY (i := 3) (v := .bool true) 29 rfl rfl (by kernel_rfl) (by kernel_rfl) (by kernel_rfl) (fun _ _ _ _ h => h) (by rfl) (fun w hS => by simp [execOp, go_sem, *]) hHeld ?_
    simp only [List.setIfInBounds_toArray, List.set_cons_zero, List.set_cons_succ]
    refine takeY (i := 4) (v := .pointer (some ⟨w.heap.size, 4, none⟩)) 30 rfl rfl (by kernel_rfl) (by kernel_rfl) (by kernel_rfl) (fun _ _ _ _ h => h) (by rfl) (fun w hS => by simp [execOp, go_sem, *]) hHeld ?_
    simp only [List.setIfInBounds_toArray, List.set_cons_zero, List.set_cons_succ]
    refine takeY (i := 5) (v := .string n.nm) 31 rfl rfl (by kernel_rfl) (by kernel_rfl) (by kernel_rfl) (fun _ _ _ _ h => h) (by rfl) (fun w hS => by simp [execOp, go_sem, *]) hHeld ?_
    simp only [List.setIfInBounds_toArray, List.set_cons_zero, List.set_cons_succ]
    refine takeY (i := 6) (v := .bool (decide (n.nm.size = 0))) 32 rfl rfl (by kernel_rfl) (by kernel_rfl) (by kernel_rfl) (fun _ _ _ _ h => h) (by rfl) (fun w hS => by simp [execOp, go_sem, *]) hHeld ?_
    simp only [List.setIfInBounds_toArray, List.set_cons_zero, List.set_cons_succ]
    refine takeY (i := 7) (v := .bool (decide (n.nm.size = 0))) 33 rfl rfl (by kernel_rfl) (by kernel_rfl) (by kernel_rfl) (fun _ _ _ _ h => h) (by rfl) (fun w hS => by simp [execOp, go_sem, *]) hHeld ?_
    simp only [List.setIfInBounds_toArray, List.set_cons_zero, List.set_cons_succ]
    refine takeY (i := 8) (v := .bool (decide (n.nm.size = 0))) 34 rfl rfl (by kernel_rfl) (by kernel_rfl) (by kernel_rfl) (fun _ _ _ _ h => h) (by rfl) (fun w hS => by simp [execOp, go_sem, *]) hHeld ?_
    simp only [List.setIfInBounds_toArray, List.set_cons_zero, List.set_cons_succ]
    rw [show decide (n.v.k = 0 ∧ n.v.n = 0 ∧ n.v.s.size = 0) = zv n.v from rfl] at ho
    cases hq : decide (n.nm.size = 0)
    · have HX : Hid (okNode n = false) := hide (by rw [ho, hq, Bool.and_false])
      clear ho hq e0
      refine takeN (i := 9) 35 rfl rfl (by kernel_rfl) (by kernel_rfl) (by kernel_rfl) (fun _ _ _ _ h => h) (by rfl) hHeld ?_
      simp only [List.setIfInBounds_toArray, List.set_cons_zero, List.set_cons_succ]
      refine takeN (i := 10) 36 rfl rfl (by kernel_rfl) (by kernel_rfl) (by kernel_rfl) (fun _ _ _ _ h => h) (by rfl) hHeld ?_
      simp only [List.setIfInBounds_toArray, List.set_cons_zero, List.set_cons_succ]
      refine takeN (i := 11) 37 rfl rfl (by kernel_rfl) (by kernel_rfl) (by kernel_rfl) (fun _ _ _ _ h => h) (by rfl) hHeld ?_
      simp only [List.setIfInBounds_toArray, List.set_cons_zero, List.set_cons_succ]
      refine takeN (i := 12) 38 rfl rfl (by kernel_rfl) (by kernel_rfl) (by kernel_rfl) (fun _ _ _ _ h => h) (by rfl) hHeld ?_
      simp only [List.setIfInBounds_toArray, List.set_cons_zero, List.set_cons_succ]
      refine takeY (i := 13) (v := .bool false) 39 rfl rfl (by kernel_rfl) (by kernel_rfl) (by kernel_rfl) (fun _ _ _ _ h => h) (by rfl) (fun w hS => by simp [execOp, go_sem, *]) hHeld ?_
      simp only [List.setIfInBounds_toArray, List.set_cons_zero, List.set_cons_succ]
      refine takeY (i := 14) (v := .bool false) 2 rfl rfl (by kernel_rfl) (by kernel_rfl) (by kernel_rfl) (fun _ _ _ _ h => h) (by rfl) (fun w hS => by simp [execOp, go_sem, *]) hHeld ?_
      simp only [List.setIfInBounds_toArray, List.set_cons_zero, List.set_cons_succ]
      refine wpAnyH_done (by kernel_rfl) ?_ _
      clear hHeld
      go_wp2
      go_ret
      exact ⟨ret_bool (unhide HX).symm, (unhide HB).drew⟩
    rw [hq, Bool.and_true] at ho
    have HX := hide ho
    clear ho hq e0
    refine takeY (i := 9) (v := .pointer (some ⟨w.heap.size, 1, none⟩)) 35 rfl rfl (by kernel_rfl) (by kernel_rfl) (by kernel_rfl) (fun _ _ _ _ h => h) (by rfl) (fun w hS => by simp [execOp, go_sem, *]) hHeld ?_
    simp only [List.setIfInBounds_toArray, List.set_cons_zero, List.set_cons_succ]
    refine takeY (i := 10) (v := .agg #[.int .i64 n.v.k, .int .i64 n.v.n, .string n.v.s]) 36 rfl rfl (by kernel_rfl) (by kernel_rfl) (by kernel_rfl) (fun _ _ _ _ h => h) (by rfl) (fun w hS => by simp [execOp, go_sem, *]) hHeld ?_
    simp only [List.setIfInBounds_toArray, List.set_cons_zero, List.set_cons_succ]
    refine callY (i := 11) (f := 79) (args := #[]) (R := fun r wz => r = vv blankX ∧ Below W0.heap.size W0 wz) 37 rfl rfl (by rfl) (by kernel_rfl) ?hrun3 ((blankValue_any _).mono fun e w6 ⟨he, hb⟩ => ⟨_, he, rfl, below_of_drew hb⟩) ?_
    case hrun3 => simp [execOp, go_sem]
    rintro r3 w3 ⟨rfl, hb⟩
    replace H0 := hide ((unhide H0).mono hb (unhide H0).lt); replace HB := hide ((unhide HB).trans (hb.mono (unhide HB).size)); clear hb
    obtain ⟨z0, z1, z2, z3, z4⟩ := five (unhide H0)
    replace hHeld : w3.cell? ⟨w.heap.size, 0, none⟩ = some (.int .i64 n.op) ∧ w3.cell? ⟨w.heap.size, 1, none⟩ = some (.int .i64 n.v.k) ∧ w3.cell? ⟨w.heap.size, 2, none⟩ = some (.int .i64 n.v.n) ∧ w3.cell? ⟨w.heap.size, 3, none⟩ = some (.string n.v.s) ∧ w3.cell? ⟨w.heap.size, 4, none⟩ = some (.string n.nm) := ⟨z0, z1, z2, z3, z4⟩
    clear z0 z1 z2 z3 z4
    refine ⟨hHeld, ?_⟩
    simp only [List.setIfInBounds_toArray, List.set_cons_zero, List.set_cons_succ]
    unfold vv
    refine takeY (i := 12) (v := .bool (eqX n.v blankX)) 38 rfl rfl (by kernel_rfl) (by kernel_rfl) (by kernel_rfl) (fun _ _ _ _ h => h) (by rfl) (fun w hS => by simp [execOp, go_sem, *]; unfold eqX blankX; (repeat' split) <;> simp_all) hHeld ?_
    simp only [List.setIfInBounds_toArray, List.set_cons_zero, List.set_cons_succ]
    rw [zv_eq]
    refine takeY (i := 13) (v := .bool (zv n.v)) 39 rfl rfl (by kernel_rfl) (by kernel_rfl) (by kernel_rfl) (fun _ _ _ _ h => h) (by rfl) (fun w hS => by simp [execOp, go_sem, *]) hHeld ?_
    simp only [List.setIfInBounds_toArray, List.set_cons_zero, List.set_cons_succ]
    refine takeY (i := 14) (v := .bool (zv n.v)) 2 rfl rfl (by kernel_rfl) (by kernel_rfl) (by kernel_rfl) (fun _ _ _ _ h => h) (by rfl) (fun w hS => by simp [execOp, go_sem, *]) hHeld ?_
    simp only [List.setIfInBounds_toArray, List.set_cons_zero, List.set_cons_succ]
    refine wpAnyH_done (by kernel_rfl) ?_ _
    clear hHeld
    go_wp2
    go_ret
    exact ⟨ret_bool (unhide HX).symm, unhide HB⟩
end Go.Proofs.YtjgngbmkpiihgaaGreatDoor

/- The program prints phrases: brackets, lists of arguments. -/
namespace Go.Proofs.YtjgngbmkpiihgaaGreatDoor
open Go Go.RowKit

def pv (p : Ph) : Value := .agg #[.string p.t, .int .i64 p.lv, .int .i64 p.d]
/-- The cells of a phrase. -/
def PCel (w : World) (b o : Nat) (p : Ph) : Prop := b < w.heap.size ∧ w.cell? ⟨b, o, none⟩ = some (.string p.t) ∧ w.cell? ⟨b, o + 1, none⟩ = some (.int .i64 p.lv) ∧ w.cell? ⟨b, o + 2, none⟩ = some (.int .i64 p.d)
theorem PCel.mono {w w' : World} {b o : Nat} {p : Ph} (h : PCel w b o p) (hb : Below w.heap.size w w') : PCel w' b o p :=
  ⟨Nat.lt_of_lt_of_le h.1 hb.size, (hb.cell h.1).trans h.2.1, (hb.cell h.1).trans h.2.2.1, (hb.cell h.1).trans h.2.2.2⟩
/-- A slice of phrases. -/
def Phs (w : World) (a : Option Addr) (l : List Ph) : Prop := ∀ k (h : k < l.length), ∃ b o, a = some ⟨b, o, none⟩ ∧ PCel w b (o + k * 3) l[k]
theorem Phs.mono {w w' : World} {a : Option Addr} {l : List Ph} (h : Phs w a l) (hb : Below w.heap.size w w') : Phs w' a l := fun k hk => by
  obtain ⟨b, o, e, hc⟩ := h k hk
  exact ⟨b, o, e, hc.mono hb⟩

set_option maxRecDepth 100000 in
set_option maxHeartbeats 1000000 in
theorem atLevel_any (p : Ph) (l : Int) (w : World) (hs : p.t.size ≤ 2000000) : Calls Tryz.prog 112 #[pv p, .int .i64 l] w fun r w' => r = .returned (.string (wrap l p)) ∧ Below w.heap.size w w' := by
  unfold pv
  have HB := hide ((Below.refl w.heap.size w).alloc (Nat.le_refl _) (.cells #[.string p.t, .int .i64 p.lv, .int .i64 p.d] 76))
  have HW : Hid (wrap l p = if p.lv < l then ⟨#[40]⟩ ++ p.t ++ ⟨#[41]⟩ else p.t) := hide rfl
  obtain ⟨t, ht⟩ : ∃ t, wrap l p = t := ⟨_, rfl⟩
  rw [ht] at HW ⊢
  clear ht
  by_cases hq : p.lv < l
  · rw [if_pos hq] at HW
    go_enter Tryz.func112, Tryz.ntmps112
    go_wp2_with fail
    go_ret
    exact ⟨ret_str (unhide HW).symm, unhide HB⟩
  · rw [if_neg hq] at HW
    go_enter Tryz.func112, Tryz.ntmps112
    go_wp2_with fail
    go_ret
    exact ⟨ret_str (unhide HW).symm, unhide HB⟩

theorem jt_join (r : List ByteArray) : (jt r).data.toList = Lib.joinTail [44, 32] (r.map (·.data.toList)) := by
  induction r with
  | nil => rfl
  | cons x r ih => simp only [jt, ByteArray.data_append, Array.toList_append, ih, List.map_cons, Lib.joinTail, List.flatten_cons]
theorem jn_join (l : List ByteArray) : jn l = ⟨(Lib.join (l.map (·.data.toList)) [44, 32]).toArray⟩ := by
  refine string_ext ?_
  cases l with
  | nil => rfl
  | cons x r => rw [List.map_cons, Lib.join_cons]; simp only [jn, ByteArray.data_append, Array.toList_append, jt_join]

def stV (l : List ByteArray) : List Value := l.map .string
theorem info_str : (Tryz.prog.info? 9).map (fun i => (i.zero, i.size, i.bytes)) = some (some (.string ⟨#[]⟩), 1, 16) := by kernel_rfl

set_option maxRecDepth 100000 in
set_option maxHeartbeats 4000000 in
theorem listed_any (a : Option Addr) (c : Nat) (l : List Ph) (w : World) (hl : 1 ≤ l.length) (hl3 : l.length ≤ 3) (ha : Phs w a l) (hs : tot l ≤ 2000000) :
    Calls Tryz.prog 113 #[.slice a l.length c] w fun r w' => r = .returned (.string (jn (l.map (·.t)))) ∧ Below w.heap.size w w' := by
  have HA := hide ha
  have hj := (jn_size l).2
  have HJ := hide (jn_join (l.map (·.t)))
  obtain ⟨n, hn⟩ : ∃ n, l.length = n := ⟨_, rfl⟩
  rw [hn] at hl hl3 hj ⊢
  have HN := hide hn
  clear ha hn
  obtain ⟨t, ht⟩ : ∃ t, jn (l.map (·.t)) = t := ⟨_, rfl⟩
  rw [ht] at HJ hj ⊢
  clear ht
  obtain ⟨i0, hi, hz0, hz1, hz2⟩ := info_parts info_str
  have hbn : i0.bytes * n ≤ 281474976710656 := by rw [hz2]; omega
  obtain ⟨B, hB⟩ : ∃ B, w.heap.size = B := ⟨_, rfl⟩
  go_enter Tryz.func113, Tryz.ntmps113
  go_wp2_with (at_make; refine wpList_make_own _ rfl _ _ 48 rfl w.heap.size 9 i0 _ 1 Tryz.underlying48 hi hz0 hz1 .i64 .i64 _ n rfl rfl rfl hbn (by unfold maxLen; omega) (Nat.le_refl _) ?_; intro w1 hown hgrow)
  have HB1 := hide ((Below.refl w.heap.size w).grown hgrow (Nat.le_refl _) (fun k h => by cases h))
  rw [hB] at hown HB1
  have HO := hide hown
  clear hgrow hown hbn hi hz0 hz1 hz2
  go_wp2_with fail
  try rw [hB]
  go_loopw [3, 5, 11] (fun tx _ i wr => ∃ k : Nat, k ≤ n ∧ tx = .slice (some ⟨B, 0, none⟩) k n ∧ i = .int .i64 k ∧ wr.ownsRow B 9 1 (.slice (some ⟨B, 0, none⟩) k n) k (stV ((l.take k).map (·.t))) ∧ Below B w wr) (fun _ _ i _ => n - (intOf i).toNat)
  case atStart => exact ⟨0, Nat.zero_le _, rfl, rfl, unhide HO, unhide HB1⟩
  case round =>
    clear HO HB1
    obtain ⟨k, hk, rfl, rfl, hO, hb⟩ := hrel
    have HO := hide hO; have HB := hide hb
    have HV := hide ((unhide HA).mono (hb.mono (by omega)))
    clear hO hb
    by_cases hlt : k < n
    · have hlt' : (k : Int) < n := by omega
      have hkl : k < l.length := by have := unhide HN; omega
      obtain ⟨b, o, rfl, -, c0, c1, c2⟩ := unhide HV k hkl
      have HT : Hid ((l.take (k + 1)).map (·.t) = (l.take k).map (·.t) ++ [l[k].t]) := hide (by rw [List.take_succ_eq_append_getElem hkl, List.map_append]; rfl)
      obtain ⟨p, hp⟩ : ∃ p, l[k] = p := ⟨_, rfl⟩
      rw [hp] at HT c0 c1 c2
      clear hp
      obtain ⟨i0, hi, hz0, hz1, hz2⟩ := info_parts info_str
      obtain ⟨W, hW⟩ : ∃ W, wr.alloc (.cells #[.string p.t, .int .i64 p.lv, .int .i64 p.d] 76) = W := ⟨_, rfl⟩
      have HO1 : Hid (W.ownsRow B 9 1 (.slice (some ⟨B, 0, none⟩) k n) k (stV ((l.take k).map (·.t)))) := hide (by rw [← hW]; exact (unhide HO).alloc _)
      have HB1 : Hid (Below B w W) := hide (by rw [← hW]; exact (unhide HB).alloc (by have := (unhide HB).size; omega) _)
      have HK : Hid (Blk W wr.heap.size 76 [.string p.t, .int .i64 p.lv, .int .i64 p.d]) := hide (by rw [← hW]; exact Blk.new wr 76 #[.string p.t, .int .i64 p.lv, .int .i64 p.d])
      obtain ⟨y0, y1, y2⟩ := three (unhide HK)
      go_wp2_with (at_builtin; refine wpList_append_fits _ rfl _ _ 48 rfl B 9 i0 1 Tryz.underlying48 hi hz1 B k n _ rfl ((unhide HO1).alloc _) ⟨W.heap.size, 0, none⟩ 1 1 [.string p.t] rfl rfl (cell_one W 9 _) (by simp [Value.oneCell']) (by omega) ?_)
      intro w3 ho' hgr'
      have hB2 := ((unhide HB1).alloc (by have := (unhide HB1).size; omega) (.cells #[.string p.t] 9)).grown hgr' (by have := (unhide HB1).size; simp; omega) (fun q' e => by cases e; exact Nat.le_refl _)
      have HO2 : Hid (w3.ownsRow B 9 1 (.slice (some ⟨B, 0, none⟩) (k + 1) n) (k + 1) (stV ((l.take (k + 1)).map (·.t)))) := hide (by rw [unhide HT]; simpa [stV] using ho')
      have HB2 := hide hB2
      clear ho' hgr' hB2 hi hz0 hz1 hz2 HO HB HO1 HB1 HK c0 c1 c2 y0 y1 y2 hW
      go_wp2_with fail
      go_roundw
      case rel => first | exact ⟨k + 1, by omega, rfl, by go_num, unhide HO2, unhide HB2⟩ | ((repeat apply Exists.intro); exact ⟨⟨k + 1, by omega, rfl, by go_num, unhide HO2, unhide HB2⟩, rfl⟩)
      case measure => simp [intOf]; omega
    · obtain rfl : k = n := by omega
      have hO := unhide HO
      rw [List.take_of_length_le (by have := unhide HN; omega)] at hO
      have HC : Hid (∀ (j : Nat) x, (l.map (·.t))[j]? = some x → wr.cell? ⟨B, 0 + j, none⟩ = some (.string x)) := hide fun j x hx => by
        have hj : j < (l.map (·.t)).length := (List.getElem?_eq_some_iff.1 hx).1
        have := hO.cellAt j (by rw [List.length_map] at hj; have := unhide HN; omega)
        rw [Nat.zero_add]
        rw [show (⟨B, j, none⟩ : Addr) = ⟨B, j, none⟩ from rfl]
        rw [this]
        simp only [stV, List.getElem?_map, hx, Option.map_some]
      have hlen2 : (l.map (·.t)).length = k := by rw [List.length_map]; exact unhide HN
      have hblt : B < wr.heap.size := by
        rcases hO.2 with ⟨h', _⟩ | ⟨g', cap', cur, h', _, hg, _⟩
        · simp at h'
        · simp only [Value.slice.injEq, Option.some.injEq, Addr.mk.injEq, and_true, true_and] at h'
          obtain ⟨rfl, -⟩ := h'
          exact (Array.getElem?_eq_some_iff.1 hg).1
      clear hO
      go_wp2_with fail
      have hJ := unhide HJ
      refine (show Calls Tryz.prog 132 #[.slice (some ⟨B, 0, none⟩) k k, .string ⟨#[44, 32]⟩] wr fun r w' => r = .returned (.string t) ∧ Below wr.heap.size wr w' from ?_).mono ?_
      · have hc := Tryz.strings_Join B 0 k (l.map (·.t)) ⟨#[44, 32]⟩ wr (unhide HC) hblt (by omega) (by omega) (by
          have e : t.size = (Lib.join ((l.map (·.t)).map (·.data.toList)) [44, 32]).length := by rw [hJ]; rfl
          show (Lib.join ((l.map (·.t)).map (·.data.toList)) [44, 32]).length ≤ _
          omega)
        rw [hlen2] at hc
        refine hc.mono fun r w' ⟨h1, h2⟩ => ⟨?_, h2⟩
        rw [h1, hJ]
      rintro r w2 ⟨rfl, hb⟩
      have HB2 := hide ((unhide HB).trans (hb.mono (by have := (unhide HB).size; omega)))
      clear hb hJ
      go_wp2_with fail
      go_ret
      exact ⟨rfl, by rw [hB]; exact unhide HB2⟩
end Go.Proofs.YtjgngbmkpiihgaaGreatDoor
