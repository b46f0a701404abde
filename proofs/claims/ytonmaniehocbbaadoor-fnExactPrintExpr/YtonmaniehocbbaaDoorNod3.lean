/- Which nodes are good ones: the program. -/
import Derived.Test.YtonmaniehocbbaaDoorNod2
import Derived.Test.YtonmaniehocbbaaDoorHand
import Derived.Test.YtonmaniehocbbaaDoorBnd
namespace Go.Proofs.YtonmaniehocbbaaDoor
open Go Go.RowKit

def zv (u : Vx) : Bool := decide (u.k = 0 ∧ u.n = 0 ∧ u.s.size = 0)
theorem zv_eq (u : Vx) : eqX u blankX = zv u := by
  have : (u.s.toList = []) ↔ u.s.size = 0 := by
    have := empty0 u.s
    rw [Bool.eq_iff_iff] at this
    simpa using this
  unfold eqX zv blankX
  by_cases h1 : u.k = 0
  · by_cases h2 : u.n = 0
    · simp [h1, h2, this]
    · simp [h1, h2]
  · simp [h1]

set_option maxRecDepth 100000 in
set_option maxHeartbeats 1000000 in
theorem isConstant_any (u : Vx) (w : World) (hs : u.s.size ≤ 9223372036854775807) : Calls Tryd.prog 37 #[vv u] w fun e w' => e = .returned (.bool (okVal u.k u.n u.s && decide (u.k ≠ 4) && decide (0 ≤ u.n))) ∧ Below w.heap.size w w' := by
  unfold vv
  have H0 := hide (Blk.new w 36 #[.int .i64 u.k, .int .i64 u.n, .string u.s])
  have HB := hide ((Below.refl w.heap.size w).alloc (Nat.le_refl _) (.cells #[.int .i64 u.k, .int .i64 u.n, .string u.s] 36))
  obtain ⟨r, hr⟩ : ∃ r, (okVal u.k u.n u.s && decide (u.k ≠ 4) && decide (0 ≤ u.n)) = r := ⟨_, rfl⟩
  rw [hr]
  go_enter Tryd.func37, Tryd.ntmps37
  go_wp2_with fail
  refine (implValidV_any _ _ _ _ hs).mono ?_
  rintro e w1 ⟨rfl, hb1⟩
  replace H0 := hide ((unhide H0).mono hb1 (unhide H0).lt); replace HB := hide ((unhide HB).trans (hb1.mono (unhide HB).size)); clear hb1
  obtain ⟨z0, z1, z2⟩ := three (unhide H0)
  cases hv : okVal u.k u.n u.s
  · rw [hv] at hr
    have HX : Hid (false = r) := hide hr; clear hr hv
    go_wp2_with fail
    go_ret
    exact ⟨ret_bool (unhide HX), unhide HB⟩
  · rw [hv, Bool.true_and] at hr
    by_cases h4 : u.k = 4
    · have HX : Hid (false = r) := hide (by rw [← hr, decide_eq_false (fun h => h h4)]; rfl); clear hr hv
      rw [h4] at z0 H0
      go_wp2_with fail
      go_ret
      exact ⟨ret_bool (unhide HX), unhide HB⟩
    · rw [decide_eq_true h4, Bool.true_and] at hr
      have h4' : (u.k != 4) = true := by simp [h4]
      have HX := hide hr; clear hr hv h4
      go_wp2_with fail
      go_ret
      exact ⟨ret_bool (unhide HX), unhide HB⟩
set_option maxRecDepth 100000 in
set_option maxHeartbeats 1000000 in
theorem operandsTaken_any (n : Nx) (w : World) : Calls Tryd.prog 28 #[nv n] w fun e w' => e = .returned (.int .i64 (arn n)) ∧ Below w.heap.size w w' := by
  rw [arn_cast, ar_opn]
  unfold nv
  have H0 := hide (Blk.new w 38 #[.int .i64 n.op, .int .i64 n.v.k, .int .i64 n.v.n, .string n.v.s, .string n.nm])
  have HB := hide ((Below.refl w.heap.size w).alloc (Nat.le_refl _) (.cells #[.int .i64 n.op, .int .i64 n.v.k, .int .i64 n.v.n, .string n.v.s, .string n.nm] 38))
  by_cases h : 2 ≤ n.op ∧ n.op ≤ 25
  · rw [if_pos h]
    go_enter Tryd.func28, Tryd.ntmps28
    go_wp2_with (first | (go_at_call 40; refine (isOperator_any _ _).mono ?_; rintro e w' ⟨rfl, hw⟩; replace hw := hw.symm; subst hw; rw [decide_eq_true h]) | (go_at_call 41; refine (operandsOf_any _ _).mono ?_; rintro e w' ⟨rfl, hw⟩; replace hw := hw.symm; subst hw))
    go_ret
    exact ⟨rfl, unhide HB⟩
  · rw [if_neg h]
    go_enter Tryd.func28, Tryd.ntmps28
    go_wp2_with (go_at_call 40; refine (isOperator_any _ _).mono ?_; rintro e w' ⟨rfl, hw⟩; replace hw := hw.symm; subst hw; rw [decide_eq_false h])
    go_ret
    exact ⟨rfl, unhide HB⟩

set_option maxRecDepth 100000 in
set_option maxHeartbeats 4000000 in
theorem isNode_any (n : Nx) (w : World) (hf : Fit n) : Calls Tryd.prog 27 #[nv n] w fun e w' => e = .returned (.bool (okNode n)) ∧ Below w.heap.size w w' := by
  obtain ⟨hs, hm, -, -⟩ := hf
  unfold nv
  obtain ⟨W0, hW0⟩ : ∃ W0, w.alloc (.cells #[.int .i64 n.op, .int .i64 n.v.k, .int .i64 n.v.n, .string n.v.s, .string n.nm] 38) = W0 := ⟨_, rfl⟩
  have H0 := hide (Blk.new w 38 #[.int .i64 n.op, .int .i64 n.v.k, .int .i64 n.v.n, .string n.v.s, .string n.nm])
  have HB := hide ((Below.refl w.heap.size w).alloc (Nat.le_refl _) (.cells #[.int .i64 n.op, .int .i64 n.v.k, .int .i64 n.v.n, .string n.v.s, .string n.nm] 38))
  rw [hW0] at H0 HB
  have e0 := empty0 n.nm
  rcases ops2 n.op with h | h | ⟨h, h'⟩
  · have ho := okNode0 h
    rw [h] at H0 hW0 ⊢
    clear h
    obtain ⟨z0, z1, z2, z3, z4⟩ := five (unhide H0)
    by_cases h0 : n.nm.size = 0
    · rw [decide_eq_true h0] at e0 ho
      rw [Bool.true_and] at ho
      have HX := hide ho; clear ho
      go_enter Tryd.func27, Tryd.ntmps27
      go_wp2_with fail
      try rw [hW0]
      refine (isConstant_any n.v _ hs).mono ?_
      rintro e w1 ⟨rfl, hb1⟩
      replace HB := hide ((unhide HB).trans (hb1.mono (unhide HB).size)); clear hb1
      generalize (okVal n.v.k n.v.n n.v.s && decide (n.v.k ≠ 4) && decide (0 ≤ n.v.n)) = r at *
      cases r
      all_goals
        go_wp2_with fail
        go_ret
        exact ⟨ret_bool (unhide HX).symm, unhide HB⟩
    · rw [decide_eq_false h0] at e0 ho
      have HX : Hid (okNode n = false) := hide ho; clear ho h0
      go_enter Tryd.func27, Tryd.ntmps27
      go_wp2_with fail
      go_ret
      exact ⟨ret_bool (unhide HX).symm, unhide HB⟩
  · have ho := okNode1 h
    rw [h] at H0 hW0 ⊢
    clear h
    obtain ⟨z0, z1, z2, z3, z4⟩ := five (unhide H0)
    go_enter Tryd.func27, Tryd.ntmps27
    go_wp2_with fail
    try rw [hW0]
    clear hW0
    refine wp_region_held_drew (S := fun w' => w'.cell? ⟨w.heap.size, 1, none⟩ = some (.int .i64 n.v.k) ∧ w'.cell? ⟨w.heap.size, 2, none⟩ = some (.int .i64 n.v.n) ∧ w'.cell? ⟨w.heap.size, 3, none⟩ = some (.string n.v.s) ∧ w'.cell? ⟨w.heap.size, 4, none⟩ = some (.string n.nm)) (by kernel_rfl) ⟨z1, z2, z3, z4⟩ (fun hHeld => ?_)
    clear z0 z1 z2 z3 z4
    refine takeY (i := 0) (v := .pointer (some ⟨w.heap.size, 1, none⟩)) 17 rfl rfl (by kernel_rfl) (by kernel_rfl) (by kernel_rfl) (fun _ _ _ _ h => h) (by rfl) (fun w hS => by simp [execOp, go_sem, *]) hHeld ?_
    simp only [List.setIfInBounds_toArray, List.set_cons_zero, List.set_cons_succ]
    refine takeY (i := 1) (v := .agg #[.int .i64 n.v.k, .int .i64 n.v.n, .string n.v.s]) 18 rfl rfl (by kernel_rfl) (by kernel_rfl) (by kernel_rfl) (fun _ _ _ _ h => h) (by rfl) (fun w hS => by simp [execOp, go_sem, *]) hHeld ?_
    simp only [List.setIfInBounds_toArray, List.set_cons_zero, List.set_cons_succ]
    refine callY (i := 2) (f := 38) (args := #[]) (R := fun r wz => r = vv blankX ∧ Below W0.heap.size W0 wz) 19 rfl rfl (by rfl) (by kernel_rfl) ?hrun2 ((blankValue_any _).mono fun e w6 ⟨he, hb⟩ => ⟨_, he, rfl, below_of_drew hb⟩) ?_
    case hrun2 => simp [execOp, go_sem]
    rintro r3 w3 ⟨rfl, hb⟩
    replace H0 := hide ((unhide H0).mono hb (unhide H0).lt); replace HB := hide ((unhide HB).trans (hb.mono (unhide HB).size)); clear hb
    obtain ⟨z0, z1, z2, z3, z4⟩ := five (unhide H0)
    replace hHeld : w3.cell? ⟨w.heap.size, 1, none⟩ = some (.int .i64 n.v.k) ∧ w3.cell? ⟨w.heap.size, 2, none⟩ = some (.int .i64 n.v.n) ∧ w3.cell? ⟨w.heap.size, 3, none⟩ = some (.string n.v.s) ∧ w3.cell? ⟨w.heap.size, 4, none⟩ = some (.string n.nm) := ⟨z1, z2, z3, z4⟩
    clear z0 z1 z2 z3 z4
    refine ⟨hHeld, ?_⟩
    simp only [List.setIfInBounds_toArray, List.set_cons_zero, List.set_cons_succ]
    unfold vv
    refine takeY (i := 3) (v := .bool (eqX n.v blankX)) 20 rfl rfl (by kernel_rfl) (by kernel_rfl) (by kernel_rfl) (fun _ _ _ _ h => h) (by rfl) (fun w hS => by simp [execOp, go_sem, *]; unfold eqX blankX; (repeat' split) <;> simp_all) hHeld ?_
    simp only [List.setIfInBounds_toArray, List.set_cons_zero, List.set_cons_succ]
    rw [zv_eq]
    rw [show decide (n.v.k = 0 ∧ n.v.n = 0 ∧ n.v.s.size = 0) = zv n.v from rfl] at ho
    cases hz : zv n.v
    · have HX : Hid (okNode n = false) := hide (by rw [ho, hz]; rfl)
      clear ho hz
      refine takeY (i := 4) (v := .bool false) 21 rfl rfl (by kernel_rfl) (by kernel_rfl) (by kernel_rfl) (fun _ _ _ _ h => h) (by rfl) (fun w hS => by simp [execOp, go_sem, *]) hHeld ?_
      simp only [List.setIfInBounds_toArray, List.set_cons_zero, List.set_cons_succ]
      refine takeN (i := 5) 22 rfl rfl (by kernel_rfl) (by kernel_rfl) (by kernel_rfl) (fun _ _ _ _ h => h) (by rfl) hHeld ?_
      simp only [List.setIfInBounds_toArray, List.set_cons_zero, List.set_cons_succ]
      refine takeN (i := 6) 23 rfl rfl (by kernel_rfl) (by kernel_rfl) (by kernel_rfl) (fun _ _ _ _ h => h) (by rfl) hHeld ?_
      simp only [List.setIfInBounds_toArray, List.set_cons_zero, List.set_cons_succ]
      refine takeN (i := 7) 24 rfl rfl (by kernel_rfl) (by kernel_rfl) (by kernel_rfl) (fun _ _ _ _ h => h) (by rfl) hHeld ?_
      simp only [List.setIfInBounds_toArray, List.set_cons_zero, List.set_cons_succ]
      refine takeY (i := 8) (v := .bool false) 25 rfl rfl (by kernel_rfl) (by kernel_rfl) (by kernel_rfl) (fun _ _ _ _ h => h) (by rfl) (fun w hS => by simp [execOp, go_sem, *]) hHeld ?_
      simp only [List.setIfInBounds_toArray, List.set_cons_zero, List.set_cons_succ]
      refine takeY (i := 9) (v := .bool false) 2 rfl rfl (by kernel_rfl) (by kernel_rfl) (by kernel_rfl) (fun _ _ _ _ h => h) (by rfl) (fun w hS => by simp [execOp, go_sem, *]) hHeld ?_
      simp only [List.setIfInBounds_toArray, List.set_cons_zero, List.set_cons_succ]
      refine wpAnyH_done (by kernel_rfl) ?_ _
      clear hHeld
      go_wp2
      go_ret
      exact ⟨ret_bool (unhide HX).symm, unhide HB⟩
    · have HX : Hid (okNode n = goodN n.nm) := hide (by rw [ho, hz]; rfl)
      clear ho hz
      refine takeY (i := 4) (v := .bool true) 21 rfl rfl (by kernel_rfl) (by kernel_rfl) (by kernel_rfl) (fun _ _ _ _ h => h) (by rfl) (fun w hS => by simp [execOp, go_sem, *]) hHeld ?_
      simp only [List.setIfInBounds_toArray, List.set_cons_zero, List.set_cons_succ]
      refine takeY (i := 5) (v := .pointer (some ⟨w.heap.size, 4, none⟩)) 22 rfl rfl (by kernel_rfl) (by kernel_rfl) (by kernel_rfl) (fun _ _ _ _ h => h) (by rfl) (fun w hS => by simp [execOp, go_sem, *]) hHeld ?_
      simp only [List.setIfInBounds_toArray, List.set_cons_zero, List.set_cons_succ]
      refine takeY (i := 6) (v := .string n.nm) 23 rfl rfl (by kernel_rfl) (by kernel_rfl) (by kernel_rfl) (fun _ _ _ _ h => h) (by rfl) (fun w hS => by simp [execOp, go_sem, *]) hHeld ?_
      simp only [List.setIfInBounds_toArray, List.set_cons_zero, List.set_cons_succ]
      refine callY (i := 7) (f := 39) (args := #[.string n.nm]) (R := fun r wz => r = .bool (goodN n.nm) ∧ wz = w3) 24 rfl rfl (by rfl) (by kernel_rfl) ?hrun7 ((isGoodName_any _ _ hm).mono fun e w6 ⟨he, hb⟩ => ⟨_, he, rfl, hb⟩) ?_
      case hrun7 => simp [execOp, go_sem]
      rintro r3 w4 ⟨rfl, hw⟩
      replace hw := hw.symm; subst hw
      refine ⟨hHeld, ?_⟩
      simp only [List.setIfInBounds_toArray, List.set_cons_zero, List.set_cons_succ]
      refine takeY (i := 8) (v := .bool (goodN n.nm)) 25 rfl rfl (by kernel_rfl) (by kernel_rfl) (by kernel_rfl) (fun _ _ _ _ h => h) (by rfl) (fun w hS => by simp [execOp, go_sem, *]) hHeld ?_
      simp only [List.setIfInBounds_toArray, List.set_cons_zero, List.set_cons_succ]
      refine takeY (i := 9) (v := .bool (goodN n.nm)) 2 rfl rfl (by kernel_rfl) (by kernel_rfl) (by kernel_rfl) (fun _ _ _ _ h => h) (by rfl) (fun w hS => by simp [execOp, go_sem, *]) hHeld ?_
      simp only [List.setIfInBounds_toArray, List.set_cons_zero, List.set_cons_succ]
      refine wpAnyH_done (by kernel_rfl) ?_ _
      clear hHeld
      go_wp2
      go_ret
      exact ⟨ret_bool (unhide HX).symm, unhide HB⟩
  · have ho := okNode2 h h'
    have h1 : (n.op == 0) = false := beq_eq_false_iff_ne.2 h
    have h2 : (n.op == 1) = false := beq_eq_false_iff_ne.2 h'
    clear h h'
    obtain ⟨z0, z1, z2, z3, z4⟩ := five (unhide H0)
    go_enter Tryd.func27, Tryd.ntmps27
    go_wp2_with fail
    try rw [hW0]
    clear hW0
    refine wp_region_held_drew (S := fun w' => w'.cell? ⟨w.heap.size, 0, none⟩ = some (.int .i64 n.op) ∧ w'.cell? ⟨w.heap.size, 1, none⟩ = some (.int .i64 n.v.k) ∧ w'.cell? ⟨w.heap.size, 2, none⟩ = some (.int .i64 n.v.n) ∧ w'.cell? ⟨w.heap.size, 3, none⟩ = some (.string n.v.s) ∧ w'.cell? ⟨w.heap.size, 4, none⟩ = some (.string n.nm)) (by kernel_rfl) ⟨z0, z1, z2, z3, z4⟩ (fun hHeld => ?_)
    clear z0 z1 z2 z3 z4
    refine takeY (i := 0) (v := .pointer (some ⟨w.heap.size, 0, none⟩)) 26 rfl rfl (by kernel_rfl) (by kernel_rfl) (by kernel_rfl) (fun _ _ _ _ h => h) (by rfl) (fun w hS => by simp [execOp, go_sem, *]) hHeld ?_
    simp only [List.setIfInBounds_toArray, List.set_cons_zero, List.set_cons_succ]
    refine takeY (i := 1) (v := .int .i64 n.op) 27 rfl rfl (by kernel_rfl) (by kernel_rfl) (by kernel_rfl) (fun _ _ _ _ h => h) (by rfl) (fun w hS => by simp [execOp, go_sem, *]) hHeld ?_
    simp only [List.setIfInBounds_toArray, List.set_cons_zero, List.set_cons_succ]
    refine callY (i := 2) (f := 40) (args := #[.int .i64 n.op]) (R := fun r wz => r = .bool (decide (2 ≤ n.op ∧ n.op ≤ 25)) ∧ wz = W0.drew) 28 rfl rfl (by rfl) (by kernel_rfl) ?hrun2 ((isOperator_any _ _).mono fun e w6 ⟨he, hb⟩ => ⟨_, he, rfl, hb⟩) ?_
    case hrun2 => simp [execOp, go_sem]
    rintro r3 w3 ⟨rfl, hw⟩
    subst hw
    refine ⟨hHeld, ?_⟩
    simp only [List.setIfInBounds_toArray, List.set_cons_zero, List.set_cons_succ]
    cases hop : decide (2 ≤ n.op ∧ n.op ≤ 25)
    · have HX : Hid (okNode n = false) := hide (by rw [ho, hop]; rfl)
      clear ho hop
      refine takeY (i := 3) (v := .bool false) 29 rfl rfl (by kernel_rfl) (by kernel_rfl) (by kernel_rfl) (fun _ _ _ _ h => h) (by rfl) (fun w hS => by simp [execOp, go_sem, *]) hHeld ?_
      simp only [List.setIfInBounds_toArray, List.set_cons_zero, List.set_cons_succ]
      refine takeN (i := 4) 30 rfl rfl (by kernel_rfl) (by kernel_rfl) (by kernel_rfl) (fun _ _ _ _ h => h) (by rfl) hHeld ?_
      simp only [List.setIfInBounds_toArray, List.set_cons_zero, List.set_cons_succ]
      refine takeN (i := 5) 31 rfl rfl (by kernel_rfl) (by kernel_rfl) (by kernel_rfl) (fun _ _ _ _ h => h) (by rfl) hHeld ?_
      simp only [List.setIfInBounds_toArray, List.set_cons_zero, List.set_cons_succ]
      refine takeN (i := 6) 32 rfl rfl (by kernel_rfl) (by kernel_rfl) (by kernel_rfl) (fun _ _ _ _ h => h) (by rfl) hHeld ?_
      simp only [List.setIfInBounds_toArray, List.set_cons_zero, List.set_cons_succ]
      refine takeY (i := 7) (v := .bool false) 33 rfl rfl (by kernel_rfl) (by kernel_rfl) (by kernel_rfl) (fun _ _ _ _ h => h) (by rfl) (fun w hS => by simp [execOp, go_sem, *]) hHeld ?_
      simp only [List.setIfInBounds_toArray, List.set_cons_zero, List.set_cons_succ]
      refine takeY (i := 8) (v := .bool false) 34 rfl rfl (by kernel_rfl) (by kernel_rfl) (by kernel_rfl) (fun _ _ _ _ h => h) (by rfl) (fun w hS => by simp [execOp, go_sem, *]) hHeld ?_
      simp only [List.setIfInBounds_toArray, List.set_cons_zero, List.set_cons_succ]
      refine takeN (i := 9) 35 rfl rfl (by kernel_rfl) (by kernel_rfl) (by kernel_rfl) (fun _ _ _ _ h => h) (by rfl) hHeld ?_
      simp only [List.setIfInBounds_toArray, List.set_cons_zero, List.set_cons_succ]
      refine takeN (i := 10) 36 rfl rfl (by kernel_rfl) (by kernel_rfl) (by kernel_rfl) (fun _ _ _ _ h => h) (by rfl) hHeld ?_
      simp only [List.setIfInBounds_toArray, List.set_cons_zero, List.set_cons_succ]
      refine takeN (i := 11) 37 rfl rfl (by kernel_rfl) (by kernel_rfl) (by kernel_rfl) (fun _ _ _ _ h => h) (by rfl) hHeld ?_
      simp only [List.setIfInBounds_toArray, List.set_cons_zero, List.set_cons_succ]
      refine takeN (i := 12) 38 rfl rfl (by kernel_rfl) (by kernel_rfl) (by kernel_rfl) (fun _ _ _ _ h => h) (by rfl) hHeld ?_
      simp only [List.setIfInBounds_toArray, List.set_cons_zero, List.set_cons_succ]
      refine takeY (i := 13) (v := .bool false) 39 rfl rfl (by kernel_rfl) (by kernel_rfl) (by kernel_rfl) (fun _ _ _ _ h => h) (by rfl) (fun w hS => by simp [execOp, go_sem, *]) hHeld ?_
      simp only [List.setIfInBounds_toArray, List.set_cons_zero, List.set_cons_succ]
      refine takeY (i := 14) (v := .bool false) 2 rfl rfl (by kernel_rfl) (by kernel_rfl) (by kernel_rfl) (fun _ _ _ _ h => h) (by rfl) (fun w hS => by simp [execOp, go_sem, *]) hHeld ?_
      simp only [List.setIfInBounds_toArray, List.set_cons_zero, List.set_cons_succ]
      refine wpAnyH_done (by kernel_rfl) ?_ _
      clear hHeld
      go_wp2
      go_ret
      exact ⟨ret_bool (unhide HX).symm, (unhide HB).drew⟩
    rw [hop, Bool.true_and] at ho
    clear hop
    refine takeY (i := 3) (v := .bool true) 29 rfl rfl (by kernel_rfl) (by kernel_rfl) (by kernel_rfl) (fun _ _ _ _ h => h) (by rfl) (fun w hS => by simp [execOp, go_sem, *]) hHeld ?_
    simp only [List.setIfInBounds_toArray, List.set_cons_zero, List.set_cons_succ]
    refine takeY (i := 4) (v := .pointer (some ⟨w.heap.size, 4, none⟩)) 30 rfl rfl (by kernel_rfl) (by kernel_rfl) (by kernel_rfl) (fun _ _ _ _ h => h) (by rfl) (fun w hS => by simp [execOp, go_sem, *]) hHeld ?_
    simp only [List.setIfInBounds_toArray, List.set_cons_zero, List.set_cons_succ]
    refine takeY (i := 5) (v := .string n.nm) 31 rfl rfl (by kernel_rfl) (by kernel_rfl) (by kernel_rfl) (fun _ _ _ _ h => h) (by rfl) (fun w hS => by simp [execOp, go_sem, *]) hHeld ?_
    simp only [List.setIfInBounds_toArray, List.set_cons_zero, List.set_cons_succ]
    refine takeY (i := 6) (v := .bool (decide (n.nm.size = 0))) 32 rfl rfl (by kernel_rfl) (by kernel_rfl) (by kernel_rfl) (fun _ _ _ _ h => h) (by rfl) (fun w hS => by simp [execOp, go_sem, *]) hHeld ?_
    simp only [List.setIfInBounds_toArray, List.set_cons_zero, List.set_cons_succ]
    refine takeY (i := 7) (v := .bool (decide (n.nm.size = 0))) 33 rfl rfl (by kernel_rfl) (by kernel_rfl) (by kernel_rfl) (fun _ _ _ _ h => h) (by rfl) (fun w hS => by simp [execOp, go_sem, *]) hHeld ?_
    simp only [List.setIfInBounds_toArray, List.set_cons_zero, List.set_cons_succ]
    refine takeY (i := 8) (v := .bool (decide (n.nm.size = 0))) 34 rfl rfl (by kernel_rfl) (by kernel_rfl) (by kernel_rfl) (fun _ _ _ _ h => h) (by rfl) (fun w hS => by simp [execOp, go_sem, *]) hHeld ?_
    simp only [List.setIfInBounds_toArray, List.set_cons_zero, List.set_cons_succ]
    rw [show decide (n.v.k = 0 ∧ n.v.n = 0 ∧ n.v.s.size = 0) = zv n.v from rfl] at ho
    cases hq : decide (n.nm.size = 0)
    · have HX : Hid (okNode n = false) := hide (by rw [ho, hq, Bool.and_false])
      clear ho hq e0
      refine takeN (i := 9) 35 rfl rfl (by kernel_rfl) (by kernel_rfl) (by kernel_rfl) (fun _ _ _ _ h => h) (by rfl) hHeld ?_
      simp only [List.setIfInBounds_toArray, List.set_cons_zero, List.set_cons_succ]
      refine takeN (i := 10) 36 rfl rfl (by kernel_rfl) (by kernel_rfl) (by kernel_rfl) (fun _ _ _ _ h => h) (by rfl) hHeld ?_
      simp only [List.setIfInBounds_toArray, List.set_cons_zero, List.set_cons_succ]
      refine takeN (i := 11) 37 rfl rfl (by kernel_rfl) (by kernel_rfl) (by kernel_rfl) (fun _ _ _ _ h => h) (by rfl) hHeld ?_
      simp only [List.setIfInBounds_toArray, List.set_cons_zero, List.set_cons_succ]
      refine takeN (i := 12) 38 rfl rfl (by kernel_rfl) (by kernel_rfl) (by kernel_rfl) (fun _ _ _ _ h => h) (by rfl) hHeld ?_
      simp only [List.setIfInBounds_toArray, List.set_cons_zero, List.set_cons_succ]
      refine takeY (i := 13) (v := .bool false) 39 rfl rfl (by kernel_rfl) (by kernel_rfl) (by kernel_rfl) (fun _ _ _ _ h => h) (by rfl) (fun w hS => by simp [execOp, go_sem, *]) hHeld ?_
      simp only [List.setIfInBounds_toArray, List.set_cons_zero, List.set_cons_succ]
      refine takeY (i := 14) (v := .bool false) 2 rfl rfl (by kernel_rfl) (by kernel_rfl) (by kernel_rfl) (fun _ _ _ _ h => h) (by rfl) (fun w hS => by simp [execOp, go_sem, *]) hHeld ?_
      simp only [List.setIfInBounds_toArray, List.set_cons_zero, List.set_cons_succ]
      refine wpAnyH_done (by kernel_rfl) ?_ _
      clear hHeld
      go_wp2
      go_ret
      exact ⟨ret_bool (unhide HX).symm, (unhide HB).drew⟩
    rw [hq, Bool.and_true] at ho
    have HX := hide ho
    clear ho hq e0
    refine takeY (i := 9) (v := .pointer (some ⟨w.heap.size, 1, none⟩)) 35 rfl rfl (by kernel_rfl) (by kernel_rfl) (by kernel_rfl) (fun _ _ _ _ h => h) (by rfl) (fun w hS => by simp [execOp, go_sem, *]) hHeld ?_
    simp only [List.setIfInBounds_toArray, List.set_cons_zero, List.set_cons_succ]
    refine takeY (i := 10) (v := .agg #[.int .i64 n.v.k, .int .i64 n.v.n, .string n.v.s]) 36 rfl rfl (by kernel_rfl) (by kernel_rfl) (by kernel_rfl) (fun _ _ _ _ h => h) (by rfl) (fun w hS => by simp [execOp, go_sem, *]) hHeld ?_
    simp only [List.setIfInBounds_toArray, List.set_cons_zero, List.set_cons_succ]
    refine callY (i := 11) (f := 38) (args := #[]) (R := fun r wz => r = vv blankX ∧ Below W0.heap.size W0 wz) 37 rfl rfl (by rfl) (by kernel_rfl) ?hrun3 ((blankValue_any _).mono fun e w6 ⟨he, hb⟩ => ⟨_, he, rfl, below_of_drew hb⟩) ?_
    case hrun3 => simp [execOp, go_sem]
    rintro r3 w3 ⟨rfl, hb⟩
    replace H0 := hide ((unhide H0).mono hb (unhide H0).lt); replace HB := hide ((unhide HB).trans (hb.mono (unhide HB).size)); clear hb
    obtain ⟨z0, z1, z2, z3, z4⟩ := five (unhide H0)
    replace hHeld : w3.cell? ⟨w.heap.size, 0, none⟩ = some (.int .i64 n.op) ∧ w3.cell? ⟨w.heap.size, 1, none⟩ = some (.int .i64 n.v.k) ∧ w3.cell? ⟨w.heap.size, 2, none⟩ = some (.int .i64 n.v.n) ∧ w3.cell? ⟨w.heap.size, 3, none⟩ = some (.string n.v.s) ∧ w3.cell? ⟨w.heap.size, 4, none⟩ = some (.string n.nm) := ⟨z0, z1, z2, z3, z4⟩
    clear z0 z1 z2 z3 z4
    refine ⟨hHeld, ?_⟩
    simp only [List.setIfInBounds_toArray, List.set_cons_zero, List.set_cons_succ]
    unfold vv
    refine takeY (i := 12) (v := .bool (eqX n.v blankX)) 38 rfl rfl (by kernel_rfl) (by kernel_rfl) (by kernel_rfl) (fun _ _ _ _ h => h) (by rfl) (fun w hS => by simp [execOp, go_sem, *]; unfold eqX blankX; (repeat' split) <;> simp_all) hHeld ?_
    simp only [List.setIfInBounds_toArray, List.set_cons_zero, List.set_cons_succ]
    rw [zv_eq]
    refine takeY (i := 13) (v := .bool (zv n.v)) 39 rfl rfl (by kernel_rfl) (by kernel_rfl) (by kernel_rfl) (fun _ _ _ _ h => h) (by rfl) (fun w hS => by simp [execOp, go_sem, *]) hHeld ?_
    simp only [List.setIfInBounds_toArray, List.set_cons_zero, List.set_cons_succ]
    refine takeY (i := 14) (v := .bool (zv n.v)) 2 rfl rfl (by kernel_rfl) (by kernel_rfl) (by kernel_rfl) (fun _ _ _ _ h => h) (by rfl) (fun w hS => by simp [execOp, go_sem, *]) hHeld ?_
    simp only [List.setIfInBounds_toArray, List.set_cons_zero, List.set_cons_succ]
    refine wpAnyH_done (by kernel_rfl) ?_ _
    clear hHeld
    go_wp2
    go_ret
    exact ⟨ret_bool (unhide HX).symm, unhide HB⟩
end Go.Proofs.YtonmaniehocbbaaDoor
