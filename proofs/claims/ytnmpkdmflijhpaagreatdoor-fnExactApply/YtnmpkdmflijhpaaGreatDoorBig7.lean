/- The model's exact integers: order, and whether one is an int64. -/
import Derived.Test.YtnmpkdmflijhpaaGreatDoorBig6
namespace Go.Proofs.YtnmpkdmflijhpaaGreatDoor
open Go Go.RowKit

set_option maxRecDepth 100000 in
set_option maxHeartbeats 4000000 in
theorem l2BigLess_any (v u : Value) (x y : Int) (w : World) (hv : BigV w v x) (hu : BigV w u y) (bx : (digs x.natAbs).length ≤ 500) (by' : (digs y.natAbs).length ≤ 500) :
    Calls Tryz.prog 37 #[v, u] w fun e w' => e = .returned (.bool (decide (x < y))) ∧ Below w.heap.size w w' := by
  have HV := hide hv; have HU := hide hu
  obtain ⟨v1, rfl, hv1⟩ := hv
  obtain ⟨u1, rfl, hu1⟩ := hu
  obtain ⟨a, ca, rfl, -⟩ := hv1
  obtain ⟨b, cb, rfl, -⟩ := hu1
  obtain ⟨sx, hsx⟩ : ∃ sx, decide (x < 0) = sx := ⟨_, rfl⟩
  obtain ⟨sy, hsy⟩ : ∃ sy, decide (y < 0) = sy := ⟨_, rfl⟩
  rw [hsx] at HV ⊢; rw [hsy] at HU ⊢
  clear hsx hsy
  obtain ⟨lx, hlx⟩ : ∃ lx, (digs x.natAbs).length = lx := ⟨_, rfl⟩
  obtain ⟨ly, hly⟩ : ∃ ly, (digs y.natAbs).length = ly := ⟨_, rfl⟩
  rw [hlx] at HV bx ⊢; rw [hly] at HU by' ⊢
  have HLX := hide (And.intro hlx hly); clear hlx hly
  have hw : Below w.heap.size w ((w.alloc (.cells #[.bool sx, .slice a lx ca] 46)).alloc (.cells #[.bool sy, .slice b ly cb] 46)) := ((Below.refl _ w).alloc (Nat.le_refl _) _).alloc (by simp) _
  have bA : Blk ((w.alloc (.cells #[.bool sx, .slice a lx ca] 46)).alloc (.cells #[.bool sy, .slice b ly cb] 46)) w.heap.size 46 [.bool sx, .slice a lx ca] := (Blk.new w 46 #[.bool sx, .slice a lx ca]).alloc _
  have bB : Blk ((w.alloc (.cells #[.bool sx, .slice a lx ca] 46)).alloc (.cells #[.bool sy, .slice b ly cb] 46)) (w.heap.size + 1) 46 [.bool sy, .slice b ly cb] := by simpa using Blk.new (w.alloc (.cells #[.bool sx, .slice a lx ca] 46)) 46 #[.bool sy, .slice b ly cb]
  obtain ⟨W, hW⟩ : ∃ W, ((w.alloc (.cells #[.bool sx, .slice a lx ca] 46)).alloc (.cells #[.bool sy, .slice b ly cb] 46)) = W := ⟨_, rfl⟩
  rw [hW] at hw bA bB
  have S0 := hide (four bA bB)
  replace HV := hide ((unhide HV).mono hw); replace HU := hide ((unhide HU).mono hw)
  have HA := hide bA; have HB := hide bB; have HW := hide hw
  clear bA bB hw
  have HQ : Hid (decide (x + -y < 0) = decide (x < y)) := by rw [Hid, decide_eq_decide]; omega
  go_enter Tryz.func37, Tryz.ntmps37
  go_wp2_with fail
  try rw [hW]
  clear hW
  refine wp_region_held_drew (S := fun w' => Four w' w.heap.size (w.heap.size + 1) (.bool sx) (.slice a lx ca) (.bool sy) (.slice b ly cb)) (by kernel_rfl) (unhide S0) (fun hHeld => ?_)
  refine takeY (i := 0) (v := .agg #[.bool sx, .slice a lx ca]) 6 rfl rfl (by kernel_rfl) (by kernel_rfl) (by kernel_rfl) (fun _ _ _ _ h => h) (by rfl) (fun w hS => by obtain ⟨q0, q1, q2, q3⟩ := hS; simp [execOp, go_sem, *]) hHeld ?_
  simp only [List.setIfInBounds_toArray, List.set_cons_zero, List.set_cons_succ]
  refine takeY (i := 1) (v := .agg #[.bool sy, .slice b ly cb]) 7 rfl rfl (by kernel_rfl) (by kernel_rfl) (by kernel_rfl) (fun _ _ _ _ h => h) (by rfl) (fun w hS => by obtain ⟨q0, q1, q2, q3⟩ := hS; simp [execOp, go_sem, *]) hHeld ?_
  simp only [List.setIfInBounds_toArray, List.set_cons_zero, List.set_cons_succ]
  refine wpAnyH_ready (rs := [2, 4]) (by kernel_rfl) (by simp) (consCall (f := 31) (args := #[.agg #[.bool sy, .slice b ly cb]]) (R := fun r wz => BigV wz r (-y) ∧ Below W.heap.size W wz) 8 rfl rfl (by rfl) ?hrun1 ((l2BigNeg_any _ y _ ((unhide HU).mono (below_drewN' _ 1))).mono fun e w6 ⟨r, he, hr, hb⟩ => ⟨r, he, hr, below_of_drew hb⟩) ?pB (consRun (v := .pointer (some ⟨W.drew.heap.size, 0, none⟩)) (w' := W.drew.alloc (.cells #[.bool false, .slice none 0 0] 46)) 5 rfl rfl (by rfl) ?hrun3 (four ((show Blk W.drew _ _ _ from unhide HA).alloc _) ((show Blk W.drew _ _ _ from unhide HB).alloc _)) ?pA AllReadyH.nil))
  case hrun1 => simp [execOp, go_sem]
  case hrun3 => simp [execOp, go_sem]
  case pB =>
    rintro v w6 ⟨hr, hb6⟩
    have A6 := (unhide HA).mono hb6 (unhide HA).lt; have B6 := (unhide HB).mono hb6 (unhide HB).lt
    have hW6 := (unhide HW).trans (hb6.mono (unhide HW).size)
    have hV6 := (unhide HV).mono hb6
    refine ⟨four A6 B6, ?_⟩
    simp only [List.setIfInBounds_toArray, List.set_cons_zero, List.set_cons_succ]
    refine wpAnyH_ready (rs := [3, 4]) (by kernel_rfl) (by simp) (consCall (f := 35) (args := #[.agg #[.bool sx, .slice a lx ca], v]) (R := fun r wz => BigV wz r (x + -y) ∧ Below w6.heap.size w6 wz) 9 rfl rfl (by rfl) ?hrun2 ((l2BigAdd_any _ _ x (-y) _ hV6 hr (by have := unhide HLX; omega) (by rw [Int.natAbs_neg]; have := unhide HLX; omega)).mono fun e w7 ⟨r, he, hr, hb⟩ => ⟨r, he, hr, hb⟩) ?pB1 (consRun (v := .pointer (some ⟨w6.heap.size, 0, none⟩)) (w' := w6.alloc (.cells #[.bool false, .slice none 0 0] 46)) 5 rfl rfl (by rfl) ?hrun3 (four (A6.alloc _) (B6.alloc _)) ?pB2 AllReadyH.nil))
    case hrun2 => simp [execOp, go_sem]
    case hrun3 => simp [execOp, go_sem]
    case pB1 =>
      rintro q w7 ⟨hq, hb7⟩
      have A7 := A6.mono hb7 A6.lt; have B7 := B6.mono hb7 B6.lt
      have hW7 := hW6.trans (hb7.mono hW6.size)
      obtain ⟨p, rfl, hp⟩ := hq
      obtain ⟨pg, pc, rfl, -⟩ := hp
      rw [unhide HQ]
      obtain ⟨dl, hdl⟩ : ∃ dl, (digs (x + -y).natAbs).length = dl := ⟨_, rfl⟩
      rw [hdl]
      clear hdl
      refine ⟨four A7 B7, ?_⟩
      simp only [List.setIfInBounds_toArray, List.set_cons_zero, List.set_cons_succ]
      refine wpAnyH_ready (rs := [4]) (by kernel_rfl) (by simp) (consRun (v := .pointer (some ⟨w7.heap.size, 0, none⟩)) (w' := w7.alloc (.cells #[.bool false, .slice none 0 0] 46)) 5 rfl rfl (by rfl) ?hrun3 (four (A7.alloc _) (B7.alloc _)) ?pB1 AllReadyH.nil)
      case hrun3 => simp [execOp, go_sem]
      simp only [List.setIfInBounds_toArray, List.set_cons_zero, List.set_cons_succ]
      have DD := Blk.new w7 46 #[.bool false, .slice none 0 0]
      have hWZ := hW7.alloc hW7.size (.cells #[.bool false, .slice none 0 0] 46)
      have AZ := A7.alloc (.cells #[.bool false, .slice none 0 0] 46); have BZ := B7.alloc (.cells #[.bool false, .slice none 0 0] 46)
      have sA := A7.lt; have sB := B7.lt
      clear A6 B6 A7 B7 hV6 hW6 hW7 hb6 hb7 hr hHeld
      generalize w7.heap.size = D at *
      generalize w7.alloc (.cells #[.bool false, .slice none 0 0] 46) = w8 at *
      have hsD := DD.lt
      obtain ⟨⟨r0, r1⟩, ⟨f0, f1⟩⟩ := two DD
      refine storeY (i := 5) (w' := (w8.setCell ⟨D, 0, none⟩ (.bool (decide (x < y)))).setCell ⟨D, 1, none⟩ (.slice pg dl pc)) rfl (by rfl) (by kernel_rfl) rfl ?hrunS rfl (four ((AZ.other _ (by simp; omega)).other _ (by simp; omega)) ((BZ.other _ (by simp; omega)).other _ (by simp; omega))) ?_
      case hrunS => simp [execOp, go_sem, r0, r1, f0, f1]
      refine wpAnyH_done (by kernel_rfl) ?_ _
      obtain ⟨⟨y0, y1⟩, -⟩ := two ((DD.set 0 (.bool (decide (x < y)))).set 1 (.slice pg dl pc))
      have HZ := hide ((hWZ.setCell (p := ⟨D, 0, none⟩) (by simp; omega) (.bool (decide (x < y)))).setCell (p := ⟨D, 1, none⟩) (by simp; omega) (.slice pg dl pc))
      clear DD AZ BZ hWZ r0 r1 f0 f1
      generalize (w8.setCell ⟨D, 0, none⟩ (.bool (decide (x < y)))).setCell ⟨D, 1, none⟩ (.slice pg dl pc) = W9 at *
      go_wp2
      go_ret
      exact ⟨rfl, unhide HZ⟩
    case pB2 =>
      simp only [List.setIfInBounds_toArray, List.set_cons_zero, List.set_cons_succ]
      have hb7 : Below w6.heap.size w6 (w6.alloc (.cells #[.bool false, .slice none 0 0] 46)) := (Below.refl _ _).alloc (Nat.le_refl _) _
      have DD0 := Blk.new w6 46 #[.bool false, .slice none 0 0]
      have A7 := A6.alloc (.cells #[.bool false, .slice none 0 0] 46); have B7 := B6.alloc (.cells #[.bool false, .slice none 0 0] 46)
      have hW7 := hW6.alloc hW6.size (.cells #[.bool false, .slice none 0 0] 46)
      have hV7 := hV6.mono hb7; have hr7 := hr.mono hb7
      have sA := A6.lt; have sB := B6.lt
      clear A6 B6 hV6 hW6 hb6 hb7 hr hHeld
      generalize w6.heap.size = D at *
      generalize w6.alloc (.cells #[.bool false, .slice none 0 0] 46) = w7 at *
      refine wpAnyH_ready (rs := [3]) (by kernel_rfl) (by simp) (consCall (f := 35) (args := #[.agg #[.bool sx, .slice a lx ca], v]) (R := fun r wz => BigV wz r (x + -y) ∧ Below w7.heap.size w7 wz) 9 rfl rfl (by rfl) ?hrun2 ((l2BigAdd_any _ _ x (-y) _ hV7 hr7 (by have := unhide HLX; omega) (by rw [Int.natAbs_neg]; have := unhide HLX; omega)).mono fun e w7 ⟨r, he, hr, hb⟩ => ⟨r, he, hr, hb⟩) ?pC AllReadyH.nil)
      case hrun2 => simp [execOp, go_sem]
      rintro q w8 ⟨hq, hb8⟩
      have AZ := A7.mono hb8 A7.lt; have BZ := B7.mono hb8 B7.lt; have DD := DD0.mono hb8 DD0.lt
      have hWZ := hW7.trans (hb8.mono hW7.size)
      obtain ⟨p, rfl, hp⟩ := hq
      obtain ⟨pg, pc, rfl, -⟩ := hp
      rw [unhide HQ]
      obtain ⟨dl, hdl⟩ : ∃ dl, (digs (x + -y).natAbs).length = dl := ⟨_, rfl⟩
      rw [hdl]
      clear hdl
      refine ⟨four AZ BZ, ?_⟩
      simp only [List.setIfInBounds_toArray, List.set_cons_zero, List.set_cons_succ]
      clear A7 B7 hW7 hb8 hV7 hr7 DD0
      have hsD := DD.lt
      obtain ⟨⟨r0, r1⟩, ⟨f0, f1⟩⟩ := two DD
      refine storeY (i := 5) (w' := (w8.setCell ⟨D, 0, none⟩ (.bool (decide (x < y)))).setCell ⟨D, 1, none⟩ (.slice pg dl pc)) rfl (by rfl) (by kernel_rfl) rfl ?hrunS rfl (four ((AZ.other _ (by simp; omega)).other _ (by simp; omega)) ((BZ.other _ (by simp; omega)).other _ (by simp; omega))) ?_
      case hrunS => simp [execOp, go_sem, r0, r1, f0, f1]
      refine wpAnyH_done (by kernel_rfl) ?_ _
      obtain ⟨⟨y0, y1⟩, -⟩ := two ((DD.set 0 (.bool (decide (x < y)))).set 1 (.slice pg dl pc))
      have HZ := hide ((hWZ.setCell (p := ⟨D, 0, none⟩) (by simp; omega) (.bool (decide (x < y)))).setCell (p := ⟨D, 1, none⟩) (by simp; omega) (.slice pg dl pc))
      clear DD AZ BZ hWZ r0 r1 f0 f1
      generalize (w8.setCell ⟨D, 0, none⟩ (.bool (decide (x < y)))).setCell ⟨D, 1, none⟩ (.slice pg dl pc) = W9 at *
      go_wp2
      go_ret
      exact ⟨rfl, unhide HZ⟩
  case pA =>
    simp only [List.setIfInBounds_toArray, List.set_cons_zero, List.set_cons_succ]
    have hbA : Below W.heap.size W (W.drew.alloc (.cells #[.bool false, .slice none 0 0] 46)) := below_of_drew ((Below.refl W.heap.size W.drew).alloc (Nat.le_refl _) _)
    have DD0 : Blk (W.drew.alloc (.cells #[.bool false, .slice none 0 0] 46)) W.heap.size 46 [.bool false, .slice none 0 0] := Blk.new W.drew 46 #[.bool false, .slice none 0 0]
    have A6 := (unhide HA).mono hbA (unhide HA).lt; have B6 := (unhide HB).mono hbA (unhide HB).lt
    have hW6 := (unhide HW).trans (hbA.mono (unhide HW).size)
    have hV6 := (unhide HV).mono hbA; have hU6 := (unhide HU).mono hbA
    have sA := (unhide HA).lt; have sB := (unhide HB).lt
    have hD0 : W.drew.heap.size = W.heap.size := rfl
    rw [hD0]
    clear hbA hHeld hD0
    generalize W.heap.size = D at *
    generalize W.drew.alloc (.cells #[.bool false, .slice none 0 0] 46) = w6 at *
    refine wpAnyH_ready (rs := [2]) (by kernel_rfl) (by simp) (consCall (f := 31) (args := #[.agg #[.bool sy, .slice b ly cb]]) (R := fun r wz => BigV wz r (-y) ∧ Below w6.heap.size w6 wz) 8 rfl rfl (by rfl) ?hrun1 ((l2BigNeg_any _ y _ hU6).mono fun e w6 ⟨r, he, hr, hb⟩ => ⟨r, he, hr, hb⟩) ?pA1 AllReadyH.nil)
    case hrun1 => simp [execOp, go_sem]
    rintro v w7 ⟨hr, hb7⟩
    have A7 := A6.mono hb7 A6.lt; have B7 := B6.mono hb7 B6.lt; have DD1 := DD0.mono hb7 DD0.lt
    have hW7 := hW6.trans (hb7.mono hW6.size)
    have hV7 := hV6.mono hb7
    refine ⟨four A7 B7, ?_⟩
    simp only [List.setIfInBounds_toArray, List.set_cons_zero, List.set_cons_succ]
    refine wpAnyH_ready (rs := [3]) (by kernel_rfl) (by simp) (consCall (f := 35) (args := #[.agg #[.bool sx, .slice a lx ca], v]) (R := fun r wz => BigV wz r (x + -y) ∧ Below w7.heap.size w7 wz) 9 rfl rfl (by rfl) ?hrun2 ((l2BigAdd_any _ _ x (-y) _ hV7 hr (by have := unhide HLX; omega) (by rw [Int.natAbs_neg]; have := unhide HLX; omega)).mono fun e w7 ⟨r, he, hr, hb⟩ => ⟨r, he, hr, hb⟩) ?pA2 AllReadyH.nil)
    case hrun2 => simp [execOp, go_sem]
    rintro q w8 ⟨hq, hb8⟩
    have AZ := A7.mono hb8 A7.lt; have BZ := B7.mono hb8 B7.lt; have DD := DD1.mono hb8 DD1.lt
    have hWZ := hW7.trans (hb8.mono hW7.size)
    obtain ⟨p, rfl, hp⟩ := hq
    obtain ⟨pg, pc, rfl, -⟩ := hp
    rw [unhide HQ]
    obtain ⟨dl, hdl⟩ : ∃ dl, (digs (x + -y).natAbs).length = dl := ⟨_, rfl⟩
    rw [hdl]
    clear hdl
    refine ⟨four AZ BZ, ?_⟩
    simp only [List.setIfInBounds_toArray, List.set_cons_zero, List.set_cons_succ]
    clear A6 B6 A7 B7 hW6 hW7 hb7 hb8 hV6 hU6 hV7 hr DD0 DD1
    have hsD := DD.lt
    obtain ⟨⟨r0, r1⟩, ⟨f0, f1⟩⟩ := two DD
    refine storeY (i := 5) (w' := (w8.setCell ⟨D, 0, none⟩ (.bool (decide (x < y)))).setCell ⟨D, 1, none⟩ (.slice pg dl pc)) rfl (by rfl) (by kernel_rfl) rfl ?hrunS rfl (four ((AZ.other _ (by simp; omega)).other _ (by simp; omega)) ((BZ.other _ (by simp; omega)).other _ (by simp; omega))) ?_
    case hrunS => simp [execOp, go_sem, r0, r1, f0, f1]
    refine wpAnyH_done (by kernel_rfl) ?_ _
    obtain ⟨⟨y0, y1⟩, -⟩ := two ((DD.set 0 (.bool (decide (x < y)))).set 1 (.slice pg dl pc))
    have HZ := hide ((hWZ.setCell (p := ⟨D, 0, none⟩) (by simp; omega) (.bool (decide (x < y)))).setCell (p := ⟨D, 1, none⟩) (by simp; omega) (.slice pg dl pc))
    clear DD AZ BZ hWZ r0 r1 f0 f1
    generalize (w8.setCell ⟨D, 0, none⟩ (.bool (decide (x < y)))).setCell ⟨D, 1, none⟩ (.slice pg dl pc) = W9 at *
    go_wp2
    go_ret
    exact ⟨rfl, unhide HZ⟩
end Go.Proofs.YtnmpkdmflijhpaaGreatDoor
