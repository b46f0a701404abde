import Derived.Test.YtjgngbmkpiihgaaGreatDoorGBh
/- The model's exact integers: order, and whether one is an int64. -/
namespace Go.Proofs.YtjgngbmkpiihgaaGreatDoor
open Go Go.RowKit

set_option maxRecDepth 100000 in
set_option maxHeartbeats 4000000 in
theorem l2BigLess_any (v u : Value) (x y : Int) (w : World) (hv : BigV w v x) (hu : BigV w u y) (bx : (digs x.natAbs).length ≤ 500) (by' : (digs y.natAbs).length ≤ 500) :
    Calls Tryz.prog 124 #[v, u] w fun e w' => e = .returned (.bool (decide (x < y))) ∧ Below w.heap.size w w' := by
  have HV := hide hv; have HU := hide hu
  obtain ⟨v1, rfl, hv1⟩ := hv
  obtain ⟨u1, rfl, hu1⟩ := hu
  obtain ⟨a, ca, rfl, -⟩ := hv1
  obtain ⟨b, cb, rfl, -⟩ := hu1
  obtain ⟨sx, hsx⟩ : ∃ sx, decide (x < 0) = sx := ⟨_, rfl⟩
  obtain ⟨sy, hsy⟩ : ∃ sy, decide (y < 0) = sy := ⟨_, rfl⟩
  rw [hsx] at HV ⊢; rw [hsy] at HU ⊢
  clear hsx hsy
  obtain ⟨lx, hlx⟩ : ∃ lx, (digs x.natAbs).length = lx := ⟨_, rfl⟩
  obtain ⟨ly, hly⟩ : ∃ ly, (digs y.natAbs).length = ly := ⟨_, rfl⟩
  rw [hlx] at HV bx ⊢; rw [hly] at HU by' ⊢
  have HLX := hide (And.intro hlx hly); clear hlx hly
  have hw : Below w.heap.size w ((w.alloc (.cells #[.bool sx, .slice a lx ca] 108)).alloc (.cells #[.bool sy, .slice b ly cb] 108)) := ((Below.refl _ w).alloc (Nat.le_refl _) _).alloc (by simp) _
  have bA : Blk ((w.alloc (.cells #[.bool sx, .slice a lx ca] 108)).alloc (.cells #[.bool sy, .slice b ly cb] 108)) w.heap.size 108 [.bool sx, .slice a lx ca] := (Blk.new w 108 #[.bool sx, .slice a lx ca]).alloc _
  have bB : Blk ((w.alloc (.cells #[.bool sx, .slice a lx ca] 108)).alloc (.cells #[.bool sy, .slice b ly cb] 108)) (w.heap.size + 1) 108 [.bool sy, .slice b ly cb] := by simpa using Blk.new (w.alloc (.cells #[.bool sx, .slice a lx ca] 108)) 108 #[.bool sy, .slice b ly cb]
  obtain ⟨W, hW⟩ : ∃ W, ((w.alloc (.cells #[.bool sx, .slice a lx ca] 108)).alloc (.cells #[.bool sy, .slice b ly cb] 108)) = W := ⟨_, rfl⟩
  rw [hW] at hw bA bB
  have S0 := hide (four bA bB)
  replace HV := hide ((unhide HV).mono hw); replace HU := hide ((unhide HU).mono hw)
  have HA := hide bA; have HB := hide bB; have HW := hide hw
  clear bA bB hw
  have HQ : Hid (decide (x + -y < 0) = decide (x < y)) := by rw [Hid, decide_eq_decide]; omega
  go_enter Tryz.func124, Tryz.ntmps124
  go_wp2_with fail
  try rw [hW]
  clear hW
  refine wp_region_held_drew (S := fun w' => Four w' w.heap.size (w.heap.size + 1) (.bool sx) (.slice a lx ca) (.bool sy) (.slice b ly cb)) (by kernel_rfl) (unhide S0) (fun hHeld => ?_)
  refine takeY (i := 0) (v := .agg #[.bool sx, .slice a lx ca]) 6 rfl rfl (by kernel_rfl) (by kernel_rfl) (by kernel_rfl) (fun _ _ _ _ h => h) (by rfl) (fun w hS => by obtain ⟨q0, q1, q2, q3⟩ := hS; simp [execOp, go_sem, *]) hHeld ?_
  simp only [List.setIfInBounds_toArray, List.set_cons_zero, List.set_cons_succ]
  refine takeY (i := 1) (v := .agg #[.bool sy, .slice b ly cb]) 7 rfl rfl (by kernel_rfl) (by kernel_rfl) (by kernel_rfl) (fun _ _ _ _ h => h) (by rfl) (fun w hS => by obtain ⟨q0, q1, q2, q3⟩ := hS; simp [execOp, go_sem, *]) hHeld ?_
  simp only [List.setIfInBounds_toArray, List.set_cons_zero, List.set_cons_succ]
  refine wpAnyH_ready (rs := [2, 4]) (by kernel_rfl) (by simp) (consCall (f := 143) (args := #[.agg #[.bool sy, .slice b ly cb]]) (R := fun r wz => BigV wz r (-y) ∧ Below W.heap.size W wz) 8 rfl rfl (by rfl) ?hrun1 ((l2BigNeg_any _ y _ ((unhide HU).mono (below_drewN' _ 1))).mono fun e w6 ⟨r, he, hr, hb⟩ => ⟨r, he, hr, below_of_drew hb⟩) ?pB (consRun (v := .pointer (some ⟨W.drew.heap.size, 0, none⟩)) (w' := W.drew.alloc (.cells #[.bool false, .slice none 0 0] 108)) 5 rfl rfl (by rfl) ?hrun3 (four ((show Blk W.drew _ _ _ from unhide HA).alloc _) ((show Blk W.drew _ _ _ from unhide HB).alloc _)) ?pA AllReadyH.nil))
  case hrun1 => simp [execOp, go_sem]
  case hrun3 => simp [execOp, go_sem]
  case pB =>
    rintro v w6 ⟨hr, hb6⟩
    have A6 := (unhide HA).mono hb6 (unhide HA).lt; have B6 := (unhide HB).mono hb6 (unhide HB).lt
    have hW6 := (unhide HW).trans (hb6.mono (unhide HW).size)
    have hV6 := (unhide HV).mono hb6
    refine ⟨four A6 B6, ?_⟩
    simp only [List.setIfInBounds_toArray, List.set_cons_zero, List.set_cons_succ]
    refine wpAnyH_ready (rs := [3, 4]) (by kernel_rfl) (by simp) (consCall (f := 142) (args := #[.agg #[.bool sx, .slice a lx ca], v]) (R := fun r wz => BigV wz r (x + -y) ∧ Below w6.heap.size w6 wz) 9 rfl rfl (by rfl) ?hrun2 ((l2BigAdd_any _ _ x (-y) _ hV6 hr (by have := unhide HLX; omega) (by rw [Int.natAbs_neg]; have := unhide HLX; omega)).mono fun e w7 ⟨r, he, hr, hb⟩ => ⟨r, he, hr, hb⟩) ?pB1 (consRun (v := .pointer (some ⟨w6.heap.size, 0, none⟩)) (w' := w6.alloc (.cells #[.bool false, .slice none 0 0] 108)) 5 rfl rfl (by rfl) ?hrun3 (four (A6.alloc _) (B6.alloc _)) ?pB2 AllReadyH.nil))
    case hrun2 => simp [execOp, go_sem]
    case hrun3 => simp [execOp, go_sem]
    case pB1 =>
      rintro q w7 ⟨hq, hb7⟩
      have A7 := A6.mono hb7 A6.lt; have B7 := B6.mono hb7 B6.lt
      have hW7 := hW6.trans (hb7.mono hW6.size)
      obtain ⟨p, rfl, hp⟩ := hq
      obtain ⟨pg, pc, rfl, -⟩ := hp
      rw [unhide HQ]
      obtain ⟨dl, hdl⟩ : ∃ dl, (digs (x + -y).natAbs).length = dl := ⟨_, rfl⟩
      rw [hdl]
      clear hdl
      refine ⟨four A7 B7, ?_⟩
      simp only [List.setIfInBounds_toArray, List.set_cons_zero, List.set_cons_succ]
      refine wpAnyH_ready (rs := [4]) (by kernel_rfl) (by simp) (consRun (v := .pointer (some ⟨w7.heap.size, 0, none⟩)) (w' := w7.alloc (.cells #[.bool false, .slice none 0 0] 108)) 5 rfl rfl (by rfl) ?hrun3 (four (A7.alloc _) (B7.alloc _)) ?pB1 AllReadyH.nil)
      case hrun3 => simp [execOp, go_sem]
      simp only [List.setIfInBounds_toArray, List.set_cons_zero, List.set_cons_succ]
      have DD := Blk.new w7 108 #[.bool false, .slice none 0 0]
      have hWZ := hW7.alloc hW7.size (.cells #[.bool false, .slice none 0 0] 108)
      have AZ := A7.alloc (.cells #[.bool false, .slice none 0 0] 108); have BZ := B7.alloc (.cells #[.bool false, .slice none 0 0] 108)
      have sA := A7.lt; have sB := B7.lt
      clear A6 B6 A7 B7 hV6 hW6 hW7 hb6 hb7 hr hHeld
      generalize w7.heap.size = D at *
      generalize w7.alloc (.cells #[.bool false, .slice none 0 0] 108) = w8 at *
      have hsD := DD.lt
      obtain ⟨⟨r0, r1⟩, ⟨f0, f1⟩⟩ := two DD
      refine storeY (i := 5) (w' := (w8.setCell ⟨D, 0, none⟩ (.bool (decide (x < y)))).setCell ⟨D, 1, none⟩ (.slice pg dl pc)) rfl (by rfl) (by kernel_rfl) rfl ?hrunS rfl (four ((AZ.other _ (by simp; omega)).other _ (by simp; omega)) ((BZ.other _ (by simp; omega)).other _ (by simp; omega))) ?_
      case hrunS => simp [execOp, go_sem, r0, r1, f0, f1]
      refine wpAnyH_done (by kernel_rfl) ?_ _
      obtain ⟨⟨y0, y1⟩, -⟩ := two ((DD.set 0 (.bool (decide (x < y)))).set 1 (.slice pg dl pc))
      have HZ := hide ((hWZ.setCell (p := ⟨D, 0, none⟩) (by simp; omega) (.bool (decide (x < y)))).setCell (p := ⟨D, 1, none⟩) (by simp; omega) (.slice pg dl pc))
      clear DD AZ BZ hWZ r0 r1 f0 f1
      generalize (w8.setCell ⟨D, 0, none⟩ (.bool (decide (x < y)))).setCell ⟨D, 1, none⟩ (.slice pg dl pc) = W9 at *
      go_wp2
      go_ret
      exact ⟨rfl, unhide HZ⟩
    case pB2 =>
      simp only [List.setIfInBounds_toArray, List.set_cons_zero, List.set_cons_succ]
      have hb7 : Below w6.heap.size w6 (w6.alloc (.cells #[.bool false, .slice none 0 0] 108)) := (Below.refl _ _).alloc (Nat.le_refl _) _
      have DD0 := Blk.new w6 108 #[.bool false, .slice none 0 0]
      have A7 := A6.alloc (.cells #[.bool false, .slice none 0 0] 108); have B7 := B6.alloc (.cells #[.bool false, .slice none 0 0] 108)
      have hW7 := hW6.alloc hW6.size (.cells #[.bool false, .slice none 0 0] 108)
      have hV7 := hV6.mono hb7; have hr7 := hr.mono hb7
      have sA := A6.lt; have sB := B6.lt
      clear A6 B6 hV6 hW6 hb6 hb7 hr hHeld
      generalize w6.heap.size = D at *
      generalize w6.alloc (.cells #[.bool false, .slice none 0 0] 108) = w7 at *
      refine wpAnyH_ready (rs := [3]) (by kernel_rfl) (by simp) (consCall (f := 142) (args := #[.agg #[.bool sx, .slice a lx ca], v]) (R := fun r wz => BigV wz r (x + -y) ∧ Below w7.heap.size w7 wz) 9 rfl rfl (by rfl) ?hrun2 ((l2BigAdd_any _ _ x (-y) _ hV7 hr7 (by have := unhide HLX; omega) (by rw [Int.natAbs_neg]; have := unhide HLX; omega)).mono fun e w7 ⟨r, he, hr, hb⟩ => ⟨r, he, hr, hb⟩) ?pC AllReadyH.nil)
      case hrun2 => simp [execOp, go_sem]
      rintro q w8 ⟨hq, hb8⟩
      have AZ := A7.mono hb8 A7.lt; have BZ := B7.mono hb8 B7.lt; have DD := DD0.mono hb8 DD0.lt
      have hWZ := hW7.trans (hb8.mono hW7.size)
      obtain ⟨p, rfl, hp⟩ := hq
      obtain ⟨pg, pc, rfl, -⟩ := hp
      rw [unhide HQ]
      obtain ⟨dl, hdl⟩ : ∃ dl, (digs (x + -y).natAbs).length = dl := ⟨_, rfl⟩
      rw [hdl]
      clear hdl
      refine ⟨four AZ BZ, ?_⟩
      simp only [List.setIfInBounds_toArray, List.set_cons_zero, List.set_cons_succ]
      clear A7 B7 hW7 hb8 hV7 hr7 DD0
      have hsD := DD.lt
      obtain ⟨⟨r0, r1⟩, ⟨f0, f1⟩⟩ := two DD
      refine storeY (i := 5) (w' := (w8.setCell ⟨D, 0, none⟩ (.bool (decide (x < y)))).setCell ⟨D, 1, none⟩ (.slice pg dl pc)) rfl (by rfl) (by kernel_rfl) rfl ?hrunS rfl (four ((AZ.other _ (by simp; omega)).other _ (by simp; omega)) ((BZ.other _ (by simp; omega)).other _ (by simp; omega))) ?_
      case hrunS => simp [execOp, go_sem, r0, r1, f0, f1]
      refine wpAnyH_done (by kernel_rfl) ?_ _
      obtain ⟨⟨y0, y1⟩, -⟩ := two ((DD.set 0 (.bool (decide (x < y)))).set 1 (.slice pg dl pc))
      have HZ := hide ((hWZ.setCell (p := ⟨D, 0, none⟩) (by simp; omega) (.bool (decide (x < y)))).setCell (p := ⟨D, 1, none⟩) (by simp; omega) (.slice pg dl pc))
      clear DD AZ BZ hWZ r0 r1 f0 f1
      generalize (w8.setCell ⟨D, 0, none⟩ (.bool (decide (x < y)))).setCell ⟨D, 1, none⟩ (.slice pg dl pc) = W9 at *
      go_wp2
      go_ret
      exact ⟨rfl, unhide HZ⟩
  case pA =>
    simp only [List.setIfInBounds_toArray, List.set_cons_zero, List.set_cons_succ]
    have hbA : Below W.heap.size W (W.drew.alloc (.cells #[.bool false, .slice none 0 0] 108)) := below_of_drew ((Below.refl W.heap.size W.drew).alloc (Nat.le_refl _) _)
    have DD0 : Blk (W.drew.alloc (.cells #[.bool false, .slice none 0 0] 108)) W.heap.size 108 [.bool false, .slice none 0 0] := Blk.new W.drew 108 #[.bool false, .slice none 0 0]
    have A6 := (unhide HA).mono hbA (unhide HA).lt; have B6 := (unhide HB).mono hbA (unhide HB).lt
    have hW6 := (unhide HW).trans (hbA.mono (unhide HW).size)
    have hV6 := (unhide HV).mono hbA; have hU6 := (unhide HU).mono hbA
    have sA := (unhide HA).lt; have sB := (unhide HB).lt
    have hD0 : W.drew.heap.size = W.heap.size := rfl
    rw [hD0]
    clear hbA hHeld hD0
    generalize W.heap.size = D at *
    generalize W.drew.alloc (.cells #[.bool false, .slice none 0 0] 108) = w6 at *
    refine wpAnyH_ready (rs := [2]) (by kernel_rfl) (by simp) (consCall (f := 143) (args := #[.agg #[.bool sy, .slice b ly cb]]) (R := fun r wz => BigV wz r (-y) ∧ Below w6.heap.size w6 wz) 8 rfl rfl (by rfl) ?hrun1 ((l2BigNeg_any _ y _ hU6).mono fun e w6 ⟨r, he, hr, hb⟩ => ⟨r, he, hr, hb⟩) ?pA1 AllReadyH.nil)
    case hrun1 => simp [execOp, go_sem]
    rintro v w7 ⟨hr, hb7⟩
    have A7 := A6.mono hb7 A6.lt; have B7 := B6.mono hb7 B6.lt; have DD1 := DD0.mono hb7 DD0.lt
    have hW7 := hW6.trans (hb7.mono hW6.size)
    have hV7 := hV6.mono hb7
    refine ⟨four A7 B7, ?_⟩
    simp only [List.setIfInBounds_toArray, List.set_cons_zero, List.set_cons_succ]
    refine wpAnyH_ready (rs := [3]) (by kernel_rfl) (by simp) (consCall (f := 142) (args := #[.agg #[.bool sx, .slice a lx ca], v]) (R := fun r wz => BigV wz r (x + -y) ∧ Below w7.heap.size w7 wz) 9 rfl rfl (by rfl) ?hrun2 ((l2BigAdd_any _ _ x (-y) _ hV7 hr (by have := unhide HLX; omega) (by rw [Int.natAbs_neg]; have := unhide HLX; omega)).mono fun e w7 ⟨r, he, hr, hb⟩ => ⟨r, he, hr, hb⟩) ?pA2 AllReadyH.nil)
    case hrun2 => simp [execOp, go_sem]
    rintro q w8 ⟨hq, hb8⟩
    have AZ := A7.mono hb8 A7.lt; have BZ := B7.mono hb8 B7.lt; have DD := DD1.mono hb8 DD1.lt
    have hWZ := hW7.trans (hb8.mono hW7.size)
    obtain ⟨p, rfl, hp⟩ := hq
    obtain ⟨pg, pc, rfl, -⟩ := hp
    rw [unhide HQ]
    obtain ⟨dl, hdl⟩ : ∃ dl, (digs (x + -y).natAbs).length = dl := ⟨_, rfl⟩
    rw [hdl]
    clear hdl
    refine ⟨four AZ BZ, ?_⟩
    simp only [List.setIfInBounds_toArray, List.set_cons_zero, List.set_cons_succ]
    clear A6 B6 A7 B7 hW6 hW7 hb7 hb8 hV6 hU6 hV7 hr DD0 DD1
    have hsD := DD.lt
    obtain ⟨⟨r0, r1⟩, ⟨f0, f1⟩⟩ := two DD
    refine storeY (i := 5) (w' := (w8.setCell ⟨D, 0, none⟩ (.bool (decide (x < y)))).setCell ⟨D, 1, none⟩ (.slice pg dl pc)) rfl (by rfl) (by kernel_rfl) rfl ?hrunS rfl (four ((AZ.other _ (by simp; omega)).other _ (by simp; omega)) ((BZ.other _ (by simp; omega)).other _ (by simp; omega))) ?_
    case hrunS => simp [execOp, go_sem, r0, r1, f0, f1]
    refine wpAnyH_done (by kernel_rfl) ?_ _
    obtain ⟨⟨y0, y1⟩, -⟩ := two ((DD.set 0 (.bool (decide (x < y)))).set 1 (.slice pg dl pc))
    have HZ := hide ((hWZ.setCell (p := ⟨D, 0, none⟩) (by simp; omega) (.bool (decide (x < y)))).setCell (p := ⟨D, 1, none⟩) (by simp; omega) (.slice pg dl pc))
    clear DD AZ BZ hWZ r0 r1 f0 f1
    generalize (w8.setCell ⟨D, 0, none⟩ (.bool (decide (x < y)))).setCell ⟨D, 1, none⟩ (.slice pg dl pc) = W9 at *
    go_wp2
    go_ret
    exact ⟨rfl, unhide HZ⟩
end Go.Proofs.YtjgngbmkpiihgaaGreatDoor

/- The model's exact integers: whether one is an int64, and which. -/
namespace Go.Proofs.YtjgngbmkpiihgaaGreatDoor
open Go Go.RowKit

theorem digs_i64 {z : Int} (h0 : -9223372036854775808 ≤ z) (h1 : z ≤ 9223372036854775807) : (digs z.natAbs).length ≤ 19 := digs_length_le (by omega)
def fitsB (z : Int) : Bool := decide (-9223372036854775808 ≤ z ∧ z ≤ 9223372036854775807)

set_option maxRecDepth 100000 in
set_option maxHeartbeats 4000000 in
theorem l2Fits_any (v : Value) (z : Int) (w : World) (hv : BigV w v z) (bz : (digs z.natAbs).length ≤ 500) :
    Calls Tryz.prog 101 #[v] w fun e w' => e = .returned (.bool (fitsB z)) ∧ Below w.heap.size w w' := by
  have HV := hide hv
  obtain ⟨v1, rfl, hv1⟩ := hv
  obtain ⟨a, ca, rfl, -⟩ := hv1
  obtain ⟨sz, hsz⟩ : ∃ sz, decide (z < 0) = sz := ⟨_, rfl⟩
  obtain ⟨lz, hlz⟩ : ∃ lz, (digs z.natAbs).length = lz := ⟨_, rfl⟩
  rw [hsz, hlz] at HV ⊢
  have BZ := hide bz
  clear hsz hlz bz
  have H0 := hide (Blk.new w 108 #[.bool sz, .slice a lz ca])
  have HW : Hid (Below w.heap.size w (w.alloc (.cells #[.bool sz, .slice a lz ca] 108))) := (Below.refl _ _).alloc (Nat.le_refl _) _
  go_enter Tryz.func101, Tryz.ntmps101
  go_wp2_with fail
  refine (l2FromInt_any 9223372036854775807 _ (by omega) (by omega)).mono ?_
  rintro e w1 ⟨t1, rfl, ht1, hb1⟩
  replace H0 := hide ((unhide H0).mono hb1 (unhide H0).lt); replace HW := hide ((unhide HW).trans (hb1.mono (unhide HW).size)); clear hb1
  rw [show decide ((9223372036854775807 : Int) < 0) = false from rfl]
  have hT : BigV w1 (.agg #[.bool false, t1]) 9223372036854775807 := ⟨t1, rfl, ht1⟩
  obtain ⟨ta, tc, rfl, -⟩ := ht1
  obtain ⟨lt, hlt⟩ : ∃ lt, (digs (Int.natAbs 9223372036854775807)).length = lt := ⟨_, rfl⟩
  rw [hlt] at hT ⊢
  clear hlt
  have B1 := Blk.new w1 108 #[.bool false, .slice ta lt tc]
  have hbA : Below w1.heap.size w1 (w1.alloc (.cells #[.bool false, .slice ta lt tc] 108)) := (Below.refl _ _).alloc (Nat.le_refl _) _
  have HT := hide (hT.mono hbA)
  replace H0 := hide ((unhide H0).mono hbA (unhide H0).lt); replace HW := hide ((unhide HW).trans (hbA.mono (unhide HW).size))
  have H1 := hide B1
  clear hT B1 hbA
  go_wp2_with fail
  refine (l2FromInt_any (-9223372036854775808) _ (by omega) (by omega)).mono ?_
  rintro e w2 ⟨t2, rfl, ht2, hb2⟩
  replace H0 := hide ((unhide H0).mono hb2 (unhide H0).lt); replace H1 := hide ((unhide H1).mono hb2 (unhide H1).lt); replace HW := hide ((unhide HW).trans (hb2.mono (unhide HW).size)); replace HT := hide ((unhide HT).mono hb2); clear hb2
  rw [show decide ((-9223372036854775808 : Int) < 0) = true from rfl]
  have hU : BigV w2 (.agg #[.bool true, t2]) (-9223372036854775808) := ⟨t2, rfl, ht2⟩
  obtain ⟨ua, uc, rfl, -⟩ := ht2
  obtain ⟨lu, hlu⟩ : ∃ lu, (digs (Int.natAbs (-9223372036854775808))).length = lu := ⟨_, rfl⟩
  rw [hlu] at hU ⊢
  clear hlu
  have B2 := Blk.new w2 108 #[.bool true, .slice ua lu uc]
  have hbA : Below w2.heap.size w2 (w2.alloc (.cells #[.bool true, .slice ua lu uc] 108)) := (Below.refl _ _).alloc (Nat.le_refl _) _
  have HU := hide (hU.mono hbA)
  replace HT := hide ((unhide HT).mono hbA)
  replace H0 := hide ((unhide H0).mono hbA (unhide H0).lt); replace H1 := hide ((unhide H1).mono hbA (unhide H1).lt); replace HW := hide ((unhide HW).trans (hbA.mono (unhide HW).size))
  have H2 := hide B2
  replace HV := hide ((unhide HV).mono (unhide HW))
  clear hU B2 hbA
  obtain ⟨⟨z0, z1⟩, -⟩ := two (unhide H0)
  obtain ⟨⟨z2, z3⟩, -⟩ := two (unhide H1)
  obtain ⟨⟨z4, z5⟩, -⟩ := two (unhide H2)
  have LT := hide (digs_i64 (z := 9223372036854775807) (by omega) (by omega)); have LU := hide (digs_i64 (z := -9223372036854775808) (by omega) (by omega))
  go_wp2_with fail
  refine (l2BigLess_any _ _ 9223372036854775807 z _ (unhide HT) (unhide HV) (by have := unhide LT; omega) (unhide BZ)).mono ?_
  rintro e w3 ⟨rfl, hb3⟩
  replace H0 := hide ((unhide H0).mono hb3 (unhide H0).lt); replace H2 := hide ((unhide H2).mono hb3 (unhide H2).lt); replace HW := hide ((unhide HW).trans (hb3.mono (unhide HW).size)); replace HU := hide ((unhide HU).mono hb3); replace HV := hide ((unhide HV).mono hb3)
  clear hb3 z0 z1 z2 z3 z4 z5 H1 HT
  obtain ⟨⟨z0, z1⟩, -⟩ := two (unhide H0)
  obtain ⟨⟨z4, z5⟩, -⟩ := two (unhide H2)
  by_cases g1 : 9223372036854775807 < z
  · have HF : Hid (fitsB z = false) := by rw [Hid, fitsB, decide_eq_false_iff_not]; omega
    rw [decide_eq_true g1]
    clear g1
    go_wp2
    go_ret
    exact ⟨ret_bool (unhide HF).symm, unhide HW⟩
  · have G1 := hide g1
    rw [decide_eq_false g1]
    clear g1
    go_wp2_with fail
    refine (l2BigLess_any _ _ z (-9223372036854775808) _ (unhide HV) (unhide HU) (unhide BZ) (by have := unhide LU; omega)).mono ?_
    rintro e w4 ⟨rfl, hb4⟩
    replace HW := hide ((unhide HW).trans (hb4.mono (unhide HW).size))
    clear hb4
    have HF : Hid ((!decide (z < -9223372036854775808)) = fitsB z) := by
      rw [Hid, fitsB, ← decide_not, decide_eq_decide]; have := unhide G1; omega
    obtain ⟨c, hc⟩ : ∃ c, decide (z < -9223372036854775808) = c := ⟨_, rfl⟩
    rw [hc] at HF ⊢
    clear hc
    go_wp2
    go_ret
    exact ⟨ret_bool (unhide HF), unhide HW⟩

set_option maxRecDepth 100000 in
set_option maxHeartbeats 4000000 in
theorem toInt_in (neg : Bool) (n L ca : Nat) (a : Option Addr) (w : World) (hL : L = (digs n).length) (bL : L ≤ 500) (hn : n ≤ 9223372036854775808) (hp : neg = false → n ≤ 9223372036854775807) (hI : Ints w a L (fun k => (((digs n).getD k 0 : Nat) : Int))) (z : Int) (hz : z = if neg then -(n : Int) else n) :
    Calls Tryz.prog 102 #[.agg #[.bool neg, .slice a L ca]] w fun e w' => e = .returned (.int .i64 z) ∧ Below w.heap.size w w' := by
  have H0 := Blk.new w 108 #[.bool neg, .slice a L ca]
  have HW : Hid (Below w.heap.size w (w.alloc (.cells #[.bool neg, .slice a L ca] 108))) := (Below.refl _ _).alloc (Nat.le_refl _) _
  have hI2 := hI.mono (unhide HW)
  obtain ⟨⟨z0, z1⟩, -⟩ := two H0
  have HZ := hide hz; have HN := hide (And.intro hL (And.intro hn hp)); clear H0 hI hL hn hp hz
  go_enter Tryz.func102, Tryz.ntmps102
  go_wp2
  generalize w.alloc (.cells #[.bool neg, .slice a L ca] 108) = W at *
  go_loopw [3, 4] (fun x i wr => ∃ (k : Nat) (X : Int), k ≤ L ∧ i = .int .i64 ((k : Int) - 1) ∧ x = .int .i64 X ∧ X = (if neg then -((n / 10 ^ k : Nat) : Int) else ((n / 10 ^ k : Nat) : Int)) ∧ wr = W) (fun _ i _ => (intOf i + 1).toNat)
  case atStart =>
    refine ⟨L, 0, Nat.le_refl _, rfl, rfl, ?_, rfl⟩
    rw [(unhide HN).1, Nat.div_eq_of_lt (lt_digs n)]; cases neg <;> rfl
  case round =>
    obtain ⟨k, X, hk, rfl, rfl, hX, rfl⟩ := hrel
    cases k with
    | zero =>
      have HX := hide hX; clear hX
      go_wp2
      go_ret
      exact ⟨ret_int (by have := unhide HX; rw [unhide HZ, this]; simp), unhide HW⟩
    | succ k =>
      rw [show ((k + 1 : Nat) : Int) - 1 = (k : Int) by omega]
      obtain ⟨b1, o1, rfl, -, c1⟩ := hI2 k (by omega)
      dsimp only at c1
      rw [digs_at] at c1
      have s1 := div_step n k
      have hle : n / 10 ^ k ≤ n := Nat.div_le_self _ _
      obtain ⟨d, hd⟩ : ∃ d, n / 10 ^ k % 10 = d := ⟨_, rfl⟩
      have hd10 : d < 10 := by rw [← hd]; exact Nat.mod_lt _ (by decide)
      rw [hd] at c1 s1
      obtain ⟨dI, hdI⟩ : ∃ dI : Int, (d : Int) = dI := ⟨_, rfl⟩
      rw [hdI] at c1
      have hnn := (unhide HN).2
      have b0 : 0 ≤ dI := by omega
      have b9 : dI ≤ 9 := by omega
      have HH := hide (And.intro s1 hdI)
      cases neg with
      | true =>
        simp only [if_true] at hX
        have x0 : X * 10 ≤ 0 := by omega
        have x1 : -9223372036854775808 ≤ X * 10 := by omega
        have x2 : -9223372036854775808 ≤ X * 10 - dI := by omega
        have HX := hide hX; clear hX s1 hle hd hd10 hdI hnn
        go_wp2
        go_roundw
        case rel => exact ⟨k, X * 10 - dI, by omega, rfl, rfl, by have := unhide HX; have := unhide HH; (try simp only [if_true]); omega, trivial⟩
        case measure => simp [intOf]
      | false =>
        simp only [Bool.false_eq_true, if_false] at hX
        have x0 : 0 ≤ X * 10 := by omega
        have x1 : X * 10 ≤ 9223372036854775807 := by have := hnn.2 rfl; omega
        have x2 : X * 10 + dI ≤ 9223372036854775807 := by have := hnn.2 rfl; omega
        have HX := hide hX; clear hX s1 hle hd hd10 hdI hnn
        go_wp2
        go_roundw
        case rel => exact ⟨k, X * 10 + dI, by omega, rfl, rfl, by have := unhide HX; have := unhide HH; (try simp only [Bool.false_eq_true, if_false]); omega, trivial⟩
        case measure => simp [intOf]
theorem l2ToInt_any (v : Value) (z : Int) (w : World) (hv : BigV w v z) (h0 : -9223372036854775808 ≤ z) (h1 : z ≤ 9223372036854775807) :
    Calls Tryz.prog 102 #[v] w fun e w' => e = .returned (.int .i64 z) ∧ Below w.heap.size w w' := by
  obtain ⟨u, rfl, a, ca, rfl, -, -, hI⟩ := hv
  refine toInt_in _ z.natAbs _ ca a w rfl (by have := digs_i64 h0 h1; omega) (by omega) (fun h => ?_) hI z ?_
  · have : ¬ z < 0 := by simpa using h
    omega
  · by_cases h : z < 0
    · simp [h]; omega
    · simp [h]; omega
end Go.Proofs.YtjgngbmkpiihgaaGreatDoor
