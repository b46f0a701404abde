/- The model's operators on two whole numbers: differences, quotients. -/
import Derived.Test.YtnmpkdmflijhpaaGreatDoorApV
import Derived.Test.YtnmpkdmflijhpaaGreatDoorHand
namespace Go.Proofs.YtnmpkdmflijhpaaGreatDoor
open Go Go.RowKit

set_option maxRecDepth 100000 in
set_option maxHeartbeats 8000000 in
theorem onInts_sub (b o c : Nat) (p q : Vx) (w : World) (h0 : Cel w b o p) (h1 : Cel w b (o + 3) q) (hp : -9223372036854775808 ≤ p.n ∧ p.n ≤ 9223372036854775807) (hq : -9223372036854775808 ≤ q.n ∧ q.n ≤ 9223372036854775807) :
    Calls Tryz.prog 19 #[.int .i64 8, .slice (some ⟨b, o, none⟩) 2 c] w fun e w' => e = .returned (vv (int2 8 p.n q.n)) ∧ Below w.heap.size w w' := by
  obtain ⟨W0, hW0⟩ : ∃ W0, w.alloc (.cells #[.int .i64 0, .int .i64 0, .string ⟨#[]⟩] 25) = W0 := ⟨_, rfl⟩
  have hb0 : Below w.heap.size w W0 := by rw [← hW0]; exact (Below.refl _ _).alloc (Nat.le_refl _) _
  have bR : Blk W0 w.heap.size 25 [.int .i64 0, .int .i64 0, .string ⟨#[]⟩] := by rw [← hW0]; exact Blk.new w 25 #[.int .i64 0, .int .i64 0, .string ⟨#[]⟩]
  have hC0 := h0.mono hb0; have hC1 := h1.mono hb0
  have HC0 := hide hC0; have HC1 := hide hC1; have HR := hide bR; have HB0 := hide hb0; have HP := hide hp; have HQ := hide hq
  obtain ⟨-, a0, a1, a2⟩ := hC0
  clear hb0 bR hC1 h0 h1 hp hq
  go_enter Tryz.func19, Tryz.ntmps19
  go_wp2_with fail
  try rw [hW0]
  clear hW0
  refine (l2FromInt_any p.n W0 (unhide HP).1 (unhide HP).2).mono ?_
  rintro e w1 ⟨u5, rfl, hu5, hb1⟩
  obtain ⟨s5, hs5⟩ : ∃ s5, Value.bool (decide (p.n < 0)) = s5 := ⟨_, rfl⟩
  have hV5 : BigV w1 (.agg #[s5, u5]) p.n := ⟨u5, by rw [hs5], hu5⟩
  obtain ⟨g5, cc5, rfl, -⟩ := hu5
  rw [hs5]
  obtain ⟨L5, hL5⟩ : ∃ L5, (digs p.n.natAbs).length = L5 := ⟨_, rfl⟩
  rw [hL5] at hV5 ⊢
  obtain ⟨bs5, hbs5⟩ : ∃ bs5, decide (p.n < 0) = bs5 := ⟨_, rfl⟩
  rw [hbs5] at hs5
  subst hs5
  obtain ⟨w2, hw2⟩ : ∃ w2, w1.alloc (.cells #[.bool bs5, .slice g5 L5 cc5] 46) = w2 := ⟨_, rfl⟩
  have hb2 : Below w1.heap.size w1 w2 := by rw [← hw2]; exact (Below.refl _ _).alloc (Nat.le_refl _) _
  obtain ⟨X5, hX5⟩ : ∃ X5, w1.heap.size = X5 := ⟨_, rfl⟩
  have hB5 : Blk w2 X5 46 [.bool bs5, .slice g5 L5 cc5] := by rw [← hX5, ← hw2]; exact Blk.new w1 46 #[.bool bs5, .slice g5 L5 cc5]
  have hb02 : Below W0.heap.size W0 w2 := hb1.trans (hb2.mono hb1.size)
  have HB5 := hide hB5; have HV5 := hide (hV5.mono hb2); have HB02 := hide hb02
  have hC1 := (unhide HC1).mono hb02
  obtain ⟨-, b0, b1, b2⟩ := hC1
  clear hb1 hb2 hB5 hV5 hb02 a0 a1 a2 hbs5 hL5
  go_wp2_with fail
  try rw [hX5]
  try rw [hw2]
  clear hw2 hX5 w1
  refine (l2FromInt_any q.n w2 (unhide HQ).1 (unhide HQ).2).mono ?_
  rintro e w1 ⟨u6, rfl, hu6, hb1⟩
  obtain ⟨s6, hs6⟩ : ∃ s6, Value.bool (decide (q.n < 0)) = s6 := ⟨_, rfl⟩
  have hV6 : BigV w1 (.agg #[s6, u6]) q.n := ⟨u6, by rw [hs6], hu6⟩
  obtain ⟨g6, cc6, rfl, -⟩ := hu6
  rw [hs6]
  obtain ⟨L6, hL6⟩ : ∃ L6, (digs q.n.natAbs).length = L6 := ⟨_, rfl⟩
  rw [hL6] at hV6 ⊢
  obtain ⟨bs6, hbs6⟩ : ∃ bs6, decide (q.n < 0) = bs6 := ⟨_, rfl⟩
  rw [hbs6] at hs6
  subst hs6
  obtain ⟨W, hW⟩ : ∃ W, w1.alloc (.cells #[.bool bs6, .slice g6 L6 cc6] 46) = W := ⟨_, rfl⟩
  have hb2 : Below w1.heap.size w1 W := by rw [← hW]; exact (Below.refl _ _).alloc (Nat.le_refl _) _
  obtain ⟨X6, hX6⟩ : ∃ X6, w1.heap.size = X6 := ⟨_, rfl⟩
  have hB6 : Blk W X6 46 [.bool bs6, .slice g6 L6 cc6] := by rw [← hX6, ← hW]; exact Blk.new w1 46 #[.bool bs6, .slice g6 L6 cc6]
  have hb3 : Below w2.heap.size w2 W := hb1.trans (hb2.mono hb1.size)
  have hb4 : Below W0.heap.size W0 W := (unhide HB02).trans (hb3.mono (unhide HB02).size)
  have hOI : OI w W b o X5 X6 p q (.agg #[.bool bs5, .slice g5 L5 cc5]) (.agg #[.bool bs6, .slice g6 L6 cc6]) (.bool bs5) (.slice g5 L5 cc5) (.bool bs6) (.slice g6 L6 cc6) :=
    ⟨(unhide HR).mono hb4 (unhide HR).lt, (unhide HB5).mono hb3 (unhide HB5).lt, hB6, rfl, rfl, (unhide HV5).mono hb3, hV6.mono hb2, (unhide HC0).mono hb4, (unhide HC1).mono hb4, (unhide HB0).trans (hb4.mono (unhide HB0).size)⟩
  have HL6 : Hid ((L6 = 0 ↔ q.n = 0)) := hide (by rw [← hL6, List.length_eq_zero_iff, digs_nil, Int.natAbs_eq_zero])
  have DP : Hid ((digs p.n.natAbs).length ≤ 19) := hide (digs_i64 (unhide HP).1 (unhide HP).2)
  have DQ : Hid ((digs q.n.natAbs).length ≤ 19) := hide (digs_i64 (unhide HQ).1 (unhide HQ).2)
  have HOI := hide hOI
  obtain ⟨⟨x0, x1⟩, -⟩ := two hOI.B5
  obtain ⟨⟨y0, y1⟩, -⟩ := two hOI.B6
  clear hb1 hb2 hb3 hb4 hB6 hV6 hOI b0 b1 b2 hbs6 hL6 HB02 HC0 HC1 HR HB0 HB5 HV5
  go_wp2_with fail
  try rw [hX6]
  try rw [hW]
  clear hW hX6 w1
  have S0 := hide (four (unhide HOI).B5 (unhide HOI).B6)
  have bR0 := hide (unhide HOI).R
  clear x0 x1 y0 y1
  refine wp_region_held_drew (S := fun w' => Four w' X5 X6 (.bool bs5) (.slice g5 L5 cc5) (.bool bs6) (.slice g6 L6 cc6)) (by kernel_rfl) (unhide S0) (fun hHeld => ?_)
  refine takeY (i := 0) (v := .agg #[.bool bs5, .slice g5 L5 cc5]) 49 rfl rfl (by kernel_rfl) (by kernel_rfl) (by kernel_rfl) (fun _ _ _ _ h => h) (by rfl) (fun w hS => by obtain ⟨q0, q1, q2, q3⟩ := hS; simp [execOp, go_sem, *]) hHeld ?_
  simp only [List.setIfInBounds_toArray, List.set_cons_zero, List.set_cons_succ]
  refine takeY (i := 1) (v := .agg #[.bool bs6, .slice g6 L6 cc6]) 50 rfl rfl (by kernel_rfl) (by kernel_rfl) (by kernel_rfl) (fun _ _ _ _ h => h) (by rfl) (fun w hS => by obtain ⟨q0, q1, q2, q3⟩ := hS; simp [execOp, go_sem, *]) hHeld ?_
  simp only [List.setIfInBounds_toArray, List.set_cons_zero, List.set_cons_succ]
  refine callY (i := 2) (f := 31) (args := #[.agg #[.bool bs6, .slice g6 L6 cc6]]) (R := fun r wz => BigV wz r (-q.n) ∧ Below W.heap.size W wz) 51 rfl rfl (by rfl) (by kernel_rfl) ?hrun2 ((l2BigNeg_any _ q.n _ ((unhide HOI).V6.mono (below_drewN' _ 1))).mono fun e w6 ⟨r, he, hr, hb⟩ => ⟨r, he, hr, below_of_drew hb⟩) ?_
  case hrun2 => simp [execOp, go_sem]
  rintro r3 w3 ⟨hr, hb⟩
  have HOI3 := hide ((unhide HOI).mono hb); have HR3 := hide hr
  clear hr hb
  refine ⟨four (unhide HOI3).B5 (unhide HOI3).B6, ?_⟩
  simp only [List.setIfInBounds_toArray, List.set_cons_zero, List.set_cons_succ]
  refine callY (i := 3) (f := 35) (args := #[.agg #[.bool bs5, .slice g5 L5 cc5], r3]) (R := fun r wz => BigV wz r (p.n + -q.n) ∧ Below w3.heap.size w3 wz) 52 rfl rfl (by rfl) (by kernel_rfl) ?hrun3 ((l2BigAdd_any _ _ p.n (-q.n) w3 (unhide HOI3).V5 (unhide HR3) (by have := unhide DP; omega) (by rw [Int.natAbs_neg]; have := unhide DQ; omega)).mono fun e w6 ⟨r, he, hr, hb⟩ => ⟨r, he, hr, hb⟩) ?_
  case hrun3 => simp [execOp, go_sem]
  rintro r4 w4 ⟨hr, hb⟩
  have HOI4 := hide ((unhide HOI3).mono hb); have HR4 := hide hr
  have hbz : (digs (p.n + -q.n).natAbs).length ≤ 500 := Nat.le_trans (digs_length_le (k := 20) (by have := unhide HP; have := unhide HQ; omega)) (by omega)
  have HBZ := hide hbz
  clear hr hb hbz
  refine ⟨four (unhide HOI4).B5 (unhide HOI4).B6, ?_⟩
  simp only [List.setIfInBounds_toArray, List.set_cons_zero, List.set_cons_succ]
  refine callY (i := 4) (f := 30) (args := #[r4]) (R := fun r wz => r = vv (chkX (p.n + -q.n)) ∧ Below w4.heap.size w4 wz) 53 rfl rfl (by rfl) (by kernel_rfl) ?hrun4 ((l2Checked_any _ (p.n + -q.n) w4 (unhide HR4) (unhide HBZ)).mono fun e w6 ⟨he, hb⟩ => ⟨_, he, vv_chk _, hb⟩) ?_
  case hrun4 => simp [execOp, go_sem]
  rintro r5 w5 ⟨rfl, hb⟩
  have HOI5 := hide ((unhide HOI4).mono hb)
  clear hb
  refine ⟨four (unhide HOI5).B5 (unhide HOI5).B6, ?_⟩
  simp only [List.setIfInBounds_toArray, List.set_cons_zero, List.set_cons_succ]
  obtain ⟨z, hz⟩ : ∃ z, chkX (p.n + -q.n) = z := ⟨_, rfl⟩
  have HZ : Hid (int2 8 p.n q.n = z) := hide (by
    rw [← hz]
    simp [int2])
  rw [hz]
  clear hz
  unfold vv
  obtain ⟨r0, r1, r2⟩ := three (unhide HOI5).R
  have f0 := (unhide HOI5).R.free 0; have f1 := (unhide HOI5).R.free 1; have f2 := (unhide HOI5).R.free 2
  have n5 : X5 ≠ w.heap.size := by
    intro e
    have h5 := (unhide HOI5).B5.cell 0
    rw [e, r0] at h5
    simp at h5
  have n6 : X6 ≠ w.heap.size := by
    intro e
    have h5 := (unhide HOI5).B6.cell 0
    rw [e, r0] at h5
    simp at h5
  refine storeY (i := 5) (w' := ((w5.setCell ⟨w.heap.size, 0, none⟩ (.int .i64 z.k)).setCell ⟨w.heap.size, 1, none⟩ (.int .i64 z.n)).setCell ⟨w.heap.size, 2, none⟩ (.string z.s)) rfl (by rfl) (by kernel_rfl) rfl ?hrunS rfl (four ((((unhide HOI5).B5.other _ n5).other _ n5).other _ n5) ((((unhide HOI5).B6.other _ n6).other _ n6).other _ n6)) ?_
  case hrunS => simp [execOp, go_sem, r0, r1, r2, f0, f1, f2]
  refine wpAnyH_done (by kernel_rfl) ?_ _
  obtain ⟨W9, hW9⟩ : ∃ W9, ((w5.setCell ⟨w.heap.size, 0, none⟩ (.int .i64 z.k)).setCell ⟨w.heap.size, 1, none⟩ (.int .i64 z.n)).setCell ⟨w.heap.size, 2, none⟩ (.string z.s) = W9 := ⟨_, rfl⟩
  have bR9 := ((((unhide HOI5).R.set 0 (.int .i64 z.k)).set 1 (.int .i64 z.n)).set 2 (.string z.s))
  have HB9 := hide (vx_out (unhide HOI5).low (.int .i64 z.k) (.int .i64 z.n) (.string z.s))
  rw [hW9] at bR9 HB9 ⊢
  obtain ⟨k0, k1, k2⟩ := three bR9
  clear hW9 bR9 r0 r1 r2 f0 f1 f2
  go_wp2
  exact bodyPost_ret (v := .agg #[.int .i64 z.k, .int .i64 z.n, .string z.s]) (by simp [results, Tryz.results19, go_sem, *]) rfl ⟨by rw [unhide HZ]; rfl, unhide HB9⟩

set_option maxRecDepth 100000 in
set_option maxHeartbeats 8000000 in
theorem onInts_div0 (b o c : Nat) (p q : Vx) (w : World) (h0 : Cel w b o p) (h1 : Cel w b (o + 3) q) (hp : -9223372036854775808 ≤ p.n ∧ p.n ≤ 9223372036854775807) (hq : -9223372036854775808 ≤ q.n ∧ q.n ≤ 9223372036854775807) (hq0 : q.n = 0) :
    Calls Tryz.prog 19 #[.int .i64 5, .slice (some ⟨b, o, none⟩) 2 c] w fun e w' => e = .returned (vv (int2 5 p.n q.n)) ∧ Below w.heap.size w w' := by
  have HQ0 := hide hq0
  clear hq0
  obtain ⟨W0, hW0⟩ : ∃ W0, w.alloc (.cells #[.int .i64 0, .int .i64 0, .string ⟨#[]⟩] 25) = W0 := ⟨_, rfl⟩
  have hb0 : Below w.heap.size w W0 := by rw [← hW0]; exact (Below.refl _ _).alloc (Nat.le_refl _) _
  have bR : Blk W0 w.heap.size 25 [.int .i64 0, .int .i64 0, .string ⟨#[]⟩] := by rw [← hW0]; exact Blk.new w 25 #[.int .i64 0, .int .i64 0, .string ⟨#[]⟩]
  have hC0 := h0.mono hb0; have hC1 := h1.mono hb0
  have HC0 := hide hC0; have HC1 := hide hC1; have HR := hide bR; have HB0 := hide hb0; have HP := hide hp; have HQ := hide hq
  obtain ⟨-, a0, a1, a2⟩ := hC0
  clear hb0 bR hC1 h0 h1 hp hq
  go_enter Tryz.func19, Tryz.ntmps19
  go_wp2_with fail
  try rw [hW0]
  clear hW0
  refine (l2FromInt_any p.n W0 (unhide HP).1 (unhide HP).2).mono ?_
  rintro e w1 ⟨u5, rfl, hu5, hb1⟩
  obtain ⟨s5, hs5⟩ : ∃ s5, Value.bool (decide (p.n < 0)) = s5 := ⟨_, rfl⟩
  have hV5 : BigV w1 (.agg #[s5, u5]) p.n := ⟨u5, by rw [hs5], hu5⟩
  obtain ⟨g5, cc5, rfl, -⟩ := hu5
  rw [hs5]
  obtain ⟨L5, hL5⟩ : ∃ L5, (digs p.n.natAbs).length = L5 := ⟨_, rfl⟩
  rw [hL5] at hV5 ⊢
  obtain ⟨bs5, hbs5⟩ : ∃ bs5, decide (p.n < 0) = bs5 := ⟨_, rfl⟩
  rw [hbs5] at hs5
  subst hs5
  obtain ⟨w2, hw2⟩ : ∃ w2, w1.alloc (.cells #[.bool bs5, .slice g5 L5 cc5] 46) = w2 := ⟨_, rfl⟩
  have hb2 : Below w1.heap.size w1 w2 := by rw [← hw2]; exact (Below.refl _ _).alloc (Nat.le_refl _) _
  obtain ⟨X5, hX5⟩ : ∃ X5, w1.heap.size = X5 := ⟨_, rfl⟩
  have hB5 : Blk w2 X5 46 [.bool bs5, .slice g5 L5 cc5] := by rw [← hX5, ← hw2]; exact Blk.new w1 46 #[.bool bs5, .slice g5 L5 cc5]
  have hb02 : Below W0.heap.size W0 w2 := hb1.trans (hb2.mono hb1.size)
  have HB5 := hide hB5; have HV5 := hide (hV5.mono hb2); have HB02 := hide hb02
  have hC1 := (unhide HC1).mono hb02
  obtain ⟨-, b0, b1, b2⟩ := hC1
  clear hb1 hb2 hB5 hV5 hb02 a0 a1 a2 hbs5 hL5
  go_wp2_with fail
  try rw [hX5]
  try rw [hw2]
  clear hw2 hX5 w1
  refine (l2FromInt_any q.n w2 (unhide HQ).1 (unhide HQ).2).mono ?_
  rintro e w1 ⟨u6, rfl, hu6, hb1⟩
  obtain ⟨s6, hs6⟩ : ∃ s6, Value.bool (decide (q.n < 0)) = s6 := ⟨_, rfl⟩
  have hV6 : BigV w1 (.agg #[s6, u6]) q.n := ⟨u6, by rw [hs6], hu6⟩
  obtain ⟨g6, cc6, rfl, -⟩ := hu6
  rw [hs6]
  obtain ⟨L6, hL6⟩ : ∃ L6, (digs q.n.natAbs).length = L6 := ⟨_, rfl⟩
  rw [hL6] at hV6 ⊢
  obtain ⟨bs6, hbs6⟩ : ∃ bs6, decide (q.n < 0) = bs6 := ⟨_, rfl⟩
  rw [hbs6] at hs6
  subst hs6
  obtain ⟨W, hW⟩ : ∃ W, w1.alloc (.cells #[.bool bs6, .slice g6 L6 cc6] 46) = W := ⟨_, rfl⟩
  have hb2 : Below w1.heap.size w1 W := by rw [← hW]; exact (Below.refl _ _).alloc (Nat.le_refl _) _
  obtain ⟨X6, hX6⟩ : ∃ X6, w1.heap.size = X6 := ⟨_, rfl⟩
  have hB6 : Blk W X6 46 [.bool bs6, .slice g6 L6 cc6] := by rw [← hX6, ← hW]; exact Blk.new w1 46 #[.bool bs6, .slice g6 L6 cc6]
  have hb3 : Below w2.heap.size w2 W := hb1.trans (hb2.mono hb1.size)
  have hb4 : Below W0.heap.size W0 W := (unhide HB02).trans (hb3.mono (unhide HB02).size)
  have hOI : OI w W b o X5 X6 p q (.agg #[.bool bs5, .slice g5 L5 cc5]) (.agg #[.bool bs6, .slice g6 L6 cc6]) (.bool bs5) (.slice g5 L5 cc5) (.bool bs6) (.slice g6 L6 cc6) :=
    ⟨(unhide HR).mono hb4 (unhide HR).lt, (unhide HB5).mono hb3 (unhide HB5).lt, hB6, rfl, rfl, (unhide HV5).mono hb3, hV6.mono hb2, (unhide HC0).mono hb4, (unhide HC1).mono hb4, (unhide HB0).trans (hb4.mono (unhide HB0).size)⟩
  have HL6 : Hid ((L6 = 0 ↔ q.n = 0)) := hide (by rw [← hL6, List.length_eq_zero_iff, digs_nil, Int.natAbs_eq_zero])
  have DP : Hid ((digs p.n.natAbs).length ≤ 19) := hide (digs_i64 (unhide HP).1 (unhide HP).2)
  have DQ : Hid ((digs q.n.natAbs).length ≤ 19) := hide (digs_i64 (unhide HQ).1 (unhide HQ).2)
  have HOI := hide hOI
  obtain ⟨⟨x0, x1⟩, -⟩ := two hOI.B5
  obtain ⟨⟨y0, y1⟩, -⟩ := two hOI.B6
  clear hb1 hb2 hb3 hb4 hB6 hV6 hOI b0 b1 b2 hbs6 hL6 HB02 HC0 HC1 HR HB0 HB5 HV5
  have hL0 := (unhide HL6).2 (unhide HQ0)
  subst hL0
  go_wp2_with fail
  try rw [hX6]
  try rw [hW]
  clear hW hX6 w1
  refine (l2Err_any 3 W).mono ?_
  rintro e w3 ⟨rfl, hb⟩
  have HOI3 := hide ((unhide HOI).mono hb)
  clear hb
  rw [show (Value.agg #[.int .i64 4, .int .i64 3, .string ⟨#[]⟩]) = vv (errX 3) from rfl]
  obtain ⟨z, hz⟩ : ∃ z, errX 3 = z := ⟨_, rfl⟩
  have HZ : Hid (int2 5 p.n q.n = z) := hide (by
    rw [← hz]
    simp [int2, unhide HQ0])
  rw [hz]
  clear hz
  unfold vv
  obtain ⟨r0, r1, r2⟩ := three (unhide HOI3).R
  have f0 := (unhide HOI3).R.free 0; have f1 := (unhide HOI3).R.free 1; have f2 := (unhide HOI3).R.free 2
  clear x0 x1 y0 y1
  go_wp2
  exact bodyPost_ret (v := .agg #[.int .i64 z.k, .int .i64 z.n, .string z.s]) (by simp [results, Tryz.results19, go_sem, *]) rfl ⟨by rw [unhide HZ]; rfl, vx_out (unhide HOI3).low _ _ _⟩

set_option maxRecDepth 100000 in
set_option maxHeartbeats 8000000 in
theorem onInts_div (b o c : Nat) (p q : Vx) (w : World) (h0 : Cel w b o p) (h1 : Cel w b (o + 3) q) (hp : -9223372036854775808 ≤ p.n ∧ p.n ≤ 9223372036854775807) (hq : -9223372036854775808 ≤ q.n ∧ q.n ≤ 9223372036854775807) (hq0 : q.n ≠ 0) :
    Calls Tryz.prog 19 #[.int .i64 5, .slice (some ⟨b, o, none⟩) 2 c] w fun e w' => e = .returned (vv (int2 5 p.n q.n)) ∧ Below w.heap.size w w' := by
  have HQ0 := hide hq0
  clear hq0
  obtain ⟨W0, hW0⟩ : ∃ W0, w.alloc (.cells #[.int .i64 0, .int .i64 0, .string ⟨#[]⟩] 25) = W0 := ⟨_, rfl⟩
  have hb0 : Below w.heap.size w W0 := by rw [← hW0]; exact (Below.refl _ _).alloc (Nat.le_refl _) _
  have bR : Blk W0 w.heap.size 25 [.int .i64 0, .int .i64 0, .string ⟨#[]⟩] := by rw [← hW0]; exact Blk.new w 25 #[.int .i64 0, .int .i64 0, .string ⟨#[]⟩]
  have hC0 := h0.mono hb0; have hC1 := h1.mono hb0
  have HC0 := hide hC0; have HC1 := hide hC1; have HR := hide bR; have HB0 := hide hb0; have HP := hide hp; have HQ := hide hq
  obtain ⟨-, a0, a1, a2⟩ := hC0
  clear hb0 bR hC1 h0 h1 hp hq
  go_enter Tryz.func19, Tryz.ntmps19
  go_wp2_with fail
  try rw [hW0]
  clear hW0
  refine (l2FromInt_any p.n W0 (unhide HP).1 (unhide HP).2).mono ?_
  rintro e w1 ⟨u5, rfl, hu5, hb1⟩
  obtain ⟨s5, hs5⟩ : ∃ s5, Value.bool (decide (p.n < 0)) = s5 := ⟨_, rfl⟩
  have hV5 : BigV w1 (.agg #[s5, u5]) p.n := ⟨u5, by rw [hs5], hu5⟩
  obtain ⟨g5, cc5, rfl, -⟩ := hu5
  rw [hs5]
  obtain ⟨L5, hL5⟩ : ∃ L5, (digs p.n.natAbs).length = L5 := ⟨_, rfl⟩
  rw [hL5] at hV5 ⊢
  obtain ⟨bs5, hbs5⟩ : ∃ bs5, decide (p.n < 0) = bs5 := ⟨_, rfl⟩
  rw [hbs5] at hs5
  subst hs5
  obtain ⟨w2, hw2⟩ : ∃ w2, w1.alloc (.cells #[.bool bs5, .slice g5 L5 cc5] 46) = w2 := ⟨_, rfl⟩
  have hb2 : Below w1.heap.size w1 w2 := by rw [← hw2]; exact (Below.refl _ _).alloc (Nat.le_refl _) _
  obtain ⟨X5, hX5⟩ : ∃ X5, w1.heap.size = X5 := ⟨_, rfl⟩
  have hB5 : Blk w2 X5 46 [.bool bs5, .slice g5 L5 cc5] := by rw [← hX5, ← hw2]; exact Blk.new w1 46 #[.bool bs5, .slice g5 L5 cc5]
  have hb02 : Below W0.heap.size W0 w2 := hb1.trans (hb2.mono hb1.size)
  have HB5 := hide hB5; have HV5 := hide (hV5.mono hb2); have HB02 := hide hb02
  have hC1 := (unhide HC1).mono hb02
  obtain ⟨-, b0, b1, b2⟩ := hC1
  clear hb1 hb2 hB5 hV5 hb02 a0 a1 a2 hbs5 hL5
  go_wp2_with fail
  try rw [hX5]
  try rw [hw2]
  clear hw2 hX5 w1
  refine (l2FromInt_any q.n w2 (unhide HQ).1 (unhide HQ).2).mono ?_
  rintro e w1 ⟨u6, rfl, hu6, hb1⟩
  obtain ⟨s6, hs6⟩ : ∃ s6, Value.bool (decide (q.n < 0)) = s6 := ⟨_, rfl⟩
  have hV6 : BigV w1 (.agg #[s6, u6]) q.n := ⟨u6, by rw [hs6], hu6⟩
  obtain ⟨g6, cc6, rfl, -⟩ := hu6
  rw [hs6]
  obtain ⟨L6, hL6⟩ : ∃ L6, (digs q.n.natAbs).length = L6 := ⟨_, rfl⟩
  rw [hL6] at hV6 ⊢
  obtain ⟨bs6, hbs6⟩ : ∃ bs6, decide (q.n < 0) = bs6 := ⟨_, rfl⟩
  rw [hbs6] at hs6
  subst hs6
  obtain ⟨W, hW⟩ : ∃ W, w1.alloc (.cells #[.bool bs6, .slice g6 L6 cc6] 46) = W := ⟨_, rfl⟩
  have hb2 : Below w1.heap.size w1 W := by rw [← hW]; exact (Below.refl _ _).alloc (Nat.le_refl _) _
  obtain ⟨X6, hX6⟩ : ∃ X6, w1.heap.size = X6 := ⟨_, rfl⟩
  have hB6 : Blk W X6 46 [.bool bs6, .slice g6 L6 cc6] := by rw [← hX6, ← hW]; exact Blk.new w1 46 #[.bool bs6, .slice g6 L6 cc6]
  have hb3 : Below w2.heap.size w2 W := hb1.trans (hb2.mono hb1.size)
  have hb4 : Below W0.heap.size W0 W := (unhide HB02).trans (hb3.mono (unhide HB02).size)
  have hOI : OI w W b o X5 X6 p q (.agg #[.bool bs5, .slice g5 L5 cc5]) (.agg #[.bool bs6, .slice g6 L6 cc6]) (.bool bs5) (.slice g5 L5 cc5) (.bool bs6) (.slice g6 L6 cc6) :=
    ⟨(unhide HR).mono hb4 (unhide HR).lt, (unhide HB5).mono hb3 (unhide HB5).lt, hB6, rfl, rfl, (unhide HV5).mono hb3, hV6.mono hb2, (unhide HC0).mono hb4, (unhide HC1).mono hb4, (unhide HB0).trans (hb4.mono (unhide HB0).size)⟩
  have HL6 : Hid ((L6 = 0 ↔ q.n = 0)) := hide (by rw [← hL6, List.length_eq_zero_iff, digs_nil, Int.natAbs_eq_zero])
  have DP : Hid ((digs p.n.natAbs).length ≤ 19) := hide (digs_i64 (unhide HP).1 (unhide HP).2)
  have DQ : Hid ((digs q.n.natAbs).length ≤ 19) := hide (digs_i64 (unhide HQ).1 (unhide HQ).2)
  have HOI := hide hOI
  obtain ⟨⟨x0, x1⟩, -⟩ := two hOI.B5
  obtain ⟨⟨y0, y1⟩, -⟩ := two hOI.B6
  clear hb1 hb2 hb3 hb4 hB6 hV6 hOI b0 b1 b2 hbs6 hL6 HB02 HC0 HC1 HR HB0 HB5 HV5
  have hL0 : ¬ (L6 : Int) = 0 := fun e => unhide HQ0 ((unhide HL6).1 (by omega))
  have hL1 : ¬ L6 = 0 := fun e => hL0 (by omega)
  go_wp2_with fail
  try rw [hX6]
  try rw [hW]
  clear hW hX6 w1
  refine (l2BigQuo_any _ _ p.n q.n W (unhide HOI).V5 (unhide HOI).V6 (by have := unhide DP; omega) (by have := unhide DQ; omega) (unhide HQ0)).mono ?_
  rintro e w3 ⟨r, rfl, hr, hb⟩
  have HOI3 := hide ((unhide HOI).mono hb)
  obtain ⟨u7, rfl, hu7⟩ := id hr
  obtain ⟨g7, cc7, rfl, -⟩ := hu7
  obtain ⟨L7, hL7⟩ : ∃ L7, (digs (p.n.tdiv q.n).natAbs).length = L7 := ⟨_, rfl⟩
  obtain ⟨bs7, hbs7⟩ : ∃ bs7, decide (p.n.tdiv q.n < 0) = bs7 := ⟨_, rfl⟩
  rw [hL7, hbs7] at hr ⊢
  have hq19 : (digs (p.n.tdiv q.n).natAbs).length ≤ 19 := by
    rw [Int.natAbs_tdiv]
    exact digs_length_le (Nat.lt_of_le_of_lt (Nat.div_le_self _ _) (Nat.lt_of_lt_of_le (lt_digs _) (Nat.pow_le_pow_right (by decide) (unhide DP))))
  have HQ19 := hide hq19
  obtain ⟨w4, hw4⟩ : ∃ w4, w3.alloc (.cells #[.bool bs7, .slice g7 L7 cc7] 46) = w4 := ⟨_, rfl⟩
  have hb4 : Below w3.heap.size w3 w4 := by rw [← hw4]; exact (Below.refl _ _).alloc (Nat.le_refl _) _
  obtain ⟨X7, hX7⟩ : ∃ X7, w3.heap.size = X7 := ⟨_, rfl⟩
  have hB7 : Blk w4 X7 46 [.bool bs7, .slice g7 L7 cc7] := by rw [← hX7, ← hw4]; exact Blk.new w3 46 #[.bool bs7, .slice g7 L7 cc7]
  have HOI4 := hide ((unhide HOI3).mono hb4); have HR4 := hide (hr.mono hb4); have HB7 := hide hB7
  obtain ⟨⟨t0, t1⟩, -⟩ := two hB7
  clear hr hb hL7 hbs7 hq19 hb4 hB7
  go_wp2_with fail
  try rw [hX7]
  try rw [hw4]
  clear hw4 hX7 HOI3 w3
  refine (l2Checked_any _ (p.n.tdiv q.n) w4 (unhide HR4) (by have := unhide HQ19; omega)).mono ?_
  rintro e w5 ⟨rfl, hb⟩
  have HOI5 := hide ((unhide HOI4).mono hb)
  clear hb t0 t1
  rw [vv_chk]
  obtain ⟨z, hz⟩ : ∃ z, chkX (p.n.tdiv q.n) = z := ⟨_, rfl⟩
  have HZ : Hid (int2 5 p.n q.n = z) := hide (by
    rw [← hz]
    simp [int2, unhide HQ0])
  rw [hz]
  clear hz
  unfold vv
  obtain ⟨r0, r1, r2⟩ := three (unhide HOI5).R
  have f0 := (unhide HOI5).R.free 0; have f1 := (unhide HOI5).R.free 1; have f2 := (unhide HOI5).R.free 2
  clear x0 x1 y0 y1
  go_wp2
  exact bodyPost_ret (v := .agg #[.int .i64 z.k, .int .i64 z.n, .string z.s]) (by simp [results, Tryz.results19, go_sem, *]) rfl ⟨by rw [unhide HZ]; rfl, vx_out (unhide HOI5).low _ _ _⟩

set_option maxRecDepth 100000 in
set_option maxHeartbeats 8000000 in
theorem onInts_mod0 (b o c : Nat) (p q : Vx) (w : World) (h0 : Cel w b o p) (h1 : Cel w b (o + 3) q) (hp : -9223372036854775808 ≤ p.n ∧ p.n ≤ 9223372036854775807) (hq : -9223372036854775808 ≤ q.n ∧ q.n ≤ 9223372036854775807) (hq0 : q.n = 0) :
    Calls Tryz.prog 19 #[.int .i64 6, .slice (some ⟨b, o, none⟩) 2 c] w fun e w' => e = .returned (vv (int2 6 p.n q.n)) ∧ Below w.heap.size w w' := by
  have HQ0 := hide hq0
  clear hq0
  obtain ⟨W0, hW0⟩ : ∃ W0, w.alloc (.cells #[.int .i64 0, .int .i64 0, .string ⟨#[]⟩] 25) = W0 := ⟨_, rfl⟩
  have hb0 : Below w.heap.size w W0 := by rw [← hW0]; exact (Below.refl _ _).alloc (Nat.le_refl _) _
  have bR : Blk W0 w.heap.size 25 [.int .i64 0, .int .i64 0, .string ⟨#[]⟩] := by rw [← hW0]; exact Blk.new w 25 #[.int .i64 0, .int .i64 0, .string ⟨#[]⟩]
  have hC0 := h0.mono hb0; have hC1 := h1.mono hb0
  have HC0 := hide hC0; have HC1 := hide hC1; have HR := hide bR; have HB0 := hide hb0; have HP := hide hp; have HQ := hide hq
  obtain ⟨-, a0, a1, a2⟩ := hC0
  clear hb0 bR hC1 h0 h1 hp hq
  go_enter Tryz.func19, Tryz.ntmps19
  go_wp2_with fail
  try rw [hW0]
  clear hW0
  refine (l2FromInt_any p.n W0 (unhide HP).1 (unhide HP).2).mono ?_
  rintro e w1 ⟨u5, rfl, hu5, hb1⟩
  obtain ⟨s5, hs5⟩ : ∃ s5, Value.bool (decide (p.n < 0)) = s5 := ⟨_, rfl⟩
  have hV5 : BigV w1 (.agg #[s5, u5]) p.n := ⟨u5, by rw [hs5], hu5⟩
  obtain ⟨g5, cc5, rfl, -⟩ := hu5
  rw [hs5]
  obtain ⟨L5, hL5⟩ : ∃ L5, (digs p.n.natAbs).length = L5 := ⟨_, rfl⟩
  rw [hL5] at hV5 ⊢
  obtain ⟨bs5, hbs5⟩ : ∃ bs5, decide (p.n < 0) = bs5 := ⟨_, rfl⟩
  rw [hbs5] at hs5
  subst hs5
  obtain ⟨w2, hw2⟩ : ∃ w2, w1.alloc (.cells #[.bool bs5, .slice g5 L5 cc5] 46) = w2 := ⟨_, rfl⟩
  have hb2 : Below w1.heap.size w1 w2 := by rw [← hw2]; exact (Below.refl _ _).alloc (Nat.le_refl _) _
  obtain ⟨X5, hX5⟩ : ∃ X5, w1.heap.size = X5 := ⟨_, rfl⟩
  have hB5 : Blk w2 X5 46 [.bool bs5, .slice g5 L5 cc5] := by rw [← hX5, ← hw2]; exact Blk.new w1 46 #[.bool bs5, .slice g5 L5 cc5]
  have hb02 : Below W0.heap.size W0 w2 := hb1.trans (hb2.mono hb1.size)
  have HB5 := hide hB5; have HV5 := hide (hV5.mono hb2); have HB02 := hide hb02
  have hC1 := (unhide HC1).mono hb02
  obtain ⟨-, b0, b1, b2⟩ := hC1
  clear hb1 hb2 hB5 hV5 hb02 a0 a1 a2 hbs5 hL5
  go_wp2_with fail
  try rw [hX5]
  try rw [hw2]
  clear hw2 hX5 w1
  refine (l2FromInt_any q.n w2 (unhide HQ).1 (unhide HQ).2).mono ?_
  rintro e w1 ⟨u6, rfl, hu6, hb1⟩
  obtain ⟨s6, hs6⟩ : ∃ s6, Value.bool (decide (q.n < 0)) = s6 := ⟨_, rfl⟩
  have hV6 : BigV w1 (.agg #[s6, u6]) q.n := ⟨u6, by rw [hs6], hu6⟩
  obtain ⟨g6, cc6, rfl, -⟩ := hu6
  rw [hs6]
  obtain ⟨L6, hL6⟩ : ∃ L6, (digs q.n.natAbs).length = L6 := ⟨_, rfl⟩
  rw [hL6] at hV6 ⊢
  obtain ⟨bs6, hbs6⟩ : ∃ bs6, decide (q.n < 0) = bs6 := ⟨_, rfl⟩
  rw [hbs6] at hs6
  subst hs6
  obtain ⟨W, hW⟩ : ∃ W, w1.alloc (.cells #[.bool bs6, .slice g6 L6 cc6] 46) = W := ⟨_, rfl⟩
  have hb2 : Below w1.heap.size w1 W := by rw [← hW]; exact (Below.refl _ _).alloc (Nat.le_refl _) _
  obtain ⟨X6, hX6⟩ : ∃ X6, w1.heap.size = X6 := ⟨_, rfl⟩
  have hB6 : Blk W X6 46 [.bool bs6, .slice g6 L6 cc6] := by rw [← hX6, ← hW]; exact Blk.new w1 46 #[.bool bs6, .slice g6 L6 cc6]
  have hb3 : Below w2.heap.size w2 W := hb1.trans (hb2.mono hb1.size)
  have hb4 : Below W0.heap.size W0 W := (unhide HB02).trans (hb3.mono (unhide HB02).size)
  have hOI : OI w W b o X5 X6 p q (.agg #[.bool bs5, .slice g5 L5 cc5]) (.agg #[.bool bs6, .slice g6 L6 cc6]) (.bool bs5) (.slice g5 L5 cc5) (.bool bs6) (.slice g6 L6 cc6) :=
    ⟨(unhide HR).mono hb4 (unhide HR).lt, (unhide HB5).mono hb3 (unhide HB5).lt, hB6, rfl, rfl, (unhide HV5).mono hb3, hV6.mono hb2, (unhide HC0).mono hb4, (unhide HC1).mono hb4, (unhide HB0).trans (hb4.mono (unhide HB0).size)⟩
  have HL6 : Hid ((L6 = 0 ↔ q.n = 0)) := hide (by rw [← hL6, List.length_eq_zero_iff, digs_nil, Int.natAbs_eq_zero])
  have DP : Hid ((digs p.n.natAbs).length ≤ 19) := hide (digs_i64 (unhide HP).1 (unhide HP).2)
  have DQ : Hid ((digs q.n.natAbs).length ≤ 19) := hide (digs_i64 (unhide HQ).1 (unhide HQ).2)
  have HOI := hide hOI
  obtain ⟨⟨x0, x1⟩, -⟩ := two hOI.B5
  obtain ⟨⟨y0, y1⟩, -⟩ := two hOI.B6
  clear hb1 hb2 hb3 hb4 hB6 hV6 hOI b0 b1 b2 hbs6 hL6 HB02 HC0 HC1 HR HB0 HB5 HV5
  have hL0 := (unhide HL6).2 (unhide HQ0)
  subst hL0
  go_wp2_with fail
  try rw [hX6]
  try rw [hW]
  clear hW hX6 w1
  refine (l2Err_any 3 W).mono ?_
  rintro e w3 ⟨rfl, hb⟩
  have HOI3 := hide ((unhide HOI).mono hb)
  clear hb
  rw [show (Value.agg #[.int .i64 4, .int .i64 3, .string ⟨#[]⟩]) = vv (errX 3) from rfl]
  obtain ⟨z, hz⟩ : ∃ z, errX 3 = z := ⟨_, rfl⟩
  have HZ : Hid (int2 6 p.n q.n = z) := hide (by
    rw [← hz]
    simp [int2, unhide HQ0])
  rw [hz]
  clear hz
  unfold vv
  obtain ⟨r0, r1, r2⟩ := three (unhide HOI3).R
  have f0 := (unhide HOI3).R.free 0; have f1 := (unhide HOI3).R.free 1; have f2 := (unhide HOI3).R.free 2
  clear x0 x1 y0 y1
  go_wp2
  exact bodyPost_ret (v := .agg #[.int .i64 z.k, .int .i64 z.n, .string z.s]) (by simp [results, Tryz.results19, go_sem, *]) rfl ⟨by rw [unhide HZ]; rfl, vx_out (unhide HOI3).low _ _ _⟩

set_option maxRecDepth 100000 in
set_option maxHeartbeats 8000000 in
theorem onInts_mod (b o c : Nat) (p q : Vx) (w : World) (h0 : Cel w b o p) (h1 : Cel w b (o + 3) q) (hp : -9223372036854775808 ≤ p.n ∧ p.n ≤ 9223372036854775807) (hq : -9223372036854775808 ≤ q.n ∧ q.n ≤ 9223372036854775807) (hq0 : q.n ≠ 0) :
    Calls Tryz.prog 19 #[.int .i64 6, .slice (some ⟨b, o, none⟩) 2 c] w fun e w' => e = .returned (vv (int2 6 p.n q.n)) ∧ Below w.heap.size w w' := by
  have HQ0 := hide hq0
  clear hq0
  obtain ⟨W0, hW0⟩ : ∃ W0, w.alloc (.cells #[.int .i64 0, .int .i64 0, .string ⟨#[]⟩] 25) = W0 := ⟨_, rfl⟩
  have hb0 : Below w.heap.size w W0 := by rw [← hW0]; exact (Below.refl _ _).alloc (Nat.le_refl _) _
  have bR : Blk W0 w.heap.size 25 [.int .i64 0, .int .i64 0, .string ⟨#[]⟩] := by rw [← hW0]; exact Blk.new w 25 #[.int .i64 0, .int .i64 0, .string ⟨#[]⟩]
  have hC0 := h0.mono hb0; have hC1 := h1.mono hb0
  have HC0 := hide hC0; have HC1 := hide hC1; have HR := hide bR; have HB0 := hide hb0; have HP := hide hp; have HQ := hide hq
  obtain ⟨-, a0, a1, a2⟩ := hC0
  clear hb0 bR hC1 h0 h1 hp hq
  go_enter Tryz.func19, Tryz.ntmps19
  go_wp2_with fail
  try rw [hW0]
  clear hW0
  refine (l2FromInt_any p.n W0 (unhide HP).1 (unhide HP).2).mono ?_
  rintro e w1 ⟨u5, rfl, hu5, hb1⟩
  obtain ⟨s5, hs5⟩ : ∃ s5, Value.bool (decide (p.n < 0)) = s5 := ⟨_, rfl⟩
  have hV5 : BigV w1 (.agg #[s5, u5]) p.n := ⟨u5, by rw [hs5], hu5⟩
  obtain ⟨g5, cc5, rfl, -⟩ := hu5
  rw [hs5]
  obtain ⟨L5, hL5⟩ : ∃ L5, (digs p.n.natAbs).length = L5 := ⟨_, rfl⟩
  rw [hL5] at hV5 ⊢
  obtain ⟨bs5, hbs5⟩ : ∃ bs5, decide (p.n < 0) = bs5 := ⟨_, rfl⟩
  rw [hbs5] at hs5
  subst hs5
  obtain ⟨w2, hw2⟩ : ∃ w2, w1.alloc (.cells #[.bool bs5, .slice g5 L5 cc5] 46) = w2 := ⟨_, rfl⟩
  have hb2 : Below w1.heap.size w1 w2 := by rw [← hw2]; exact (Below.refl _ _).alloc (Nat.le_refl _) _
  obtain ⟨X5, hX5⟩ : ∃ X5, w1.heap.size = X5 := ⟨_, rfl⟩
  have hB5 : Blk w2 X5 46 [.bool bs5, .slice g5 L5 cc5] := by rw [← hX5, ← hw2]; exact Blk.new w1 46 #[.bool bs5, .slice g5 L5 cc5]
  have hb02 : Below W0.heap.size W0 w2 := hb1.trans (hb2.mono hb1.size)
  have HB5 := hide hB5; have HV5 := hide (hV5.mono hb2); have HB02 := hide hb02
  have hC1 := (unhide HC1).mono hb02
  obtain ⟨-, b0, b1, b2⟩ := hC1
  clear hb1 hb2 hB5 hV5 hb02 a0 a1 a2 hbs5 hL5
  go_wp2_with fail
  try rw [hX5]
  try rw [hw2]
  clear hw2 hX5 w1
  refine (l2FromInt_any q.n w2 (unhide HQ).1 (unhide HQ).2).mono ?_
  rintro e w1 ⟨u6, rfl, hu6, hb1⟩
  obtain ⟨s6, hs6⟩ : ∃ s6, Value.bool (decide (q.n < 0)) = s6 := ⟨_, rfl⟩
  have hV6 : BigV w1 (.agg #[s6, u6]) q.n := ⟨u6, by rw [hs6], hu6⟩
  obtain ⟨g6, cc6, rfl, -⟩ := hu6
  rw [hs6]
  obtain ⟨L6, hL6⟩ : ∃ L6, (digs q.n.natAbs).length = L6 := ⟨_, rfl⟩
  rw [hL6] at hV6 ⊢
  obtain ⟨bs6, hbs6⟩ : ∃ bs6, decide (q.n < 0) = bs6 := ⟨_, rfl⟩
  rw [hbs6] at hs6
  subst hs6
  obtain ⟨W, hW⟩ : ∃ W, w1.alloc (.cells #[.bool bs6, .slice g6 L6 cc6] 46) = W := ⟨_, rfl⟩
  have hb2 : Below w1.heap.size w1 W := by rw [← hW]; exact (Below.refl _ _).alloc (Nat.le_refl _) _
  obtain ⟨X6, hX6⟩ : ∃ X6, w1.heap.size = X6 := ⟨_, rfl⟩
  have hB6 : Blk W X6 46 [.bool bs6, .slice g6 L6 cc6] := by rw [← hX6, ← hW]; exact Blk.new w1 46 #[.bool bs6, .slice g6 L6 cc6]
  have hb3 : Below w2.heap.size w2 W := hb1.trans (hb2.mono hb1.size)
  have hb4 : Below W0.heap.size W0 W := (unhide HB02).trans (hb3.mono (unhide HB02).size)
  have hOI : OI w W b o X5 X6 p q (.agg #[.bool bs5, .slice g5 L5 cc5]) (.agg #[.bool bs6, .slice g6 L6 cc6]) (.bool bs5) (.slice g5 L5 cc5) (.bool bs6) (.slice g6 L6 cc6) :=
    ⟨(unhide HR).mono hb4 (unhide HR).lt, (unhide HB5).mono hb3 (unhide HB5).lt, hB6, rfl, rfl, (unhide HV5).mono hb3, hV6.mono hb2, (unhide HC0).mono hb4, (unhide HC1).mono hb4, (unhide HB0).trans (hb4.mono (unhide HB0).size)⟩
  have HL6 : Hid ((L6 = 0 ↔ q.n = 0)) := hide (by rw [← hL6, List.length_eq_zero_iff, digs_nil, Int.natAbs_eq_zero])
  have DP : Hid ((digs p.n.natAbs).length ≤ 19) := hide (digs_i64 (unhide HP).1 (unhide HP).2)
  have DQ : Hid ((digs q.n.natAbs).length ≤ 19) := hide (digs_i64 (unhide HQ).1 (unhide HQ).2)
  have HOI := hide hOI
  obtain ⟨⟨x0, x1⟩, -⟩ := two hOI.B5
  obtain ⟨⟨y0, y1⟩, -⟩ := two hOI.B6
  clear hb1 hb2 hb3 hb4 hB6 hV6 hOI b0 b1 b2 hbs6 hL6 HB02 HC0 HC1 HR HB0 HB5 HV5
  have hL0 : ¬ (L6 : Int) = 0 := fun e => unhide HQ0 ((unhide HL6).1 (by omega))
  have hL1 : ¬ L6 = 0 := fun e => hL0 (by omega)
  go_wp2_with fail
  try rw [hX6]
  try rw [hW]
  clear hW hX6 w1
  refine (l2BigQuo_any _ _ p.n q.n W (unhide HOI).V5 (unhide HOI).V6 (by have := unhide DP; omega) (by have := unhide DQ; omega) (unhide HQ0)).mono ?_
  rintro e w3 ⟨r, rfl, hr, hb⟩
  have HOI3 := hide ((unhide HOI).mono hb)
  obtain ⟨u7, rfl, hu7⟩ := id hr
  obtain ⟨g7, cc7, rfl, -⟩ := hu7
  obtain ⟨L7, hL7⟩ : ∃ L7, (digs (p.n.tdiv q.n).natAbs).length = L7 := ⟨_, rfl⟩
  obtain ⟨bs7, hbs7⟩ : ∃ bs7, decide (p.n.tdiv q.n < 0) = bs7 := ⟨_, rfl⟩
  rw [hL7, hbs7] at hr ⊢
  have hq19 : (digs (p.n.tdiv q.n).natAbs).length ≤ 19 := by
    rw [Int.natAbs_tdiv]
    exact digs_length_le (Nat.lt_of_le_of_lt (Nat.div_le_self _ _) (Nat.lt_of_lt_of_le (lt_digs _) (Nat.pow_le_pow_right (by decide) (unhide DP))))
  have HQ19 := hide hq19
  obtain ⟨w4, hw4⟩ : ∃ w4, w3.alloc (.cells #[.bool bs7, .slice g7 L7 cc7] 46) = w4 := ⟨_, rfl⟩
  have hb4 : Below w3.heap.size w3 w4 := by rw [← hw4]; exact (Below.refl _ _).alloc (Nat.le_refl _) _
  obtain ⟨X7, hX7⟩ : ∃ X7, w3.heap.size = X7 := ⟨_, rfl⟩
  have hB7 : Blk w4 X7 46 [.bool bs7, .slice g7 L7 cc7] := by rw [← hX7, ← hw4]; exact Blk.new w3 46 #[.bool bs7, .slice g7 L7 cc7]
  have HOI4 := hide ((unhide HOI3).mono hb4); have HR4 := hide (hr.mono hb4); have HB7 := hide hB7
  obtain ⟨⟨t0, t1⟩, -⟩ := two hB7
  clear hr hb hL7 hbs7 hq19 hb4 hB7
  go_wp2_with fail
  try rw [hX7]
  try rw [hw4]
  clear hw4 hX7 HOI3 w3
  have S0 : Hid (Four w4 X5 X6 (.bool bs5) (.slice g5 L5 cc5) (.bool bs6) (.slice g6 L6 cc6) ∧ w4.cell? ⟨X7, 0, none⟩ = some (.bool bs7) ∧ w4.cell? ⟨X7, 1, none⟩ = some (.slice g7 L7 cc7)) := hide ⟨four (unhide HOI4).B5 (unhide HOI4).B6, (unhide HB7).cell 0, (unhide HB7).cell 1⟩
  clear x0 x1 y0 y1 t0 t1
  have hmod : p.n + -(q.n * p.n.tdiv q.n) = p.n.tmod q.n := by rw [Int.tmod_def]; omega
  have HMOD := hide hmod
  have HBM : Hid ((digs (-(q.n * p.n.tdiv q.n)).natAbs).length ≤ 500) := hide (by
    rw [Int.natAbs_neg, Int.natAbs_mul]
    refine Nat.le_trans (digs_length_le (k := 19 + 19) ?_) (by omega)
    rw [Nat.pow_add]
    exact Nat.mul_lt_mul'' (Nat.lt_of_lt_of_le (lt_digs _) (Nat.pow_le_pow_right (by decide) (unhide DQ))) (Nat.lt_of_lt_of_le (lt_digs _) (Nat.pow_le_pow_right (by decide) (unhide HQ19))))
  clear hmod
  refine wp_region_held_drew (S := fun w' => Four w' X5 X6 (.bool bs5) (.slice g5 L5 cc5) (.bool bs6) (.slice g6 L6 cc6) ∧ w'.cell? ⟨X7, 0, none⟩ = some (.bool bs7) ∧ w'.cell? ⟨X7, 1, none⟩ = some (.slice g7 L7 cc7)) (by kernel_rfl) (unhide S0) (fun hHeld => ?_)
  refine takeY (i := 0) (v := .agg #[.bool bs5, .slice g5 L5 cc5]) 72 rfl rfl (by kernel_rfl) (by kernel_rfl) (by kernel_rfl) (fun _ _ _ _ h => h) (by rfl) (fun w hS => by obtain ⟨⟨q0, q1, q2, q3⟩, q4, q5⟩ := hS; simp [execOp, go_sem, *]) hHeld ?_
  simp only [List.setIfInBounds_toArray, List.set_cons_zero, List.set_cons_succ]
  refine takeY (i := 1) (v := .agg #[.bool bs6, .slice g6 L6 cc6]) 73 rfl rfl (by kernel_rfl) (by kernel_rfl) (by kernel_rfl) (fun _ _ _ _ h => h) (by rfl) (fun w hS => by obtain ⟨⟨q0, q1, q2, q3⟩, q4, q5⟩ := hS; simp [execOp, go_sem, *]) hHeld ?_
  simp only [List.setIfInBounds_toArray, List.set_cons_zero, List.set_cons_succ]
  refine takeY (i := 2) (v := .agg #[.bool bs7, .slice g7 L7 cc7]) 74 rfl rfl (by kernel_rfl) (by kernel_rfl) (by kernel_rfl) (fun _ _ _ _ h => h) (by rfl) (fun w hS => by obtain ⟨⟨q0, q1, q2, q3⟩, q4, q5⟩ := hS; simp [execOp, go_sem, *]) hHeld ?_
  simp only [List.setIfInBounds_toArray, List.set_cons_zero, List.set_cons_succ]
  refine callY (i := 3) (f := 34) (args := #[.agg #[.bool bs6, .slice g6 L6 cc6], .agg #[.bool bs7, .slice g7 L7 cc7]]) (R := fun r wz => BigV wz r (q.n * p.n.tdiv q.n) ∧ Below w4.heap.size w4 wz) 75 rfl rfl (by rfl) (by kernel_rfl) ?hrun3 ((l2BigMul_any _ _ q.n (p.n.tdiv q.n) _ ((unhide HOI4).V6.mono (below_drewN' _ 1)) ((unhide HR4).mono (below_drewN' _ 1)) (by have := unhide DQ; omega) (by have := unhide HQ19; omega)).mono fun e w6 ⟨r, he, hr, hb⟩ => ⟨r, he, hr, below_of_drew hb⟩) ?_
  case hrun3 => simp [execOp, go_sem]
  rintro r6 w6 ⟨hr, hb⟩
  have HOI6 := hide ((unhide HOI4).mono hb); have HR6 := hide hr; have HB76 := hide ((unhide HB7).mono hb (unhide HB7).lt)
  clear hr hb
  refine ⟨⟨four (unhide HOI6).B5 (unhide HOI6).B6, (unhide HB76).cell 0, (unhide HB76).cell 1⟩, ?_⟩
  simp only [List.setIfInBounds_toArray, List.set_cons_zero, List.set_cons_succ]
  refine callY (i := 4) (f := 31) (args := #[r6]) (R := fun r wz => BigV wz r (-(q.n * p.n.tdiv q.n)) ∧ Below w6.heap.size w6 wz) 76 rfl rfl (by rfl) (by kernel_rfl) ?hrun4 ((l2BigNeg_any _ (q.n * p.n.tdiv q.n) w6 (unhide HR6)).mono fun e w7 ⟨r, he, hr, hb⟩ => ⟨r, he, hr, hb⟩) ?_
  case hrun4 => simp [execOp, go_sem]
  rintro r7 w7 ⟨hr, hb⟩
  have HOI7 := hide ((unhide HOI6).mono hb); have HR7 := hide hr; have HB77 := hide ((unhide HB76).mono hb (unhide HB76).lt)
  clear hr hb
  refine ⟨⟨four (unhide HOI7).B5 (unhide HOI7).B6, (unhide HB77).cell 0, (unhide HB77).cell 1⟩, ?_⟩
  simp only [List.setIfInBounds_toArray, List.set_cons_zero, List.set_cons_succ]
  refine callY (i := 5) (f := 35) (args := #[.agg #[.bool bs5, .slice g5 L5 cc5], r7]) (R := fun r wz => BigV wz r (p.n + -(q.n * p.n.tdiv q.n)) ∧ Below w7.heap.size w7 wz) 77 rfl rfl (by rfl) (by kernel_rfl) ?hrun5 ((l2BigAdd_any _ _ p.n (-(q.n * p.n.tdiv q.n)) w7 (unhide HOI7).V5 (unhide HR7) (by have := unhide DP; omega) (unhide HBM)).mono fun e w8 ⟨r, he, hr, hb⟩ => ⟨r, he, hr, hb⟩) ?_
  case hrun5 => simp [execOp, go_sem]
  rintro r8 w8 ⟨hr, hb⟩
  have HOI8 := hide ((unhide HOI7).mono hb); have HR8 := hide hr; have HB78 := hide ((unhide HB77).mono hb (unhide HB77).lt)
  have hbz : (digs (p.n + -(q.n * p.n.tdiv q.n)).natAbs).length ≤ 500 := by
    rw [unhide HMOD, Int.natAbs_tmod]
    exact Nat.le_trans (digs_length_le (k := 19) (Nat.lt_of_le_of_lt (Nat.mod_le _ _) (Nat.lt_of_lt_of_le (lt_digs _) (Nat.pow_le_pow_right (by decide) (unhide DP))))) (by omega)
  have HBZ := hide hbz
  clear hr hb hbz
  refine ⟨⟨four (unhide HOI8).B5 (unhide HOI8).B6, (unhide HB78).cell 0, (unhide HB78).cell 1⟩, ?_⟩
  simp only [List.setIfInBounds_toArray, List.set_cons_zero, List.set_cons_succ]
  refine callY (i := 6) (f := 30) (args := #[r8]) (R := fun r wz => r = vv (chkX (p.n + -(q.n * p.n.tdiv q.n))) ∧ Below w8.heap.size w8 wz) 78 rfl rfl (by rfl) (by kernel_rfl) ?hrun6 ((l2Checked_any _ (p.n + -(q.n * p.n.tdiv q.n)) w8 (unhide HR8) (unhide HBZ)).mono fun e w6 ⟨he, hb⟩ => ⟨_, he, vv_chk _, hb⟩) ?_
  case hrun6 => simp [execOp, go_sem]
  rintro r5 w5 ⟨rfl, hb⟩
  have HOI5 := hide ((unhide HOI8).mono hb)
  have HB79 := hide ((unhide HB78).mono hb (unhide HB78).lt)
  clear hb
  refine ⟨⟨four (unhide HOI5).B5 (unhide HOI5).B6, (unhide HB79).cell 0, (unhide HB79).cell 1⟩, ?_⟩
  simp only [List.setIfInBounds_toArray, List.set_cons_zero, List.set_cons_succ]
  obtain ⟨z, hz⟩ : ∃ z, chkX (p.n + -(q.n * p.n.tdiv q.n)) = z := ⟨_, rfl⟩
  have HZ : Hid (int2 6 p.n q.n = z) := hide (by
    rw [← hz]
    simp [int2, unhide HQ0])
  rw [hz]
  clear hz
  unfold vv
  obtain ⟨r0, r1, r2⟩ := three (unhide HOI5).R
  have f0 := (unhide HOI5).R.free 0; have f1 := (unhide HOI5).R.free 1; have f2 := (unhide HOI5).R.free 2
  have n5 : X5 ≠ w.heap.size := by
    intro e
    have h5 := (unhide HOI5).B5.cell 0
    rw [e, r0] at h5
    simp at h5
  have n6 : X6 ≠ w.heap.size := by
    intro e
    have h5 := (unhide HOI5).B6.cell 0
    rw [e, r0] at h5
    simp at h5
  have n7 : X7 ≠ w.heap.size := by
    intro e
    have h5 := (unhide HB79).cell 0
    rw [e, r0] at h5
    simp at h5
  refine storeY (i := 7) (w' := ((w5.setCell ⟨w.heap.size, 0, none⟩ (.int .i64 z.k)).setCell ⟨w.heap.size, 1, none⟩ (.int .i64 z.n)).setCell ⟨w.heap.size, 2, none⟩ (.string z.s)) rfl (by rfl) (by kernel_rfl) rfl ?hrunS rfl (⟨four ((((unhide HOI5).B5.other _ n5).other _ n5).other _ n5) ((((unhide HOI5).B6.other _ n6).other _ n6).other _ n6), ((((unhide HB79).other _ n7).other _ n7).other _ n7).cell 0, ((((unhide HB79).other _ n7).other _ n7).other _ n7).cell 1⟩) ?_
  case hrunS => simp [execOp, go_sem, r0, r1, r2, f0, f1, f2]
  refine wpAnyH_done (by kernel_rfl) ?_ _
  obtain ⟨W9, hW9⟩ : ∃ W9, ((w5.setCell ⟨w.heap.size, 0, none⟩ (.int .i64 z.k)).setCell ⟨w.heap.size, 1, none⟩ (.int .i64 z.n)).setCell ⟨w.heap.size, 2, none⟩ (.string z.s) = W9 := ⟨_, rfl⟩
  have bR9 := ((((unhide HOI5).R.set 0 (.int .i64 z.k)).set 1 (.int .i64 z.n)).set 2 (.string z.s))
  have HB9 := hide (vx_out (unhide HOI5).low (.int .i64 z.k) (.int .i64 z.n) (.string z.s))
  rw [hW9] at bR9 HB9 ⊢
  obtain ⟨k0, k1, k2⟩ := three bR9
  clear hW9 bR9 r0 r1 r2 f0 f1 f2
  go_wp2
  exact bodyPost_ret (v := .agg #[.int .i64 z.k, .int .i64 z.n, .string z.s]) (by simp [results, Tryz.results19, go_sem, *]) rfl ⟨by rw [unhide HZ]; rfl, unhide HB9⟩

end Go.Proofs.YtnmpkdmflijhpaaGreatDoor
