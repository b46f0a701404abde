/- The model's operators on one whole number. -/
import Derived.Test.YtnmpkdmflijhpaaGreatDoorApV
namespace Go.Proofs.YtnmpkdmflijhpaaGreatDoor
open Go Go.RowKit

def int1 (op x : Int) : Vx := if op = 2 then chkX (-x) else if op = 23 then textX ⟨(Lib.itoa x).toArray⟩ else errX 1

set_option maxRecDepth 100000 in
set_option maxHeartbeats 8000000 in
theorem onInt_neg (b o c : Nat) (p : Vx) (w : World) (h0 : Cel w b o p) (hp : -9223372036854775808 ≤ p.n ∧ p.n ≤ 9223372036854775807) :
    Calls Tryz.prog 19 #[.int .i64 2, .slice (some ⟨b, o, none⟩) 1 c] w fun e w' => e = .returned (vv (int1 2 p.n)) ∧ Below w.heap.size w w' := by
  obtain ⟨W0, hW0⟩ : ∃ W0, w.alloc (.cells #[.int .i64 0, .int .i64 0, .string ⟨#[]⟩] 25) = W0 := ⟨_, rfl⟩
  have hb0 : Below w.heap.size w W0 := by rw [← hW0]; exact (Below.refl _ _).alloc (Nat.le_refl _) _
  have bR : Blk W0 w.heap.size 25 [.int .i64 0, .int .i64 0, .string ⟨#[]⟩] := by rw [← hW0]; exact Blk.new w 25 #[.int .i64 0, .int .i64 0, .string ⟨#[]⟩]
  have hC0 := h0.mono hb0
  have HC0 := hide hC0; have HR := hide bR; have HB0 := hide hb0; have HP := hide hp
  obtain ⟨-, a0, a1, a2⟩ := hC0
  clear hb0 bR h0 hp
  go_enter Tryz.func19, Tryz.ntmps19
  go_wp2_with fail
  try rw [hW0]
  clear hW0
  refine (l2FromInt_any p.n W0 (unhide HP).1 (unhide HP).2).mono ?_
  rintro e w1 ⟨u5, rfl, hu5, hb1⟩
  obtain ⟨s5, hs5⟩ : ∃ s5, Value.bool (decide (p.n < 0)) = s5 := ⟨_, rfl⟩
  have hV5 : BigV w1 (.agg #[s5, u5]) p.n := ⟨u5, by rw [hs5], hu5⟩
  obtain ⟨g5, cc5, rfl, -⟩ := hu5
  rw [hs5]
  obtain ⟨L5, hL5⟩ : ∃ L5, (digs p.n.natAbs).length = L5 := ⟨_, rfl⟩
  rw [hL5] at hV5 ⊢
  obtain ⟨bs5, hbs5⟩ : ∃ bs5, decide (p.n < 0) = bs5 := ⟨_, rfl⟩
  rw [hbs5] at hs5
  subst hs5
  obtain ⟨w2, hw2⟩ : ∃ w2, w1.alloc (.cells #[.bool bs5, .slice g5 L5 cc5] 46) = w2 := ⟨_, rfl⟩
  have hb2 : Below w1.heap.size w1 w2 := by rw [← hw2]; exact (Below.refl _ _).alloc (Nat.le_refl _) _
  obtain ⟨X5, hX5⟩ : ∃ X5, w1.heap.size = X5 := ⟨_, rfl⟩
  have hB5 : Blk w2 X5 46 [.bool bs5, .slice g5 L5 cc5] := by rw [← hX5, ← hw2]; exact Blk.new w1 46 #[.bool bs5, .slice g5 L5 cc5]
  have hb02 : Below W0.heap.size W0 w2 := hb1.trans (hb2.mono hb1.size)
  have HB5 := hide hB5; have HV5 := hide (hV5.mono hb2); have HB02 := hide hb02
  have hC2 := (unhide HC0).mono hb02
  have HR2 := hide ((unhide HR).mono hb02 (unhide HR).lt); have HW2 := hide ((unhide HB0).trans (hb02.mono (unhide HB0).size))
  obtain ⟨-, b0, b1, b2⟩ := hC2
  have hB5' := hB5
  obtain ⟨⟨x0, x1⟩, -⟩ := two hB5'
  have DP : Hid ((digs p.n.natAbs).length ≤ 19) := hide (digs_i64 (unhide HP).1 (unhide HP).2)
  clear hb1 hb2 hB5 hB5' hV5 hb02 a0 a1 a2 hbs5 hL5
  go_wp2_with fail
  try rw [hX5]
  try rw [hw2]
  clear hw2 hX5 w1
  refine (l2BigNeg_any _ p.n w2 (unhide HV5)).mono ?_
  rintro e w3 ⟨r, rfl, hr, hb⟩
  have HR3 := hide ((unhide HR2).mono hb (unhide HR2).lt); have HW3 := hide ((unhide HW2).trans (hb.mono (unhide HW2).size))
  have HRr := hide hr
  clear hr hb
  go_wp2_with fail
  refine (l2Checked_any _ (-p.n) w3 (unhide HRr) (by rw [Int.natAbs_neg]; have := unhide DP; omega)).mono ?_
  rintro e w4 ⟨rfl, hb⟩
  have HR4 := hide ((unhide HR3).mono hb (unhide HR3).lt); have HW4 := hide ((unhide HW3).trans (hb.mono (unhide HW3).size))
  clear hb
  rw [vv_chk]
  obtain ⟨z, hz⟩ : ∃ z, chkX (-p.n) = z := ⟨_, rfl⟩
  have HZ : Hid (int1 2 p.n = z) := hide (by
    rw [← hz]
    simp [int1])
  rw [hz]
  clear hz
  unfold vv
  obtain ⟨r0, r1, r2⟩ := three (unhide HR4)
  have f0 := (unhide HR4).free 0; have f1 := (unhide HR4).free 1; have f2 := (unhide HR4).free 2
  clear x0 x1
  go_wp2
  exact bodyPost_ret (v := .agg #[.int .i64 z.k, .int .i64 z.n, .string z.s]) (by simp [results, Tryz.results19, go_sem, *]) rfl ⟨by rw [unhide HZ]; rfl, vx_out (unhide HW4) _ _ _⟩

set_option maxRecDepth 100000 in
set_option maxHeartbeats 8000000 in
theorem onInt_str (b o c : Nat) (p : Vx) (w : World) (h0 : Cel w b o p) (hp : -9223372036854775808 ≤ p.n ∧ p.n ≤ 9223372036854775807) :
    Calls Tryz.prog 19 #[.int .i64 23, .slice (some ⟨b, o, none⟩) 1 c] w fun e w' => e = .returned (vv (int1 23 p.n)) ∧ Below w.heap.size w w' := by
  obtain ⟨W0, hW0⟩ : ∃ W0, w.alloc (.cells #[.int .i64 0, .int .i64 0, .string ⟨#[]⟩] 25) = W0 := ⟨_, rfl⟩
  have hb0 : Below w.heap.size w W0 := by rw [← hW0]; exact (Below.refl _ _).alloc (Nat.le_refl _) _
  have bR : Blk W0 w.heap.size 25 [.int .i64 0, .int .i64 0, .string ⟨#[]⟩] := by rw [← hW0]; exact Blk.new w 25 #[.int .i64 0, .int .i64 0, .string ⟨#[]⟩]
  have hC0 := h0.mono hb0
  have HC0 := hide hC0; have HR := hide bR; have HB0 := hide hb0; have HP := hide hp
  obtain ⟨-, a0, a1, a2⟩ := hC0
  clear hb0 bR h0 hp
  go_enter Tryz.func19, Tryz.ntmps19
  go_wp2_with fail
  try rw [hW0]
  clear hW0
  refine (l2FromInt_any p.n W0 (unhide HP).1 (unhide HP).2).mono ?_
  rintro e w1 ⟨u5, rfl, hu5, hb1⟩
  obtain ⟨s5, hs5⟩ : ∃ s5, Value.bool (decide (p.n < 0)) = s5 := ⟨_, rfl⟩
  have hV5 : BigV w1 (.agg #[s5, u5]) p.n := ⟨u5, by rw [hs5], hu5⟩
  obtain ⟨g5, cc5, rfl, -⟩ := hu5
  rw [hs5]
  obtain ⟨L5, hL5⟩ : ∃ L5, (digs p.n.natAbs).length = L5 := ⟨_, rfl⟩
  rw [hL5] at hV5 ⊢
  obtain ⟨bs5, hbs5⟩ : ∃ bs5, decide (p.n < 0) = bs5 := ⟨_, rfl⟩
  rw [hbs5] at hs5
  subst hs5
  obtain ⟨w2, hw2⟩ : ∃ w2, w1.alloc (.cells #[.bool bs5, .slice g5 L5 cc5] 46) = w2 := ⟨_, rfl⟩
  have hb2 : Below w1.heap.size w1 w2 := by rw [← hw2]; exact (Below.refl _ _).alloc (Nat.le_refl _) _
  obtain ⟨X5, hX5⟩ : ∃ X5, w1.heap.size = X5 := ⟨_, rfl⟩
  have hB5 : Blk w2 X5 46 [.bool bs5, .slice g5 L5 cc5] := by rw [← hX5, ← hw2]; exact Blk.new w1 46 #[.bool bs5, .slice g5 L5 cc5]
  have hb02 : Below W0.heap.size W0 w2 := hb1.trans (hb2.mono hb1.size)
  have HB5 := hide hB5; have HV5 := hide (hV5.mono hb2); have HB02 := hide hb02
  have hC2 := (unhide HC0).mono hb02
  have HR2 := hide ((unhide HR).mono hb02 (unhide HR).lt); have HW2 := hide ((unhide HB0).trans (hb02.mono (unhide HB0).size))
  obtain ⟨-, b0, b1, b2⟩ := hC2
  have hB5' := hB5
  obtain ⟨⟨x0, x1⟩, -⟩ := two hB5'
  have DP : Hid ((digs p.n.natAbs).length ≤ 19) := hide (digs_i64 (unhide HP).1 (unhide HP).2)
  clear hb1 hb2 hB5 hB5' hV5 hb02 a0 a1 a2 hbs5 hL5
  go_wp2_with fail
  try rw [hX5]
  try rw [hw2]
  clear hw2 hX5 w1
  refine (l2Decimal_any p.n w2 (unhide HP).1 (unhide HP).2).mono ?_
  rintro e w3 ⟨rfl, hb⟩
  have HR3 := hide ((unhide HR2).mono hb (unhide HR2).lt); have HW3 := hide ((unhide HW2).trans (hb.mono (unhide HW2).size))
  clear hb
  go_wp2_with fail
  refine (l2Text_any _ w3).mono ?_
  rintro e w4 ⟨rfl, hb⟩
  have HR4 := hide ((unhide HR3).mono hb (unhide HR3).lt); have HW4 := hide ((unhide HW3).trans (hb.mono (unhide HW3).size))
  clear hb
  rw [show (Value.agg #[.int .i64 3, .int .i64 0, .string ⟨(Lib.itoa p.n).toArray⟩]) = vv (textX ⟨(Lib.itoa p.n).toArray⟩) from rfl]
  obtain ⟨z, hz⟩ : ∃ z, textX ⟨(Lib.itoa p.n).toArray⟩ = z := ⟨_, rfl⟩
  have HZ : Hid (int1 23 p.n = z) := hide (by
    rw [← hz]
    simp [int1])
  rw [hz]
  clear hz
  unfold vv
  obtain ⟨r0, r1, r2⟩ := three (unhide HR4)
  have f0 := (unhide HR4).free 0; have f1 := (unhide HR4).free 1; have f2 := (unhide HR4).free 2
  clear x0 x1
  go_wp2
  exact bodyPost_ret (v := .agg #[.int .i64 z.k, .int .i64 z.n, .string z.s]) (by simp [results, Tryz.results19, go_sem, *]) rfl ⟨by rw [unhide HZ]; rfl, vx_out (unhide HW4) _ _ _⟩

set_option maxRecDepth 100000 in
set_option maxHeartbeats 8000000 in
theorem onInt_not (b o c : Nat) (p : Vx) (w : World) (h0 : Cel w b o p) (hp : -9223372036854775808 ≤ p.n ∧ p.n ≤ 9223372036854775807) :
    Calls Tryz.prog 19 #[.int .i64 3, .slice (some ⟨b, o, none⟩) 1 c] w fun e w' => e = .returned (vv (int1 3 p.n)) ∧ Below w.heap.size w w' := by
  obtain ⟨W0, hW0⟩ : ∃ W0, w.alloc (.cells #[.int .i64 0, .int .i64 0, .string ⟨#[]⟩] 25) = W0 := ⟨_, rfl⟩
  have hb0 : Below w.heap.size w W0 := by rw [← hW0]; exact (Below.refl _ _).alloc (Nat.le_refl _) _
  have bR : Blk W0 w.heap.size 25 [.int .i64 0, .int .i64 0, .string ⟨#[]⟩] := by rw [← hW0]; exact Blk.new w 25 #[.int .i64 0, .int .i64 0, .string ⟨#[]⟩]
  have hC0 := h0.mono hb0
  have HC0 := hide hC0; have HR := hide bR; have HB0 := hide hb0; have HP := hide hp
  obtain ⟨-, a0, a1, a2⟩ := hC0
  clear hb0 bR h0 hp
  go_enter Tryz.func19, Tryz.ntmps19
  go_wp2_with fail
  try rw [hW0]
  clear hW0
  refine (l2FromInt_any p.n W0 (unhide HP).1 (unhide HP).2).mono ?_
  rintro e w1 ⟨u5, rfl, hu5, hb1⟩
  obtain ⟨s5, hs5⟩ : ∃ s5, Value.bool (decide (p.n < 0)) = s5 := ⟨_, rfl⟩
  have hV5 : BigV w1 (.agg #[s5, u5]) p.n := ⟨u5, by rw [hs5], hu5⟩
  obtain ⟨g5, cc5, rfl, -⟩ := hu5
  rw [hs5]
  obtain ⟨L5, hL5⟩ : ∃ L5, (digs p.n.natAbs).length = L5 := ⟨_, rfl⟩
  rw [hL5] at hV5 ⊢
  obtain ⟨bs5, hbs5⟩ : ∃ bs5, decide (p.n < 0) = bs5 := ⟨_, rfl⟩
  rw [hbs5] at hs5
  subst hs5
  obtain ⟨w2, hw2⟩ : ∃ w2, w1.alloc (.cells #[.bool bs5, .slice g5 L5 cc5] 46) = w2 := ⟨_, rfl⟩
  have hb2 : Below w1.heap.size w1 w2 := by rw [← hw2]; exact (Below.refl _ _).alloc (Nat.le_refl _) _
  obtain ⟨X5, hX5⟩ : ∃ X5, w1.heap.size = X5 := ⟨_, rfl⟩
  have hB5 : Blk w2 X5 46 [.bool bs5, .slice g5 L5 cc5] := by rw [← hX5, ← hw2]; exact Blk.new w1 46 #[.bool bs5, .slice g5 L5 cc5]
  have hb02 : Below W0.heap.size W0 w2 := hb1.trans (hb2.mono hb1.size)
  have HB5 := hide hB5; have HV5 := hide (hV5.mono hb2); have HB02 := hide hb02
  have hC2 := (unhide HC0).mono hb02
  have HR2 := hide ((unhide HR).mono hb02 (unhide HR).lt); have HW2 := hide ((unhide HB0).trans (hb02.mono (unhide HB0).size))
  obtain ⟨-, b0, b1, b2⟩ := hC2
  have hB5' := hB5
  obtain ⟨⟨x0, x1⟩, -⟩ := two hB5'
  have DP : Hid ((digs p.n.natAbs).length ≤ 19) := hide (digs_i64 (unhide HP).1 (unhide HP).2)
  clear hb1 hb2 hB5 hB5' hV5 hb02 a0 a1 a2 hbs5 hL5
  go_wp2_with fail
  try rw [hX5]
  try rw [hw2]
  clear hw2 hX5 w1
  refine (l2Err_any 1 w2).mono ?_
  rintro e w3 ⟨rfl, hb⟩
  have HR3 := hide ((unhide HR2).mono hb (unhide HR2).lt); have HW3 := hide ((unhide HW2).trans (hb.mono (unhide HW2).size))
  clear hb
  rw [show (Value.agg #[.int .i64 4, .int .i64 1, .string ⟨#[]⟩]) = vv (errX 1) from rfl]
  obtain ⟨z, hz⟩ : ∃ z, errX 1 = z := ⟨_, rfl⟩
  have HZ : Hid (int1 3 p.n = z) := hide (by
    rw [← hz]
    simp [int1])
  rw [hz]
  clear hz
  unfold vv
  obtain ⟨r0, r1, r2⟩ := three (unhide HR3)
  have f0 := (unhide HR3).free 0; have f1 := (unhide HR3).free 1; have f2 := (unhide HR3).free 2
  clear x0 x1
  go_wp2
  exact bodyPost_ret (v := .agg #[.int .i64 z.k, .int .i64 z.n, .string z.s]) (by simp [results, Tryz.results19, go_sem, *]) rfl ⟨by rw [unhide HZ]; rfl, vx_out (unhide HW3) _ _ _⟩

set_option maxRecDepth 100000 in
set_option maxHeartbeats 8000000 in
theorem onInt_len (b o c : Nat) (p : Vx) (w : World) (h0 : Cel w b o p) (hp : -9223372036854775808 ≤ p.n ∧ p.n ≤ 9223372036854775807) :
    Calls Tryz.prog 19 #[.int .i64 21, .slice (some ⟨b, o, none⟩) 1 c] w fun e w' => e = .returned (vv (int1 21 p.n)) ∧ Below w.heap.size w w' := by
  obtain ⟨W0, hW0⟩ : ∃ W0, w.alloc (.cells #[.int .i64 0, .int .i64 0, .string ⟨#[]⟩] 25) = W0 := ⟨_, rfl⟩
  have hb0 : Below w.heap.size w W0 := by rw [← hW0]; exact (Below.refl _ _).alloc (Nat.le_refl _) _
  have bR : Blk W0 w.heap.size 25 [.int .i64 0, .int .i64 0, .string ⟨#[]⟩] := by rw [← hW0]; exact Blk.new w 25 #[.int .i64 0, .int .i64 0, .string ⟨#[]⟩]
  have hC0 := h0.mono hb0
  have HC0 := hide hC0; have HR := hide bR; have HB0 := hide hb0; have HP := hide hp
  obtain ⟨-, a0, a1, a2⟩ := hC0
  clear hb0 bR h0 hp
  go_enter Tryz.func19, Tryz.ntmps19
  go_wp2_with fail
  try rw [hW0]
  clear hW0
  refine (l2FromInt_any p.n W0 (unhide HP).1 (unhide HP).2).mono ?_
  rintro e w1 ⟨u5, rfl, hu5, hb1⟩
  obtain ⟨s5, hs5⟩ : ∃ s5, Value.bool (decide (p.n < 0)) = s5 := ⟨_, rfl⟩
  have hV5 : BigV w1 (.agg #[s5, u5]) p.n := ⟨u5, by rw [hs5], hu5⟩
  obtain ⟨g5, cc5, rfl, -⟩ := hu5
  rw [hs5]
  obtain ⟨L5, hL5⟩ : ∃ L5, (digs p.n.natAbs).length = L5 := ⟨_, rfl⟩
  rw [hL5] at hV5 ⊢
  obtain ⟨bs5, hbs5⟩ : ∃ bs5, decide (p.n < 0) = bs5 := ⟨_, rfl⟩
  rw [hbs5] at hs5
  subst hs5
  obtain ⟨w2, hw2⟩ : ∃ w2, w1.alloc (.cells #[.bool bs5, .slice g5 L5 cc5] 46) = w2 := ⟨_, rfl⟩
  have hb2 : Below w1.heap.size w1 w2 := by rw [← hw2]; exact (Below.refl _ _).alloc (Nat.le_refl _) _
  obtain ⟨X5, hX5⟩ : ∃ X5, w1.heap.size = X5 := ⟨_, rfl⟩
  have hB5 : Blk w2 X5 46 [.bool bs5, .slice g5 L5 cc5] := by rw [← hX5, ← hw2]; exact Blk.new w1 46 #[.bool bs5, .slice g5 L5 cc5]
  have hb02 : Below W0.heap.size W0 w2 := hb1.trans (hb2.mono hb1.size)
  have HB5 := hide hB5; have HV5 := hide (hV5.mono hb2); have HB02 := hide hb02
  have hC2 := (unhide HC0).mono hb02
  have HR2 := hide ((unhide HR).mono hb02 (unhide HR).lt); have HW2 := hide ((unhide HB0).trans (hb02.mono (unhide HB0).size))
  obtain ⟨-, b0, b1, b2⟩ := hC2
  have hB5' := hB5
  obtain ⟨⟨x0, x1⟩, -⟩ := two hB5'
  have DP : Hid ((digs p.n.natAbs).length ≤ 19) := hide (digs_i64 (unhide HP).1 (unhide HP).2)
  clear hb1 hb2 hB5 hB5' hV5 hb02 a0 a1 a2 hbs5 hL5
  go_wp2_with fail
  try rw [hX5]
  try rw [hw2]
  clear hw2 hX5 w1
  refine (l2Err_any 1 w2).mono ?_
  rintro e w3 ⟨rfl, hb⟩
  have HR3 := hide ((unhide HR2).mono hb (unhide HR2).lt); have HW3 := hide ((unhide HW2).trans (hb.mono (unhide HW2).size))
  clear hb
  rw [show (Value.agg #[.int .i64 4, .int .i64 1, .string ⟨#[]⟩]) = vv (errX 1) from rfl]
  obtain ⟨z, hz⟩ : ∃ z, errX 1 = z := ⟨_, rfl⟩
  have HZ : Hid (int1 21 p.n = z) := hide (by
    rw [← hz]
    simp [int1])
  rw [hz]
  clear hz
  unfold vv
  obtain ⟨r0, r1, r2⟩ := three (unhide HR3)
  have f0 := (unhide HR3).free 0; have f1 := (unhide HR3).free 1; have f2 := (unhide HR3).free 2
  clear x0 x1
  go_wp2
  exact bodyPost_ret (v := .agg #[.int .i64 z.k, .int .i64 z.n, .string z.s]) (by simp [results, Tryz.results19, go_sem, *]) rfl ⟨by rw [unhide HZ]; rfl, vx_out (unhide HW3) _ _ _⟩

set_option maxRecDepth 100000 in
set_option maxHeartbeats 8000000 in
theorem onInt_num (b o c : Nat) (p : Vx) (w : World) (h0 : Cel w b o p) (hp : -9223372036854775808 ≤ p.n ∧ p.n ≤ 9223372036854775807) :
    Calls Tryz.prog 19 #[.int .i64 22, .slice (some ⟨b, o, none⟩) 1 c] w fun e w' => e = .returned (vv (int1 22 p.n)) ∧ Below w.heap.size w w' := by
  obtain ⟨W0, hW0⟩ : ∃ W0, w.alloc (.cells #[.int .i64 0, .int .i64 0, .string ⟨#[]⟩] 25) = W0 := ⟨_, rfl⟩
  have hb0 : Below w.heap.size w W0 := by rw [← hW0]; exact (Below.refl _ _).alloc (Nat.le_refl _) _
  have bR : Blk W0 w.heap.size 25 [.int .i64 0, .int .i64 0, .string ⟨#[]⟩] := by rw [← hW0]; exact Blk.new w 25 #[.int .i64 0, .int .i64 0, .string ⟨#[]⟩]
  have hC0 := h0.mono hb0
  have HC0 := hide hC0; have HR := hide bR; have HB0 := hide hb0; have HP := hide hp
  obtain ⟨-, a0, a1, a2⟩ := hC0
  clear hb0 bR h0 hp
  go_enter Tryz.func19, Tryz.ntmps19
  go_wp2_with fail
  try rw [hW0]
  clear hW0
  refine (l2FromInt_any p.n W0 (unhide HP).1 (unhide HP).2).mono ?_
  rintro e w1 ⟨u5, rfl, hu5, hb1⟩
  obtain ⟨s5, hs5⟩ : ∃ s5, Value.bool (decide (p.n < 0)) = s5 := ⟨_, rfl⟩
  have hV5 : BigV w1 (.agg #[s5, u5]) p.n := ⟨u5, by rw [hs5], hu5⟩
  obtain ⟨g5, cc5, rfl, -⟩ := hu5
  rw [hs5]
  obtain ⟨L5, hL5⟩ : ∃ L5, (digs p.n.natAbs).length = L5 := ⟨_, rfl⟩
  rw [hL5] at hV5 ⊢
  obtain ⟨bs5, hbs5⟩ : ∃ bs5, decide (p.n < 0) = bs5 := ⟨_, rfl⟩
  rw [hbs5] at hs5
  subst hs5
  obtain ⟨w2, hw2⟩ : ∃ w2, w1.alloc (.cells #[.bool bs5, .slice g5 L5 cc5] 46) = w2 := ⟨_, rfl⟩
  have hb2 : Below w1.heap.size w1 w2 := by rw [← hw2]; exact (Below.refl _ _).alloc (Nat.le_refl _) _
  obtain ⟨X5, hX5⟩ : ∃ X5, w1.heap.size = X5 := ⟨_, rfl⟩
  have hB5 : Blk w2 X5 46 [.bool bs5, .slice g5 L5 cc5] := by rw [← hX5, ← hw2]; exact Blk.new w1 46 #[.bool bs5, .slice g5 L5 cc5]
  have hb02 : Below W0.heap.size W0 w2 := hb1.trans (hb2.mono hb1.size)
  have HB5 := hide hB5; have HV5 := hide (hV5.mono hb2); have HB02 := hide hb02
  have hC2 := (unhide HC0).mono hb02
  have HR2 := hide ((unhide HR).mono hb02 (unhide HR).lt); have HW2 := hide ((unhide HB0).trans (hb02.mono (unhide HB0).size))
  obtain ⟨-, b0, b1, b2⟩ := hC2
  have hB5' := hB5
  obtain ⟨⟨x0, x1⟩, -⟩ := two hB5'
  have DP : Hid ((digs p.n.natAbs).length ≤ 19) := hide (digs_i64 (unhide HP).1 (unhide HP).2)
  clear hb1 hb2 hB5 hB5' hV5 hb02 a0 a1 a2 hbs5 hL5
  go_wp2_with fail
  try rw [hX5]
  try rw [hw2]
  clear hw2 hX5 w1
  refine (l2Err_any 1 w2).mono ?_
  rintro e w3 ⟨rfl, hb⟩
  have HR3 := hide ((unhide HR2).mono hb (unhide HR2).lt); have HW3 := hide ((unhide HW2).trans (hb.mono (unhide HW2).size))
  clear hb
  rw [show (Value.agg #[.int .i64 4, .int .i64 1, .string ⟨#[]⟩]) = vv (errX 1) from rfl]
  obtain ⟨z, hz⟩ : ∃ z, errX 1 = z := ⟨_, rfl⟩
  have HZ : Hid (int1 22 p.n = z) := hide (by
    rw [← hz]
    simp [int1])
  rw [hz]
  clear hz
  unfold vv
  obtain ⟨r0, r1, r2⟩ := three (unhide HR3)
  have f0 := (unhide HR3).free 0; have f1 := (unhide HR3).free 1; have f2 := (unhide HR3).free 2
  clear x0 x1
  go_wp2
  exact bodyPost_ret (v := .agg #[.int .i64 z.k, .int .i64 z.n, .string z.s]) (by simp [results, Tryz.results19, go_sem, *]) rfl ⟨by rw [unhide HZ]; rfl, vx_out (unhide HW3) _ _ _⟩

end Go.Proofs.YtnmpkdmflijhpaaGreatDoor
