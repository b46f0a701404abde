/- The model's operators on two whole numbers: equality, the lesser and the greater. -/
import Derived.Test.YtnmpkdmflijhpaaGreatDoorApV
namespace Go.Proofs.YtnmpkdmflijhpaaGreatDoor
open Go Go.RowKit

set_option maxRecDepth 100000 in
set_option maxHeartbeats 8000000 in
theorem onInts_eq (b o c : Nat) (p q : Vx) (w : World) (h0 : Cel w b o p) (h1 : Cel w b (o + 3) q) (hp : -9223372036854775808 ≤ p.n ∧ p.n ≤ 9223372036854775807) (hq : -9223372036854775808 ≤ q.n ∧ q.n ≤ 9223372036854775807) :
    Calls Tryz.prog 19 #[.int .i64 10, .slice (some ⟨b, o, none⟩) 2 c] w fun e w' => e = .returned (vv (int2 10 p.n q.n)) ∧ Below w.heap.size w w' := by
  obtain ⟨W0, hW0⟩ : ∃ W0, w.alloc (.cells #[.int .i64 0, .int .i64 0, .string ⟨#[]⟩] 25) = W0 := ⟨_, rfl⟩
  have hb0 : Below w.heap.size w W0 := by rw [← hW0]; exact (Below.refl _ _).alloc (Nat.le_refl _) _
  have bR : Blk W0 w.heap.size 25 [.int .i64 0, .int .i64 0, .string ⟨#[]⟩] := by rw [← hW0]; exact Blk.new w 25 #[.int .i64 0, .int .i64 0, .string ⟨#[]⟩]
  have hC0 := h0.mono hb0; have hC1 := h1.mono hb0
  have HC0 := hide hC0; have HC1 := hide hC1; have HR := hide bR; have HB0 := hide hb0; have HP := hide hp; have HQ := hide hq
  obtain ⟨-, a0, a1, a2⟩ := hC0
  clear hb0 bR hC1 h0 h1 hp hq
  go_enter Tryz.func19, Tryz.ntmps19
  go_wp2_with fail
  try rw [hW0]
  clear hW0
  refine (l2FromInt_any p.n W0 (unhide HP).1 (unhide HP).2).mono ?_
  rintro e w1 ⟨u5, rfl, hu5, hb1⟩
  obtain ⟨s5, hs5⟩ : ∃ s5, Value.bool (decide (p.n < 0)) = s5 := ⟨_, rfl⟩
  have hV5 : BigV w1 (.agg #[s5, u5]) p.n := ⟨u5, by rw [hs5], hu5⟩
  obtain ⟨g5, cc5, rfl, -⟩ := hu5
  rw [hs5]
  obtain ⟨L5, hL5⟩ : ∃ L5, (digs p.n.natAbs).length = L5 := ⟨_, rfl⟩
  rw [hL5] at hV5 ⊢
  obtain ⟨bs5, hbs5⟩ : ∃ bs5, decide (p.n < 0) = bs5 := ⟨_, rfl⟩
  rw [hbs5] at hs5
  subst hs5
  obtain ⟨w2, hw2⟩ : ∃ w2, w1.alloc (.cells #[.bool bs5, .slice g5 L5 cc5] 46) = w2 := ⟨_, rfl⟩
  have hb2 : Below w1.heap.size w1 w2 := by rw [← hw2]; exact (Below.refl _ _).alloc (Nat.le_refl _) _
  obtain ⟨X5, hX5⟩ : ∃ X5, w1.heap.size = X5 := ⟨_, rfl⟩
  have hB5 : Blk w2 X5 46 [.bool bs5, .slice g5 L5 cc5] := by rw [← hX5, ← hw2]; exact Blk.new w1 46 #[.bool bs5, .slice g5 L5 cc5]
  have hb02 : Below W0.heap.size W0 w2 := hb1.trans (hb2.mono hb1.size)
  have HB5 := hide hB5; have HV5 := hide (hV5.mono hb2); have HB02 := hide hb02
  have hC1 := (unhide HC1).mono hb02
  obtain ⟨-, b0, b1, b2⟩ := hC1
  clear hb1 hb2 hB5 hV5 hb02 a0 a1 a2 hbs5 hL5
  go_wp2_with fail
  try rw [hX5]
  try rw [hw2]
  clear hw2 hX5 w1
  refine (l2FromInt_any q.n w2 (unhide HQ).1 (unhide HQ).2).mono ?_
  rintro e w1 ⟨u6, rfl, hu6, hb1⟩
  obtain ⟨s6, hs6⟩ : ∃ s6, Value.bool (decide (q.n < 0)) = s6 := ⟨_, rfl⟩
  have hV6 : BigV w1 (.agg #[s6, u6]) q.n := ⟨u6, by rw [hs6], hu6⟩
  obtain ⟨g6, cc6, rfl, -⟩ := hu6
  rw [hs6]
  obtain ⟨L6, hL6⟩ : ∃ L6, (digs q.n.natAbs).length = L6 := ⟨_, rfl⟩
  rw [hL6] at hV6 ⊢
  obtain ⟨bs6, hbs6⟩ : ∃ bs6, decide (q.n < 0) = bs6 := ⟨_, rfl⟩
  rw [hbs6] at hs6
  subst hs6
  obtain ⟨W, hW⟩ : ∃ W, w1.alloc (.cells #[.bool bs6, .slice g6 L6 cc6] 46) = W := ⟨_, rfl⟩
  have hb2 : Below w1.heap.size w1 W := by rw [← hW]; exact (Below.refl _ _).alloc (Nat.le_refl _) _
  obtain ⟨X6, hX6⟩ : ∃ X6, w1.heap.size = X6 := ⟨_, rfl⟩
  have hB6 : Blk W X6 46 [.bool bs6, .slice g6 L6 cc6] := by rw [← hX6, ← hW]; exact Blk.new w1 46 #[.bool bs6, .slice g6 L6 cc6]
  have hb3 : Below w2.heap.size w2 W := hb1.trans (hb2.mono hb1.size)
  have hb4 : Below W0.heap.size W0 W := (unhide HB02).trans (hb3.mono (unhide HB02).size)
  have hOI : OI w W b o X5 X6 p q (.agg #[.bool bs5, .slice g5 L5 cc5]) (.agg #[.bool bs6, .slice g6 L6 cc6]) (.bool bs5) (.slice g5 L5 cc5) (.bool bs6) (.slice g6 L6 cc6) :=
    ⟨(unhide HR).mono hb4 (unhide HR).lt, (unhide HB5).mono hb3 (unhide HB5).lt, hB6, rfl, rfl, (unhide HV5).mono hb3, hV6.mono hb2, (unhide HC0).mono hb4, (unhide HC1).mono hb4, (unhide HB0).trans (hb4.mono (unhide HB0).size)⟩
  have HL6 : Hid ((L6 = 0 ↔ q.n = 0)) := hide (by rw [← hL6, List.length_eq_zero_iff, digs_nil, Int.natAbs_eq_zero])
  have DP : Hid ((digs p.n.natAbs).length ≤ 19) := hide (digs_i64 (unhide HP).1 (unhide HP).2)
  have DQ : Hid ((digs q.n.natAbs).length ≤ 19) := hide (digs_i64 (unhide HQ).1 (unhide HQ).2)
  have HOI := hide hOI
  obtain ⟨⟨x0, x1⟩, -⟩ := two hOI.B5
  obtain ⟨⟨y0, y1⟩, -⟩ := two hOI.B6
  clear hb1 hb2 hb3 hb4 hB6 hV6 hOI b0 b1 b2 hbs6 hL6 HB02 HC0 HC1 HR HB0 HB5 HV5
  go_wp2_with fail
  try rw [hX6]
  try rw [hW]
  clear hW hX6 w1
  by_cases h1 : p.n < q.n
  · have h1t : decide (p.n < q.n) = true := decide_eq_true h1
    refine (l2BigLess_any _ _ p.n q.n W (unhide HOI).V5 (unhide HOI).V6 (by have := unhide DP; omega) (by have := unhide DQ; omega)).mono ?_
    rintro e w3 ⟨rfl, hb⟩
    have HOI3 := hide ((unhide HOI).mono hb)
    clear hb
    clear x0 x1 y0 y1
    obtain ⟨⟨x0, x1⟩, -⟩ := two (unhide HOI3).B5
    obtain ⟨⟨y0, y1⟩, -⟩ := two (unhide HOI3).B6
    rw [h1t]
    go_wp2_with fail
    refine (l2Bool_any (false) w3).mono ?_
    rintro e w4 ⟨rfl, hb⟩
    have HOI4 := hide ((unhide HOI3).mono hb)
    clear hb
    rw [show (Value.agg #[.int .i64 2, .int .i64 (if false then 1 else 0), .string ⟨#[]⟩]) = vv (boolX (false)) from rfl]
    obtain ⟨z, hz⟩ : ∃ z, boolX false = z := ⟨_, rfl⟩
    have HZ : Hid (int2 10 p.n q.n = z) := hide (by
      rw [← hz]
      have e : p.n ≠ q.n := by omega
      simp [int2, e])
    rw [hz]
    clear hz
    unfold vv
    obtain ⟨r0, r1, r2⟩ := three (unhide HOI4).R
    have f0 := (unhide HOI4).R.free 0; have f1 := (unhide HOI4).R.free 1; have f2 := (unhide HOI4).R.free 2
    clear x0 x1 y0 y1
    go_wp2
    exact bodyPost_ret (v := .agg #[.int .i64 z.k, .int .i64 z.n, .string z.s]) (by simp [results, Tryz.results19, go_sem, *]) rfl ⟨by rw [unhide HZ]; rfl, vx_out (unhide HOI4).low _ _ _⟩
  by_cases h2 : q.n < p.n
  · have h1f : decide (p.n < q.n) = false := decide_eq_false h1
    have h2t : decide (q.n < p.n) = true := decide_eq_true h2
    refine (l2BigLess_any _ _ p.n q.n W (unhide HOI).V5 (unhide HOI).V6 (by have := unhide DP; omega) (by have := unhide DQ; omega)).mono ?_
    rintro e w3 ⟨rfl, hb⟩
    have HOI3 := hide ((unhide HOI).mono hb)
    clear hb
    clear x0 x1 y0 y1
    obtain ⟨⟨x0, x1⟩, -⟩ := two (unhide HOI3).B5
    obtain ⟨⟨y0, y1⟩, -⟩ := two (unhide HOI3).B6
    rw [h1f]
    go_wp2_with fail
    refine (l2BigLess_any _ _ q.n p.n w3 (unhide HOI3).V6 (unhide HOI3).V5 (by have := unhide DQ; omega) (by have := unhide DP; omega)).mono ?_
    rintro e w4 ⟨rfl, hb⟩
    have HOI4 := hide ((unhide HOI3).mono hb)
    clear hb
    clear x0 x1 y0 y1
    obtain ⟨⟨x0, x1⟩, -⟩ := two (unhide HOI4).B5
    obtain ⟨⟨y0, y1⟩, -⟩ := two (unhide HOI4).B6
    rw [h2t]
    go_wp2_with fail
    refine (l2Bool_any (false) w4).mono ?_
    rintro e w5 ⟨rfl, hb⟩
    have HOI5 := hide ((unhide HOI4).mono hb)
    clear hb
    rw [show (Value.agg #[.int .i64 2, .int .i64 (if false then 1 else 0), .string ⟨#[]⟩]) = vv (boolX (false)) from rfl]
    obtain ⟨z, hz⟩ : ∃ z, boolX false = z := ⟨_, rfl⟩
    have HZ : Hid (int2 10 p.n q.n = z) := hide (by
      rw [← hz]
      have e : p.n ≠ q.n := by omega
      simp [int2, e])
    rw [hz]
    clear hz
    unfold vv
    obtain ⟨r0, r1, r2⟩ := three (unhide HOI5).R
    have f0 := (unhide HOI5).R.free 0; have f1 := (unhide HOI5).R.free 1; have f2 := (unhide HOI5).R.free 2
    clear x0 x1 y0 y1
    go_wp2
    exact bodyPost_ret (v := .agg #[.int .i64 z.k, .int .i64 z.n, .string z.s]) (by simp [results, Tryz.results19, go_sem, *]) rfl ⟨by rw [unhide HZ]; rfl, vx_out (unhide HOI5).low _ _ _⟩
  have h1f : decide (p.n < q.n) = false := decide_eq_false h1
  have h2f : decide (q.n < p.n) = false := decide_eq_false h2
  refine (l2BigLess_any _ _ p.n q.n W (unhide HOI).V5 (unhide HOI).V6 (by have := unhide DP; omega) (by have := unhide DQ; omega)).mono ?_
  rintro e w3 ⟨rfl, hb⟩
  have HOI3 := hide ((unhide HOI).mono hb)
  clear hb
  clear x0 x1 y0 y1
  obtain ⟨⟨x0, x1⟩, -⟩ := two (unhide HOI3).B5
  obtain ⟨⟨y0, y1⟩, -⟩ := two (unhide HOI3).B6
  rw [h1f]
  go_wp2_with fail
  refine (l2BigLess_any _ _ q.n p.n w3 (unhide HOI3).V6 (unhide HOI3).V5 (by have := unhide DQ; omega) (by have := unhide DP; omega)).mono ?_
  rintro e w4 ⟨rfl, hb⟩
  have HOI4 := hide ((unhide HOI3).mono hb)
  clear hb
  clear x0 x1 y0 y1
  obtain ⟨⟨x0, x1⟩, -⟩ := two (unhide HOI4).B5
  obtain ⟨⟨y0, y1⟩, -⟩ := two (unhide HOI4).B6
  rw [h2f]
  go_wp2_with fail
  refine (l2Bool_any (true) w4).mono ?_
  rintro e w5 ⟨rfl, hb⟩
  have HOI5 := hide ((unhide HOI4).mono hb)
  clear hb
  rw [show (Value.agg #[.int .i64 2, .int .i64 (if true then 1 else 0), .string ⟨#[]⟩]) = vv (boolX (true)) from rfl]
  obtain ⟨z, hz⟩ : ∃ z, boolX true = z := ⟨_, rfl⟩
  have HZ : Hid (int2 10 p.n q.n = z) := hide (by
    rw [← hz]
    have e : p.n = q.n := by omega
    simp [int2, e])
  rw [hz]
  clear hz
  unfold vv
  obtain ⟨r0, r1, r2⟩ := three (unhide HOI5).R
  have f0 := (unhide HOI5).R.free 0; have f1 := (unhide HOI5).R.free 1; have f2 := (unhide HOI5).R.free 2
  clear x0 x1 y0 y1
  go_wp2
  exact bodyPost_ret (v := .agg #[.int .i64 z.k, .int .i64 z.n, .string z.s]) (by simp [results, Tryz.results19, go_sem, *]) rfl ⟨by rw [unhide HZ]; rfl, vx_out (unhide HOI5).low _ _ _⟩

set_option maxRecDepth 100000 in
set_option maxHeartbeats 8000000 in
theorem onInts_ne (b o c : Nat) (p q : Vx) (w : World) (h0 : Cel w b o p) (h1 : Cel w b (o + 3) q) (hp : -9223372036854775808 ≤ p.n ∧ p.n ≤ 9223372036854775807) (hq : -9223372036854775808 ≤ q.n ∧ q.n ≤ 9223372036854775807) :
    Calls Tryz.prog 19 #[.int .i64 11, .slice (some ⟨b, o, none⟩) 2 c] w fun e w' => e = .returned (vv (int2 11 p.n q.n)) ∧ Below w.heap.size w w' := by
  obtain ⟨W0, hW0⟩ : ∃ W0, w.alloc (.cells #[.int .i64 0, .int .i64 0, .string ⟨#[]⟩] 25) = W0 := ⟨_, rfl⟩
  have hb0 : Below w.heap.size w W0 := by rw [← hW0]; exact (Below.refl _ _).alloc (Nat.le_refl _) _
  have bR : Blk W0 w.heap.size 25 [.int .i64 0, .int .i64 0, .string ⟨#[]⟩] := by rw [← hW0]; exact Blk.new w 25 #[.int .i64 0, .int .i64 0, .string ⟨#[]⟩]
  have hC0 := h0.mono hb0; have hC1 := h1.mono hb0
  have HC0 := hide hC0; have HC1 := hide hC1; have HR := hide bR; have HB0 := hide hb0; have HP := hide hp; have HQ := hide hq
  obtain ⟨-, a0, a1, a2⟩ := hC0
  clear hb0 bR hC1 h0 h1 hp hq
  go_enter Tryz.func19, Tryz.ntmps19
  go_wp2_with fail
  try rw [hW0]
  clear hW0
  refine (l2FromInt_any p.n W0 (unhide HP).1 (unhide HP).2).mono ?_
  rintro e w1 ⟨u5, rfl, hu5, hb1⟩
  obtain ⟨s5, hs5⟩ : ∃ s5, Value.bool (decide (p.n < 0)) = s5 := ⟨_, rfl⟩
  have hV5 : BigV w1 (.agg #[s5, u5]) p.n := ⟨u5, by rw [hs5], hu5⟩
  obtain ⟨g5, cc5, rfl, -⟩ := hu5
  rw [hs5]
  obtain ⟨L5, hL5⟩ : ∃ L5, (digs p.n.natAbs).length = L5 := ⟨_, rfl⟩
  rw [hL5] at hV5 ⊢
  obtain ⟨bs5, hbs5⟩ : ∃ bs5, decide (p.n < 0) = bs5 := ⟨_, rfl⟩
  rw [hbs5] at hs5
  subst hs5
  obtain ⟨w2, hw2⟩ : ∃ w2, w1.alloc (.cells #[.bool bs5, .slice g5 L5 cc5] 46) = w2 := ⟨_, rfl⟩
  have hb2 : Below w1.heap.size w1 w2 := by rw [← hw2]; exact (Below.refl _ _).alloc (Nat.le_refl _) _
  obtain ⟨X5, hX5⟩ : ∃ X5, w1.heap.size = X5 := ⟨_, rfl⟩
  have hB5 : Blk w2 X5 46 [.bool bs5, .slice g5 L5 cc5] := by rw [← hX5, ← hw2]; exact Blk.new w1 46 #[.bool bs5, .slice g5 L5 cc5]
  have hb02 : Below W0.heap.size W0 w2 := hb1.trans (hb2.mono hb1.size)
  have HB5 := hide hB5; have HV5 := hide (hV5.mono hb2); have HB02 := hide hb02
  have hC1 := (unhide HC1).mono hb02
  obtain ⟨-, b0, b1, b2⟩ := hC1
  clear hb1 hb2 hB5 hV5 hb02 a0 a1 a2 hbs5 hL5
  go_wp2_with fail
  try rw [hX5]
  try rw [hw2]
  clear hw2 hX5 w1
  refine (l2FromInt_any q.n w2 (unhide HQ).1 (unhide HQ).2).mono ?_
  rintro e w1 ⟨u6, rfl, hu6, hb1⟩
  obtain ⟨s6, hs6⟩ : ∃ s6, Value.bool (decide (q.n < 0)) = s6 := ⟨_, rfl⟩
  have hV6 : BigV w1 (.agg #[s6, u6]) q.n := ⟨u6, by rw [hs6], hu6⟩
  obtain ⟨g6, cc6, rfl, -⟩ := hu6
  rw [hs6]
  obtain ⟨L6, hL6⟩ : ∃ L6, (digs q.n.natAbs).length = L6 := ⟨_, rfl⟩
  rw [hL6] at hV6 ⊢
  obtain ⟨bs6, hbs6⟩ : ∃ bs6, decide (q.n < 0) = bs6 := ⟨_, rfl⟩
  rw [hbs6] at hs6
  subst hs6
  obtain ⟨W, hW⟩ : ∃ W, w1.alloc (.cells #[.bool bs6, .slice g6 L6 cc6] 46) = W := ⟨_, rfl⟩
  have hb2 : Below w1.heap.size w1 W := by rw [← hW]; exact (Below.refl _ _).alloc (Nat.le_refl _) _
  obtain ⟨X6, hX6⟩ : ∃ X6, w1.heap.size = X6 := ⟨_, rfl⟩
  have hB6 : Blk W X6 46 [.bool bs6, .slice g6 L6 cc6] := by rw [← hX6, ← hW]; exact Blk.new w1 46 #[.bool bs6, .slice g6 L6 cc6]
  have hb3 : Below w2.heap.size w2 W := hb1.trans (hb2.mono hb1.size)
  have hb4 : Below W0.heap.size W0 W := (unhide HB02).trans (hb3.mono (unhide HB02).size)
  have hOI : OI w W b o X5 X6 p q (.agg #[.bool bs5, .slice g5 L5 cc5]) (.agg #[.bool bs6, .slice g6 L6 cc6]) (.bool bs5) (.slice g5 L5 cc5) (.bool bs6) (.slice g6 L6 cc6) :=
    ⟨(unhide HR).mono hb4 (unhide HR).lt, (unhide HB5).mono hb3 (unhide HB5).lt, hB6, rfl, rfl, (unhide HV5).mono hb3, hV6.mono hb2, (unhide HC0).mono hb4, (unhide HC1).mono hb4, (unhide HB0).trans (hb4.mono (unhide HB0).size)⟩
  have HL6 : Hid ((L6 = 0 ↔ q.n = 0)) := hide (by rw [← hL6, List.length_eq_zero_iff, digs_nil, Int.natAbs_eq_zero])
  have DP : Hid ((digs p.n.natAbs).length ≤ 19) := hide (digs_i64 (unhide HP).1 (unhide HP).2)
  have DQ : Hid ((digs q.n.natAbs).length ≤ 19) := hide (digs_i64 (unhide HQ).1 (unhide HQ).2)
  have HOI := hide hOI
  obtain ⟨⟨x0, x1⟩, -⟩ := two hOI.B5
  obtain ⟨⟨y0, y1⟩, -⟩ := two hOI.B6
  clear hb1 hb2 hb3 hb4 hB6 hV6 hOI b0 b1 b2 hbs6 hL6 HB02 HC0 HC1 HR HB0 HB5 HV5
  go_wp2_with fail
  try rw [hX6]
  try rw [hW]
  clear hW hX6 w1
  by_cases h1 : p.n < q.n
  · have h1t : decide (p.n < q.n) = true := decide_eq_true h1
    refine (l2BigLess_any _ _ p.n q.n W (unhide HOI).V5 (unhide HOI).V6 (by have := unhide DP; omega) (by have := unhide DQ; omega)).mono ?_
    rintro e w3 ⟨rfl, hb⟩
    have HOI3 := hide ((unhide HOI).mono hb)
    clear hb
    clear x0 x1 y0 y1
    obtain ⟨⟨x0, x1⟩, -⟩ := two (unhide HOI3).B5
    obtain ⟨⟨y0, y1⟩, -⟩ := two (unhide HOI3).B6
    rw [h1t]
    go_wp2_with fail
    refine (l2Bool_any (true) w3).mono ?_
    rintro e w4 ⟨rfl, hb⟩
    have HOI4 := hide ((unhide HOI3).mono hb)
    clear hb
    rw [show (Value.agg #[.int .i64 2, .int .i64 (if true then 1 else 0), .string ⟨#[]⟩]) = vv (boolX (true)) from rfl]
    obtain ⟨z, hz⟩ : ∃ z, boolX true = z := ⟨_, rfl⟩
    have HZ : Hid (int2 11 p.n q.n = z) := hide (by
      rw [← hz]
      have e : p.n ≠ q.n := by omega
      simp [int2, e])
    rw [hz]
    clear hz
    unfold vv
    obtain ⟨r0, r1, r2⟩ := three (unhide HOI4).R
    have f0 := (unhide HOI4).R.free 0; have f1 := (unhide HOI4).R.free 1; have f2 := (unhide HOI4).R.free 2
    clear x0 x1 y0 y1
    go_wp2
    exact bodyPost_ret (v := .agg #[.int .i64 z.k, .int .i64 z.n, .string z.s]) (by simp [results, Tryz.results19, go_sem, *]) rfl ⟨by rw [unhide HZ]; rfl, vx_out (unhide HOI4).low _ _ _⟩
  by_cases h2 : q.n < p.n
  · have h1f : decide (p.n < q.n) = false := decide_eq_false h1
    have h2t : decide (q.n < p.n) = true := decide_eq_true h2
    refine (l2BigLess_any _ _ p.n q.n W (unhide HOI).V5 (unhide HOI).V6 (by have := unhide DP; omega) (by have := unhide DQ; omega)).mono ?_
    rintro e w3 ⟨rfl, hb⟩
    have HOI3 := hide ((unhide HOI).mono hb)
    clear hb
    clear x0 x1 y0 y1
    obtain ⟨⟨x0, x1⟩, -⟩ := two (unhide HOI3).B5
    obtain ⟨⟨y0, y1⟩, -⟩ := two (unhide HOI3).B6
    rw [h1f]
    go_wp2_with fail
    refine (l2BigLess_any _ _ q.n p.n w3 (unhide HOI3).V6 (unhide HOI3).V5 (by have := unhide DQ; omega) (by have := unhide DP; omega)).mono ?_
    rintro e w4 ⟨rfl, hb⟩
    have HOI4 := hide ((unhide HOI3).mono hb)
    clear hb
    clear x0 x1 y0 y1
    obtain ⟨⟨x0, x1⟩, -⟩ := two (unhide HOI4).B5
    obtain ⟨⟨y0, y1⟩, -⟩ := two (unhide HOI4).B6
    rw [h2t]
    go_wp2_with fail
    refine (l2Bool_any (true) w4).mono ?_
    rintro e w5 ⟨rfl, hb⟩
    have HOI5 := hide ((unhide HOI4).mono hb)
    clear hb
    rw [show (Value.agg #[.int .i64 2, .int .i64 (if true then 1 else 0), .string ⟨#[]⟩]) = vv (boolX (true)) from rfl]
    obtain ⟨z, hz⟩ : ∃ z, boolX true = z := ⟨_, rfl⟩
    have HZ : Hid (int2 11 p.n q.n = z) := hide (by
      rw [← hz]
      have e : p.n ≠ q.n := by omega
      simp [int2, e])
    rw [hz]
    clear hz
    unfold vv
    obtain ⟨r0, r1, r2⟩ := three (unhide HOI5).R
    have f0 := (unhide HOI5).R.free 0; have f1 := (unhide HOI5).R.free 1; have f2 := (unhide HOI5).R.free 2
    clear x0 x1 y0 y1
    go_wp2
    exact bodyPost_ret (v := .agg #[.int .i64 z.k, .int .i64 z.n, .string z.s]) (by simp [results, Tryz.results19, go_sem, *]) rfl ⟨by rw [unhide HZ]; rfl, vx_out (unhide HOI5).low _ _ _⟩
  have h1f : decide (p.n < q.n) = false := decide_eq_false h1
  have h2f : decide (q.n < p.n) = false := decide_eq_false h2
  refine (l2BigLess_any _ _ p.n q.n W (unhide HOI).V5 (unhide HOI).V6 (by have := unhide DP; omega) (by have := unhide DQ; omega)).mono ?_
  rintro e w3 ⟨rfl, hb⟩
  have HOI3 := hide ((unhide HOI).mono hb)
  clear hb
  clear x0 x1 y0 y1
  obtain ⟨⟨x0, x1⟩, -⟩ := two (unhide HOI3).B5
  obtain ⟨⟨y0, y1⟩, -⟩ := two (unhide HOI3).B6
  rw [h1f]
  go_wp2_with fail
  refine (l2BigLess_any _ _ q.n p.n w3 (unhide HOI3).V6 (unhide HOI3).V5 (by have := unhide DQ; omega) (by have := unhide DP; omega)).mono ?_
  rintro e w4 ⟨rfl, hb⟩
  have HOI4 := hide ((unhide HOI3).mono hb)
  clear hb
  clear x0 x1 y0 y1
  obtain ⟨⟨x0, x1⟩, -⟩ := two (unhide HOI4).B5
  obtain ⟨⟨y0, y1⟩, -⟩ := two (unhide HOI4).B6
  rw [h2f]
  go_wp2_with fail
  refine (l2Bool_any (false) w4).mono ?_
  rintro e w5 ⟨rfl, hb⟩
  have HOI5 := hide ((unhide HOI4).mono hb)
  clear hb
  rw [show (Value.agg #[.int .i64 2, .int .i64 (if false then 1 else 0), .string ⟨#[]⟩]) = vv (boolX (false)) from rfl]
  obtain ⟨z, hz⟩ : ∃ z, boolX false = z := ⟨_, rfl⟩
  have HZ : Hid (int2 11 p.n q.n = z) := hide (by
    rw [← hz]
    have e : p.n = q.n := by omega
    simp [int2, e])
  rw [hz]
  clear hz
  unfold vv
  obtain ⟨r0, r1, r2⟩ := three (unhide HOI5).R
  have f0 := (unhide HOI5).R.free 0; have f1 := (unhide HOI5).R.free 1; have f2 := (unhide HOI5).R.free 2
  clear x0 x1 y0 y1
  go_wp2
  exact bodyPost_ret (v := .agg #[.int .i64 z.k, .int .i64 z.n, .string z.s]) (by simp [results, Tryz.results19, go_sem, *]) rfl ⟨by rw [unhide HZ]; rfl, vx_out (unhide HOI5).low _ _ _⟩

set_option maxRecDepth 100000 in
set_option maxHeartbeats 8000000 in
theorem onInts_min (b o c : Nat) (p q : Vx) (w : World) (h0 : Cel w b o p) (h1 : Cel w b (o + 3) q) (hp : -9223372036854775808 ≤ p.n ∧ p.n ≤ 9223372036854775807) (hq : -9223372036854775808 ≤ q.n ∧ q.n ≤ 9223372036854775807) (hpk : p = intX p.n) (hqk : q = intX q.n) :
    Calls Tryz.prog 19 #[.int .i64 17, .slice (some ⟨b, o, none⟩) 2 c] w fun e w' => e = .returned (vv (int2 17 p.n q.n)) ∧ Below w.heap.size w w' := by
  have HPK := hide hpk; have HQK := hide hqk
  clear hpk hqk
  obtain ⟨W0, hW0⟩ : ∃ W0, w.alloc (.cells #[.int .i64 0, .int .i64 0, .string ⟨#[]⟩] 25) = W0 := ⟨_, rfl⟩
  have hb0 : Below w.heap.size w W0 := by rw [← hW0]; exact (Below.refl _ _).alloc (Nat.le_refl _) _
  have bR : Blk W0 w.heap.size 25 [.int .i64 0, .int .i64 0, .string ⟨#[]⟩] := by rw [← hW0]; exact Blk.new w 25 #[.int .i64 0, .int .i64 0, .string ⟨#[]⟩]
  have hC0 := h0.mono hb0; have hC1 := h1.mono hb0
  have HC0 := hide hC0; have HC1 := hide hC1; have HR := hide bR; have HB0 := hide hb0; have HP := hide hp; have HQ := hide hq
  obtain ⟨-, a0, a1, a2⟩ := hC0
  clear hb0 bR hC1 h0 h1 hp hq
  go_enter Tryz.func19, Tryz.ntmps19
  go_wp2_with fail
  try rw [hW0]
  clear hW0
  refine (l2FromInt_any p.n W0 (unhide HP).1 (unhide HP).2).mono ?_
  rintro e w1 ⟨u5, rfl, hu5, hb1⟩
  obtain ⟨s5, hs5⟩ : ∃ s5, Value.bool (decide (p.n < 0)) = s5 := ⟨_, rfl⟩
  have hV5 : BigV w1 (.agg #[s5, u5]) p.n := ⟨u5, by rw [hs5], hu5⟩
  obtain ⟨g5, cc5, rfl, -⟩ := hu5
  rw [hs5]
  obtain ⟨L5, hL5⟩ : ∃ L5, (digs p.n.natAbs).length = L5 := ⟨_, rfl⟩
  rw [hL5] at hV5 ⊢
  obtain ⟨bs5, hbs5⟩ : ∃ bs5, decide (p.n < 0) = bs5 := ⟨_, rfl⟩
  rw [hbs5] at hs5
  subst hs5
  obtain ⟨w2, hw2⟩ : ∃ w2, w1.alloc (.cells #[.bool bs5, .slice g5 L5 cc5] 46) = w2 := ⟨_, rfl⟩
  have hb2 : Below w1.heap.size w1 w2 := by rw [← hw2]; exact (Below.refl _ _).alloc (Nat.le_refl _) _
  obtain ⟨X5, hX5⟩ : ∃ X5, w1.heap.size = X5 := ⟨_, rfl⟩
  have hB5 : Blk w2 X5 46 [.bool bs5, .slice g5 L5 cc5] := by rw [← hX5, ← hw2]; exact Blk.new w1 46 #[.bool bs5, .slice g5 L5 cc5]
  have hb02 : Below W0.heap.size W0 w2 := hb1.trans (hb2.mono hb1.size)
  have HB5 := hide hB5; have HV5 := hide (hV5.mono hb2); have HB02 := hide hb02
  have hC1 := (unhide HC1).mono hb02
  obtain ⟨-, b0, b1, b2⟩ := hC1
  clear hb1 hb2 hB5 hV5 hb02 a0 a1 a2 hbs5 hL5
  go_wp2_with fail
  try rw [hX5]
  try rw [hw2]
  clear hw2 hX5 w1
  refine (l2FromInt_any q.n w2 (unhide HQ).1 (unhide HQ).2).mono ?_
  rintro e w1 ⟨u6, rfl, hu6, hb1⟩
  obtain ⟨s6, hs6⟩ : ∃ s6, Value.bool (decide (q.n < 0)) = s6 := ⟨_, rfl⟩
  have hV6 : BigV w1 (.agg #[s6, u6]) q.n := ⟨u6, by rw [hs6], hu6⟩
  obtain ⟨g6, cc6, rfl, -⟩ := hu6
  rw [hs6]
  obtain ⟨L6, hL6⟩ : ∃ L6, (digs q.n.natAbs).length = L6 := ⟨_, rfl⟩
  rw [hL6] at hV6 ⊢
  obtain ⟨bs6, hbs6⟩ : ∃ bs6, decide (q.n < 0) = bs6 := ⟨_, rfl⟩
  rw [hbs6] at hs6
  subst hs6
  obtain ⟨W, hW⟩ : ∃ W, w1.alloc (.cells #[.bool bs6, .slice g6 L6 cc6] 46) = W := ⟨_, rfl⟩
  have hb2 : Below w1.heap.size w1 W := by rw [← hW]; exact (Below.refl _ _).alloc (Nat.le_refl _) _
  obtain ⟨X6, hX6⟩ : ∃ X6, w1.heap.size = X6 := ⟨_, rfl⟩
  have hB6 : Blk W X6 46 [.bool bs6, .slice g6 L6 cc6] := by rw [← hX6, ← hW]; exact Blk.new w1 46 #[.bool bs6, .slice g6 L6 cc6]
  have hb3 : Below w2.heap.size w2 W := hb1.trans (hb2.mono hb1.size)
  have hb4 : Below W0.heap.size W0 W := (unhide HB02).trans (hb3.mono (unhide HB02).size)
  have hOI : OI w W b o X5 X6 p q (.agg #[.bool bs5, .slice g5 L5 cc5]) (.agg #[.bool bs6, .slice g6 L6 cc6]) (.bool bs5) (.slice g5 L5 cc5) (.bool bs6) (.slice g6 L6 cc6) :=
    ⟨(unhide HR).mono hb4 (unhide HR).lt, (unhide HB5).mono hb3 (unhide HB5).lt, hB6, rfl, rfl, (unhide HV5).mono hb3, hV6.mono hb2, (unhide HC0).mono hb4, (unhide HC1).mono hb4, (unhide HB0).trans (hb4.mono (unhide HB0).size)⟩
  have HL6 : Hid ((L6 = 0 ↔ q.n = 0)) := hide (by rw [← hL6, List.length_eq_zero_iff, digs_nil, Int.natAbs_eq_zero])
  have DP : Hid ((digs p.n.natAbs).length ≤ 19) := hide (digs_i64 (unhide HP).1 (unhide HP).2)
  have DQ : Hid ((digs q.n.natAbs).length ≤ 19) := hide (digs_i64 (unhide HQ).1 (unhide HQ).2)
  have HOI := hide hOI
  obtain ⟨⟨x0, x1⟩, -⟩ := two hOI.B5
  obtain ⟨⟨y0, y1⟩, -⟩ := two hOI.B6
  clear hb1 hb2 hb3 hb4 hB6 hV6 hOI b0 b1 b2 hbs6 hL6 HB02 HC0 HC1 HR HB0 HB5 HV5
  go_wp2_with fail
  try rw [hX6]
  try rw [hW]
  clear hW hX6 w1
  by_cases h1 : p.n < q.n
  · have h1t : decide (p.n < q.n) = true := decide_eq_true h1
    refine (l2BigLess_any _ _ p.n q.n W (unhide HOI).V5 (unhide HOI).V6 (by have := unhide DP; omega) (by have := unhide DQ; omega)).mono ?_
    rintro e w3 ⟨rfl, hb⟩
    have HOI3 := hide ((unhide HOI).mono hb)
    clear hb
    clear x0 x1 y0 y1
    obtain ⟨⟨x0, x1⟩, -⟩ := two (unhide HOI3).B5
    obtain ⟨⟨y0, y1⟩, -⟩ := two (unhide HOI3).B6
    rw [h1t]
    obtain ⟨-, m0, m1, m2⟩ := (unhide HOI3).c0
    have HZ : Hid (int2 17 p.n q.n = p) := hide ((show int2 17 p.n q.n = intX p.n by simp [int2, h1]).trans (unhide HPK).symm)
    obtain ⟨r0, r1, r2⟩ := three (unhide HOI3).R
    have f0 := (unhide HOI3).R.free 0; have f1 := (unhide HOI3).R.free 1; have f2 := (unhide HOI3).R.free 2
    clear x0 x1 y0 y1 h1t
    go_wp2
    exact bodyPost_ret (v := .agg #[.int .i64 p.k, .int .i64 p.n, .string p.s]) (by simp [results, Tryz.results19, go_sem, *]) rfl ⟨by rw [unhide HZ]; rfl, vx_out (unhide HOI3).low _ _ _⟩
  have h1t : decide (p.n < q.n) = false := decide_eq_false h1
  refine (l2BigLess_any _ _ p.n q.n W (unhide HOI).V5 (unhide HOI).V6 (by have := unhide DP; omega) (by have := unhide DQ; omega)).mono ?_
  rintro e w3 ⟨rfl, hb⟩
  have HOI3 := hide ((unhide HOI).mono hb)
  clear hb
  clear x0 x1 y0 y1
  obtain ⟨⟨x0, x1⟩, -⟩ := two (unhide HOI3).B5
  obtain ⟨⟨y0, y1⟩, -⟩ := two (unhide HOI3).B6
  rw [h1t]
  obtain ⟨-, m0, m1, m2⟩ := (unhide HOI3).c1
  have HZ : Hid (int2 17 p.n q.n = q) := hide ((show int2 17 p.n q.n = intX q.n by simp [int2, h1]).trans (unhide HQK).symm)
  obtain ⟨r0, r1, r2⟩ := three (unhide HOI3).R
  have f0 := (unhide HOI3).R.free 0; have f1 := (unhide HOI3).R.free 1; have f2 := (unhide HOI3).R.free 2
  clear x0 x1 y0 y1 h1t
  go_wp2
  exact bodyPost_ret (v := .agg #[.int .i64 q.k, .int .i64 q.n, .string q.s]) (by simp [results, Tryz.results19, go_sem, *]) rfl ⟨by rw [unhide HZ]; rfl, vx_out (unhide HOI3).low _ _ _⟩

set_option maxRecDepth 100000 in
set_option maxHeartbeats 8000000 in
theorem onInts_max (b o c : Nat) (p q : Vx) (w : World) (h0 : Cel w b o p) (h1 : Cel w b (o + 3) q) (hp : -9223372036854775808 ≤ p.n ∧ p.n ≤ 9223372036854775807) (hq : -9223372036854775808 ≤ q.n ∧ q.n ≤ 9223372036854775807) (hpk : p = intX p.n) (hqk : q = intX q.n) :
    Calls Tryz.prog 19 #[.int .i64 18, .slice (some ⟨b, o, none⟩) 2 c] w fun e w' => e = .returned (vv (int2 18 p.n q.n)) ∧ Below w.heap.size w w' := by
  have HPK := hide hpk; have HQK := hide hqk
  clear hpk hqk
  obtain ⟨W0, hW0⟩ : ∃ W0, w.alloc (.cells #[.int .i64 0, .int .i64 0, .string ⟨#[]⟩] 25) = W0 := ⟨_, rfl⟩
  have hb0 : Below w.heap.size w W0 := by rw [← hW0]; exact (Below.refl _ _).alloc (Nat.le_refl _) _
  have bR : Blk W0 w.heap.size 25 [.int .i64 0, .int .i64 0, .string ⟨#[]⟩] := by rw [← hW0]; exact Blk.new w 25 #[.int .i64 0, .int .i64 0, .string ⟨#[]⟩]
  have hC0 := h0.mono hb0; have hC1 := h1.mono hb0
  have HC0 := hide hC0; have HC1 := hide hC1; have HR := hide bR; have HB0 := hide hb0; have HP := hide hp; have HQ := hide hq
  obtain ⟨-, a0, a1, a2⟩ := hC0
  clear hb0 bR hC1 h0 h1 hp hq
  go_enter Tryz.func19, Tryz.ntmps19
  go_wp2_with fail
  try rw [hW0]
  clear hW0
  refine (l2FromInt_any p.n W0 (unhide HP).1 (unhide HP).2).mono ?_
  rintro e w1 ⟨u5, rfl, hu5, hb1⟩
  obtain ⟨s5, hs5⟩ : ∃ s5, Value.bool (decide (p.n < 0)) = s5 := ⟨_, rfl⟩
  have hV5 : BigV w1 (.agg #[s5, u5]) p.n := ⟨u5, by rw [hs5], hu5⟩
  obtain ⟨g5, cc5, rfl, -⟩ := hu5
  rw [hs5]
  obtain ⟨L5, hL5⟩ : ∃ L5, (digs p.n.natAbs).length = L5 := ⟨_, rfl⟩
  rw [hL5] at hV5 ⊢
  obtain ⟨bs5, hbs5⟩ : ∃ bs5, decide (p.n < 0) = bs5 := ⟨_, rfl⟩
  rw [hbs5] at hs5
  subst hs5
  obtain ⟨w2, hw2⟩ : ∃ w2, w1.alloc (.cells #[.bool bs5, .slice g5 L5 cc5] 46) = w2 := ⟨_, rfl⟩
  have hb2 : Below w1.heap.size w1 w2 := by rw [← hw2]; exact (Below.refl _ _).alloc (Nat.le_refl _) _
  obtain ⟨X5, hX5⟩ : ∃ X5, w1.heap.size = X5 := ⟨_, rfl⟩
  have hB5 : Blk w2 X5 46 [.bool bs5, .slice g5 L5 cc5] := by rw [← hX5, ← hw2]; exact Blk.new w1 46 #[.bool bs5, .slice g5 L5 cc5]
  have hb02 : Below W0.heap.size W0 w2 := hb1.trans (hb2.mono hb1.size)
  have HB5 := hide hB5; have HV5 := hide (hV5.mono hb2); have HB02 := hide hb02
  have hC1 := (unhide HC1).mono hb02
  obtain ⟨-, b0, b1, b2⟩ := hC1
  clear hb1 hb2 hB5 hV5 hb02 a0 a1 a2 hbs5 hL5
  go_wp2_with fail
  try rw [hX5]
  try rw [hw2]
  clear hw2 hX5 w1
  refine (l2FromInt_any q.n w2 (unhide HQ).1 (unhide HQ).2).mono ?_
  rintro e w1 ⟨u6, rfl, hu6, hb1⟩
  obtain ⟨s6, hs6⟩ : ∃ s6, Value.bool (decide (q.n < 0)) = s6 := ⟨_, rfl⟩
  have hV6 : BigV w1 (.agg #[s6, u6]) q.n := ⟨u6, by rw [hs6], hu6⟩
  obtain ⟨g6, cc6, rfl, -⟩ := hu6
  rw [hs6]
  obtain ⟨L6, hL6⟩ : ∃ L6, (digs q.n.natAbs).length = L6 := ⟨_, rfl⟩
  rw [hL6] at hV6 ⊢
  obtain ⟨bs6, hbs6⟩ : ∃ bs6, decide (q.n < 0) = bs6 := ⟨_, rfl⟩
  rw [hbs6] at hs6
  subst hs6
  obtain ⟨W, hW⟩ : ∃ W, w1.alloc (.cells #[.bool bs6, .slice g6 L6 cc6] 46) = W := ⟨_, rfl⟩
  have hb2 : Below w1.heap.size w1 W := by rw [← hW]; exact (Below.refl _ _).alloc (Nat.le_refl _) _
  obtain ⟨X6, hX6⟩ : ∃ X6, w1.heap.size = X6 := ⟨_, rfl⟩
  have hB6 : Blk W X6 46 [.bool bs6, .slice g6 L6 cc6] := by rw [← hX6, ← hW]; exact Blk.new w1 46 #[.bool bs6, .slice g6 L6 cc6]
  have hb3 : Below w2.heap.size w2 W := hb1.trans (hb2.mono hb1.size)
  have hb4 : Below W0.heap.size W0 W := (unhide HB02).trans (hb3.mono (unhide HB02).size)
  have hOI : OI w W b o X5 X6 p q (.agg #[.bool bs5, .slice g5 L5 cc5]) (.agg #[.bool bs6, .slice g6 L6 cc6]) (.bool bs5) (.slice g5 L5 cc5) (.bool bs6) (.slice g6 L6 cc6) :=
    ⟨(unhide HR).mono hb4 (unhide HR).lt, (unhide HB5).mono hb3 (unhide HB5).lt, hB6, rfl, rfl, (unhide HV5).mono hb3, hV6.mono hb2, (unhide HC0).mono hb4, (unhide HC1).mono hb4, (unhide HB0).trans (hb4.mono (unhide HB0).size)⟩
  have HL6 : Hid ((L6 = 0 ↔ q.n = 0)) := hide (by rw [← hL6, List.length_eq_zero_iff, digs_nil, Int.natAbs_eq_zero])
  have DP : Hid ((digs p.n.natAbs).length ≤ 19) := hide (digs_i64 (unhide HP).1 (unhide HP).2)
  have DQ : Hid ((digs q.n.natAbs).length ≤ 19) := hide (digs_i64 (unhide HQ).1 (unhide HQ).2)
  have HOI := hide hOI
  obtain ⟨⟨x0, x1⟩, -⟩ := two hOI.B5
  obtain ⟨⟨y0, y1⟩, -⟩ := two hOI.B6
  clear hb1 hb2 hb3 hb4 hB6 hV6 hOI b0 b1 b2 hbs6 hL6 HB02 HC0 HC1 HR HB0 HB5 HV5
  go_wp2_with fail
  try rw [hX6]
  try rw [hW]
  clear hW hX6 w1
  by_cases h1 : p.n < q.n
  · have h1t : decide (p.n < q.n) = true := decide_eq_true h1
    refine (l2BigLess_any _ _ p.n q.n W (unhide HOI).V5 (unhide HOI).V6 (by have := unhide DP; omega) (by have := unhide DQ; omega)).mono ?_
    rintro e w3 ⟨rfl, hb⟩
    have HOI3 := hide ((unhide HOI).mono hb)
    clear hb
    clear x0 x1 y0 y1
    obtain ⟨⟨x0, x1⟩, -⟩ := two (unhide HOI3).B5
    obtain ⟨⟨y0, y1⟩, -⟩ := two (unhide HOI3).B6
    rw [h1t]
    obtain ⟨-, m0, m1, m2⟩ := (unhide HOI3).c1
    have HZ : Hid (int2 18 p.n q.n = q) := hide ((show int2 18 p.n q.n = intX q.n by simp [int2, h1]).trans (unhide HQK).symm)
    obtain ⟨r0, r1, r2⟩ := three (unhide HOI3).R
    have f0 := (unhide HOI3).R.free 0; have f1 := (unhide HOI3).R.free 1; have f2 := (unhide HOI3).R.free 2
    clear x0 x1 y0 y1 h1t
    go_wp2
    exact bodyPost_ret (v := .agg #[.int .i64 q.k, .int .i64 q.n, .string q.s]) (by simp [results, Tryz.results19, go_sem, *]) rfl ⟨by rw [unhide HZ]; rfl, vx_out (unhide HOI3).low _ _ _⟩
  have h1t : decide (p.n < q.n) = false := decide_eq_false h1
  refine (l2BigLess_any _ _ p.n q.n W (unhide HOI).V5 (unhide HOI).V6 (by have := unhide DP; omega) (by have := unhide DQ; omega)).mono ?_
  rintro e w3 ⟨rfl, hb⟩
  have HOI3 := hide ((unhide HOI).mono hb)
  clear hb
  clear x0 x1 y0 y1
  obtain ⟨⟨x0, x1⟩, -⟩ := two (unhide HOI3).B5
  obtain ⟨⟨y0, y1⟩, -⟩ := two (unhide HOI3).B6
  rw [h1t]
  obtain ⟨-, m0, m1, m2⟩ := (unhide HOI3).c0
  have HZ : Hid (int2 18 p.n q.n = p) := hide ((show int2 18 p.n q.n = intX p.n by simp [int2, h1]).trans (unhide HPK).symm)
  obtain ⟨r0, r1, r2⟩ := three (unhide HOI3).R
  have f0 := (unhide HOI3).R.free 0; have f1 := (unhide HOI3).R.free 1; have f2 := (unhide HOI3).R.free 2
  clear x0 x1 y0 y1 h1t
  go_wp2
  exact bodyPost_ret (v := .agg #[.int .i64 p.k, .int .i64 p.n, .string p.s]) (by simp [results, Tryz.results19, go_sem, *]) rfl ⟨by rw [unhide HZ]; rfl, vx_out (unhide HOI3).low _ _ _⟩

set_option maxRecDepth 100000 in
set_option maxHeartbeats 8000000 in
theorem onInts_cat (b o c : Nat) (p q : Vx) (w : World) (h0 : Cel w b o p) (h1 : Cel w b (o + 3) q) (hp : -9223372036854775808 ≤ p.n ∧ p.n ≤ 9223372036854775807) (hq : -9223372036854775808 ≤ q.n ∧ q.n ≤ 9223372036854775807) :
    Calls Tryz.prog 19 #[.int .i64 9, .slice (some ⟨b, o, none⟩) 2 c] w fun e w' => e = .returned (vv (int2 9 p.n q.n)) ∧ Below w.heap.size w w' := by
  obtain ⟨W0, hW0⟩ : ∃ W0, w.alloc (.cells #[.int .i64 0, .int .i64 0, .string ⟨#[]⟩] 25) = W0 := ⟨_, rfl⟩
  have hb0 : Below w.heap.size w W0 := by rw [← hW0]; exact (Below.refl _ _).alloc (Nat.le_refl _) _
  have bR : Blk W0 w.heap.size 25 [.int .i64 0, .int .i64 0, .string ⟨#[]⟩] := by rw [← hW0]; exact Blk.new w 25 #[.int .i64 0, .int .i64 0, .string ⟨#[]⟩]
  have hC0 := h0.mono hb0; have hC1 := h1.mono hb0
  have HC0 := hide hC0; have HC1 := hide hC1; have HR := hide bR; have HB0 := hide hb0; have HP := hide hp; have HQ := hide hq
  obtain ⟨-, a0, a1, a2⟩ := hC0
  clear hb0 bR hC1 h0 h1 hp hq
  go_enter Tryz.func19, Tryz.ntmps19
  go_wp2_with fail
  try rw [hW0]
  clear hW0
  refine (l2FromInt_any p.n W0 (unhide HP).1 (unhide HP).2).mono ?_
  rintro e w1 ⟨u5, rfl, hu5, hb1⟩
  obtain ⟨s5, hs5⟩ : ∃ s5, Value.bool (decide (p.n < 0)) = s5 := ⟨_, rfl⟩
  have hV5 : BigV w1 (.agg #[s5, u5]) p.n := ⟨u5, by rw [hs5], hu5⟩
  obtain ⟨g5, cc5, rfl, -⟩ := hu5
  rw [hs5]
  obtain ⟨L5, hL5⟩ : ∃ L5, (digs p.n.natAbs).length = L5 := ⟨_, rfl⟩
  rw [hL5] at hV5 ⊢
  obtain ⟨bs5, hbs5⟩ : ∃ bs5, decide (p.n < 0) = bs5 := ⟨_, rfl⟩
  rw [hbs5] at hs5
  subst hs5
  obtain ⟨w2, hw2⟩ : ∃ w2, w1.alloc (.cells #[.bool bs5, .slice g5 L5 cc5] 46) = w2 := ⟨_, rfl⟩
  have hb2 : Below w1.heap.size w1 w2 := by rw [← hw2]; exact (Below.refl _ _).alloc (Nat.le_refl _) _
  obtain ⟨X5, hX5⟩ : ∃ X5, w1.heap.size = X5 := ⟨_, rfl⟩
  have hB5 : Blk w2 X5 46 [.bool bs5, .slice g5 L5 cc5] := by rw [← hX5, ← hw2]; exact Blk.new w1 46 #[.bool bs5, .slice g5 L5 cc5]
  have hb02 : Below W0.heap.size W0 w2 := hb1.trans (hb2.mono hb1.size)
  have HB5 := hide hB5; have HV5 := hide (hV5.mono hb2); have HB02 := hide hb02
  have hC1 := (unhide HC1).mono hb02
  obtain ⟨-, b0, b1, b2⟩ := hC1
  clear hb1 hb2 hB5 hV5 hb02 a0 a1 a2 hbs5 hL5
  go_wp2_with fail
  try rw [hX5]
  try rw [hw2]
  clear hw2 hX5 w1
  refine (l2FromInt_any q.n w2 (unhide HQ).1 (unhide HQ).2).mono ?_
  rintro e w1 ⟨u6, rfl, hu6, hb1⟩
  obtain ⟨s6, hs6⟩ : ∃ s6, Value.bool (decide (q.n < 0)) = s6 := ⟨_, rfl⟩
  have hV6 : BigV w1 (.agg #[s6, u6]) q.n := ⟨u6, by rw [hs6], hu6⟩
  obtain ⟨g6, cc6, rfl, -⟩ := hu6
  rw [hs6]
  obtain ⟨L6, hL6⟩ : ∃ L6, (digs q.n.natAbs).length = L6 := ⟨_, rfl⟩
  rw [hL6] at hV6 ⊢
  obtain ⟨bs6, hbs6⟩ : ∃ bs6, decide (q.n < 0) = bs6 := ⟨_, rfl⟩
  rw [hbs6] at hs6
  subst hs6
  obtain ⟨W, hW⟩ : ∃ W, w1.alloc (.cells #[.bool bs6, .slice g6 L6 cc6] 46) = W := ⟨_, rfl⟩
  have hb2 : Below w1.heap.size w1 W := by rw [← hW]; exact (Below.refl _ _).alloc (Nat.le_refl _) _
  obtain ⟨X6, hX6⟩ : ∃ X6, w1.heap.size = X6 := ⟨_, rfl⟩
  have hB6 : Blk W X6 46 [.bool bs6, .slice g6 L6 cc6] := by rw [← hX6, ← hW]; exact Blk.new w1 46 #[.bool bs6, .slice g6 L6 cc6]
  have hb3 : Below w2.heap.size w2 W := hb1.trans (hb2.mono hb1.size)
  have hb4 : Below W0.heap.size W0 W := (unhide HB02).trans (hb3.mono (unhide HB02).size)
  have hOI : OI w W b o X5 X6 p q (.agg #[.bool bs5, .slice g5 L5 cc5]) (.agg #[.bool bs6, .slice g6 L6 cc6]) (.bool bs5) (.slice g5 L5 cc5) (.bool bs6) (.slice g6 L6 cc6) :=
    ⟨(unhide HR).mono hb4 (unhide HR).lt, (unhide HB5).mono hb3 (unhide HB5).lt, hB6, rfl, rfl, (unhide HV5).mono hb3, hV6.mono hb2, (unhide HC0).mono hb4, (unhide HC1).mono hb4, (unhide HB0).trans (hb4.mono (unhide HB0).size)⟩
  have HL6 : Hid ((L6 = 0 ↔ q.n = 0)) := hide (by rw [← hL6, List.length_eq_zero_iff, digs_nil, Int.natAbs_eq_zero])
  have DP : Hid ((digs p.n.natAbs).length ≤ 19) := hide (digs_i64 (unhide HP).1 (unhide HP).2)
  have DQ : Hid ((digs q.n.natAbs).length ≤ 19) := hide (digs_i64 (unhide HQ).1 (unhide HQ).2)
  have HOI := hide hOI
  obtain ⟨⟨x0, x1⟩, -⟩ := two hOI.B5
  obtain ⟨⟨y0, y1⟩, -⟩ := two hOI.B6
  clear hb1 hb2 hb3 hb4 hB6 hV6 hOI b0 b1 b2 hbs6 hL6 HB02 HC0 HC1 HR HB0 HB5 HV5
  go_wp2_with fail
  try rw [hX6]
  try rw [hW]
  clear hW hX6 w1
  refine (l2Err_any 1 W).mono ?_
  rintro e w3 ⟨rfl, hb⟩
  have HOI3 := hide ((unhide HOI).mono hb)
  clear hb
  rw [show (Value.agg #[.int .i64 4, .int .i64 1, .string ⟨#[]⟩]) = vv (errX 1) from rfl]
  obtain ⟨z, hz⟩ : ∃ z, errX 1 = z := ⟨_, rfl⟩
  have HZ : Hid (int2 9 p.n q.n = z) := hide (by
    rw [← hz]
    simp [int2])
  rw [hz]
  clear hz
  unfold vv
  obtain ⟨r0, r1, r2⟩ := three (unhide HOI3).R
  have f0 := (unhide HOI3).R.free 0; have f1 := (unhide HOI3).R.free 1; have f2 := (unhide HOI3).R.free 2
  clear x0 x1 y0 y1
  go_wp2
  exact bodyPost_ret (v := .agg #[.int .i64 z.k, .int .i64 z.n, .string z.s]) (by simp [results, Tryz.results19, go_sem, *]) rfl ⟨by rw [unhide HZ]; rfl, vx_out (unhide HOI3).low _ _ _⟩

set_option maxRecDepth 100000 in
set_option maxHeartbeats 8000000 in
theorem onInts_has (b o c : Nat) (p q : Vx) (w : World) (h0 : Cel w b o p) (h1 : Cel w b (o + 3) q) (hp : -9223372036854775808 ≤ p.n ∧ p.n ≤ 9223372036854775807) (hq : -9223372036854775808 ≤ q.n ∧ q.n ≤ 9223372036854775807) :
    Calls Tryz.prog 19 #[.int .i64 20, .slice (some ⟨b, o, none⟩) 2 c] w fun e w' => e = .returned (vv (int2 20 p.n q.n)) ∧ Below w.heap.size w w' := by
  obtain ⟨W0, hW0⟩ : ∃ W0, w.alloc (.cells #[.int .i64 0, .int .i64 0, .string ⟨#[]⟩] 25) = W0 := ⟨_, rfl⟩
  have hb0 : Below w.heap.size w W0 := by rw [← hW0]; exact (Below.refl _ _).alloc (Nat.le_refl _) _
  have bR : Blk W0 w.heap.size 25 [.int .i64 0, .int .i64 0, .string ⟨#[]⟩] := by rw [← hW0]; exact Blk.new w 25 #[.int .i64 0, .int .i64 0, .string ⟨#[]⟩]
  have hC0 := h0.mono hb0; have hC1 := h1.mono hb0
  have HC0 := hide hC0; have HC1 := hide hC1; have HR := hide bR; have HB0 := hide hb0; have HP := hide hp; have HQ := hide hq
  obtain ⟨-, a0, a1, a2⟩ := hC0
  clear hb0 bR hC1 h0 h1 hp hq
  go_enter Tryz.func19, Tryz.ntmps19
  go_wp2_with fail
  try rw [hW0]
  clear hW0
  refine (l2FromInt_any p.n W0 (unhide HP).1 (unhide HP).2).mono ?_
  rintro e w1 ⟨u5, rfl, hu5, hb1⟩
  obtain ⟨s5, hs5⟩ : ∃ s5, Value.bool (decide (p.n < 0)) = s5 := ⟨_, rfl⟩
  have hV5 : BigV w1 (.agg #[s5, u5]) p.n := ⟨u5, by rw [hs5], hu5⟩
  obtain ⟨g5, cc5, rfl, -⟩ := hu5
  rw [hs5]
  obtain ⟨L5, hL5⟩ : ∃ L5, (digs p.n.natAbs).length = L5 := ⟨_, rfl⟩
  rw [hL5] at hV5 ⊢
  obtain ⟨bs5, hbs5⟩ : ∃ bs5, decide (p.n < 0) = bs5 := ⟨_, rfl⟩
  rw [hbs5] at hs5
  subst hs5
  obtain ⟨w2, hw2⟩ : ∃ w2, w1.alloc (.cells #[.bool bs5, .slice g5 L5 cc5] 46) = w2 := ⟨_, rfl⟩
  have hb2 : Below w1.heap.size w1 w2 := by rw [← hw2]; exact (Below.refl _ _).alloc (Nat.le_refl _) _
  obtain ⟨X5, hX5⟩ : ∃ X5, w1.heap.size = X5 := ⟨_, rfl⟩
  have hB5 : Blk w2 X5 46 [.bool bs5, .slice g5 L5 cc5] := by rw [← hX5, ← hw2]; exact Blk.new w1 46 #[.bool bs5, .slice g5 L5 cc5]
  have hb02 : Below W0.heap.size W0 w2 := hb1.trans (hb2.mono hb1.size)
  have HB5 := hide hB5; have HV5 := hide (hV5.mono hb2); have HB02 := hide hb02
  have hC1 := (unhide HC1).mono hb02
  obtain ⟨-, b0, b1, b2⟩ := hC1
  clear hb1 hb2 hB5 hV5 hb02 a0 a1 a2 hbs5 hL5
  go_wp2_with fail
  try rw [hX5]
  try rw [hw2]
  clear hw2 hX5 w1
  refine (l2FromInt_any q.n w2 (unhide HQ).1 (unhide HQ).2).mono ?_
  rintro e w1 ⟨u6, rfl, hu6, hb1⟩
  obtain ⟨s6, hs6⟩ : ∃ s6, Value.bool (decide (q.n < 0)) = s6 := ⟨_, rfl⟩
  have hV6 : BigV w1 (.agg #[s6, u6]) q.n := ⟨u6, by rw [hs6], hu6⟩
  obtain ⟨g6, cc6, rfl, -⟩ := hu6
  rw [hs6]
  obtain ⟨L6, hL6⟩ : ∃ L6, (digs q.n.natAbs).length = L6 := ⟨_, rfl⟩
  rw [hL6] at hV6 ⊢
  obtain ⟨bs6, hbs6⟩ : ∃ bs6, decide (q.n < 0) = bs6 := ⟨_, rfl⟩
  rw [hbs6] at hs6
  subst hs6
  obtain ⟨W, hW⟩ : ∃ W, w1.alloc (.cells #[.bool bs6, .slice g6 L6 cc6] 46) = W := ⟨_, rfl⟩
  have hb2 : Below w1.heap.size w1 W := by rw [← hW]; exact (Below.refl _ _).alloc (Nat.le_refl _) _
  obtain ⟨X6, hX6⟩ : ∃ X6, w1.heap.size = X6 := ⟨_, rfl⟩
  have hB6 : Blk W X6 46 [.bool bs6, .slice g6 L6 cc6] := by rw [← hX6, ← hW]; exact Blk.new w1 46 #[.bool bs6, .slice g6 L6 cc6]
  have hb3 : Below w2.heap.size w2 W := hb1.trans (hb2.mono hb1.size)
  have hb4 : Below W0.heap.size W0 W := (unhide HB02).trans (hb3.mono (unhide HB02).size)
  have hOI : OI w W b o X5 X6 p q (.agg #[.bool bs5, .slice g5 L5 cc5]) (.agg #[.bool bs6, .slice g6 L6 cc6]) (.bool bs5) (.slice g5 L5 cc5) (.bool bs6) (.slice g6 L6 cc6) :=
    ⟨(unhide HR).mono hb4 (unhide HR).lt, (unhide HB5).mono hb3 (unhide HB5).lt, hB6, rfl, rfl, (unhide HV5).mono hb3, hV6.mono hb2, (unhide HC0).mono hb4, (unhide HC1).mono hb4, (unhide HB0).trans (hb4.mono (unhide HB0).size)⟩
  have HL6 : Hid ((L6 = 0 ↔ q.n = 0)) := hide (by rw [← hL6, List.length_eq_zero_iff, digs_nil, Int.natAbs_eq_zero])
  have DP : Hid ((digs p.n.natAbs).length ≤ 19) := hide (digs_i64 (unhide HP).1 (unhide HP).2)
  have DQ : Hid ((digs q.n.natAbs).length ≤ 19) := hide (digs_i64 (unhide HQ).1 (unhide HQ).2)
  have HOI := hide hOI
  obtain ⟨⟨x0, x1⟩, -⟩ := two hOI.B5
  obtain ⟨⟨y0, y1⟩, -⟩ := two hOI.B6
  clear hb1 hb2 hb3 hb4 hB6 hV6 hOI b0 b1 b2 hbs6 hL6 HB02 HC0 HC1 HR HB0 HB5 HV5
  go_wp2_with fail
  try rw [hX6]
  try rw [hW]
  clear hW hX6 w1
  refine (l2Err_any 1 W).mono ?_
  rintro e w3 ⟨rfl, hb⟩
  have HOI3 := hide ((unhide HOI).mono hb)
  clear hb
  rw [show (Value.agg #[.int .i64 4, .int .i64 1, .string ⟨#[]⟩]) = vv (errX 1) from rfl]
  obtain ⟨z, hz⟩ : ∃ z, errX 1 = z := ⟨_, rfl⟩
  have HZ : Hid (int2 20 p.n q.n = z) := hide (by
    rw [← hz]
    simp [int2])
  rw [hz]
  clear hz
  unfold vv
  obtain ⟨r0, r1, r2⟩ := three (unhide HOI3).R
  have f0 := (unhide HOI3).R.free 0; have f1 := (unhide HOI3).R.free 1; have f2 := (unhide HOI3).R.free 2
  clear x0 x1 y0 y1
  go_wp2
  exact bodyPost_ret (v := .agg #[.int .i64 z.k, .int .i64 z.n, .string z.s]) (by simp [results, Tryz.results19, go_sem, *]) rfl ⟨by rw [unhide HZ]; rfl, vx_out (unhide HOI3).low _ _ _⟩

end Go.Proofs.YtnmpkdmflijhpaaGreatDoor
