/- The model's exact integers: products and quotients with a sign; the integer of a result. -/
import Derived.Test.YtnmpkdmflijhpaaGreatDoorBig5
import Derived.Test.YtnmpkdmflijhpaaGreatDoorBig8
import Derived.Test.YtnmpkdmflijhpaaGreatDoorBig9
import Derived.Test.YtnmpkdmflijhpaaGreatDoorBig10
import Derived.Test.YtnmpkdmflijhpaaGreatDoorMk
namespace Go.Proofs.YtnmpkdmflijhpaaGreatDoor
open Go Go.RowKit

theorem l2Err_any (n : Int) (w : World) : Calls Tryz.prog 12 #[.int .i64 n] w fun e w' => e = .returned (.agg #[.int .i64 4, .int .i64 n, .string ⟨#[]⟩]) ∧ Below w.heap.size w w' := by
  go_enter Tryz.func12, Tryz.ntmps12
  go_wp2
  exact bodyPost_ret (v := .agg #[.int .i64 4, .int .i64 n, .string ⟨#[]⟩]) (by simp [results, Tryz.results12, go_sem, *]) rfl ⟨rfl, (Below.refl _ _).alloc (Nat.le_refl _) _⟩
theorem mul_sign (x y : Int) : x * y < 0 ↔ ¬(x < 0 ↔ y < 0) ∧ ¬ x * y = 0 := by
  rcases Int.lt_trichotomy x 0 with hx | hx | hx <;> rcases Int.lt_trichotomy y 0 with hy | hy | hy
  · have := Int.mul_pos_of_neg_of_neg hx hy; omega
  · subst hy; simp
  · have := Int.mul_neg_of_neg_of_pos hx hy; omega
  · subst hx; simp
  · subst hx; simp
  · subst hx; simp
  · have := Int.mul_neg_of_pos_of_neg hx hy; omega
  · subst hy; simp
  · have := Int.mul_pos hx hy; omega
theorem tdiv_sign (x y : Int) : x.tdiv y < 0 ↔ ¬(x < 0 ↔ y < 0) ∧ ¬ x.tdiv y = 0 := by
  obtain ⟨a, ha⟩ := x.eq_nat_or_neg
  obtain ⟨b, hb⟩ := y.eq_nat_or_neg
  obtain ⟨q, hq⟩ : ∃ q, a / b = q := ⟨_, rfl⟩
  have h0 : a = 0 → q = 0 := fun h => by rw [← hq, h]; simp
  have h1 : b = 0 → q = 0 := fun h => by rw [← hq, h]; simp
  have h2 : (a : Int).tdiv b = q := by rw [← hq]; rfl
  clear hq
  rcases ha with rfl | rfl <;> rcases hb with rfl | rfl
  · rw [h2]; omega
  · rw [Int.tdiv_neg, h2]; omega
  · rw [Int.neg_tdiv, h2]; omega
  · rw [Int.neg_tdiv, Int.tdiv_neg, h2]; omega

set_option maxRecDepth 100000 in
set_option maxHeartbeats 4000000 in
theorem l2BigMul_any (v u : Value) (x y : Int) (w : World) (hv : BigV w v x) (hu : BigV w u y) (bx : (digs x.natAbs).length ≤ 200) (by' : (digs y.natAbs).length ≤ 200) :
    Calls Tryz.prog 34 #[v, u] w fun e w' => ∃ r, e = .returned r ∧ BigV w' r (x * y) ∧ Below w.heap.size w w' := by
  obtain ⟨v1, rfl, hv1⟩ := hv
  obtain ⟨u1, rfl, hu1⟩ := hu
  have HV := hide hv1; have HU := hide hu1
  obtain ⟨a, ca, rfl, -⟩ := hv1
  obtain ⟨b, cb, rfl, -⟩ := hu1
  have HAbs : Hid ((x * y).natAbs = x.natAbs * y.natAbs) := hide (Int.natAbs_mul x y)
  have HSg : Hid (decide (x * y < 0) = (decide (x < 0) != decide (y < 0) && decide (0 < (digs (x * y).natAbs).length))) := hide (by
    rw [Bool.eq_iff_iff]
    simp only [decide_eq_true_eq, Bool.and_eq_true, bne_iff_ne, ne_eq, decide_eq_decide]
    rw [Nat.pos_iff_ne_zero, ne_eq, List.length_eq_zero_iff, digs_nil, Int.natAbs_eq_zero]
    exact mul_sign x y)
  obtain ⟨sx, hsx⟩ : ∃ sx, decide (x < 0) = sx := ⟨_, rfl⟩
  obtain ⟨sy, hsy⟩ : ∃ sy, decide (y < 0) = sy := ⟨_, rfl⟩
  rw [hsx] at HSg ⊢; rw [hsy] at HSg ⊢
  clear hsx hsy
  obtain ⟨lx, hlx⟩ : ∃ lx, (digs x.natAbs).length = lx := ⟨_, rfl⟩
  obtain ⟨ly, hly⟩ : ∃ ly, (digs y.natAbs).length = ly := ⟨_, rfl⟩
  rw [hlx] at HV bx ⊢; rw [hly] at HU by' ⊢
  have HLX := hide hlx; have HLY := hide hly; clear hlx hly
  obtain ⟨W, hW⟩ : ∃ W, ((w.alloc (.cells #[.bool sx, .slice a lx ca] 46)).alloc (.cells #[.bool sy, .slice b ly cb] 46)).alloc (.cells #[.bool false, .slice none 0 0] 46) = W := ⟨_, rfl⟩
  have hw : Below w.heap.size w W := by rw [← hW]; exact (((Below.refl _ w).alloc (Nat.le_refl _) _).alloc (by simp) _).alloc (by simp; omega) _
  have bA : Blk W w.heap.size 46 [.bool sx, .slice a lx ca] := by rw [← hW]; exact ((Blk.new w 46 #[.bool sx, .slice a lx ca]).alloc _).alloc _
  have bB : Blk W (w.heap.size + 1) 46 [.bool sy, .slice b ly cb] := by rw [← hW]; exact (by simpa using Blk.new (w.alloc (.cells #[.bool sx, .slice a lx ca] 46)) 46 #[.bool sy, .slice b ly cb] : Blk ((w.alloc (.cells #[.bool sx, .slice a lx ca] 46)).alloc (.cells #[.bool sy, .slice b ly cb] 46)) (w.heap.size + 1) 46 [.bool sy, .slice b ly cb]).alloc _
  have bR : Blk W (w.heap.size + 2) 46 [.bool false, .slice none 0 0] := by rw [← hW]; simpa using Blk.new ((w.alloc (.cells #[.bool sx, .slice a lx ca] 46)).alloc (.cells #[.bool sy, .slice b ly cb] 46)) 46 #[.bool false, .slice none 0 0]
  have HA := hide bA; have HB := hide bB; have HR := hide bR; have HW := hide hw
  obtain ⟨⟨p0, p1⟩, -⟩ := two bA
  obtain ⟨⟨q0, q1⟩, -⟩ := two bB
  clear bA bB bR hw
  go_enter Tryz.func34, Tryz.ntmps34
  go_wp2_with fail
  try rw [hW]
  clear hW
  refine (l2MagMul_any _ _ _ _ W ((unhide HV).mono (unhide HW)) ((unhide HU).mono (unhide HW)) (dig_digs _) (dig_digs _) (by have := unhide HLX; omega) (by have := unhide HLY; omega)).mono ?_
  rintro e w4 ⟨r, rfl, hr, hb4⟩
  rw [dval_digs, dval_digs, ← unhide HAbs] at hr
  have HRr := hide hr
  obtain ⟨g, cg, rfl, -⟩ := hr
  have bA := (unhide HA).mono hb4 (unhide HA).lt; have bB := (unhide HB).mono hb4 (unhide HB).lt; have bR := (unhide HR).mono hb4 (unhide HR).lt
  have HW4 := hide ((unhide HW).trans (hb4.mono (unhide HW).size))
  obtain ⟨L, hL⟩ : ∃ L, (digs (x * y).natAbs).length = L := ⟨_, rfl⟩
  rw [hL] at HSg HRr ⊢
  have HLL := hide hL
  clear hL hb4 p0 p1 q0 q1
  obtain ⟨⟨p0, p1⟩, -⟩ := two bA
  obtain ⟨⟨q0, q1⟩, -⟩ := two bB
  obtain ⟨⟨r0, r1⟩, ⟨f0, f1⟩⟩ := two bR
  have HbR := hide bR
  have fin : ∀ s, decide (x * y < 0) = s → BigV ((w4.setCell ⟨w.heap.size + 2, 0, none⟩ (.bool s)).setCell ⟨w.heap.size + 2, 1, none⟩ (.slice g L cg)) (.agg #[.bool s, .slice g L cg]) (x * y) ∧ Below w.heap.size w ((w4.setCell ⟨w.heap.size + 2, 0, none⟩ (.bool s)).setCell ⟨w.heap.size + 2, 1, none⟩ (.slice g L cg)) := fun s hs =>
    ⟨⟨_, by rw [hs], ((unhide HRr).set (unhide HbR) (fun z h => by cases h) 0 _).set ((unhide HbR).set 0 _) (fun z h => by cases h) 1 _⟩, ((unhide HW4).setCell (by simp) _).setCell (by simp) _⟩
  have HF := hide fin
  clear bA bB bR fin
  have hsg := unhide HSg
  clear HSg
  cases sx <;> cases sy <;> cases hL0 : decide (0 < L) <;> rw [hL0] at hsg <;> simp only [bne_self_eq_false, Bool.and_false, Bool.and_true, show (false != true) = true from rfl, show (true != false) = true from rfl] at hsg
  all_goals (
    have HSG := hide hsg
    have hl0 : decide ((0 : Int) < L) = decide (0 < L) := by simp
    rw [hL0] at hl0
    clear hsg
    go_wp2
    first
      | exact bodyPost_ret (v := .agg #[.bool false, .slice g L cg]) (by simp [results, Tryz.results34, go_sem, *]) rfl ⟨_, rfl, (unhide HF false (unhide HSG)).1, (unhide HF false (unhide HSG)).2⟩
      | exact bodyPost_ret (v := .agg #[.bool true, .slice g L cg]) (by simp [results, Tryz.results34, go_sem, *]) rfl ⟨_, rfl, (unhide HF true (unhide HSG)).1, (unhide HF true (unhide HSG)).2⟩)
set_option maxRecDepth 100000 in
set_option maxHeartbeats 4000000 in
theorem l2BigQuo_any (v u : Value) (x y : Int) (w : World) (hv : BigV w v x) (hu : BigV w u y) (bx : (digs x.natAbs).length ≤ 200) (by' : (digs y.natAbs).length ≤ 200) (h0 : y ≠ 0) :
    Calls Tryz.prog 36 #[v, u] w fun e w' => ∃ r, e = .returned r ∧ BigV w' r (x.tdiv y) ∧ Below w.heap.size w w' := by
  obtain ⟨v1, rfl, hv1⟩ := hv
  obtain ⟨u1, rfl, hu1⟩ := hu
  have HV := hide hv1; have HU := hide hu1
  obtain ⟨a, ca, rfl, -⟩ := hv1
  obtain ⟨b, cb, rfl, -⟩ := hu1
  have HAbs : Hid ((x.tdiv y).natAbs = x.natAbs / y.natAbs) := hide (Int.natAbs_tdiv x y)
  have HSg : Hid (decide (x.tdiv y < 0) = (decide (x < 0) != decide (y < 0) && decide (0 < (digs (x.tdiv y).natAbs).length))) := hide (by
    rw [Bool.eq_iff_iff]
    simp only [decide_eq_true_eq, Bool.and_eq_true, bne_iff_ne, ne_eq, decide_eq_decide]
    rw [Nat.pos_iff_ne_zero, ne_eq, List.length_eq_zero_iff, digs_nil, Int.natAbs_eq_zero]
    exact tdiv_sign x y)
  obtain ⟨sx, hsx⟩ : ∃ sx, decide (x < 0) = sx := ⟨_, rfl⟩
  obtain ⟨sy, hsy⟩ : ∃ sy, decide (y < 0) = sy := ⟨_, rfl⟩
  rw [hsx] at HSg ⊢; rw [hsy] at HSg ⊢
  clear hsx hsy
  obtain ⟨lx, hlx⟩ : ∃ lx, (digs x.natAbs).length = lx := ⟨_, rfl⟩
  obtain ⟨ly, hly⟩ : ∃ ly, (digs y.natAbs).length = ly := ⟨_, rfl⟩
  rw [hlx] at HV bx ⊢; rw [hly] at HU by' ⊢
  have HLX := hide hlx; have HLY := hide hly; clear hlx hly
  obtain ⟨W, hW⟩ : ∃ W, ((w.alloc (.cells #[.bool sx, .slice a lx ca] 46)).alloc (.cells #[.bool sy, .slice b ly cb] 46)).alloc (.cells #[.bool false, .slice none 0 0] 46) = W := ⟨_, rfl⟩
  have hw : Below w.heap.size w W := by rw [← hW]; exact (((Below.refl _ w).alloc (Nat.le_refl _) _).alloc (by simp) _).alloc (by simp; omega) _
  have bA : Blk W w.heap.size 46 [.bool sx, .slice a lx ca] := by rw [← hW]; exact ((Blk.new w 46 #[.bool sx, .slice a lx ca]).alloc _).alloc _
  have bB : Blk W (w.heap.size + 1) 46 [.bool sy, .slice b ly cb] := by rw [← hW]; exact (by simpa using Blk.new (w.alloc (.cells #[.bool sx, .slice a lx ca] 46)) 46 #[.bool sy, .slice b ly cb] : Blk ((w.alloc (.cells #[.bool sx, .slice a lx ca] 46)).alloc (.cells #[.bool sy, .slice b ly cb] 46)) (w.heap.size + 1) 46 [.bool sy, .slice b ly cb]).alloc _
  have bR : Blk W (w.heap.size + 2) 46 [.bool false, .slice none 0 0] := by rw [← hW]; simpa using Blk.new ((w.alloc (.cells #[.bool sx, .slice a lx ca] 46)).alloc (.cells #[.bool sy, .slice b ly cb] 46)) 46 #[.bool false, .slice none 0 0]
  have HA := hide bA; have HB := hide bB; have HR := hide bR; have HW := hide hw
  obtain ⟨⟨p0, p1⟩, -⟩ := two bA
  obtain ⟨⟨q0, q1⟩, -⟩ := two bB
  clear bA bB bR hw
  go_enter Tryz.func36, Tryz.ntmps36
  go_wp2_with fail
  try rw [hW]
  clear hW
  refine (l2MagDiv_any _ _ _ _ W ((unhide HV).mono (unhide HW)) ((unhide HU).mono (unhide HW)) (dig_digs _) (dig_digs _) (by have := unhide HLX; omega) (by have := unhide HLY; omega) (by rw [dval_digs]; omega)).mono ?_
  rintro e w4 ⟨r, rfl, hr, hb4⟩
  rw [dval_digs, dval_digs, ← unhide HAbs] at hr
  have HRr := hide hr
  obtain ⟨g, cg, rfl, -⟩ := hr
  have bA := (unhide HA).mono hb4 (unhide HA).lt; have bB := (unhide HB).mono hb4 (unhide HB).lt; have bR := (unhide HR).mono hb4 (unhide HR).lt
  have HW4 := hide ((unhide HW).trans (hb4.mono (unhide HW).size))
  obtain ⟨L, hL⟩ : ∃ L, (digs (x.tdiv y).natAbs).length = L := ⟨_, rfl⟩
  rw [hL] at HSg HRr ⊢
  have HLL := hide hL
  clear hL hb4 p0 p1 q0 q1
  obtain ⟨⟨p0, p1⟩, -⟩ := two bA
  obtain ⟨⟨q0, q1⟩, -⟩ := two bB
  obtain ⟨⟨r0, r1⟩, ⟨f0, f1⟩⟩ := two bR
  have HbR := hide bR
  have fin : ∀ s, decide (x.tdiv y < 0) = s → BigV ((w4.setCell ⟨w.heap.size + 2, 0, none⟩ (.bool s)).setCell ⟨w.heap.size + 2, 1, none⟩ (.slice g L cg)) (.agg #[.bool s, .slice g L cg]) (x.tdiv y) ∧ Below w.heap.size w ((w4.setCell ⟨w.heap.size + 2, 0, none⟩ (.bool s)).setCell ⟨w.heap.size + 2, 1, none⟩ (.slice g L cg)) := fun s hs =>
    ⟨⟨_, by rw [hs], ((unhide HRr).set (unhide HbR) (fun z h => by cases h) 0 _).set ((unhide HbR).set 0 _) (fun z h => by cases h) 1 _⟩, ((unhide HW4).setCell (by simp) _).setCell (by simp) _⟩
  have HF := hide fin
  clear bA bB bR fin
  have hsg := unhide HSg
  clear HSg
  cases sx <;> cases sy <;> cases hL0 : decide (0 < L) <;> rw [hL0] at hsg <;> simp only [bne_self_eq_false, Bool.and_false, Bool.and_true, show (false != true) = true from rfl, show (true != false) = true from rfl] at hsg
  all_goals (
    have HSG := hide hsg
    have hl0 : decide ((0 : Int) < L) = decide (0 < L) := by simp
    rw [hL0] at hl0
    clear hsg
    go_wp2
    first
      | exact bodyPost_ret (v := .agg #[.bool false, .slice g L cg]) (by simp [results, Tryz.results36, go_sem, *]) rfl ⟨_, rfl, (unhide HF false (unhide HSG)).1, (unhide HF false (unhide HSG)).2⟩
      | exact bodyPost_ret (v := .agg #[.bool true, .slice g L cg]) (by simp [results, Tryz.results36, go_sem, *]) rfl ⟨_, rfl, (unhide HF true (unhide HSG)).1, (unhide HF true (unhide HSG)).2⟩)
def chkV (z : Int) : Value := if fitsB z then .agg #[.int .i64 1, .int .i64 z, .string ⟨#[]⟩] else .agg #[.int .i64 4, .int .i64 2, .string ⟨#[]⟩]

set_option maxRecDepth 100000 in
set_option maxHeartbeats 4000000 in
theorem l2Checked_any (v : Value) (z : Int) (w : World) (hv : BigV w v z) (bz : (digs z.natAbs).length ≤ 500) :
    Calls Tryz.prog 30 #[v] w fun e w' => e = .returned (chkV z) ∧ Below w.heap.size w w' := by
  have HV := hide hv
  obtain ⟨u, rfl, hu⟩ := hv
  obtain ⟨a, ca, rfl, -, -, -⟩ := hu
  obtain ⟨s, hs⟩ : ∃ s, decide (z < 0) = s := ⟨_, rfl⟩
  obtain ⟨L, hL⟩ : ∃ L, (digs z.natAbs).length = L := ⟨_, rfl⟩
  rw [hs, hL] at HV ⊢
  rw [hL] at bz
  have HSL := hide (And.intro hs hL)
  clear hs hL
  obtain ⟨W, hW⟩ : ∃ W, (w.alloc (.cells #[.bool s, .slice a L ca] 46)).alloc (.cells #[.int .i64 0, .int .i64 0, .string ⟨#[]⟩] 25) = W := ⟨_, rfl⟩
  have hw : Below w.heap.size w W := by rw [← hW]; exact ((Below.refl _ w).alloc (Nat.le_refl _) _).alloc (by simp) _
  have bA : Blk W w.heap.size 46 [.bool s, .slice a L ca] := by rw [← hW]; exact (Blk.new w 46 #[.bool s, .slice a L ca]).alloc _
  have bR : Blk W (w.heap.size + 1) 25 [.int .i64 0, .int .i64 0, .string ⟨#[]⟩] := by rw [← hW]; simpa using Blk.new (w.alloc (.cells #[.bool s, .slice a L ca] 46)) 25 #[.int .i64 0, .int .i64 0, .string ⟨#[]⟩]
  have HA := hide bA; have HR := hide bR; have HW := hide hw
  obtain ⟨⟨p0, p1⟩, -⟩ := two bA
  clear bA bR hw
  go_enter Tryz.func30, Tryz.ntmps30
  go_wp2_with fail
  try rw [hW]
  clear hW
  refine (l2Fits_any _ z W ((unhide HV).mono (unhide HW)) (by have := (unhide HSL).2; omega)).mono ?_
  rintro e w2 ⟨rfl, hb2⟩
  have bA := (unhide HA).mono hb2 (unhide HA).lt; have bR := (unhide HR).mono hb2 (unhide HR).lt
  have HV2 := hide (((unhide HV).mono (unhide HW)).mono hb2)
  have HW2 := hide ((unhide HW).trans (hb2.mono (unhide HW).size))
  have HA2 := hide bA; have HR2 := hide bR
  clear p0 p1 hb2
  obtain ⟨⟨p0, p1⟩, -⟩ := two bA
  clear bA bR
  have hfit : fitsB z = true → -9223372036854775808 ≤ z ∧ z ≤ 9223372036854775807 := fun h => of_decide_eq_true h
  have HFit := hide hfit
  clear hfit
  cases hf : fitsB z with
  | true =>
    go_wp2_with fail
    refine (l2ToInt_any _ z w2 (unhide HV2) (unhide HFit hf).1 (unhide HFit hf).2).mono ?_
    rintro e w3 ⟨rfl, hb3⟩
    have HR3 := hide ((unhide HR2).mono hb3 (unhide HR2).lt); have HW3 := hide ((unhide HW2).trans (hb3.mono (unhide HW2).size))
    clear hb3
    go_wp2_with fail
    refine (l2Int_any z w3).mono ?_
    rintro e w4 ⟨rfl, hb4⟩
    have bR := (unhide HR3).mono hb4 (unhide HR3).lt; have HW4 := hide ((unhide HW3).trans (hb4.mono (unhide HW3).size))
    obtain ⟨r0, r1, r2⟩ := three bR
    have f0 := bR.free 0; have f1 := bR.free 1; have f2 := bR.free 2
    clear hb4 bR p0 p1
    go_wp2
    refine bodyPost_ret (v := .agg #[.int .i64 1, .int .i64 z, .string ⟨#[]⟩]) (by simp [results, Tryz.results30, go_sem, *]) rfl ⟨by simp [chkV, hf], ?_⟩
    exact (((unhide HW4).setCell (by simp) _).setCell (by simp) _).setCell (by simp) _
  | false =>
    go_wp2_with fail
    refine (l2Err_any 2 w2).mono ?_
    rintro e w4 ⟨rfl, hb4⟩
    have bR := (unhide HR2).mono hb4 (unhide HR2).lt; have HW4 := hide ((unhide HW2).trans (hb4.mono (unhide HW2).size))
    obtain ⟨r0, r1, r2⟩ := three bR
    have f0 := bR.free 0; have f1 := bR.free 1; have f2 := bR.free 2
    clear hb4 bR p0 p1
    go_wp2
    refine bodyPost_ret (v := .agg #[.int .i64 4, .int .i64 2, .string ⟨#[]⟩]) (by simp [results, Tryz.results30, go_sem, *]) rfl ⟨by simp [chkV, hf], ?_⟩
    exact (((unhide HW4).setCell (by simp) _).setCell (by simp) _).setCell (by simp) _
end Go.Proofs.YtnmpkdmflijhpaaGreatDoor
