/- The model's Apply: the operators with rules of their own. -/
import Derived.Test.YtnmpkdmflijhpaaGreatDoorApS
import Derived.Test.YtnmpkdmflijhpaaGreatDoorApB
namespace Go.Proofs.YtnmpkdmflijhpaaGreatDoor
open Go Go.RowKit

def elseX (p q : Vx) : Vx := if p.k = 0 then q else p
def ifX (p q r : Vx) : Vx := if p.k = 4 ∨ p.k = 0 then p else if p.k = 2 ∧ p.n = 1 then q else if p.k = 2 ∧ p.n = 0 then r else errX 1

set_option maxRecDepth 100000 in
set_option maxHeartbeats 8000000 in
theorem specApply_iserr (op : Int) (a : Option Addr) (m c : Nat) (f : Nat → Vx) (w : World) (hm : m = 1) (har : ar op = m) (hv : Vals w a m f) (hok : ∀ i, i < m → okVal (f i).k (f i).n (f i).s = true) (hs : ∀ i, i < m → (f i).s.size ≤ 9223372036854775807)
    (n25 : (op == 25) = true) :
    Calls Tryz.prog 5 #[.int .i64 op, .slice a m c] w fun e w' => e = .returned (vv (boolX ((f 0).k == 4))) ∧ Below w.heap.size w w' := by
  have HM := hide hm
  have hm1 : 1 ≤ m := by omega
  have hm3 : m ≤ 3 := by omega
  clear hm
  have hm0 : ((m : Int) == 0) = false := beq_eq_false_iff_ne.2 (by omega)
  have HAR := hide har; have HOK := hide hok; have HSZ := hide hs
  clear har hok hs
  obtain ⟨W0, hW0⟩ : ∃ W0, w.alloc (.cells #[.int .i64 0, .int .i64 0, .string ⟨#[]⟩] 25) = W0 := ⟨_, rfl⟩
  have hb0 : Below w.heap.size w W0 := by rw [← hW0]; exact (Below.refl _ _).alloc (Nat.le_refl _) _
  have bR : Blk W0 w.heap.size 25 [.int .i64 0, .int .i64 0, .string ⟨#[]⟩] := by rw [← hW0]; exact Blk.new w 25 #[.int .i64 0, .int .i64 0, .string ⟨#[]⟩]
  have HV0 := hide (hv.mono hb0); have HR0 := hide bR; have HW0 := hide hb0
  clear hb0 bR hv
  go_enter Tryz.func5, Tryz.ntmps5
  go_wp2_with fail
  try rw [hW0]
  clear hW0
  refine (l2Arity_any op W0).mono ?_
  rintro e w1 ⟨rfl, hw⟩
  rw [hw, unhide HAR]
  clear hw w1
  go_wp2_with fail
  refine (l2Arity_any op W0).mono ?_
  rintro e w1 ⟨rfl, hw⟩
  rw [hw, unhide HAR]
  clear hw w1
  go_wp2
  go_loopw [5] (fun i wr => ∃ k : Nat, k ≤ m ∧ i = .int .i64 k ∧ Blk wr w.heap.size 25 [.int .i64 0, .int .i64 0, .string ⟨#[]⟩] ∧ Below w.heap.size w wr ∧ Vals wr a m f) (fun i _ => m - (intOf i).toNat)
  case atStart => exact ⟨0, Nat.zero_le _, rfl, unhide HR0, unhide HW0, unhide HV0⟩
  case round =>
    clear HR0 HW0 HV0
    obtain ⟨k, hk, rfl, hR, hW, hV⟩ := hrel
    have HR := hide hR; have HW := hide hW; have HV := hide hV
    clear hR hW hV
    by_cases hlt : k < m
    · have hlt' : (k : Int) < m := by omega
      obtain ⟨b, o, rfl, -, c0, c1, c2⟩ := unhide HV k hlt
      go_wp2_with fail
      refine (specValidV_any (f k).k (f k).n (f k).s wr (unhide HSZ k hlt)).mono ?_
      rintro e w2 ⟨rfl, hb⟩
      rw [unhide HOK k hlt]
      have HR9 := hide ((unhide HR).mono hb (unhide HR).lt); have HW9 := hide ((unhide HW).trans (hb.mono (unhide HW).size)); have HV9 := hide ((unhide HV).mono hb)
      clear hb c0 c1 c2
      go_wp2
      go_roundw
      case rel => exact ⟨k + 1, by omega, by go_num, unhide HR9, unhide HW9, unhide HV9⟩
      case measure => simp [intOf]; omega
    · obtain rfl : k = m := by omega
      obtain ⟨W, rfl⟩ : ∃ W, W = wr := ⟨_, rfl⟩
      obtain ⟨b, o, ea, -, c0, c1, c2⟩ := unhide HV 0 (by omega)
      subst ea
      rw [Nat.zero_mul, Nat.add_zero] at c0 c1 c2
      go_wp2_with fail
      refine (l2Bool_any ((f 0).k == 4) W).mono ?_
      rintro e w3 ⟨rfl, hb⟩
      have HR3 := hide ((unhide HR).mono hb (unhide HR).lt); have HW3 := hide ((unhide HW).trans (hb.mono (unhide HW).size))
      clear hb
      rw [show (Value.agg #[.int .i64 2, .int .i64 (if ((f 0).k == 4) then 1 else 0), .string ⟨#[]⟩]) = vv (boolX ((f 0).k == 4)) from rfl]
      obtain ⟨z, hz⟩ : ∃ z, boolX ((f 0).k == 4) = z := ⟨_, rfl⟩
      have HZ : Hid (boolX ((f 0).k == 4) = z) := hide hz
      rw [hz]
      clear hz
      unfold vv
      obtain ⟨r0, r1, r2⟩ := three (unhide HR3)
      have f0 := (unhide HR3).free 0; have f1 := (unhide HR3).free 1; have f2 := (unhide HR3).free 2
      go_wp2
      exact bodyPost_ret (v := .agg #[.int .i64 z.k, .int .i64 z.n, .string z.s]) (by simp [results, Tryz.results5, go_sem, *]) rfl ⟨by rw [unhide HZ]; rfl, vx_out (unhide HW3) _ _ _⟩
set_option maxRecDepth 100000 in
set_option maxHeartbeats 8000000 in
theorem specApply_else (op : Int) (a : Option Addr) (m c : Nat) (f : Nat → Vx) (w : World) (hm : m = 2) (har : ar op = m) (hv : Vals w a m f) (hok : ∀ i, i < m → okVal (f i).k (f i).n (f i).s = true) (hs : ∀ i, i < m → (f i).s.size ≤ 9223372036854775807)
    (n25 : (op == 25) = false) (n16 : (op == 16) = false) (n19 : (op == 19) = true) :
    Calls Tryz.prog 5 #[.int .i64 op, .slice a m c] w fun e w' => e = .returned (vv (elseX (f 0) (f 1))) ∧ Below w.heap.size w w' := by
  have HM := hide hm
  have hm1 : 2 ≤ m := by omega
  have hm3 : m ≤ 3 := by omega
  clear hm
  have hm0 : ((m : Int) == 0) = false := beq_eq_false_iff_ne.2 (by omega)
  have HAR := hide har; have HOK := hide hok; have HSZ := hide hs
  clear har hok hs
  obtain ⟨W0, hW0⟩ : ∃ W0, w.alloc (.cells #[.int .i64 0, .int .i64 0, .string ⟨#[]⟩] 25) = W0 := ⟨_, rfl⟩
  have hb0 : Below w.heap.size w W0 := by rw [← hW0]; exact (Below.refl _ _).alloc (Nat.le_refl _) _
  have bR : Blk W0 w.heap.size 25 [.int .i64 0, .int .i64 0, .string ⟨#[]⟩] := by rw [← hW0]; exact Blk.new w 25 #[.int .i64 0, .int .i64 0, .string ⟨#[]⟩]
  have HV0 := hide (hv.mono hb0); have HR0 := hide bR; have HW0 := hide hb0
  clear hb0 bR hv
  go_enter Tryz.func5, Tryz.ntmps5
  go_wp2_with fail
  try rw [hW0]
  clear hW0
  refine (l2Arity_any op W0).mono ?_
  rintro e w1 ⟨rfl, hw⟩
  rw [hw, unhide HAR]
  clear hw w1
  go_wp2_with fail
  refine (l2Arity_any op W0).mono ?_
  rintro e w1 ⟨rfl, hw⟩
  rw [hw, unhide HAR]
  clear hw w1
  go_wp2
  go_loopw [5] (fun i wr => ∃ k : Nat, k ≤ m ∧ i = .int .i64 k ∧ Blk wr w.heap.size 25 [.int .i64 0, .int .i64 0, .string ⟨#[]⟩] ∧ Below w.heap.size w wr ∧ Vals wr a m f) (fun i _ => m - (intOf i).toNat)
  case atStart => exact ⟨0, Nat.zero_le _, rfl, unhide HR0, unhide HW0, unhide HV0⟩
  case round =>
    clear HR0 HW0 HV0
    obtain ⟨k, hk, rfl, hR, hW, hV⟩ := hrel
    have HR := hide hR; have HW := hide hW; have HV := hide hV
    clear hR hW hV
    by_cases hlt : k < m
    · have hlt' : (k : Int) < m := by omega
      obtain ⟨b, o, rfl, -, c0, c1, c2⟩ := unhide HV k hlt
      go_wp2_with fail
      refine (specValidV_any (f k).k (f k).n (f k).s wr (unhide HSZ k hlt)).mono ?_
      rintro e w2 ⟨rfl, hb⟩
      rw [unhide HOK k hlt]
      have HR9 := hide ((unhide HR).mono hb (unhide HR).lt); have HW9 := hide ((unhide HW).trans (hb.mono (unhide HW).size)); have HV9 := hide ((unhide HV).mono hb)
      clear hb c0 c1 c2
      go_wp2
      go_roundw
      case rel => exact ⟨k + 1, by omega, by go_num, unhide HR9, unhide HW9, unhide HV9⟩
      case measure => simp [intOf]; omega
    · obtain rfl : k = m := by omega
      obtain ⟨W, rfl⟩ : ∃ W, W = wr := ⟨_, rfl⟩
      obtain ⟨b, o, ea, -, c0, c1, c2⟩ := unhide HV 0 (by omega)
      subst ea
      rw [Nat.zero_mul, Nat.add_zero] at c0 c1 c2
      obtain ⟨b1, o1, eb, -, d0, d1, d2⟩ := unhide HV 1 (by omega)
      cases eb
      rw [show o + 1 * 3 = o + 3 by omega] at d0 d1 d2
      by_cases h0 : (f 0).k = 0
      · have h0' : ((f 0).k == 0) = true := beq_iff_eq.2 h0
        have HP : Hid (elseX (f 0) (f 1) = f 1) := hide (by rw [elseX, if_pos h0])
        clear h0
        obtain ⟨r0, r1, r2⟩ := three (unhide HR)
        have f0 := (unhide HR).free 0; have f1 := (unhide HR).free 1; have f2 := (unhide HR).free 2
        go_wp2
        exact bodyPost_ret (v := .agg #[.int .i64 (f 1).k, .int .i64 (f 1).n, .string (f 1).s]) (by simp [results, Tryz.results5, go_sem, *]) rfl ⟨by rw [unhide HP]; rfl, vx_out (unhide HW) _ _ _⟩
      · have h0' : ((f 0).k == 0) = false := beq_eq_false_iff_ne.2 h0
        have HP : Hid (elseX (f 0) (f 1) = f 0) := hide (by rw [elseX, if_neg h0])
        clear h0
        obtain ⟨r0, r1, r2⟩ := three (unhide HR)
        have f0 := (unhide HR).free 0; have f1 := (unhide HR).free 1; have f2 := (unhide HR).free 2
        go_wp2
        exact bodyPost_ret (v := .agg #[.int .i64 (f 0).k, .int .i64 (f 0).n, .string (f 0).s]) (by simp [results, Tryz.results5, go_sem, *]) rfl ⟨by rw [unhide HP]; rfl, vx_out (unhide HW) _ _ _⟩
set_option maxRecDepth 100000 in
set_option maxHeartbeats 8000000 in
theorem specApply_if (op : Int) (a : Option Addr) (m c : Nat) (f : Nat → Vx) (w : World) (hm : m = 3) (har : ar op = m) (hv : Vals w a m f) (hok : ∀ i, i < m → okVal (f i).k (f i).n (f i).s = true) (hs : ∀ i, i < m → (f i).s.size ≤ 9223372036854775807)
    (n25 : (op == 25) = false) (n16 : (op == 16) = true) :
    Calls Tryz.prog 5 #[.int .i64 op, .slice a m c] w fun e w' => e = .returned (vv (ifX (f 0) (f 1) (f 2))) ∧ Below w.heap.size w w' := by
  have HM := hide hm
  have hm1 : 3 ≤ m := by omega
  have hm3 : m ≤ 3 := by omega
  clear hm
  have hm0 : ((m : Int) == 0) = false := beq_eq_false_iff_ne.2 (by omega)
  have HAR := hide har; have HOK := hide hok; have HSZ := hide hs
  clear har hok hs
  obtain ⟨W0, hW0⟩ : ∃ W0, w.alloc (.cells #[.int .i64 0, .int .i64 0, .string ⟨#[]⟩] 25) = W0 := ⟨_, rfl⟩
  have hb0 : Below w.heap.size w W0 := by rw [← hW0]; exact (Below.refl _ _).alloc (Nat.le_refl _) _
  have bR : Blk W0 w.heap.size 25 [.int .i64 0, .int .i64 0, .string ⟨#[]⟩] := by rw [← hW0]; exact Blk.new w 25 #[.int .i64 0, .int .i64 0, .string ⟨#[]⟩]
  have HV0 := hide (hv.mono hb0); have HR0 := hide bR; have HW0 := hide hb0
  clear hb0 bR hv
  go_enter Tryz.func5, Tryz.ntmps5
  go_wp2_with fail
  try rw [hW0]
  clear hW0
  refine (l2Arity_any op W0).mono ?_
  rintro e w1 ⟨rfl, hw⟩
  rw [hw, unhide HAR]
  clear hw w1
  go_wp2_with fail
  refine (l2Arity_any op W0).mono ?_
  rintro e w1 ⟨rfl, hw⟩
  rw [hw, unhide HAR]
  clear hw w1
  go_wp2
  go_loopw [5] (fun i wr => ∃ k : Nat, k ≤ m ∧ i = .int .i64 k ∧ Blk wr w.heap.size 25 [.int .i64 0, .int .i64 0, .string ⟨#[]⟩] ∧ Below w.heap.size w wr ∧ Vals wr a m f) (fun i _ => m - (intOf i).toNat)
  case atStart => exact ⟨0, Nat.zero_le _, rfl, unhide HR0, unhide HW0, unhide HV0⟩
  case round =>
    clear HR0 HW0 HV0
    obtain ⟨k, hk, rfl, hR, hW, hV⟩ := hrel
    have HR := hide hR; have HW := hide hW; have HV := hide hV
    clear hR hW hV
    by_cases hlt : k < m
    · have hlt' : (k : Int) < m := by omega
      obtain ⟨b, o, rfl, -, c0, c1, c2⟩ := unhide HV k hlt
      go_wp2_with fail
      refine (specValidV_any (f k).k (f k).n (f k).s wr (unhide HSZ k hlt)).mono ?_
      rintro e w2 ⟨rfl, hb⟩
      rw [unhide HOK k hlt]
      have HR9 := hide ((unhide HR).mono hb (unhide HR).lt); have HW9 := hide ((unhide HW).trans (hb.mono (unhide HW).size)); have HV9 := hide ((unhide HV).mono hb)
      clear hb c0 c1 c2
      go_wp2
      go_roundw
      case rel => exact ⟨k + 1, by omega, by go_num, unhide HR9, unhide HW9, unhide HV9⟩
      case measure => simp [intOf]; omega
    · obtain rfl : k = m := by omega
      obtain ⟨W, rfl⟩ : ∃ W, W = wr := ⟨_, rfl⟩
      obtain ⟨b, o, ea, -, c0, c1, c2⟩ := unhide HV 0 (by omega)
      subst ea
      rw [Nat.zero_mul, Nat.add_zero] at c0 c1 c2
      obtain ⟨b1, o1, eb, -, d0, d1, d2⟩ := unhide HV 1 (by omega)
      cases eb
      rw [show o + 1 * 3 = o + 3 by omega] at d0 d1 d2
      obtain ⟨b2, o2, eb, -, g0, g1, g2⟩ := unhide HV 2 (by omega)
      cases eb
      rw [show o + 2 * 3 = o + 6 by omega] at g0 g1 g2
      by_cases h4 : (f 0).k = 4
      · have h4' : ((f 0).k == 4) = true := beq_iff_eq.2 h4
        have HP : Hid (ifX (f 0) (f 1) (f 2) = f 0) := hide (by rw [ifX, if_pos (.inl h4)])
        clear h4
        obtain ⟨r0, r1, r2⟩ := three (unhide HR)
        have f0 := (unhide HR).free 0; have f1 := (unhide HR).free 1; have f2 := (unhide HR).free 2
        go_wp2
        exact bodyPost_ret (v := .agg #[.int .i64 (f 0).k, .int .i64 (f 0).n, .string (f 0).s]) (by simp [results, Tryz.results5, go_sem, *]) rfl ⟨by rw [unhide HP]; rfl, vx_out (unhide HW) _ _ _⟩
      have h4' : ((f 0).k == 4) = false := beq_eq_false_iff_ne.2 h4
      by_cases h0 : (f 0).k = 0
      · have h0' : ((f 0).k == 0) = true := beq_iff_eq.2 h0
        have HP : Hid (ifX (f 0) (f 1) (f 2) = f 0) := hide (by rw [ifX, if_pos (.inr h0)])
        clear h0 h4
        obtain ⟨r0, r1, r2⟩ := three (unhide HR)
        have f0 := (unhide HR).free 0; have f1 := (unhide HR).free 1; have f2 := (unhide HR).free 2
        go_wp2
        exact bodyPost_ret (v := .agg #[.int .i64 (f 0).k, .int .i64 (f 0).n, .string (f 0).s]) (by simp [results, Tryz.results5, go_sem, *]) rfl ⟨by rw [unhide HP]; rfl, vx_out (unhide HW) _ _ _⟩
      have h0' : ((f 0).k == 0) = false := beq_eq_false_iff_ne.2 h0
      have hno : ¬ ((f 0).k = 4 ∨ (f 0).k = 0) := by omega
      have HNO := hide hno
      clear h4 h0 hno
      by_cases ht : (f 0).k = 2 ∧ (f 0).n = 1
      · have HTT := hide ht
        clear ht
        go_wp2_with fail
        refine (l2IsTrue_any (f 0) W).mono ?_
        rintro e w3 ⟨rfl, hb⟩
        rw [show (decide ((f 0).k = 2) && decide ((f 0).n = 1)) = true from by rw [decide_eq_true (unhide HTT).1, decide_eq_true (unhide HTT).2]; rfl]
        have HR3 := hide ((unhide HR).mono hb (unhide HR).lt); have HW3 := hide ((unhide HW).trans (hb.mono (unhide HW).size))
        have HV3 := hide ((unhide HV).mono hb)
        clear hb c0 c1 c2 d0 d1 d2 g0 g1 g2
        obtain ⟨b, o, ea, -, c0, c1, c2⟩ := unhide HV3 0 (by omega)
        cases ea
        rw [Nat.zero_mul, Nat.add_zero] at c0 c1 c2
        obtain ⟨b1, o1, eb, -, d0, d1, d2⟩ := unhide HV3 1 (by omega)
        cases eb
        rw [show o + 1 * 3 = o + 3 by omega] at d0 d1 d2
        obtain ⟨b2, o2, eb, -, g0, g1, g2⟩ := unhide HV3 2 (by omega)
        cases eb
        rw [show o + 2 * 3 = o + 6 by omega] at g0 g1 g2
        have HP : Hid (ifX (f 0) (f 1) (f 2) = f 1) := hide (by rw [ifX, if_neg (unhide HNO), if_pos (unhide HTT)])
        obtain ⟨r0, r1, r2⟩ := three (unhide HR3)
        have f0 := (unhide HR3).free 0; have f1 := (unhide HR3).free 1; have f2 := (unhide HR3).free 2
        go_wp2
        exact bodyPost_ret (v := .agg #[.int .i64 (f 1).k, .int .i64 (f 1).n, .string (f 1).s]) (by simp [results, Tryz.results5, go_sem, *]) rfl ⟨by rw [unhide HP]; rfl, vx_out (unhide HW3) _ _ _⟩
      have HTT := hide ht
      clear ht
      by_cases hf : (f 0).k = 2 ∧ (f 0).n = 0
      · have HFF := hide hf
        clear hf
        go_wp2_with fail
        refine (l2IsTrue_any (f 0) W).mono ?_
        rintro e w3 ⟨rfl, hb⟩
        rw [show (decide ((f 0).k = 2) && decide ((f 0).n = 1)) = false from by rw [(unhide HFF).2]; simp]
        have HR3 := hide ((unhide HR).mono hb (unhide HR).lt); have HW3 := hide ((unhide HW).trans (hb.mono (unhide HW).size))
        have HV3 := hide ((unhide HV).mono hb)
        clear hb c0 c1 c2 d0 d1 d2 g0 g1 g2
        obtain ⟨b, o, ea, -, c0, c1, c2⟩ := unhide HV3 0 (by omega)
        cases ea
        rw [Nat.zero_mul, Nat.add_zero] at c0 c1 c2
        obtain ⟨b1, o1, eb, -, d0, d1, d2⟩ := unhide HV3 1 (by omega)
        cases eb
        rw [show o + 1 * 3 = o + 3 by omega] at d0 d1 d2
        obtain ⟨b2, o2, eb, -, g0, g1, g2⟩ := unhide HV3 2 (by omega)
        cases eb
        rw [show o + 2 * 3 = o + 6 by omega] at g0 g1 g2
        go_wp2_with fail
        refine (l2IsFalse_any (f 0) w3).mono ?_
        rintro e w5 ⟨rfl, hb⟩
        rw [show (decide ((f 0).k = 2) && decide ((f 0).n = 0)) = true from by rw [decide_eq_true (unhide HFF).1, decide_eq_true (unhide HFF).2]; rfl]
        have HR5 := hide ((unhide HR3).mono hb (unhide HR3).lt); have HW5 := hide ((unhide HW3).trans (hb.mono (unhide HW3).size))
        have HV5 := hide ((unhide HV3).mono hb)
        clear hb c0 c1 c2 d0 d1 d2 g0 g1 g2
        obtain ⟨b, o, ea, -, c0, c1, c2⟩ := unhide HV5 0 (by omega)
        cases ea
        rw [Nat.zero_mul, Nat.add_zero] at c0 c1 c2
        obtain ⟨b1, o1, eb, -, d0, d1, d2⟩ := unhide HV5 1 (by omega)
        cases eb
        rw [show o + 1 * 3 = o + 3 by omega] at d0 d1 d2
        obtain ⟨b2, o2, eb, -, g0, g1, g2⟩ := unhide HV5 2 (by omega)
        cases eb
        rw [show o + 2 * 3 = o + 6 by omega] at g0 g1 g2
        have HP : Hid (ifX (f 0) (f 1) (f 2) = f 2) := hide (by rw [ifX, if_neg (unhide HNO), if_neg (unhide HTT), if_pos (unhide HFF)])
        obtain ⟨r0, r1, r2⟩ := three (unhide HR5)
        have f0 := (unhide HR5).free 0; have f1 := (unhide HR5).free 1; have f2 := (unhide HR5).free 2
        go_wp2
        exact bodyPost_ret (v := .agg #[.int .i64 (f 2).k, .int .i64 (f 2).n, .string (f 2).s]) (by simp [results, Tryz.results5, go_sem, *]) rfl ⟨by rw [unhide HP]; rfl, vx_out (unhide HW5) _ _ _⟩
      have HFF := hide hf
      clear hf
      go_wp2_with fail
      refine (l2IsTrue_any (f 0) W).mono ?_
      rintro e w3 ⟨rfl, hb⟩
      rw [show (decide ((f 0).k = 2) && decide ((f 0).n = 1)) = false from by rw [Bool.and_eq_false_iff, decide_eq_false_iff_not, decide_eq_false_iff_not]; have := unhide HTT; omega]
      have HR3 := hide ((unhide HR).mono hb (unhide HR).lt); have HW3 := hide ((unhide HW).trans (hb.mono (unhide HW).size))
      have HV3 := hide ((unhide HV).mono hb)
      clear hb c0 c1 c2 d0 d1 d2 g0 g1 g2
      obtain ⟨b, o, ea, -, c0, c1, c2⟩ := unhide HV3 0 (by omega)
      cases ea
      rw [Nat.zero_mul, Nat.add_zero] at c0 c1 c2
      obtain ⟨b1, o1, eb, -, d0, d1, d2⟩ := unhide HV3 1 (by omega)
      cases eb
      rw [show o + 1 * 3 = o + 3 by omega] at d0 d1 d2
      obtain ⟨b2, o2, eb, -, g0, g1, g2⟩ := unhide HV3 2 (by omega)
      cases eb
      rw [show o + 2 * 3 = o + 6 by omega] at g0 g1 g2
      go_wp2_with fail
      refine (l2IsFalse_any (f 0) w3).mono ?_
      rintro e w5 ⟨rfl, hb⟩
      rw [show (decide ((f 0).k = 2) && decide ((f 0).n = 0)) = false from by rw [Bool.and_eq_false_iff, decide_eq_false_iff_not, decide_eq_false_iff_not]; have := unhide HFF; omega]
      have HR5 := hide ((unhide HR3).mono hb (unhide HR3).lt); have HW5 := hide ((unhide HW3).trans (hb.mono (unhide HW3).size))
      have HV5 := hide ((unhide HV3).mono hb)
      clear hb c0 c1 c2 d0 d1 d2 g0 g1 g2
      obtain ⟨b, o, ea, -, c0, c1, c2⟩ := unhide HV5 0 (by omega)
      cases ea
      rw [Nat.zero_mul, Nat.add_zero] at c0 c1 c2
      obtain ⟨b1, o1, eb, -, d0, d1, d2⟩ := unhide HV5 1 (by omega)
      cases eb
      rw [show o + 1 * 3 = o + 3 by omega] at d0 d1 d2
      obtain ⟨b2, o2, eb, -, g0, g1, g2⟩ := unhide HV5 2 (by omega)
      cases eb
      rw [show o + 2 * 3 = o + 6 by omega] at g0 g1 g2
      go_wp2_with fail
      refine (l2Err_any 1 w5).mono ?_
      rintro e w9 ⟨rfl, hb⟩
      have HR9 := hide ((unhide HR5).mono hb (unhide HR5).lt); have HW9 := hide ((unhide HW5).trans (hb.mono (unhide HW5).size))
      clear hb
      rw [show (Value.agg #[.int .i64 4, .int .i64 1, .string ⟨#[]⟩]) = vv (errX 1) from rfl]
      obtain ⟨z, hz⟩ : ∃ z, errX 1 = z := ⟨_, rfl⟩
      have HZ : Hid (ifX (f 0) (f 1) (f 2) = z) := hide (by rw [← hz]; exact by rw [ifX, if_neg (unhide HNO), if_neg (unhide HTT), if_neg (unhide HFF)])
      rw [hz]
      clear hz
      unfold vv
      obtain ⟨r0, r1, r2⟩ := three (unhide HR9)
      have f0 := (unhide HR9).free 0; have f1 := (unhide HR9).free 1; have f2 := (unhide HR9).free 2
      go_wp2
      exact bodyPost_ret (v := .agg #[.int .i64 z.k, .int .i64 z.n, .string z.s]) (by simp [results, Tryz.results5, go_sem, *]) rfl ⟨by rw [unhide HZ]; rfl, vx_out (unhide HW9) _ _ _⟩
end Go.Proofs.YtnmpkdmflijhpaaGreatDoor
