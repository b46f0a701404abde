/- The model's Apply: IsBlank, And, Or. -/
import Derived.Test.YtnmpkdmflijhpaaGreatDoorApX
namespace Go.Proofs.YtnmpkdmflijhpaaGreatDoor
open Go Go.RowKit

def errFirst (f : Nat → Vx) (m : Nat) (R : Vx) : Vx :=
  match firstE f m with
  | some u => u
  | none => R
theorem errFirst_none {f : Nat → Vx} {m : Nat} {R : Vx} (h : ∀ j, j < m → ¬ (f j).k = 4) : errFirst f m R = R := by rw [errFirst, firstE_none h]
def isT (p : Vx) : Bool := decide (p.k = 2) && decide (p.n = 1)
def isF (p : Vx) : Bool := decide (p.k = 2) && decide (p.n = 0)
def andX (p q : Vx) : Vx := if p.k = 1 ∨ p.k = 3 ∨ q.k = 1 ∨ q.k = 3 then errX 1 else if isF p || isF q then boolX false else if isT p && isT q then boolX true else blankX
def orX (p q : Vx) : Vx := if p.k = 1 ∨ p.k = 3 ∨ q.k = 1 ∨ q.k = 3 then errX 1 else if isT p || isT q then boolX true else if isF p && isF q then boolX false else blankX

set_option maxRecDepth 100000 in
set_option maxHeartbeats 8000000 in
theorem specApply_isblank (op : Int) (a : Option Addr) (m c : Nat) (f : Nat → Vx) (w : World) (hm : m = 1) (har : ar op = m) (hv : Vals w a m f) (hok : ∀ i, i < m → okVal (f i).k (f i).n (f i).s = true) (hs : ∀ i, i < m → (f i).s.size ≤ 9223372036854775807)
    (n25 : (op == 25) = false) (n16 : (op == 16) = false) (n19 : (op == 19) = false) (n24 : (op == 24) = true) :
    Calls Tryz.prog 5 #[.int .i64 op, .slice a m c] w fun e w' => e = .returned (vv (errFirst f m (boolX ((f 0).k == 0)))) ∧ Below w.heap.size w w' := by
  have HM := hide hm
  have hm1 : 1 ≤ m := by omega
  have hm3 : m ≤ 3 := by omega
  clear hm
  have hm0 : ((m : Int) == 0) = false := beq_eq_false_iff_ne.2 (by omega)
  have HAR := hide har; have HOK := hide hok; have HSZ := hide hs
  clear har hok hs
  obtain ⟨W0, hW0⟩ : ∃ W0, w.alloc (.cells #[.int .i64 0, .int .i64 0, .string ⟨#[]⟩] 25) = W0 := ⟨_, rfl⟩
  have hb0 : Below w.heap.size w W0 := by rw [← hW0]; exact (Below.refl _ _).alloc (Nat.le_refl _) _
  have bR : Blk W0 w.heap.size 25 [.int .i64 0, .int .i64 0, .string ⟨#[]⟩] := by rw [← hW0]; exact Blk.new w 25 #[.int .i64 0, .int .i64 0, .string ⟨#[]⟩]
  have HV0 := hide (hv.mono hb0); have HR0 := hide bR; have HW0 := hide hb0
  clear hb0 bR hv
  go_enter Tryz.func5, Tryz.ntmps5
  go_wp2_with fail
  try rw [hW0]
  clear hW0
  refine (l2Arity_any op W0).mono ?_
  rintro e w1 ⟨rfl, hw⟩
  rw [hw, unhide HAR]
  clear hw w1
  go_wp2_with fail
  refine (l2Arity_any op W0).mono ?_
  rintro e w1 ⟨rfl, hw⟩
  rw [hw, unhide HAR]
  clear hw w1
  go_wp2
  go_loopw [5] (fun i wr => ∃ k : Nat, k ≤ m ∧ i = .int .i64 k ∧ Blk wr w.heap.size 25 [.int .i64 0, .int .i64 0, .string ⟨#[]⟩] ∧ Below w.heap.size w wr ∧ Vals wr a m f) (fun i _ => m - (intOf i).toNat)
  case atStart => exact ⟨0, Nat.zero_le _, rfl, unhide HR0, unhide HW0, unhide HV0⟩
  case round =>
    clear HR0 HW0 HV0
    obtain ⟨k, hk, rfl, hR, hW, hV⟩ := hrel
    have HR := hide hR; have HW := hide hW; have HV := hide hV
    clear hR hW hV
    by_cases hlt : k < m
    · have hlt' : (k : Int) < m := by omega
      obtain ⟨b, o, rfl, -, c0, c1, c2⟩ := unhide HV k hlt
      go_wp2_with fail
      refine (specValidV_any (f k).k (f k).n (f k).s wr (unhide HSZ k hlt)).mono ?_
      rintro e w2 ⟨rfl, hb⟩
      rw [unhide HOK k hlt]
      have HR9 := hide ((unhide HR).mono hb (unhide HR).lt); have HW9 := hide ((unhide HW).trans (hb.mono (unhide HW).size)); have HV9 := hide ((unhide HV).mono hb)
      clear hb c0 c1 c2
      go_wp2
      go_roundw
      case rel => exact ⟨k + 1, by omega, by go_num, unhide HR9, unhide HW9, unhide HV9⟩
      case measure => simp [intOf]; omega
    · obtain rfl : k = m := by omega
      obtain ⟨W, rfl⟩ : ∃ W, W = wr := ⟨_, rfl⟩
      have e1 : ¬ (k : Int) < k := by omega
      go_wp2
      go_loopw [6] (fun i wr => ∃ q : Nat, q ≤ k ∧ i = .int .i64 q ∧ (∀ j, j < q → ¬ (f j).k = 4) ∧ wr = W) (fun i _ => k - (intOf i).toNat)
      case atStart => exact ⟨0, Nat.zero_le _, rfl, fun j hj => absurd hj (Nat.not_lt_zero _), rfl⟩
      case round =>
        obtain ⟨q, hq, rfl, hne, rfl⟩ := hrel
        have HNE := hide hne
        clear hne
        by_cases hlq : q < k
        · have hlq' : (q : Int) < k := by omega
          obtain ⟨b, o, rfl, -, c0, c1, c2⟩ := unhide HV q hlq
          by_cases h4 : (f q).k = 4
          · have HP : Hid (errFirst f k (boolX ((f 0).k == 0)) = f q) := hide (by rw [errFirst, firstE_some hlq (unhide HNE) h4])
            have h4' : ((f q).k == 4) = true := beq_iff_eq.2 h4
            clear h4
            obtain ⟨r0, r1, r2⟩ := three (unhide HR)
            have f0 := (unhide HR).free 0; have f1 := (unhide HR).free 1; have f2 := (unhide HR).free 2
            go_wp2
            exact bodyPost_ret (v := .agg #[.int .i64 (f q).k, .int .i64 (f q).n, .string (f q).s]) (by simp [results, Tryz.results5, go_sem, *]) rfl ⟨by rw [unhide HP]; rfl, vx_out (unhide HW) _ _ _⟩
          · have h4' : ((f q).k == 4) = false := beq_eq_false_iff_ne.2 h4
            have HS : Hid (∀ j, j < q + 1 → ¬ (f j).k = 4) := hide fun j hj => by
              by_cases e : j = q
              · rw [e]; exact h4
              · exact unhide HNE j (by omega)
            clear h4
            go_wp2
            go_roundw
            case rel => exact ⟨q + 1, by omega, by go_num, unhide HS, trivial⟩
            case measure => simp [intOf]; omega
        · obtain rfl : q = k := by omega
          obtain ⟨b, o, ea, -, c0, c1, c2⟩ := unhide HV 0 (by omega)
          subst ea
          rw [Nat.zero_mul, Nat.add_zero] at c0 c1 c2
          go_wp2_with fail
          refine (l2Bool_any ((f 0).k == 0) wr).mono ?_
          rintro e w3 ⟨rfl, hb⟩
          have HR3 := hide ((unhide HR).mono hb (unhide HR).lt); have HW3 := hide ((unhide HW).trans (hb.mono (unhide HW).size))
          clear hb
          rw [show (Value.agg #[.int .i64 2, .int .i64 (if ((f 0).k == 0) then 1 else 0), .string ⟨#[]⟩]) = vv (boolX ((f 0).k == 0)) from rfl]
          obtain ⟨z, hz⟩ : ∃ z, boolX ((f 0).k == 0) = z := ⟨_, rfl⟩
          have HZ : Hid (errFirst f q (boolX ((f 0).k == 0)) = z) := hide (by rw [← hz]; exact errFirst_none (unhide HNE))
          rw [hz]
          clear hz
          unfold vv
          obtain ⟨r0, r1, r2⟩ := three (unhide HR3)
          have f0 := (unhide HR3).free 0; have f1 := (unhide HR3).free 1; have f2 := (unhide HR3).free 2
          go_wp2
          exact bodyPost_ret (v := .agg #[.int .i64 z.k, .int .i64 z.n, .string z.s]) (by simp [results, Tryz.results5, go_sem, *]) rfl ⟨by rw [unhide HZ]; rfl, vx_out (unhide HW3) _ _ _⟩
set_option maxRecDepth 100000 in
set_option maxHeartbeats 8000000 in
theorem specApply_and (op : Int) (a : Option Addr) (m c : Nat) (f : Nat → Vx) (w : World) (hm : m = 2) (har : ar op = m) (hv : Vals w a m f) (hok : ∀ i, i < m → okVal (f i).k (f i).n (f i).s = true) (hs : ∀ i, i < m → (f i).s.size ≤ 9223372036854775807)
    (n25 : (op == 25) = false) (n16 : (op == 16) = false) (n19 : (op == 19) = false) (n24 : (op == 24) = false) (n14 : (op == 14) = true) :
    Calls Tryz.prog 5 #[.int .i64 op, .slice a m c] w fun e w' => e = .returned (vv (errFirst f m (andX (f 0) (f 1)))) ∧ Below w.heap.size w w' := by
  have HM := hide hm
  have hm1 : 2 ≤ m := by omega
  have hm3 : m ≤ 3 := by omega
  clear hm
  have hm0 : ((m : Int) == 0) = false := beq_eq_false_iff_ne.2 (by omega)
  have HAR := hide har; have HOK := hide hok; have HSZ := hide hs
  clear har hok hs
  obtain ⟨W0, hW0⟩ : ∃ W0, w.alloc (.cells #[.int .i64 0, .int .i64 0, .string ⟨#[]⟩] 25) = W0 := ⟨_, rfl⟩
  have hb0 : Below w.heap.size w W0 := by rw [← hW0]; exact (Below.refl _ _).alloc (Nat.le_refl _) _
  have bR : Blk W0 w.heap.size 25 [.int .i64 0, .int .i64 0, .string ⟨#[]⟩] := by rw [← hW0]; exact Blk.new w 25 #[.int .i64 0, .int .i64 0, .string ⟨#[]⟩]
  have HV0 := hide (hv.mono hb0); have HR0 := hide bR; have HW0 := hide hb0
  clear hb0 bR hv
  go_enter Tryz.func5, Tryz.ntmps5
  go_wp2_with fail
  try rw [hW0]
  clear hW0
  refine (l2Arity_any op W0).mono ?_
  rintro e w1 ⟨rfl, hw⟩
  rw [hw, unhide HAR]
  clear hw w1
  go_wp2_with fail
  refine (l2Arity_any op W0).mono ?_
  rintro e w1 ⟨rfl, hw⟩
  rw [hw, unhide HAR]
  clear hw w1
  go_wp2
  go_loopw [5] (fun i wr => ∃ k : Nat, k ≤ m ∧ i = .int .i64 k ∧ Blk wr w.heap.size 25 [.int .i64 0, .int .i64 0, .string ⟨#[]⟩] ∧ Below w.heap.size w wr ∧ Vals wr a m f) (fun i _ => m - (intOf i).toNat)
  case atStart => exact ⟨0, Nat.zero_le _, rfl, unhide HR0, unhide HW0, unhide HV0⟩
  case round =>
    clear HR0 HW0 HV0
    obtain ⟨k, hk, rfl, hR, hW, hV⟩ := hrel
    have HR := hide hR; have HW := hide hW; have HV := hide hV
    clear hR hW hV
    by_cases hlt : k < m
    · have hlt' : (k : Int) < m := by omega
      obtain ⟨b, o, rfl, -, c0, c1, c2⟩ := unhide HV k hlt
      go_wp2_with fail
      refine (specValidV_any (f k).k (f k).n (f k).s wr (unhide HSZ k hlt)).mono ?_
      rintro e w2 ⟨rfl, hb⟩
      rw [unhide HOK k hlt]
      have HR9 := hide ((unhide HR).mono hb (unhide HR).lt); have HW9 := hide ((unhide HW).trans (hb.mono (unhide HW).size)); have HV9 := hide ((unhide HV).mono hb)
      clear hb c0 c1 c2
      go_wp2
      go_roundw
      case rel => exact ⟨k + 1, by omega, by go_num, unhide HR9, unhide HW9, unhide HV9⟩
      case measure => simp [intOf]; omega
    · obtain rfl : k = m := by omega
      obtain ⟨W, rfl⟩ : ∃ W, W = wr := ⟨_, rfl⟩
      have e1 : ¬ (k : Int) < k := by omega
      go_wp2
      go_loopw [6] (fun i wr => ∃ q : Nat, q ≤ k ∧ i = .int .i64 q ∧ (∀ j, j < q → ¬ (f j).k = 4) ∧ wr = W) (fun i _ => k - (intOf i).toNat)
      case atStart => exact ⟨0, Nat.zero_le _, rfl, fun j hj => absurd hj (Nat.not_lt_zero _), rfl⟩
      case round =>
        obtain ⟨q, hq, rfl, hne, rfl⟩ := hrel
        have HNE := hide hne
        clear hne
        by_cases hlq : q < k
        · have hlq' : (q : Int) < k := by omega
          obtain ⟨b, o, rfl, -, c0, c1, c2⟩ := unhide HV q hlq
          by_cases h4 : (f q).k = 4
          · have HP : Hid (errFirst f k (andX (f 0) (f 1)) = f q) := hide (by rw [errFirst, firstE_some hlq (unhide HNE) h4])
            have h4' : ((f q).k == 4) = true := beq_iff_eq.2 h4
            clear h4
            obtain ⟨r0, r1, r2⟩ := three (unhide HR)
            have f0 := (unhide HR).free 0; have f1 := (unhide HR).free 1; have f2 := (unhide HR).free 2
            go_wp2
            exact bodyPost_ret (v := .agg #[.int .i64 (f q).k, .int .i64 (f q).n, .string (f q).s]) (by simp [results, Tryz.results5, go_sem, *]) rfl ⟨by rw [unhide HP]; rfl, vx_out (unhide HW) _ _ _⟩
          · have h4' : ((f q).k == 4) = false := beq_eq_false_iff_ne.2 h4
            have HS : Hid (∀ j, j < q + 1 → ¬ (f j).k = 4) := hide fun j hj => by
              by_cases e : j = q
              · rw [e]; exact h4
              · exact unhide HNE j (by omega)
            clear h4
            go_wp2
            go_roundw
            case rel => exact ⟨q + 1, by omega, by go_num, unhide HS, trivial⟩
            case measure => simp [intOf]; omega
        · obtain rfl : q = k := by omega
          obtain ⟨W, rfl⟩ : ∃ W, W = wr := ⟨_, rfl⟩
          go_wp2
          go_loopw [7] (fun i wr => ∃ r : Nat, r ≤ 2 ∧ i = .int .i64 r ∧ (∀ j, j < r → ¬ (f j).k = 1 ∧ ¬ (f j).k = 3) ∧ wr = W) (fun i _ => 2 - (intOf i).toNat)
          case atStart => exact ⟨0, by omega, rfl, fun j hj => absurd hj (Nat.not_lt_zero _), rfl⟩
          case round =>
            obtain ⟨r, hr, rfl, hnk, rfl⟩ := hrel
            have HNK0 := hide hnk
            clear hnk
            by_cases hlr : r < 2
            · have hlr' : (r : Int) < 2 := by omega
              have hlr2 : (r : Int) < q := by omega
              obtain ⟨b, o, rfl, -, c0, c1, c2⟩ := unhide HV r (by omega)
              by_cases hk1 : (f r).k = 1
              · have h1' : ((f r).k == 1) = true := beq_iff_eq.2 hk1
                have HER : Hid (errFirst f q (andX (f 0) (f 1)) = errX 1) := hide ((errFirst_none (unhide HNE)).trans (by rw [andX, if_pos (by have : r = 0 ∨ r = 1 := (by omega); rcases this with rfl | rfl <;> simp [hk1])]))
                clear hk1
                go_wp2_with fail
                refine (l2Err_any 1 wr).mono ?_
                rintro e w9 ⟨rfl, hb⟩
                have HR9 := hide ((unhide HR).mono hb (unhide HR).lt); have HW9 := hide ((unhide HW).trans (hb.mono (unhide HW).size))
                clear hb
                rw [show (Value.agg #[.int .i64 4, .int .i64 1, .string ⟨#[]⟩]) = vv (errX 1) from rfl]
                obtain ⟨z, hz⟩ : ∃ z, errX 1 = z := ⟨_, rfl⟩
                have HZ : Hid (errFirst f q (andX (f 0) (f 1)) = z) := hide (by rw [← hz]; exact unhide HER)
                rw [hz]
                clear hz
                unfold vv
                obtain ⟨r0, r1, r2⟩ := three (unhide HR9)
                have f0 := (unhide HR9).free 0; have f1 := (unhide HR9).free 1; have f2 := (unhide HR9).free 2
                go_wp2
                exact bodyPost_ret (v := .agg #[.int .i64 z.k, .int .i64 z.n, .string z.s]) (by simp [results, Tryz.results5, go_sem, *]) rfl ⟨by rw [unhide HZ]; rfl, vx_out (unhide HW9) _ _ _⟩
              · by_cases hk3 : (f r).k = 3
                · have h1' : ((f r).k == 1) = false := beq_eq_false_iff_ne.2 hk1
                  have h3' : ((f r).k == 3) = true := beq_iff_eq.2 hk3
                  have HER : Hid (errFirst f q (andX (f 0) (f 1)) = errX 1) := hide ((errFirst_none (unhide HNE)).trans (by rw [andX, if_pos (by have : r = 0 ∨ r = 1 := (by omega); rcases this with rfl | rfl <;> simp [hk3])]))
                  clear hk1 hk3
                  go_wp2_with fail
                  refine (l2Err_any 1 wr).mono ?_
                  rintro e w9 ⟨rfl, hb⟩
                  have HR9 := hide ((unhide HR).mono hb (unhide HR).lt); have HW9 := hide ((unhide HW).trans (hb.mono (unhide HW).size))
                  clear hb
                  rw [show (Value.agg #[.int .i64 4, .int .i64 1, .string ⟨#[]⟩]) = vv (errX 1) from rfl]
                  obtain ⟨z, hz⟩ : ∃ z, errX 1 = z := ⟨_, rfl⟩
                  have HZ : Hid (errFirst f q (andX (f 0) (f 1)) = z) := hide (by rw [← hz]; exact unhide HER)
                  rw [hz]
                  clear hz
                  unfold vv
                  obtain ⟨r0, r1, r2⟩ := three (unhide HR9)
                  have f0 := (unhide HR9).free 0; have f1 := (unhide HR9).free 1; have f2 := (unhide HR9).free 2
                  go_wp2
                  exact bodyPost_ret (v := .agg #[.int .i64 z.k, .int .i64 z.n, .string z.s]) (by simp [results, Tryz.results5, go_sem, *]) rfl ⟨by rw [unhide HZ]; rfl, vx_out (unhide HW9) _ _ _⟩
                · have h1' : ((f r).k == 1) = false := beq_eq_false_iff_ne.2 hk1
                  have h3' : ((f r).k == 3) = false := beq_eq_false_iff_ne.2 hk3
                  have HS : Hid (∀ j, j < r + 1 → ¬ (f j).k = 1 ∧ ¬ (f j).k = 3) := hide fun j hj => by
                    by_cases e : j = r
                    · rw [e]; exact ⟨hk1, hk3⟩
                    · exact unhide HNK0 j (by omega)
                  clear hk1 hk3
                  go_wp2
                  go_roundw
                  case rel => exact ⟨r + 1, by omega, by go_num, unhide HS, trivial⟩
                  case measure => simp [intOf]; omega
            · obtain rfl : r = 2 := by omega
              have HNK : Hid (¬ ((f 0).k = 1 ∨ (f 0).k = 3 ∨ (f 1).k = 1 ∨ (f 1).k = 3)) := hide (by have := unhide HNK0 0 (by omega); have := unhide HNK0 1 (by omega); omega)
              obtain ⟨b, o, ea, -, c0, c1, c2⟩ := unhide HV 0 (by omega)
              subst ea
              rw [Nat.zero_mul, Nat.add_zero] at c0 c1 c2
              obtain ⟨b1, o1, eb, -, d0, d1, d2⟩ := unhide HV 1 (by omega)
              cases eb
              rw [show o + 1 * 3 = o + 3 by omega] at d0 d1 d2
              cases x0 : isF (f 0) with
              | true =>
                go_wp2_with fail
                refine (l2IsFalse_any (f 0) wr).mono ?_
                rintro e w3 ⟨rfl, hb⟩
                rw [show (decide ((f 0).k = 2) && decide ((f 0).n = 0)) = isF (f 0) from rfl, x0]
                have HR3 := hide ((unhide HR).mono hb (unhide HR).lt); have HW3 := hide ((unhide HW).trans (hb.mono (unhide HW).size))
                have HV3 := hide ((unhide HV).mono hb)
                clear hb c0 c1 c2 d0 d1 d2
                obtain ⟨b, o, ea, -, c0, c1, c2⟩ := unhide HV3 0 (by omega)
                cases ea
                rw [Nat.zero_mul, Nat.add_zero] at c0 c1 c2
                obtain ⟨b1, o1, eb, -, d0, d1, d2⟩ := unhide HV3 1 (by omega)
                cases eb
                rw [show o + 1 * 3 = o + 3 by omega] at d0 d1 d2
                go_wp2_with fail
                refine (l2Bool_any false w3).mono ?_
                rintro e w9 ⟨rfl, hb⟩
                have HR9 := hide ((unhide HR3).mono hb (unhide HR3).lt); have HW9 := hide ((unhide HW3).trans (hb.mono (unhide HW3).size))
                clear hb
                rw [show (Value.agg #[.int .i64 2, .int .i64 (if false then 1 else 0), .string ⟨#[]⟩]) = vv (boolX false) from rfl]
                obtain ⟨z, hz⟩ : ∃ z, boolX false = z := ⟨_, rfl⟩
                have HZ : Hid (errFirst f q (andX (f 0) (f 1)) = z) := hide (by rw [← hz]; exact (errFirst_none (unhide HNE)).trans (by rw [andX, if_neg (unhide HNK)]; simp [x0]))
                rw [hz]
                clear hz
                unfold vv
                obtain ⟨r0, r1, r2⟩ := three (unhide HR9)
                have f0 := (unhide HR9).free 0; have f1 := (unhide HR9).free 1; have f2 := (unhide HR9).free 2
                go_wp2
                exact bodyPost_ret (v := .agg #[.int .i64 z.k, .int .i64 z.n, .string z.s]) (by simp [results, Tryz.results5, go_sem, *]) rfl ⟨by rw [unhide HZ]; rfl, vx_out (unhide HW9) _ _ _⟩
              | false =>
                go_wp2_with fail
                refine (l2IsFalse_any (f 0) wr).mono ?_
                rintro e w3 ⟨rfl, hb⟩
                rw [show (decide ((f 0).k = 2) && decide ((f 0).n = 0)) = isF (f 0) from rfl, x0]
                have HR3 := hide ((unhide HR).mono hb (unhide HR).lt); have HW3 := hide ((unhide HW).trans (hb.mono (unhide HW).size))
                have HV3 := hide ((unhide HV).mono hb)
                clear hb c0 c1 c2 d0 d1 d2
                obtain ⟨b, o, ea, -, c0, c1, c2⟩ := unhide HV3 0 (by omega)
                cases ea
                rw [Nat.zero_mul, Nat.add_zero] at c0 c1 c2
                obtain ⟨b1, o1, eb, -, d0, d1, d2⟩ := unhide HV3 1 (by omega)
                cases eb
                rw [show o + 1 * 3 = o + 3 by omega] at d0 d1 d2
                cases x1 : isF (f 1) with
                | true =>
                  go_wp2_with fail
                  refine (l2IsFalse_any (f 1) w3).mono ?_
                  rintro e w4 ⟨rfl, hb⟩
                  rw [show (decide ((f 1).k = 2) && decide ((f 1).n = 0)) = isF (f 1) from rfl, x1]
                  have HR4 := hide ((unhide HR3).mono hb (unhide HR3).lt); have HW4 := hide ((unhide HW3).trans (hb.mono (unhide HW3).size))
                  have HV4 := hide ((unhide HV3).mono hb)
                  clear hb c0 c1 c2 d0 d1 d2
                  obtain ⟨b, o, ea, -, c0, c1, c2⟩ := unhide HV4 0 (by omega)
                  cases ea
                  rw [Nat.zero_mul, Nat.add_zero] at c0 c1 c2
                  obtain ⟨b1, o1, eb, -, d0, d1, d2⟩ := unhide HV4 1 (by omega)
                  cases eb
                  rw [show o + 1 * 3 = o + 3 by omega] at d0 d1 d2
                  go_wp2_with fail
                  refine (l2Bool_any false w4).mono ?_
                  rintro e w9 ⟨rfl, hb⟩
                  have HR9 := hide ((unhide HR4).mono hb (unhide HR4).lt); have HW9 := hide ((unhide HW4).trans (hb.mono (unhide HW4).size))
                  clear hb
                  rw [show (Value.agg #[.int .i64 2, .int .i64 (if false then 1 else 0), .string ⟨#[]⟩]) = vv (boolX false) from rfl]
                  obtain ⟨z, hz⟩ : ∃ z, boolX false = z := ⟨_, rfl⟩
                  have HZ : Hid (errFirst f q (andX (f 0) (f 1)) = z) := hide (by rw [← hz]; exact (errFirst_none (unhide HNE)).trans (by rw [andX, if_neg (unhide HNK)]; simp [x0, x1]))
                  rw [hz]
                  clear hz
                  unfold vv
                  obtain ⟨r0, r1, r2⟩ := three (unhide HR9)
                  have f0 := (unhide HR9).free 0; have f1 := (unhide HR9).free 1; have f2 := (unhide HR9).free 2
                  go_wp2
                  exact bodyPost_ret (v := .agg #[.int .i64 z.k, .int .i64 z.n, .string z.s]) (by simp [results, Tryz.results5, go_sem, *]) rfl ⟨by rw [unhide HZ]; rfl, vx_out (unhide HW9) _ _ _⟩
                | false =>
                  go_wp2_with fail
                  refine (l2IsFalse_any (f 1) w3).mono ?_
                  rintro e w4 ⟨rfl, hb⟩
                  rw [show (decide ((f 1).k = 2) && decide ((f 1).n = 0)) = isF (f 1) from rfl, x1]
                  have HR4 := hide ((unhide HR3).mono hb (unhide HR3).lt); have HW4 := hide ((unhide HW3).trans (hb.mono (unhide HW3).size))
                  have HV4 := hide ((unhide HV3).mono hb)
                  clear hb c0 c1 c2 d0 d1 d2
                  obtain ⟨b, o, ea, -, c0, c1, c2⟩ := unhide HV4 0 (by omega)
                  cases ea
                  rw [Nat.zero_mul, Nat.add_zero] at c0 c1 c2
                  obtain ⟨b1, o1, eb, -, d0, d1, d2⟩ := unhide HV4 1 (by omega)
                  cases eb
                  rw [show o + 1 * 3 = o + 3 by omega] at d0 d1 d2
                  cases y0 : isT (f 0) with
                  | false =>
                    go_wp2_with fail
                    refine (l2IsTrue_any (f 0) w4).mono ?_
                    rintro e w5 ⟨rfl, hb⟩
                    rw [show (decide ((f 0).k = 2) && decide ((f 0).n = 1)) = isT (f 0) from rfl, y0]
                    have HR5 := hide ((unhide HR4).mono hb (unhide HR4).lt); have HW5 := hide ((unhide HW4).trans (hb.mono (unhide HW4).size))
                    have HV5 := hide ((unhide HV4).mono hb)
                    clear hb c0 c1 c2 d0 d1 d2
                    obtain ⟨b, o, ea, -, c0, c1, c2⟩ := unhide HV5 0 (by omega)
                    cases ea
                    rw [Nat.zero_mul, Nat.add_zero] at c0 c1 c2
                    obtain ⟨b1, o1, eb, -, d0, d1, d2⟩ := unhide HV5 1 (by omega)
                    cases eb
                    rw [show o + 1 * 3 = o + 3 by omega] at d0 d1 d2
                    go_wp2_with fail
                    refine (l2Blank_any w5).mono ?_
                    rintro e w9 ⟨rfl, hb⟩
                    have HR9 := hide ((unhide HR5).mono hb (unhide HR5).lt); have HW9 := hide ((unhide HW5).trans (hb.mono (unhide HW5).size))
                    clear hb
                    rw [show (Value.agg #[.int .i64 0, .int .i64 0, .string ⟨#[]⟩]) = vv blankX from rfl]
                    obtain ⟨z, hz⟩ : ∃ z, blankX = z := ⟨_, rfl⟩
                    have HZ : Hid (errFirst f q (andX (f 0) (f 1)) = z) := hide (by rw [← hz]; exact (errFirst_none (unhide HNE)).trans (by rw [andX, if_neg (unhide HNK)]; simp [x0, x1, y0]))
                    rw [hz]
                    clear hz
                    unfold vv
                    obtain ⟨r0, r1, r2⟩ := three (unhide HR9)
                    have f0 := (unhide HR9).free 0; have f1 := (unhide HR9).free 1; have f2 := (unhide HR9).free 2
                    go_wp2
                    exact bodyPost_ret (v := .agg #[.int .i64 z.k, .int .i64 z.n, .string z.s]) (by simp [results, Tryz.results5, go_sem, *]) rfl ⟨by rw [unhide HZ]; rfl, vx_out (unhide HW9) _ _ _⟩
                  | true =>
                    go_wp2_with fail
                    refine (l2IsTrue_any (f 0) w4).mono ?_
                    rintro e w5 ⟨rfl, hb⟩
                    rw [show (decide ((f 0).k = 2) && decide ((f 0).n = 1)) = isT (f 0) from rfl, y0]
                    have HR5 := hide ((unhide HR4).mono hb (unhide HR4).lt); have HW5 := hide ((unhide HW4).trans (hb.mono (unhide HW4).size))
                    have HV5 := hide ((unhide HV4).mono hb)
                    clear hb c0 c1 c2 d0 d1 d2
                    obtain ⟨b, o, ea, -, c0, c1, c2⟩ := unhide HV5 0 (by omega)
                    cases ea
                    rw [Nat.zero_mul, Nat.add_zero] at c0 c1 c2
                    obtain ⟨b1, o1, eb, -, d0, d1, d2⟩ := unhide HV5 1 (by omega)
                    cases eb
                    rw [show o + 1 * 3 = o + 3 by omega] at d0 d1 d2
                    cases y1 : isT (f 1) with
                    | true =>
                      go_wp2_with fail
                      refine (l2IsTrue_any (f 1) w5).mono ?_
                      rintro e w6 ⟨rfl, hb⟩
                      rw [show (decide ((f 1).k = 2) && decide ((f 1).n = 1)) = isT (f 1) from rfl, y1]
                      have HR6 := hide ((unhide HR5).mono hb (unhide HR5).lt); have HW6 := hide ((unhide HW5).trans (hb.mono (unhide HW5).size))
                      have HV6 := hide ((unhide HV5).mono hb)
                      clear hb c0 c1 c2 d0 d1 d2
                      obtain ⟨b, o, ea, -, c0, c1, c2⟩ := unhide HV6 0 (by omega)
                      cases ea
                      rw [Nat.zero_mul, Nat.add_zero] at c0 c1 c2
                      obtain ⟨b1, o1, eb, -, d0, d1, d2⟩ := unhide HV6 1 (by omega)
                      cases eb
                      rw [show o + 1 * 3 = o + 3 by omega] at d0 d1 d2
                      go_wp2_with fail
                      refine (l2Bool_any true w6).mono ?_
                      rintro e w9 ⟨rfl, hb⟩
                      have HR9 := hide ((unhide HR6).mono hb (unhide HR6).lt); have HW9 := hide ((unhide HW6).trans (hb.mono (unhide HW6).size))
                      clear hb
                      rw [show (Value.agg #[.int .i64 2, .int .i64 (if true then 1 else 0), .string ⟨#[]⟩]) = vv (boolX true) from rfl]
                      obtain ⟨z, hz⟩ : ∃ z, boolX true = z := ⟨_, rfl⟩
                      have HZ : Hid (errFirst f q (andX (f 0) (f 1)) = z) := hide (by rw [← hz]; exact (errFirst_none (unhide HNE)).trans (by rw [andX, if_neg (unhide HNK)]; simp [x0, x1, y0, y1]))
                      rw [hz]
                      clear hz
                      unfold vv
                      obtain ⟨r0, r1, r2⟩ := three (unhide HR9)
                      have f0 := (unhide HR9).free 0; have f1 := (unhide HR9).free 1; have f2 := (unhide HR9).free 2
                      go_wp2
                      exact bodyPost_ret (v := .agg #[.int .i64 z.k, .int .i64 z.n, .string z.s]) (by simp [results, Tryz.results5, go_sem, *]) rfl ⟨by rw [unhide HZ]; rfl, vx_out (unhide HW9) _ _ _⟩
                    | false =>
                      go_wp2_with fail
                      refine (l2IsTrue_any (f 1) w5).mono ?_
                      rintro e w6 ⟨rfl, hb⟩
                      rw [show (decide ((f 1).k = 2) && decide ((f 1).n = 1)) = isT (f 1) from rfl, y1]
                      have HR6 := hide ((unhide HR5).mono hb (unhide HR5).lt); have HW6 := hide ((unhide HW5).trans (hb.mono (unhide HW5).size))
                      have HV6 := hide ((unhide HV5).mono hb)
                      clear hb c0 c1 c2 d0 d1 d2
                      obtain ⟨b, o, ea, -, c0, c1, c2⟩ := unhide HV6 0 (by omega)
                      cases ea
                      rw [Nat.zero_mul, Nat.add_zero] at c0 c1 c2
                      obtain ⟨b1, o1, eb, -, d0, d1, d2⟩ := unhide HV6 1 (by omega)
                      cases eb
                      rw [show o + 1 * 3 = o + 3 by omega] at d0 d1 d2
                      go_wp2_with fail
                      refine (l2Blank_any w6).mono ?_
                      rintro e w9 ⟨rfl, hb⟩
                      have HR9 := hide ((unhide HR6).mono hb (unhide HR6).lt); have HW9 := hide ((unhide HW6).trans (hb.mono (unhide HW6).size))
                      clear hb
                      rw [show (Value.agg #[.int .i64 0, .int .i64 0, .string ⟨#[]⟩]) = vv blankX from rfl]
                      obtain ⟨z, hz⟩ : ∃ z, blankX = z := ⟨_, rfl⟩
                      have HZ : Hid (errFirst f q (andX (f 0) (f 1)) = z) := hide (by rw [← hz]; exact (errFirst_none (unhide HNE)).trans (by rw [andX, if_neg (unhide HNK)]; simp [x0, x1, y0, y1]))
                      rw [hz]
                      clear hz
                      unfold vv
                      obtain ⟨r0, r1, r2⟩ := three (unhide HR9)
                      have f0 := (unhide HR9).free 0; have f1 := (unhide HR9).free 1; have f2 := (unhide HR9).free 2
                      go_wp2
                      exact bodyPost_ret (v := .agg #[.int .i64 z.k, .int .i64 z.n, .string z.s]) (by simp [results, Tryz.results5, go_sem, *]) rfl ⟨by rw [unhide HZ]; rfl, vx_out (unhide HW9) _ _ _⟩
set_option maxRecDepth 100000 in
set_option maxHeartbeats 8000000 in
theorem specApply_or (op : Int) (a : Option Addr) (m c : Nat) (f : Nat → Vx) (w : World) (hm : m = 2) (har : ar op = m) (hv : Vals w a m f) (hok : ∀ i, i < m → okVal (f i).k (f i).n (f i).s = true) (hs : ∀ i, i < m → (f i).s.size ≤ 9223372036854775807)
    (n25 : (op == 25) = false) (n16 : (op == 16) = false) (n19 : (op == 19) = false) (n24 : (op == 24) = false) (n14 : (op == 14) = false) (n15 : (op == 15) = true) :
    Calls Tryz.prog 5 #[.int .i64 op, .slice a m c] w fun e w' => e = .returned (vv (errFirst f m (orX (f 0) (f 1)))) ∧ Below w.heap.size w w' := by
  have HM := hide hm
  have hm1 : 2 ≤ m := by omega
  have hm3 : m ≤ 3 := by omega
  clear hm
  have hm0 : ((m : Int) == 0) = false := beq_eq_false_iff_ne.2 (by omega)
  have HAR := hide har; have HOK := hide hok; have HSZ := hide hs
  clear har hok hs
  obtain ⟨W0, hW0⟩ : ∃ W0, w.alloc (.cells #[.int .i64 0, .int .i64 0, .string ⟨#[]⟩] 25) = W0 := ⟨_, rfl⟩
  have hb0 : Below w.heap.size w W0 := by rw [← hW0]; exact (Below.refl _ _).alloc (Nat.le_refl _) _
  have bR : Blk W0 w.heap.size 25 [.int .i64 0, .int .i64 0, .string ⟨#[]⟩] := by rw [← hW0]; exact Blk.new w 25 #[.int .i64 0, .int .i64 0, .string ⟨#[]⟩]
  have HV0 := hide (hv.mono hb0); have HR0 := hide bR; have HW0 := hide hb0
  clear hb0 bR hv
  go_enter Tryz.func5, Tryz.ntmps5
  go_wp2_with fail
  try rw [hW0]
  clear hW0
  refine (l2Arity_any op W0).mono ?_
  rintro e w1 ⟨rfl, hw⟩
  rw [hw, unhide HAR]
  clear hw w1
  go_wp2_with fail
  refine (l2Arity_any op W0).mono ?_
  rintro e w1 ⟨rfl, hw⟩
  rw [hw, unhide HAR]
  clear hw w1
  go_wp2
  go_loopw [5] (fun i wr => ∃ k : Nat, k ≤ m ∧ i = .int .i64 k ∧ Blk wr w.heap.size 25 [.int .i64 0, .int .i64 0, .string ⟨#[]⟩] ∧ Below w.heap.size w wr ∧ Vals wr a m f) (fun i _ => m - (intOf i).toNat)
  case atStart => exact ⟨0, Nat.zero_le _, rfl, unhide HR0, unhide HW0, unhide HV0⟩
  case round =>
    clear HR0 HW0 HV0
    obtain ⟨k, hk, rfl, hR, hW, hV⟩ := hrel
    have HR := hide hR; have HW := hide hW; have HV := hide hV
    clear hR hW hV
    by_cases hlt : k < m
    · have hlt' : (k : Int) < m := by omega
      obtain ⟨b, o, rfl, -, c0, c1, c2⟩ := unhide HV k hlt
      go_wp2_with fail
      refine (specValidV_any (f k).k (f k).n (f k).s wr (unhide HSZ k hlt)).mono ?_
      rintro e w2 ⟨rfl, hb⟩
      rw [unhide HOK k hlt]
      have HR9 := hide ((unhide HR).mono hb (unhide HR).lt); have HW9 := hide ((unhide HW).trans (hb.mono (unhide HW).size)); have HV9 := hide ((unhide HV).mono hb)
      clear hb c0 c1 c2
      go_wp2
      go_roundw
      case rel => exact ⟨k + 1, by omega, by go_num, unhide HR9, unhide HW9, unhide HV9⟩
      case measure => simp [intOf]; omega
    · obtain rfl : k = m := by omega
      obtain ⟨W, rfl⟩ : ∃ W, W = wr := ⟨_, rfl⟩
      have e1 : ¬ (k : Int) < k := by omega
      go_wp2
      go_loopw [6] (fun i wr => ∃ q : Nat, q ≤ k ∧ i = .int .i64 q ∧ (∀ j, j < q → ¬ (f j).k = 4) ∧ wr = W) (fun i _ => k - (intOf i).toNat)
      case atStart => exact ⟨0, Nat.zero_le _, rfl, fun j hj => absurd hj (Nat.not_lt_zero _), rfl⟩
      case round =>
        obtain ⟨q, hq, rfl, hne, rfl⟩ := hrel
        have HNE := hide hne
        clear hne
        by_cases hlq : q < k
        · have hlq' : (q : Int) < k := by omega
          obtain ⟨b, o, rfl, -, c0, c1, c2⟩ := unhide HV q hlq
          by_cases h4 : (f q).k = 4
          · have HP : Hid (errFirst f k (orX (f 0) (f 1)) = f q) := hide (by rw [errFirst, firstE_some hlq (unhide HNE) h4])
            have h4' : ((f q).k == 4) = true := beq_iff_eq.2 h4
            clear h4
            obtain ⟨r0, r1, r2⟩ := three (unhide HR)
            have f0 := (unhide HR).free 0; have f1 := (unhide HR).free 1; have f2 := (unhide HR).free 2
            go_wp2
            exact bodyPost_ret (v := .agg #[.int .i64 (f q).k, .int .i64 (f q).n, .string (f q).s]) (by simp [results, Tryz.results5, go_sem, *]) rfl ⟨by rw [unhide HP]; rfl, vx_out (unhide HW) _ _ _⟩
          · have h4' : ((f q).k == 4) = false := beq_eq_false_iff_ne.2 h4
            have HS : Hid (∀ j, j < q + 1 → ¬ (f j).k = 4) := hide fun j hj => by
              by_cases e : j = q
              · rw [e]; exact h4
              · exact unhide HNE j (by omega)
            clear h4
            go_wp2
            go_roundw
            case rel => exact ⟨q + 1, by omega, by go_num, unhide HS, trivial⟩
            case measure => simp [intOf]; omega
        · obtain rfl : q = k := by omega
          obtain ⟨W, rfl⟩ : ∃ W, W = wr := ⟨_, rfl⟩
          go_wp2
          go_loopw [7] (fun i wr => ∃ r : Nat, r ≤ 2 ∧ i = .int .i64 r ∧ (∀ j, j < r → ¬ (f j).k = 1 ∧ ¬ (f j).k = 3) ∧ wr = W) (fun i _ => 2 - (intOf i).toNat)
          case atStart => exact ⟨0, by omega, rfl, fun j hj => absurd hj (Nat.not_lt_zero _), rfl⟩
          case round =>
            obtain ⟨r, hr, rfl, hnk, rfl⟩ := hrel
            have HNK0 := hide hnk
            clear hnk
            by_cases hlr : r < 2
            · have hlr' : (r : Int) < 2 := by omega
              have hlr2 : (r : Int) < q := by omega
              obtain ⟨b, o, rfl, -, c0, c1, c2⟩ := unhide HV r (by omega)
              by_cases hk1 : (f r).k = 1
              · have h1' : ((f r).k == 1) = true := beq_iff_eq.2 hk1
                have HER : Hid (errFirst f q (orX (f 0) (f 1)) = errX 1) := hide ((errFirst_none (unhide HNE)).trans (by rw [orX, if_pos (by have : r = 0 ∨ r = 1 := (by omega); rcases this with rfl | rfl <;> simp [hk1])]))
                clear hk1
                go_wp2_with fail
                refine (l2Err_any 1 wr).mono ?_
                rintro e w9 ⟨rfl, hb⟩
                have HR9 := hide ((unhide HR).mono hb (unhide HR).lt); have HW9 := hide ((unhide HW).trans (hb.mono (unhide HW).size))
                clear hb
                rw [show (Value.agg #[.int .i64 4, .int .i64 1, .string ⟨#[]⟩]) = vv (errX 1) from rfl]
                obtain ⟨z, hz⟩ : ∃ z, errX 1 = z := ⟨_, rfl⟩
                have HZ : Hid (errFirst f q (orX (f 0) (f 1)) = z) := hide (by rw [← hz]; exact unhide HER)
                rw [hz]
                clear hz
                unfold vv
                obtain ⟨r0, r1, r2⟩ := three (unhide HR9)
                have f0 := (unhide HR9).free 0; have f1 := (unhide HR9).free 1; have f2 := (unhide HR9).free 2
                go_wp2
                exact bodyPost_ret (v := .agg #[.int .i64 z.k, .int .i64 z.n, .string z.s]) (by simp [results, Tryz.results5, go_sem, *]) rfl ⟨by rw [unhide HZ]; rfl, vx_out (unhide HW9) _ _ _⟩
              · by_cases hk3 : (f r).k = 3
                · have h1' : ((f r).k == 1) = false := beq_eq_false_iff_ne.2 hk1
                  have h3' : ((f r).k == 3) = true := beq_iff_eq.2 hk3
                  have HER : Hid (errFirst f q (orX (f 0) (f 1)) = errX 1) := hide ((errFirst_none (unhide HNE)).trans (by rw [orX, if_pos (by have : r = 0 ∨ r = 1 := (by omega); rcases this with rfl | rfl <;> simp [hk3])]))
                  clear hk1 hk3
                  go_wp2_with fail
                  refine (l2Err_any 1 wr).mono ?_
                  rintro e w9 ⟨rfl, hb⟩
                  have HR9 := hide ((unhide HR).mono hb (unhide HR).lt); have HW9 := hide ((unhide HW).trans (hb.mono (unhide HW).size))
                  clear hb
                  rw [show (Value.agg #[.int .i64 4, .int .i64 1, .string ⟨#[]⟩]) = vv (errX 1) from rfl]
                  obtain ⟨z, hz⟩ : ∃ z, errX 1 = z := ⟨_, rfl⟩
                  have HZ : Hid (errFirst f q (orX (f 0) (f 1)) = z) := hide (by rw [← hz]; exact unhide HER)
                  rw [hz]
                  clear hz
                  unfold vv
                  obtain ⟨r0, r1, r2⟩ := three (unhide HR9)
                  have f0 := (unhide HR9).free 0; have f1 := (unhide HR9).free 1; have f2 := (unhide HR9).free 2
                  go_wp2
                  exact bodyPost_ret (v := .agg #[.int .i64 z.k, .int .i64 z.n, .string z.s]) (by simp [results, Tryz.results5, go_sem, *]) rfl ⟨by rw [unhide HZ]; rfl, vx_out (unhide HW9) _ _ _⟩
                · have h1' : ((f r).k == 1) = false := beq_eq_false_iff_ne.2 hk1
                  have h3' : ((f r).k == 3) = false := beq_eq_false_iff_ne.2 hk3
                  have HS : Hid (∀ j, j < r + 1 → ¬ (f j).k = 1 ∧ ¬ (f j).k = 3) := hide fun j hj => by
                    by_cases e : j = r
                    · rw [e]; exact ⟨hk1, hk3⟩
                    · exact unhide HNK0 j (by omega)
                  clear hk1 hk3
                  go_wp2
                  go_roundw
                  case rel => exact ⟨r + 1, by omega, by go_num, unhide HS, trivial⟩
                  case measure => simp [intOf]; omega
            · obtain rfl : r = 2 := by omega
              have HNK : Hid (¬ ((f 0).k = 1 ∨ (f 0).k = 3 ∨ (f 1).k = 1 ∨ (f 1).k = 3)) := hide (by have := unhide HNK0 0 (by omega); have := unhide HNK0 1 (by omega); omega)
              obtain ⟨b, o, ea, -, c0, c1, c2⟩ := unhide HV 0 (by omega)
              subst ea
              rw [Nat.zero_mul, Nat.add_zero] at c0 c1 c2
              obtain ⟨b1, o1, eb, -, d0, d1, d2⟩ := unhide HV 1 (by omega)
              cases eb
              rw [show o + 1 * 3 = o + 3 by omega] at d0 d1 d2
              cases x0 : isT (f 0) with
              | true =>
                go_wp2_with fail
                refine (l2IsTrue_any (f 0) wr).mono ?_
                rintro e w3 ⟨rfl, hb⟩
                rw [show (decide ((f 0).k = 2) && decide ((f 0).n = 1)) = isT (f 0) from rfl, x0]
                have HR3 := hide ((unhide HR).mono hb (unhide HR).lt); have HW3 := hide ((unhide HW).trans (hb.mono (unhide HW).size))
                have HV3 := hide ((unhide HV).mono hb)
                clear hb c0 c1 c2 d0 d1 d2
                obtain ⟨b, o, ea, -, c0, c1, c2⟩ := unhide HV3 0 (by omega)
                cases ea
                rw [Nat.zero_mul, Nat.add_zero] at c0 c1 c2
                obtain ⟨b1, o1, eb, -, d0, d1, d2⟩ := unhide HV3 1 (by omega)
                cases eb
                rw [show o + 1 * 3 = o + 3 by omega] at d0 d1 d2
                go_wp2_with fail
                refine (l2Bool_any true w3).mono ?_
                rintro e w9 ⟨rfl, hb⟩
                have HR9 := hide ((unhide HR3).mono hb (unhide HR3).lt); have HW9 := hide ((unhide HW3).trans (hb.mono (unhide HW3).size))
                clear hb
                rw [show (Value.agg #[.int .i64 2, .int .i64 (if true then 1 else 0), .string ⟨#[]⟩]) = vv (boolX true) from rfl]
                obtain ⟨z, hz⟩ : ∃ z, boolX true = z := ⟨_, rfl⟩
                have HZ : Hid (errFirst f q (orX (f 0) (f 1)) = z) := hide (by rw [← hz]; exact (errFirst_none (unhide HNE)).trans (by rw [orX, if_neg (unhide HNK)]; simp [x0]))
                rw [hz]
                clear hz
                unfold vv
                obtain ⟨r0, r1, r2⟩ := three (unhide HR9)
                have f0 := (unhide HR9).free 0; have f1 := (unhide HR9).free 1; have f2 := (unhide HR9).free 2
                go_wp2
                exact bodyPost_ret (v := .agg #[.int .i64 z.k, .int .i64 z.n, .string z.s]) (by simp [results, Tryz.results5, go_sem, *]) rfl ⟨by rw [unhide HZ]; rfl, vx_out (unhide HW9) _ _ _⟩
              | false =>
                go_wp2_with fail
                refine (l2IsTrue_any (f 0) wr).mono ?_
                rintro e w3 ⟨rfl, hb⟩
                rw [show (decide ((f 0).k = 2) && decide ((f 0).n = 1)) = isT (f 0) from rfl, x0]
                have HR3 := hide ((unhide HR).mono hb (unhide HR).lt); have HW3 := hide ((unhide HW).trans (hb.mono (unhide HW).size))
                have HV3 := hide ((unhide HV).mono hb)
                clear hb c0 c1 c2 d0 d1 d2
                obtain ⟨b, o, ea, -, c0, c1, c2⟩ := unhide HV3 0 (by omega)
                cases ea
                rw [Nat.zero_mul, Nat.add_zero] at c0 c1 c2
                obtain ⟨b1, o1, eb, -, d0, d1, d2⟩ := unhide HV3 1 (by omega)
                cases eb
                rw [show o + 1 * 3 = o + 3 by omega] at d0 d1 d2
                cases x1 : isT (f 1) with
                | true =>
                  go_wp2_with fail
                  refine (l2IsTrue_any (f 1) w3).mono ?_
                  rintro e w4 ⟨rfl, hb⟩
                  rw [show (decide ((f 1).k = 2) && decide ((f 1).n = 1)) = isT (f 1) from rfl, x1]
                  have HR4 := hide ((unhide HR3).mono hb (unhide HR3).lt); have HW4 := hide ((unhide HW3).trans (hb.mono (unhide HW3).size))
                  have HV4 := hide ((unhide HV3).mono hb)
                  clear hb c0 c1 c2 d0 d1 d2
                  obtain ⟨b, o, ea, -, c0, c1, c2⟩ := unhide HV4 0 (by omega)
                  cases ea
                  rw [Nat.zero_mul, Nat.add_zero] at c0 c1 c2
                  obtain ⟨b1, o1, eb, -, d0, d1, d2⟩ := unhide HV4 1 (by omega)
                  cases eb
                  rw [show o + 1 * 3 = o + 3 by omega] at d0 d1 d2
                  go_wp2_with fail
                  refine (l2Bool_any true w4).mono ?_
                  rintro e w9 ⟨rfl, hb⟩
                  have HR9 := hide ((unhide HR4).mono hb (unhide HR4).lt); have HW9 := hide ((unhide HW4).trans (hb.mono (unhide HW4).size))
                  clear hb
                  rw [show (Value.agg #[.int .i64 2, .int .i64 (if true then 1 else 0), .string ⟨#[]⟩]) = vv (boolX true) from rfl]
                  obtain ⟨z, hz⟩ : ∃ z, boolX true = z := ⟨_, rfl⟩
                  have HZ : Hid (errFirst f q (orX (f 0) (f 1)) = z) := hide (by rw [← hz]; exact (errFirst_none (unhide HNE)).trans (by rw [orX, if_neg (unhide HNK)]; simp [x0, x1]))
                  rw [hz]
                  clear hz
                  unfold vv
                  obtain ⟨r0, r1, r2⟩ := three (unhide HR9)
                  have f0 := (unhide HR9).free 0; have f1 := (unhide HR9).free 1; have f2 := (unhide HR9).free 2
                  go_wp2
                  exact bodyPost_ret (v := .agg #[.int .i64 z.k, .int .i64 z.n, .string z.s]) (by simp [results, Tryz.results5, go_sem, *]) rfl ⟨by rw [unhide HZ]; rfl, vx_out (unhide HW9) _ _ _⟩
                | false =>
                  go_wp2_with fail
                  refine (l2IsTrue_any (f 1) w3).mono ?_
                  rintro e w4 ⟨rfl, hb⟩
                  rw [show (decide ((f 1).k = 2) && decide ((f 1).n = 1)) = isT (f 1) from rfl, x1]
                  have HR4 := hide ((unhide HR3).mono hb (unhide HR3).lt); have HW4 := hide ((unhide HW3).trans (hb.mono (unhide HW3).size))
                  have HV4 := hide ((unhide HV3).mono hb)
                  clear hb c0 c1 c2 d0 d1 d2
                  obtain ⟨b, o, ea, -, c0, c1, c2⟩ := unhide HV4 0 (by omega)
                  cases ea
                  rw [Nat.zero_mul, Nat.add_zero] at c0 c1 c2
                  obtain ⟨b1, o1, eb, -, d0, d1, d2⟩ := unhide HV4 1 (by omega)
                  cases eb
                  rw [show o + 1 * 3 = o + 3 by omega] at d0 d1 d2
                  cases y0 : isF (f 0) with
                  | false =>
                    go_wp2_with fail
                    refine (l2IsFalse_any (f 0) w4).mono ?_
                    rintro e w5 ⟨rfl, hb⟩
                    rw [show (decide ((f 0).k = 2) && decide ((f 0).n = 0)) = isF (f 0) from rfl, y0]
                    have HR5 := hide ((unhide HR4).mono hb (unhide HR4).lt); have HW5 := hide ((unhide HW4).trans (hb.mono (unhide HW4).size))
                    have HV5 := hide ((unhide HV4).mono hb)
                    clear hb c0 c1 c2 d0 d1 d2
                    obtain ⟨b, o, ea, -, c0, c1, c2⟩ := unhide HV5 0 (by omega)
                    cases ea
                    rw [Nat.zero_mul, Nat.add_zero] at c0 c1 c2
                    obtain ⟨b1, o1, eb, -, d0, d1, d2⟩ := unhide HV5 1 (by omega)
                    cases eb
                    rw [show o + 1 * 3 = o + 3 by omega] at d0 d1 d2
                    go_wp2_with fail
                    refine (l2Blank_any w5).mono ?_
                    rintro e w9 ⟨rfl, hb⟩
                    have HR9 := hide ((unhide HR5).mono hb (unhide HR5).lt); have HW9 := hide ((unhide HW5).trans (hb.mono (unhide HW5).size))
                    clear hb
                    rw [show (Value.agg #[.int .i64 0, .int .i64 0, .string ⟨#[]⟩]) = vv blankX from rfl]
                    obtain ⟨z, hz⟩ : ∃ z, blankX = z := ⟨_, rfl⟩
                    have HZ : Hid (errFirst f q (orX (f 0) (f 1)) = z) := hide (by rw [← hz]; exact (errFirst_none (unhide HNE)).trans (by rw [orX, if_neg (unhide HNK)]; simp [x0, x1, y0]))
                    rw [hz]
                    clear hz
                    unfold vv
                    obtain ⟨r0, r1, r2⟩ := three (unhide HR9)
                    have f0 := (unhide HR9).free 0; have f1 := (unhide HR9).free 1; have f2 := (unhide HR9).free 2
                    go_wp2
                    exact bodyPost_ret (v := .agg #[.int .i64 z.k, .int .i64 z.n, .string z.s]) (by simp [results, Tryz.results5, go_sem, *]) rfl ⟨by rw [unhide HZ]; rfl, vx_out (unhide HW9) _ _ _⟩
                  | true =>
                    go_wp2_with fail
                    refine (l2IsFalse_any (f 0) w4).mono ?_
                    rintro e w5 ⟨rfl, hb⟩
                    rw [show (decide ((f 0).k = 2) && decide ((f 0).n = 0)) = isF (f 0) from rfl, y0]
                    have HR5 := hide ((unhide HR4).mono hb (unhide HR4).lt); have HW5 := hide ((unhide HW4).trans (hb.mono (unhide HW4).size))
                    have HV5 := hide ((unhide HV4).mono hb)
                    clear hb c0 c1 c2 d0 d1 d2
                    obtain ⟨b, o, ea, -, c0, c1, c2⟩ := unhide HV5 0 (by omega)
                    cases ea
                    rw [Nat.zero_mul, Nat.add_zero] at c0 c1 c2
                    obtain ⟨b1, o1, eb, -, d0, d1, d2⟩ := unhide HV5 1 (by omega)
                    cases eb
                    rw [show o + 1 * 3 = o + 3 by omega] at d0 d1 d2
                    cases y1 : isF (f 1) with
                    | true =>
                      go_wp2_with fail
                      refine (l2IsFalse_any (f 1) w5).mono ?_
                      rintro e w6 ⟨rfl, hb⟩
                      rw [show (decide ((f 1).k = 2) && decide ((f 1).n = 0)) = isF (f 1) from rfl, y1]
                      have HR6 := hide ((unhide HR5).mono hb (unhide HR5).lt); have HW6 := hide ((unhide HW5).trans (hb.mono (unhide HW5).size))
                      have HV6 := hide ((unhide HV5).mono hb)
                      clear hb c0 c1 c2 d0 d1 d2
                      obtain ⟨b, o, ea, -, c0, c1, c2⟩ := unhide HV6 0 (by omega)
                      cases ea
                      rw [Nat.zero_mul, Nat.add_zero] at c0 c1 c2
                      obtain ⟨b1, o1, eb, -, d0, d1, d2⟩ := unhide HV6 1 (by omega)
                      cases eb
                      rw [show o + 1 * 3 = o + 3 by omega] at d0 d1 d2
                      go_wp2_with fail
                      refine (l2Bool_any false w6).mono ?_
                      rintro e w9 ⟨rfl, hb⟩
                      have HR9 := hide ((unhide HR6).mono hb (unhide HR6).lt); have HW9 := hide ((unhide HW6).trans (hb.mono (unhide HW6).size))
                      clear hb
                      rw [show (Value.agg #[.int .i64 2, .int .i64 (if false then 1 else 0), .string ⟨#[]⟩]) = vv (boolX false) from rfl]
                      obtain ⟨z, hz⟩ : ∃ z, boolX false = z := ⟨_, rfl⟩
                      have HZ : Hid (errFirst f q (orX (f 0) (f 1)) = z) := hide (by rw [← hz]; exact (errFirst_none (unhide HNE)).trans (by rw [orX, if_neg (unhide HNK)]; simp [x0, x1, y0, y1]))
                      rw [hz]
                      clear hz
                      unfold vv
                      obtain ⟨r0, r1, r2⟩ := three (unhide HR9)
                      have f0 := (unhide HR9).free 0; have f1 := (unhide HR9).free 1; have f2 := (unhide HR9).free 2
                      go_wp2
                      exact bodyPost_ret (v := .agg #[.int .i64 z.k, .int .i64 z.n, .string z.s]) (by simp [results, Tryz.results5, go_sem, *]) rfl ⟨by rw [unhide HZ]; rfl, vx_out (unhide HW9) _ _ _⟩
                    | false =>
                      go_wp2_with fail
                      refine (l2IsFalse_any (f 1) w5).mono ?_
                      rintro e w6 ⟨rfl, hb⟩
                      rw [show (decide ((f 1).k = 2) && decide ((f 1).n = 0)) = isF (f 1) from rfl, y1]
                      have HR6 := hide ((unhide HR5).mono hb (unhide HR5).lt); have HW6 := hide ((unhide HW5).trans (hb.mono (unhide HW5).size))
                      have HV6 := hide ((unhide HV5).mono hb)
                      clear hb c0 c1 c2 d0 d1 d2
                      obtain ⟨b, o, ea, -, c0, c1, c2⟩ := unhide HV6 0 (by omega)
                      cases ea
                      rw [Nat.zero_mul, Nat.add_zero] at c0 c1 c2
                      obtain ⟨b1, o1, eb, -, d0, d1, d2⟩ := unhide HV6 1 (by omega)
                      cases eb
                      rw [show o + 1 * 3 = o + 3 by omega] at d0 d1 d2
                      go_wp2_with fail
                      refine (l2Blank_any w6).mono ?_
                      rintro e w9 ⟨rfl, hb⟩
                      have HR9 := hide ((unhide HR6).mono hb (unhide HR6).lt); have HW9 := hide ((unhide HW6).trans (hb.mono (unhide HW6).size))
                      clear hb
                      rw [show (Value.agg #[.int .i64 0, .int .i64 0, .string ⟨#[]⟩]) = vv blankX from rfl]
                      obtain ⟨z, hz⟩ : ∃ z, blankX = z := ⟨_, rfl⟩
                      have HZ : Hid (errFirst f q (orX (f 0) (f 1)) = z) := hide (by rw [← hz]; exact (errFirst_none (unhide HNE)).trans (by rw [orX, if_neg (unhide HNK)]; simp [x0, x1, y0, y1]))
                      rw [hz]
                      clear hz
                      unfold vv
                      obtain ⟨r0, r1, r2⟩ := three (unhide HR9)
                      have f0 := (unhide HR9).free 0; have f1 := (unhide HR9).free 1; have f2 := (unhide HR9).free 2
                      go_wp2
                      exact bodyPost_ret (v := .agg #[.int .i64 z.k, .int .i64 z.n, .string z.s]) (by simp [results, Tryz.results5, go_sem, *]) rfl ⟨by rw [unhide HZ]; rfl, vx_out (unhide HW9) _ _ _⟩
end Go.Proofs.YtnmpkdmflijhpaaGreatDoor
