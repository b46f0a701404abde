/- The model's Apply, whole. -/
import Derived.Test.YtnmpkdmflijhpaaGreatDoorApY
import Derived.Test.YtnmpkdmflijhpaaGreatDoorApI
import Derived.Test.YtnmpkdmflijhpaaGreatDoorApI2
import Derived.Test.YtnmpkdmflijhpaaGreatDoorApI3
import Derived.Test.YtnmpkdmflijhpaaGreatDoorApI4
import Derived.Test.YtnmpkdmflijhpaaGreatDoorApT
import Derived.Test.YtnmpkdmflijhpaaGreatDoorApT1
namespace Go.Proofs.YtnmpkdmflijhpaaGreatDoor
open Go Go.RowKit

set_option maxRecDepth 100000 in
set_option maxHeartbeats 8000000 in
theorem specApply_bad (op : Int) (a : Option Addr) (m c : Nat) (w : World) (hm : m ≤ 9223372036854775807) (hbad : ar op = 0 ∨ (m : Int) ≠ ar op) :
    Calls Tryz.prog 5 #[.int .i64 op, .slice a m c] w fun e w' => e = .returned (vv (errX 1)) ∧ Below w.heap.size w w' := by
  obtain ⟨A, hA⟩ : ∃ A, ar op = A := ⟨_, rfl⟩
  rw [hA] at hbad
  have HA := hide hA
  clear hA
  obtain ⟨W0, hW0⟩ : ∃ W0, w.alloc (.cells #[.int .i64 0, .int .i64 0, .string ⟨#[]⟩] 25) = W0 := ⟨_, rfl⟩
  have hb0 : Below w.heap.size w W0 := by rw [← hW0]; exact (Below.refl _ _).alloc (Nat.le_refl _) _
  have bR : Blk W0 w.heap.size 25 [.int .i64 0, .int .i64 0, .string ⟨#[]⟩] := by rw [← hW0]; exact Blk.new w 25 #[.int .i64 0, .int .i64 0, .string ⟨#[]⟩]
  have HR0 := hide bR; have HW0 := hide hb0
  clear hb0 bR
  go_enter Tryz.func5, Tryz.ntmps5
  go_wp2_with fail
  try rw [hW0]
  clear hW0
  refine (l2Arity_any op W0).mono ?_
  rintro e w1 ⟨rfl, hw⟩
  rw [hw, unhide HA]
  clear hw w1
  by_cases h0 : A = 0
  · have h0' : (A == 0) = true := beq_iff_eq.2 h0
    clear h0
    go_wp2_with fail
    refine (l2Err_any 1 W0).mono ?_
    rintro e w9 ⟨rfl, hb⟩
    have HR9 := hide ((unhide HR0).mono hb (unhide HR0).lt); have HW9 := hide ((unhide HW0).trans (hb.mono (unhide HW0).size))
    clear hb
    rw [show (Value.agg #[.int .i64 4, .int .i64 1, .string ⟨#[]⟩]) = vv (errX 1) from rfl]
    obtain ⟨z, hz⟩ : ∃ z, errX 1 = z := ⟨_, rfl⟩
    have HZ := hide hz
    rw [hz]
    clear hz
    unfold vv
    obtain ⟨r0, r1, r2⟩ := three (unhide HR9)
    have f0 := (unhide HR9).free 0; have f1 := (unhide HR9).free 1; have f2 := (unhide HR9).free 2
    go_wp2
    exact bodyPost_ret (v := .agg #[.int .i64 z.k, .int .i64 z.n, .string z.s]) (by simp [results, Tryz.results5, go_sem, *]) rfl ⟨by rw [unhide HZ]; rfl, vx_out (unhide HW9) _ _ _⟩
  · have h0' : (A == 0) = false := beq_eq_false_iff_ne.2 h0
    have hne : ((m : Int) == A) = false := beq_eq_false_iff_ne.2 (by omega)
    have hne2 : ((m : Int) != A) = true := by rw [bne, hne]; rfl
    clear h0
    go_wp2_with fail
    refine (l2Arity_any op W0).mono ?_
    rintro e w1 ⟨rfl, hw⟩
    rw [hw, unhide HA]
    clear hw w1
    go_wp2_with fail
    refine (l2Err_any 1 W0).mono ?_
    rintro e w9 ⟨rfl, hb⟩
    have HR9 := hide ((unhide HR0).mono hb (unhide HR0).lt); have HW9 := hide ((unhide HW0).trans (hb.mono (unhide HW0).size))
    clear hb
    rw [show (Value.agg #[.int .i64 4, .int .i64 1, .string ⟨#[]⟩]) = vv (errX 1) from rfl]
    obtain ⟨z, hz⟩ : ∃ z, errX 1 = z := ⟨_, rfl⟩
    have HZ := hide hz
    rw [hz]
    clear hz
    unfold vv
    obtain ⟨r0, r1, r2⟩ := three (unhide HR9)
    have f0 := (unhide HR9).free 0; have f1 := (unhide HR9).free 1; have f2 := (unhide HR9).free 2
    go_wp2
    exact bodyPost_ret (v := .agg #[.int .i64 z.k, .int .i64 z.n, .string z.s]) (by simp [results, Tryz.results5, go_sem, *]) rfl ⟨by rw [unhide HZ]; rfl, vx_out (unhide HW9) _ _ _⟩
set_option maxRecDepth 100000 in
set_option maxHeartbeats 8000000 in
theorem specApply_invalid (op : Int) (a : Option Addr) (m c : Nat) (f : Nat → Vx) (w : World) (hm : 1 ≤ m ∧ m ≤ 3) (har : ar op = m) (hv : Vals w a m f) (hno : ¬ ∀ i, i < m → okVal (f i).k (f i).n (f i).s = true) (hs : ∀ i, i < m → (f i).s.size ≤ 9223372036854775807) :
    Calls Tryz.prog 5 #[.int .i64 op, .slice a m c] w fun e w' => e = .returned (vv (errX 1)) ∧ Below w.heap.size w w' := by
  obtain ⟨hm1, hm3⟩ := hm
  have hm0 : ((m : Int) == 0) = false := beq_eq_false_iff_ne.2 (by omega)
  have HAR := hide har; have HNO := hide hno; have HSZ := hide hs
  clear har hno hs
  obtain ⟨W0, hW0⟩ : ∃ W0, w.alloc (.cells #[.int .i64 0, .int .i64 0, .string ⟨#[]⟩] 25) = W0 := ⟨_, rfl⟩
  have hb0 : Below w.heap.size w W0 := by rw [← hW0]; exact (Below.refl _ _).alloc (Nat.le_refl _) _
  have bR : Blk W0 w.heap.size 25 [.int .i64 0, .int .i64 0, .string ⟨#[]⟩] := by rw [← hW0]; exact Blk.new w 25 #[.int .i64 0, .int .i64 0, .string ⟨#[]⟩]
  have HV0 := hide (hv.mono hb0); have HR0 := hide bR; have HW0 := hide hb0
  clear hb0 bR hv
  go_enter Tryz.func5, Tryz.ntmps5
  go_wp2_with fail
  try rw [hW0]
  clear hW0
  refine (l2Arity_any op W0).mono ?_
  rintro e w1 ⟨rfl, hw⟩
  rw [hw, unhide HAR]
  clear hw w1
  go_wp2_with fail
  refine (l2Arity_any op W0).mono ?_
  rintro e w1 ⟨rfl, hw⟩
  rw [hw, unhide HAR]
  clear hw w1
  go_wp2
  go_loopw [5] (fun i wr => ∃ k : Nat, k ≤ m ∧ i = .int .i64 k ∧ (∀ j, j < k → okVal (f j).k (f j).n (f j).s = true) ∧ Blk wr w.heap.size 25 [.int .i64 0, .int .i64 0, .string ⟨#[]⟩] ∧ Below w.heap.size w wr ∧ Vals wr a m f) (fun i _ => m - (intOf i).toNat)
  case atStart => exact ⟨0, Nat.zero_le _, rfl, fun j hj => absurd hj (Nat.not_lt_zero _), unhide HR0, unhide HW0, unhide HV0⟩
  case round =>
    clear HR0 HW0 HV0
    obtain ⟨k, hk, rfl, hall, hR, hW, hV⟩ := hrel
    have HALL := hide hall
    clear hall
    have HR := hide hR; have HW := hide hW; have HV := hide hV
    clear hR hW hV
    by_cases hlt : k < m
    · have hlt' : (k : Int) < m := by omega
      obtain ⟨b, o, rfl, -, c0, c1, c2⟩ := unhide HV k hlt
      cases hok : okVal (f k).k (f k).n (f k).s with
      | true =>
        have HS : Hid (∀ j, j < k + 1 → okVal (f j).k (f j).n (f j).s = true) := hide fun j hj => by
          by_cases e : j = k
          · rw [e]; exact hok
          · exact unhide HALL j (by omega)
        go_wp2_with fail
        refine (specValidV_any (f k).k (f k).n (f k).s wr (unhide HSZ k hlt)).mono ?_
        rintro e w2 ⟨rfl, hb⟩
        rw [hok]
        have HR9 := hide ((unhide HR).mono hb (unhide HR).lt); have HW9 := hide ((unhide HW).trans (hb.mono (unhide HW).size)); have HV9 := hide ((unhide HV).mono hb)
        clear hb c0 c1 c2
        go_wp2
        go_roundw
        case rel => exact ⟨k + 1, by omega, by go_num, unhide HS, unhide HR9, unhide HW9, unhide HV9⟩
        case measure => simp [intOf]; omega
      | false =>
        go_wp2_with fail
        refine (specValidV_any (f k).k (f k).n (f k).s wr (unhide HSZ k hlt)).mono ?_
        rintro e w2 ⟨rfl, hb⟩
        rw [hok]
        have HR0 := hide ((unhide HR).mono hb (unhide HR).lt); have HW0 := hide ((unhide HW).trans (hb.mono (unhide HW).size))
        clear hb c0 c1 c2
        go_wp2_with fail
        refine (l2Err_any 1 w2).mono ?_
        rintro e w9 ⟨rfl, hb⟩
        have HR9 := hide ((unhide HR0).mono hb (unhide HR0).lt); have HW9 := hide ((unhide HW0).trans (hb.mono (unhide HW0).size))
        clear hb
        rw [show (Value.agg #[.int .i64 4, .int .i64 1, .string ⟨#[]⟩]) = vv (errX 1) from rfl]
        obtain ⟨z, hz⟩ : ∃ z, errX 1 = z := ⟨_, rfl⟩
        have HZ := hide hz
        rw [hz]
        clear hz
        unfold vv
        obtain ⟨r0, r1, r2⟩ := three (unhide HR9)
        have f0 := (unhide HR9).free 0; have f1 := (unhide HR9).free 1; have f2 := (unhide HR9).free 2
        go_wp2
        exact bodyPost_ret (v := .agg #[.int .i64 z.k, .int .i64 z.n, .string z.s]) (by simp [results, Tryz.results5, go_sem, *]) rfl ⟨by rw [unhide HZ]; rfl, vx_out (unhide HW9) _ _ _⟩
    · obtain rfl : k = m := by omega
      exact absurd (unhide HALL) (unhide HNO)
end Go.Proofs.YtnmpkdmflijhpaaGreatDoor
