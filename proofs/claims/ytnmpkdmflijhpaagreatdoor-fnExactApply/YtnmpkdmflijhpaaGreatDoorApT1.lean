/- The model's operators on texts, one text. -/
import Derived.Test.YtnmpkdmflijhpaaGreatDoorApV
import Derived.Test.YtnmpkdmflijhpaaGreatDoorReadI
namespace Go.Proofs.YtnmpkdmflijhpaaGreatDoor
open Go Go.RowKit

def text1 (op : Int) (p : Vx) : Vx :=
  if op = 21 then intX p.s.size else if op = 22 then (if (rd p.s.data.toList).2 then intX (rd p.s.data.toList).1 else errX 5) else if op = 23 then p else errX 1

set_option maxRecDepth 100000 in
set_option maxHeartbeats 8000000 in
theorem onText_len (b o c : Nat) (p : Vx) (w : World) (h0 : Cel w b o p) (hs : p.k = 3 ∧ p.s.size ≤ 1000) :
    Calls Tryz.prog 20 #[.int .i64 21, .slice (some ⟨b, o, none⟩) 1 c] w fun e w' => e = .returned (vv (text1 21 p)) ∧ Below w.heap.size w w' := by
  obtain ⟨hk, hp⟩ := hs
  have HK := hide hk
  clear hk
  obtain ⟨W0, hW0⟩ : ∃ W0, w.alloc (.cells #[.int .i64 0, .int .i64 0, .string ⟨#[]⟩] 25) = W0 := ⟨_, rfl⟩
  have hb0 : Below w.heap.size w W0 := by rw [← hW0]; exact (Below.refl _ _).alloc (Nat.le_refl _) _
  have bR : Blk W0 w.heap.size 25 [.int .i64 0, .int .i64 0, .string ⟨#[]⟩] := by rw [← hW0]; exact Blk.new w 25 #[.int .i64 0, .int .i64 0, .string ⟨#[]⟩]
  have HC0 := hide (h0.mono hb0)
  obtain ⟨-, a0, a1, a2⟩ := h0.mono hb0
  have HR2 := hide bR; have HW2 := hide hb0
  clear hb0 bR h0
  go_enter Tryz.func20, Tryz.ntmps20
  go_wp2_with fail
  try rw [hW0]
  clear hW0
  refine (l2Int_any 0 _).mono ?_
  rintro e w3 ⟨rfl, hb⟩
  have HR3 := hide ((unhide HR2).mono hb (unhide HR2).lt); have HW3 := hide ((unhide HW2).trans (hb.mono (unhide HW2).size))
  clear hb
  obtain ⟨w4, hw4⟩ : ∃ w4, w3.alloc (.cells #[.int .i64 1, .int .i64 0, .string ⟨#[]⟩] 25) = w4 := ⟨_, rfl⟩
  have hb4 : Below w3.heap.size w3 w4 := by rw [← hw4]; exact (Below.refl _ _).alloc (Nat.le_refl _) _
  obtain ⟨X6, hX6⟩ : ∃ X6, w3.heap.size = X6 := ⟨_, rfl⟩
  have hB6 : Blk w4 X6 25 [.int .i64 1, .int .i64 0, .string ⟨#[]⟩] := by rw [← hX6, ← hw4]; exact Blk.new w3 25 #[.int .i64 1, .int .i64 0, .string ⟨#[]⟩]
  have hR4 := (unhide HR3).mono hb4 (unhide HR3).lt
  have hge : w.heap.size < X6 := by rw [← hX6]; exact (unhide HR3).lt
  have HB6 := hide hB6; have HR4 := hide hR4; have HW4 := hide ((unhide HW3).trans (hb4.mono (unhide HW3).size))
  have HWX := hide (And.intro hw4 hX6)
  clear hb4 hB6 hR4 a0 a1 a2 hw4 hX6
  go_wp2
  rw [(unhide HWX).1, (unhide HWX).2]
  clear HWX
  go_loopw [7] (fun i wr => ∃ k : Nat, k ≤ p.s.size ∧ i = .int .i64 k ∧ Blk wr X6 25 [.int .i64 1, .int .i64 k, .string ⟨#[]⟩] ∧ Blk wr w.heap.size 25 [.int .i64 0, .int .i64 0, .string ⟨#[]⟩] ∧ Below w.heap.size w wr) (fun i _ => p.s.size - (intOf i).toNat)
  case atStart => exact ⟨0, Nat.zero_le _, rfl, unhide HB6, unhide HR4, unhide HW4⟩
  case round =>
    obtain ⟨k, hk, rfl, hB, hR, hb⟩ := hrel
    obtain ⟨x0, x1, x2⟩ := three hB
    have g0 := hB.free 0; have g1 := hB.free 1; have g2 := hB.free 2
    clear HB6 HR4 HW4
    have HB := hide hB; have HR := hide hR; have HW := hide hb
    clear hB hb
    by_cases hlt : k < p.s.size
    · have HB9 := hide ((unhide HB).set 1 (.int .i64 ((k : Int) + 1)))
      have HR9 := hide ((unhide HR).other (a := ⟨X6, 1, none⟩) (.int .i64 ((k : Int) + 1)) (by show w.heap.size ≠ X6; omega))
      have HW9 := hide ((unhide HW).setCell (p := ⟨X6, 1, none⟩) (by show w.heap.size ≤ X6; omega) (.int .i64 ((k : Int) + 1)))
      clear hR
      go_wp2
      go_roundw
      case rel => exact ⟨k + 1, by omega, by go_num, by simpa using unhide HB9, unhide HR9, unhide HW9⟩
      case measure => simp [intOf]; omega
    · obtain rfl : k = p.s.size := by omega
      obtain ⟨r0, r1, r2⟩ := three hR
      have f0 := hR.free 0; have f1 := hR.free 1; have f2 := hR.free 2
      have HZ : Hid (text1 21 p = intX p.s.size) := hide (by simp [text1])
      have n6 : ¬ X6 = w.heap.size := by omega
      have n7 : ¬ w.heap.size = X6 := by omega
      clear hR
      go_wp2
      exact bodyPost_ret (v := .agg #[.int .i64 1, .int .i64 p.s.size, .string ⟨#[]⟩]) (by simp [results, Tryz.results20, go_sem, *]) rfl ⟨by rw [unhide HZ]; rfl, vx_out (unhide HW) _ _ _⟩

set_option maxRecDepth 100000 in
set_option maxHeartbeats 8000000 in
theorem onText_num (b o c : Nat) (p : Vx) (w : World) (h0 : Cel w b o p) (hs : p.k = 3 ∧ p.s.size ≤ 1000) :
    Calls Tryz.prog 20 #[.int .i64 22, .slice (some ⟨b, o, none⟩) 1 c] w fun e w' => e = .returned (vv (text1 22 p)) ∧ Below w.heap.size w w' := by
  obtain ⟨hk, hp⟩ := hs
  have HK := hide hk
  clear hk
  obtain ⟨x, ok, hrd⟩ : ∃ x ok, rd p.s.data.toList = (x, ok) := ⟨_, _, rfl⟩
  cases ok with
  | true =>
    have HRD := hide hrd
    clear hrd
    obtain ⟨W0, hW0⟩ : ∃ W0, w.alloc (.cells #[.int .i64 0, .int .i64 0, .string ⟨#[]⟩] 25) = W0 := ⟨_, rfl⟩
    have hb0 : Below w.heap.size w W0 := by rw [← hW0]; exact (Below.refl _ _).alloc (Nat.le_refl _) _
    have bR : Blk W0 w.heap.size 25 [.int .i64 0, .int .i64 0, .string ⟨#[]⟩] := by rw [← hW0]; exact Blk.new w 25 #[.int .i64 0, .int .i64 0, .string ⟨#[]⟩]
    have HC0 := hide (h0.mono hb0)
    obtain ⟨-, a0, a1, a2⟩ := h0.mono hb0
    have HR2 := hide bR; have HW2 := hide hb0
    clear hb0 bR h0
    go_enter Tryz.func20, Tryz.ntmps20
    go_wp2_with fail
    try rw [hW0]
    clear hW0
    refine (l2ReadInt_any p.s _ (by omega) x true (unhide HRD)).mono ?_
    rintro e w3 ⟨rfl, hb⟩
    have HR3 := hide ((unhide HR2).mono hb (unhide HR2).lt); have HW3 := hide ((unhide HW2).trans (hb.mono (unhide HW2).size))
    clear hb
    go_wp2_with fail
    refine (l2Int_any x _).mono ?_
    rintro e w4 ⟨rfl, hb⟩
    have HR4 := hide ((unhide HR3).mono hb (unhide HR3).lt); have HW4 := hide ((unhide HW3).trans (hb.mono (unhide HW3).size))
    clear hb
    rw [show (Value.agg #[.int .i64 1, .int .i64 x, .string ⟨#[]⟩]) = vv (intX x) from rfl]
    obtain ⟨z, hz⟩ : ∃ z, intX x = z := ⟨_, rfl⟩
    have HZ : Hid (text1 22 p = z) := hide (by
      rw [← hz]
      simp [text1, unhide HRD])
    rw [hz]
    clear hz
    unfold vv
    obtain ⟨r0, r1, r2⟩ := three (unhide HR4)
    have f0 := (unhide HR4).free 0; have f1 := (unhide HR4).free 1; have f2 := (unhide HR4).free 2
    clear a0 a1 a2
    go_wp2
    exact bodyPost_ret (v := .agg #[.int .i64 z.k, .int .i64 z.n, .string z.s]) (by simp [results, Tryz.results20, go_sem, *]) rfl ⟨by rw [unhide HZ]; rfl, vx_out (unhide HW4) _ _ _⟩
  | false =>
    have HRD := hide hrd
    clear hrd
    obtain ⟨W0, hW0⟩ : ∃ W0, w.alloc (.cells #[.int .i64 0, .int .i64 0, .string ⟨#[]⟩] 25) = W0 := ⟨_, rfl⟩
    have hb0 : Below w.heap.size w W0 := by rw [← hW0]; exact (Below.refl _ _).alloc (Nat.le_refl _) _
    have bR : Blk W0 w.heap.size 25 [.int .i64 0, .int .i64 0, .string ⟨#[]⟩] := by rw [← hW0]; exact Blk.new w 25 #[.int .i64 0, .int .i64 0, .string ⟨#[]⟩]
    have HC0 := hide (h0.mono hb0)
    obtain ⟨-, a0, a1, a2⟩ := h0.mono hb0
    have HR2 := hide bR; have HW2 := hide hb0
    clear hb0 bR h0
    go_enter Tryz.func20, Tryz.ntmps20
    go_wp2_with fail
    try rw [hW0]
    clear hW0
    refine (l2ReadInt_any p.s _ (by omega) x false (unhide HRD)).mono ?_
    rintro e w3 ⟨rfl, hb⟩
    have HR3 := hide ((unhide HR2).mono hb (unhide HR2).lt); have HW3 := hide ((unhide HW2).trans (hb.mono (unhide HW2).size))
    clear hb
    go_wp2_with fail
    refine (l2Err_any 5 _).mono ?_
    rintro e w4 ⟨rfl, hb⟩
    have HR4 := hide ((unhide HR3).mono hb (unhide HR3).lt); have HW4 := hide ((unhide HW3).trans (hb.mono (unhide HW3).size))
    clear hb
    rw [show (Value.agg #[.int .i64 4, .int .i64 5, .string ⟨#[]⟩]) = vv (errX 5) from rfl]
    obtain ⟨z, hz⟩ : ∃ z, errX 5 = z := ⟨_, rfl⟩
    have HZ : Hid (text1 22 p = z) := hide (by
      rw [← hz]
      simp [text1, unhide HRD])
    rw [hz]
    clear hz
    unfold vv
    obtain ⟨r0, r1, r2⟩ := three (unhide HR4)
    have f0 := (unhide HR4).free 0; have f1 := (unhide HR4).free 1; have f2 := (unhide HR4).free 2
    clear a0 a1 a2
    go_wp2
    exact bodyPost_ret (v := .agg #[.int .i64 z.k, .int .i64 z.n, .string z.s]) (by simp [results, Tryz.results20, go_sem, *]) rfl ⟨by rw [unhide HZ]; rfl, vx_out (unhide HW4) _ _ _⟩

set_option maxRecDepth 100000 in
set_option maxHeartbeats 8000000 in
theorem onText_str (b o c : Nat) (p : Vx) (w : World) (h0 : Cel w b o p) (hs : p.k = 3 ∧ p.s.size ≤ 1000) :
    Calls Tryz.prog 20 #[.int .i64 23, .slice (some ⟨b, o, none⟩) 1 c] w fun e w' => e = .returned (vv (text1 23 p)) ∧ Below w.heap.size w w' := by
  obtain ⟨hk, hp⟩ := hs
  have HK := hide hk
  clear hk
  obtain ⟨W0, hW0⟩ : ∃ W0, w.alloc (.cells #[.int .i64 0, .int .i64 0, .string ⟨#[]⟩] 25) = W0 := ⟨_, rfl⟩
  have hb0 : Below w.heap.size w W0 := by rw [← hW0]; exact (Below.refl _ _).alloc (Nat.le_refl _) _
  have bR : Blk W0 w.heap.size 25 [.int .i64 0, .int .i64 0, .string ⟨#[]⟩] := by rw [← hW0]; exact Blk.new w 25 #[.int .i64 0, .int .i64 0, .string ⟨#[]⟩]
  have HC0 := hide (h0.mono hb0)
  obtain ⟨-, a0, a1, a2⟩ := h0.mono hb0
  have HR2 := hide bR; have HW2 := hide hb0
  clear hb0 bR h0
  go_enter Tryz.func20, Tryz.ntmps20
  have HZ : Hid (text1 23 p = p) := hide (by simp [text1])
  obtain ⟨r0, r1, r2⟩ := three (unhide HR2)
  have f0 := (unhide HR2).free 0; have f1 := (unhide HR2).free 1; have f2 := (unhide HR2).free 2
  go_wp2
  try rw [hW0]
  exact bodyPost_ret (v := .agg #[.int .i64 p.k, .int .i64 p.n, .string p.s]) (by simp [results, Tryz.results20, go_sem, *]) rfl ⟨by rw [unhide HZ]; rfl, vx_out (unhide HW2) _ _ _⟩

set_option maxRecDepth 100000 in
set_option maxHeartbeats 8000000 in
theorem onText_neg (b o c : Nat) (p : Vx) (w : World) (h0 : Cel w b o p) (hs : p.k = 3 ∧ p.s.size ≤ 1000) :
    Calls Tryz.prog 20 #[.int .i64 2, .slice (some ⟨b, o, none⟩) 1 c] w fun e w' => e = .returned (vv (text1 2 p)) ∧ Below w.heap.size w w' := by
  obtain ⟨hk, hp⟩ := hs
  have HK := hide hk
  clear hk
  obtain ⟨W0, hW0⟩ : ∃ W0, w.alloc (.cells #[.int .i64 0, .int .i64 0, .string ⟨#[]⟩] 25) = W0 := ⟨_, rfl⟩
  have hb0 : Below w.heap.size w W0 := by rw [← hW0]; exact (Below.refl _ _).alloc (Nat.le_refl _) _
  have bR : Blk W0 w.heap.size 25 [.int .i64 0, .int .i64 0, .string ⟨#[]⟩] := by rw [← hW0]; exact Blk.new w 25 #[.int .i64 0, .int .i64 0, .string ⟨#[]⟩]
  have HC0 := hide (h0.mono hb0)
  obtain ⟨-, a0, a1, a2⟩ := h0.mono hb0
  have HR2 := hide bR; have HW2 := hide hb0
  clear hb0 bR h0
  go_enter Tryz.func20, Tryz.ntmps20
  go_wp2_with fail
  try rw [hW0]
  clear hW0
  refine (l2Err_any 1 _).mono ?_
  rintro e w3 ⟨rfl, hb⟩
  have HR3 := hide ((unhide HR2).mono hb (unhide HR2).lt); have HW3 := hide ((unhide HW2).trans (hb.mono (unhide HW2).size))
  clear hb
  rw [show (Value.agg #[.int .i64 4, .int .i64 1, .string ⟨#[]⟩]) = vv (errX 1) from rfl]
  obtain ⟨z, hz⟩ : ∃ z, errX 1 = z := ⟨_, rfl⟩
  have HZ : Hid (text1 2 p = z) := hide (by
    rw [← hz]
    simp [text1])
  rw [hz]
  clear hz
  unfold vv
  obtain ⟨r0, r1, r2⟩ := three (unhide HR3)
  have f0 := (unhide HR3).free 0; have f1 := (unhide HR3).free 1; have f2 := (unhide HR3).free 2
  clear a0 a1 a2
  go_wp2
  exact bodyPost_ret (v := .agg #[.int .i64 z.k, .int .i64 z.n, .string z.s]) (by simp [results, Tryz.results20, go_sem, *]) rfl ⟨by rw [unhide HZ]; rfl, vx_out (unhide HW3) _ _ _⟩

set_option maxRecDepth 100000 in
set_option maxHeartbeats 8000000 in
theorem onText_not (b o c : Nat) (p : Vx) (w : World) (h0 : Cel w b o p) (hs : p.k = 3 ∧ p.s.size ≤ 1000) :
    Calls Tryz.prog 20 #[.int .i64 3, .slice (some ⟨b, o, none⟩) 1 c] w fun e w' => e = .returned (vv (text1 3 p)) ∧ Below w.heap.size w w' := by
  obtain ⟨hk, hp⟩ := hs
  have HK := hide hk
  clear hk
  obtain ⟨W0, hW0⟩ : ∃ W0, w.alloc (.cells #[.int .i64 0, .int .i64 0, .string ⟨#[]⟩] 25) = W0 := ⟨_, rfl⟩
  have hb0 : Below w.heap.size w W0 := by rw [← hW0]; exact (Below.refl _ _).alloc (Nat.le_refl _) _
  have bR : Blk W0 w.heap.size 25 [.int .i64 0, .int .i64 0, .string ⟨#[]⟩] := by rw [← hW0]; exact Blk.new w 25 #[.int .i64 0, .int .i64 0, .string ⟨#[]⟩]
  have HC0 := hide (h0.mono hb0)
  obtain ⟨-, a0, a1, a2⟩ := h0.mono hb0
  have HR2 := hide bR; have HW2 := hide hb0
  clear hb0 bR h0
  go_enter Tryz.func20, Tryz.ntmps20
  go_wp2_with fail
  try rw [hW0]
  clear hW0
  refine (l2Err_any 1 _).mono ?_
  rintro e w3 ⟨rfl, hb⟩
  have HR3 := hide ((unhide HR2).mono hb (unhide HR2).lt); have HW3 := hide ((unhide HW2).trans (hb.mono (unhide HW2).size))
  clear hb
  rw [show (Value.agg #[.int .i64 4, .int .i64 1, .string ⟨#[]⟩]) = vv (errX 1) from rfl]
  obtain ⟨z, hz⟩ : ∃ z, errX 1 = z := ⟨_, rfl⟩
  have HZ : Hid (text1 3 p = z) := hide (by
    rw [← hz]
    simp [text1])
  rw [hz]
  clear hz
  unfold vv
  obtain ⟨r0, r1, r2⟩ := three (unhide HR3)
  have f0 := (unhide HR3).free 0; have f1 := (unhide HR3).free 1; have f2 := (unhide HR3).free 2
  clear a0 a1 a2
  go_wp2
  exact bodyPost_ret (v := .agg #[.int .i64 z.k, .int .i64 z.n, .string z.s]) (by simp [results, Tryz.results20, go_sem, *]) rfl ⟨by rw [unhide HZ]; rfl, vx_out (unhide HW3) _ _ _⟩

end Go.Proofs.YtnmpkdmflijhpaaGreatDoor
