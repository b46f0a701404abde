/- The model's operators on bools. -/
import Derived.Test.YtnmpkdmflijhpaaGreatDoorApV
import Derived.Test.YtnmpkdmflijhpaaGreatDoorHand
namespace Go.Proofs.YtnmpkdmflijhpaaGreatDoor
open Go Go.RowKit

def bool1 (op : Int) (p : Vx) : Vx :=
  if op = 3 then boolX (decide (p.n = 0)) else if op = 23 then (if p.n = 1 then textX ⟨#[116, 114, 117, 101]⟩ else textX ⟨#[102, 97, 108, 115, 101]⟩) else errX 1
def bool2 (op x y : Int) : Vx := if op = 10 then boolX (decide (x = y)) else if op = 11 then boolX (!decide (x = y)) else errX 1

set_option maxRecDepth 100000 in
theorem l2IsTrue_any (u : Vx) (w : World) : Calls Tryz.prog 15 #[.agg #[.int .i64 u.k, .int .i64 u.n, .string u.s]] w fun e w' => e = .returned (.bool (decide (u.k = 2) && decide (u.n = 1))) ∧ Below w.heap.size w w' := by
  have HB : ∀ o, Hid (Below w.heap.size w (w.alloc o)) := fun o => hide ((Below.refl _ _).alloc (Nat.le_refl _) _)
  by_cases hk : u.k = 2
  · by_cases hn : u.n = 1
    · have e1 : (decide (u.k = 2) && decide (u.n = 1)) = true := by rw [decide_eq_true hk, decide_eq_true hn]; rfl
      rw [e1]
      clear e1
      go_enter Tryz.func15, Tryz.ntmps15
      go_wp2
      go_ret
      exact ⟨rfl, unhide (HB _)⟩
    · have e1 : (decide (u.k = 2) && decide (u.n = 1)) = false := by rw [decide_eq_false hn]; simp
      have e2 : (u.n == 1) = false := beq_eq_false_iff_ne.2 hn
      rw [e1]
      clear e1
      go_enter Tryz.func15, Tryz.ntmps15
      go_wp2
      go_ret
      exact ⟨rfl, unhide (HB _)⟩
  · have e1 : (decide (u.k = 2) && decide (u.n = 1)) = false := by rw [decide_eq_false hk]; rfl
    rw [e1]
    clear e1
    go_enter Tryz.func15, Tryz.ntmps15
    go_wp2
    go_ret
    exact ⟨rfl, unhide (HB _)⟩
set_option maxRecDepth 100000 in
theorem l2IsFalse_any (u : Vx) (w : World) : Calls Tryz.prog 16 #[.agg #[.int .i64 u.k, .int .i64 u.n, .string u.s]] w fun e w' => e = .returned (.bool (decide (u.k = 2) && decide (u.n = 0))) ∧ Below w.heap.size w w' := by
  have HB : ∀ o, Hid (Below w.heap.size w (w.alloc o)) := fun o => hide ((Below.refl _ _).alloc (Nat.le_refl _) _)
  by_cases hk : u.k = 2
  · by_cases hn : u.n = 0
    · have e1 : (decide (u.k = 2) && decide (u.n = 0)) = true := by rw [decide_eq_true hk, decide_eq_true hn]; rfl
      rw [e1]
      clear e1
      go_enter Tryz.func16, Tryz.ntmps16
      go_wp2
      go_ret
      exact ⟨rfl, unhide (HB _)⟩
    · have e1 : (decide (u.k = 2) && decide (u.n = 0)) = false := by rw [decide_eq_false hn]; simp
      have e2 : (u.n == 0) = false := beq_eq_false_iff_ne.2 hn
      rw [e1]
      clear e1
      go_enter Tryz.func16, Tryz.ntmps16
      go_wp2
      go_ret
      exact ⟨rfl, unhide (HB _)⟩
  · have e1 : (decide (u.k = 2) && decide (u.n = 0)) = false := by rw [decide_eq_false hk]; rfl
    rw [e1]
    clear e1
    go_enter Tryz.func16, Tryz.ntmps16
    go_wp2
    go_ret
    exact ⟨rfl, unhide (HB _)⟩
set_option maxRecDepth 100000 in
set_option maxHeartbeats 8000000 in
theorem onBool_not (b o c : Nat) (p : Vx) (w : World) (h0 : Cel w b o p) (hk : p.k = 2) :
    Calls Tryz.prog 21 #[.int .i64 3, .slice (some ⟨b, o, none⟩) 1 c] w fun e w' => e = .returned (vv (bool1 3 p)) ∧ Below w.heap.size w w' := by
  have HK := hide hk
  clear hk
  obtain ⟨W0, hW0⟩ : ∃ W0, w.alloc (.cells #[.int .i64 0, .int .i64 0, .string ⟨#[]⟩] 25) = W0 := ⟨_, rfl⟩
  have hb0 : Below w.heap.size w W0 := by rw [← hW0]; exact (Below.refl _ _).alloc (Nat.le_refl _) _
  have bR : Blk W0 w.heap.size 25 [.int .i64 0, .int .i64 0, .string ⟨#[]⟩] := by rw [← hW0]; exact Blk.new w 25 #[.int .i64 0, .int .i64 0, .string ⟨#[]⟩]
  have HC0 := hide (h0.mono hb0)
  obtain ⟨-, a0, a1, a2⟩ := h0.mono hb0
  have HR2 := hide bR; have HW2 := hide hb0
  clear hb0 bR h0
  go_enter Tryz.func21, Tryz.ntmps21
  go_wp2_with fail
  try rw [hW0]
  clear hW0
  refine (l2IsFalse_any p _).mono ?_
  rintro e w3 ⟨rfl, hb⟩
  have HR3 := hide ((unhide HR2).mono hb (unhide HR2).lt); have HW3 := hide ((unhide HW2).trans (hb.mono (unhide HW2).size))
  clear hb
  rw [unhide HK, show (decide ((2 : Int) = 2) && decide (p.n = 0)) = decide (p.n = 0) from by simp]
  go_wp2_with fail
  refine (l2Bool_any (decide (p.n = 0)) _).mono ?_
  rintro e w4 ⟨rfl, hb⟩
  have HR4 := hide ((unhide HR3).mono hb (unhide HR3).lt); have HW4 := hide ((unhide HW3).trans (hb.mono (unhide HW3).size))
  clear hb
  rw [show (Value.agg #[.int .i64 2, .int .i64 (if decide (p.n = 0) then 1 else 0), .string ⟨#[]⟩]) = vv (boolX (decide (p.n = 0))) from rfl]
  obtain ⟨z, hz⟩ : ∃ z, boolX (decide (p.n = 0)) = z := ⟨_, rfl⟩
  have HZ : Hid (bool1 3 p = z) := hide (by
    rw [← hz]
    simp [bool1])
  rw [hz]
  clear hz
  unfold vv
  obtain ⟨r0, r1, r2⟩ := three (unhide HR4)
  have f0 := (unhide HR4).free 0; have f1 := (unhide HR4).free 1; have f2 := (unhide HR4).free 2
  clear a0 a1 a2
  go_wp2
  exact bodyPost_ret (v := .agg #[.int .i64 z.k, .int .i64 z.n, .string z.s]) (by simp [results, Tryz.results21, go_sem, *]) rfl ⟨by rw [unhide HZ]; rfl, vx_out (unhide HW4) _ _ _⟩

set_option maxRecDepth 100000 in
set_option maxHeartbeats 8000000 in
theorem onBool_str (b o c : Nat) (p : Vx) (w : World) (h0 : Cel w b o p) (hk : p.k = 2) :
    Calls Tryz.prog 21 #[.int .i64 23, .slice (some ⟨b, o, none⟩) 1 c] w fun e w' => e = .returned (vv (bool1 23 p)) ∧ Below w.heap.size w w' := by
  have HK := hide hk
  clear hk
  by_cases hn : p.n = 1
  · have HN := hide hn
    clear hn
    obtain ⟨W0, hW0⟩ : ∃ W0, w.alloc (.cells #[.int .i64 0, .int .i64 0, .string ⟨#[]⟩] 25) = W0 := ⟨_, rfl⟩
    have hb0 : Below w.heap.size w W0 := by rw [← hW0]; exact (Below.refl _ _).alloc (Nat.le_refl _) _
    have bR : Blk W0 w.heap.size 25 [.int .i64 0, .int .i64 0, .string ⟨#[]⟩] := by rw [← hW0]; exact Blk.new w 25 #[.int .i64 0, .int .i64 0, .string ⟨#[]⟩]
    have HC0 := hide (h0.mono hb0)
    obtain ⟨-, a0, a1, a2⟩ := h0.mono hb0
    have HR2 := hide bR; have HW2 := hide hb0
    clear hb0 bR h0
    go_enter Tryz.func21, Tryz.ntmps21
    go_wp2_with fail
    try rw [hW0]
    clear hW0
    refine (l2IsTrue_any p _).mono ?_
    rintro e w3 ⟨rfl, hb⟩
    have HR3 := hide ((unhide HR2).mono hb (unhide HR2).lt); have HW3 := hide ((unhide HW2).trans (hb.mono (unhide HW2).size))
    clear hb
    rw [show (decide (p.k = 2) && decide (p.n = 1)) = true from by simp [unhide HK, unhide HN]]
    go_wp2_with fail
    refine (l2Text_any ⟨#[116, 114, 117, 101]⟩ _).mono ?_
    rintro e w4 ⟨rfl, hb⟩
    have HR4 := hide ((unhide HR3).mono hb (unhide HR3).lt); have HW4 := hide ((unhide HW3).trans (hb.mono (unhide HW3).size))
    clear hb
    rw [show (Value.agg #[.int .i64 3, .int .i64 0, .string ⟨#[116, 114, 117, 101]⟩]) = vv (textX ⟨#[116, 114, 117, 101]⟩) from rfl]
    obtain ⟨z, hz⟩ : ∃ z, textX ⟨#[116, 114, 117, 101]⟩ = z := ⟨_, rfl⟩
    have HZ : Hid (bool1 23 p = z) := hide (by
      rw [← hz]
      simp [bool1, unhide HN])
    rw [hz]
    clear hz
    unfold vv
    obtain ⟨r0, r1, r2⟩ := three (unhide HR4)
    have f0 := (unhide HR4).free 0; have f1 := (unhide HR4).free 1; have f2 := (unhide HR4).free 2
    clear a0 a1 a2
    go_wp2
    exact bodyPost_ret (v := .agg #[.int .i64 z.k, .int .i64 z.n, .string z.s]) (by simp [results, Tryz.results21, go_sem, *]) rfl ⟨by rw [unhide HZ]; rfl, vx_out (unhide HW4) _ _ _⟩
  have HN := hide hn
  clear hn
  obtain ⟨W0, hW0⟩ : ∃ W0, w.alloc (.cells #[.int .i64 0, .int .i64 0, .string ⟨#[]⟩] 25) = W0 := ⟨_, rfl⟩
  have hb0 : Below w.heap.size w W0 := by rw [← hW0]; exact (Below.refl _ _).alloc (Nat.le_refl _) _
  have bR : Blk W0 w.heap.size 25 [.int .i64 0, .int .i64 0, .string ⟨#[]⟩] := by rw [← hW0]; exact Blk.new w 25 #[.int .i64 0, .int .i64 0, .string ⟨#[]⟩]
  have HC0 := hide (h0.mono hb0)
  obtain ⟨-, a0, a1, a2⟩ := h0.mono hb0
  have HR2 := hide bR; have HW2 := hide hb0
  clear hb0 bR h0
  go_enter Tryz.func21, Tryz.ntmps21
  go_wp2_with fail
  try rw [hW0]
  clear hW0
  refine (l2IsTrue_any p _).mono ?_
  rintro e w3 ⟨rfl, hb⟩
  have HR3 := hide ((unhide HR2).mono hb (unhide HR2).lt); have HW3 := hide ((unhide HW2).trans (hb.mono (unhide HW2).size))
  clear hb
  rw [show (decide (p.k = 2) && decide (p.n = 1)) = false from by simp [unhide HK, unhide HN]]
  go_wp2_with fail
  refine (l2Text_any ⟨#[102, 97, 108, 115, 101]⟩ _).mono ?_
  rintro e w4 ⟨rfl, hb⟩
  have HR4 := hide ((unhide HR3).mono hb (unhide HR3).lt); have HW4 := hide ((unhide HW3).trans (hb.mono (unhide HW3).size))
  clear hb
  rw [show (Value.agg #[.int .i64 3, .int .i64 0, .string ⟨#[102, 97, 108, 115, 101]⟩]) = vv (textX ⟨#[102, 97, 108, 115, 101]⟩) from rfl]
  obtain ⟨z, hz⟩ : ∃ z, textX ⟨#[102, 97, 108, 115, 101]⟩ = z := ⟨_, rfl⟩
  have HZ : Hid (bool1 23 p = z) := hide (by
    rw [← hz]
    simp [bool1, unhide HN])
  rw [hz]
  clear hz
  unfold vv
  obtain ⟨r0, r1, r2⟩ := three (unhide HR4)
  have f0 := (unhide HR4).free 0; have f1 := (unhide HR4).free 1; have f2 := (unhide HR4).free 2
  clear a0 a1 a2
  go_wp2
  exact bodyPost_ret (v := .agg #[.int .i64 z.k, .int .i64 z.n, .string z.s]) (by simp [results, Tryz.results21, go_sem, *]) rfl ⟨by rw [unhide HZ]; rfl, vx_out (unhide HW4) _ _ _⟩

set_option maxRecDepth 100000 in
set_option maxHeartbeats 8000000 in
theorem onBool_neg (b o c : Nat) (p : Vx) (w : World) (h0 : Cel w b o p) (hk : p.k = 2) :
    Calls Tryz.prog 21 #[.int .i64 2, .slice (some ⟨b, o, none⟩) 1 c] w fun e w' => e = .returned (vv (bool1 2 p)) ∧ Below w.heap.size w w' := by
  have HK := hide hk
  clear hk
  obtain ⟨W0, hW0⟩ : ∃ W0, w.alloc (.cells #[.int .i64 0, .int .i64 0, .string ⟨#[]⟩] 25) = W0 := ⟨_, rfl⟩
  have hb0 : Below w.heap.size w W0 := by rw [← hW0]; exact (Below.refl _ _).alloc (Nat.le_refl _) _
  have bR : Blk W0 w.heap.size 25 [.int .i64 0, .int .i64 0, .string ⟨#[]⟩] := by rw [← hW0]; exact Blk.new w 25 #[.int .i64 0, .int .i64 0, .string ⟨#[]⟩]
  have HC0 := hide (h0.mono hb0)
  obtain ⟨-, a0, a1, a2⟩ := h0.mono hb0
  have HR2 := hide bR; have HW2 := hide hb0
  clear hb0 bR h0
  go_enter Tryz.func21, Tryz.ntmps21
  go_wp2_with fail
  try rw [hW0]
  clear hW0
  refine (l2Err_any 1 _).mono ?_
  rintro e w3 ⟨rfl, hb⟩
  have HR3 := hide ((unhide HR2).mono hb (unhide HR2).lt); have HW3 := hide ((unhide HW2).trans (hb.mono (unhide HW2).size))
  clear hb
  rw [show (Value.agg #[.int .i64 4, .int .i64 1, .string ⟨#[]⟩]) = vv (errX 1) from rfl]
  obtain ⟨z, hz⟩ : ∃ z, errX 1 = z := ⟨_, rfl⟩
  have HZ : Hid (bool1 2 p = z) := hide (by
    rw [← hz]
    simp [bool1])
  rw [hz]
  clear hz
  unfold vv
  obtain ⟨r0, r1, r2⟩ := three (unhide HR3)
  have f0 := (unhide HR3).free 0; have f1 := (unhide HR3).free 1; have f2 := (unhide HR3).free 2
  clear a0 a1 a2
  go_wp2
  exact bodyPost_ret (v := .agg #[.int .i64 z.k, .int .i64 z.n, .string z.s]) (by simp [results, Tryz.results21, go_sem, *]) rfl ⟨by rw [unhide HZ]; rfl, vx_out (unhide HW3) _ _ _⟩

set_option maxRecDepth 100000 in
set_option maxHeartbeats 8000000 in
theorem onBool_len (b o c : Nat) (p : Vx) (w : World) (h0 : Cel w b o p) (hk : p.k = 2) :
    Calls Tryz.prog 21 #[.int .i64 21, .slice (some ⟨b, o, none⟩) 1 c] w fun e w' => e = .returned (vv (bool1 21 p)) ∧ Below w.heap.size w w' := by
  have HK := hide hk
  clear hk
  obtain ⟨W0, hW0⟩ : ∃ W0, w.alloc (.cells #[.int .i64 0, .int .i64 0, .string ⟨#[]⟩] 25) = W0 := ⟨_, rfl⟩
  have hb0 : Below w.heap.size w W0 := by rw [← hW0]; exact (Below.refl _ _).alloc (Nat.le_refl _) _
  have bR : Blk W0 w.heap.size 25 [.int .i64 0, .int .i64 0, .string ⟨#[]⟩] := by rw [← hW0]; exact Blk.new w 25 #[.int .i64 0, .int .i64 0, .string ⟨#[]⟩]
  have HC0 := hide (h0.mono hb0)
  obtain ⟨-, a0, a1, a2⟩ := h0.mono hb0
  have HR2 := hide bR; have HW2 := hide hb0
  clear hb0 bR h0
  go_enter Tryz.func21, Tryz.ntmps21
  go_wp2_with fail
  try rw [hW0]
  clear hW0
  refine (l2Err_any 1 _).mono ?_
  rintro e w3 ⟨rfl, hb⟩
  have HR3 := hide ((unhide HR2).mono hb (unhide HR2).lt); have HW3 := hide ((unhide HW2).trans (hb.mono (unhide HW2).size))
  clear hb
  rw [show (Value.agg #[.int .i64 4, .int .i64 1, .string ⟨#[]⟩]) = vv (errX 1) from rfl]
  obtain ⟨z, hz⟩ : ∃ z, errX 1 = z := ⟨_, rfl⟩
  have HZ : Hid (bool1 21 p = z) := hide (by
    rw [← hz]
    simp [bool1])
  rw [hz]
  clear hz
  unfold vv
  obtain ⟨r0, r1, r2⟩ := three (unhide HR3)
  have f0 := (unhide HR3).free 0; have f1 := (unhide HR3).free 1; have f2 := (unhide HR3).free 2
  clear a0 a1 a2
  go_wp2
  exact bodyPost_ret (v := .agg #[.int .i64 z.k, .int .i64 z.n, .string z.s]) (by simp [results, Tryz.results21, go_sem, *]) rfl ⟨by rw [unhide HZ]; rfl, vx_out (unhide HW3) _ _ _⟩

set_option maxRecDepth 100000 in
set_option maxHeartbeats 8000000 in
theorem onBool_num (b o c : Nat) (p : Vx) (w : World) (h0 : Cel w b o p) (hk : p.k = 2) :
    Calls Tryz.prog 21 #[.int .i64 22, .slice (some ⟨b, o, none⟩) 1 c] w fun e w' => e = .returned (vv (bool1 22 p)) ∧ Below w.heap.size w w' := by
  have HK := hide hk
  clear hk
  obtain ⟨W0, hW0⟩ : ∃ W0, w.alloc (.cells #[.int .i64 0, .int .i64 0, .string ⟨#[]⟩] 25) = W0 := ⟨_, rfl⟩
  have hb0 : Below w.heap.size w W0 := by rw [← hW0]; exact (Below.refl _ _).alloc (Nat.le_refl _) _
  have bR : Blk W0 w.heap.size 25 [.int .i64 0, .int .i64 0, .string ⟨#[]⟩] := by rw [← hW0]; exact Blk.new w 25 #[.int .i64 0, .int .i64 0, .string ⟨#[]⟩]
  have HC0 := hide (h0.mono hb0)
  obtain ⟨-, a0, a1, a2⟩ := h0.mono hb0
  have HR2 := hide bR; have HW2 := hide hb0
  clear hb0 bR h0
  go_enter Tryz.func21, Tryz.ntmps21
  go_wp2_with fail
  try rw [hW0]
  clear hW0
  refine (l2Err_any 1 _).mono ?_
  rintro e w3 ⟨rfl, hb⟩
  have HR3 := hide ((unhide HR2).mono hb (unhide HR2).lt); have HW3 := hide ((unhide HW2).trans (hb.mono (unhide HW2).size))
  clear hb
  rw [show (Value.agg #[.int .i64 4, .int .i64 1, .string ⟨#[]⟩]) = vv (errX 1) from rfl]
  obtain ⟨z, hz⟩ : ∃ z, errX 1 = z := ⟨_, rfl⟩
  have HZ : Hid (bool1 22 p = z) := hide (by
    rw [← hz]
    simp [bool1])
  rw [hz]
  clear hz
  unfold vv
  obtain ⟨r0, r1, r2⟩ := three (unhide HR3)
  have f0 := (unhide HR3).free 0; have f1 := (unhide HR3).free 1; have f2 := (unhide HR3).free 2
  clear a0 a1 a2
  go_wp2
  exact bodyPost_ret (v := .agg #[.int .i64 z.k, .int .i64 z.n, .string z.s]) (by simp [results, Tryz.results21, go_sem, *]) rfl ⟨by rw [unhide HZ]; rfl, vx_out (unhide HW3) _ _ _⟩

set_option maxRecDepth 100000 in
set_option maxHeartbeats 8000000 in
theorem onBools_eq (b o c : Nat) (p q : Vx) (w : World) (h0 : Cel w b o p) (h1 : Cel w b (o + 3) q) :
    Calls Tryz.prog 21 #[.int .i64 10, .slice (some ⟨b, o, none⟩) 2 c] w fun e w' => e = .returned (vv (bool2 10 p.n q.n)) ∧ Below w.heap.size w w' := by
  obtain ⟨W0, hW0⟩ : ∃ W0, w.alloc (.cells #[.int .i64 0, .int .i64 0, .string ⟨#[]⟩] 25) = W0 := ⟨_, rfl⟩
  have hb0 : Below w.heap.size w W0 := by rw [← hW0]; exact (Below.refl _ _).alloc (Nat.le_refl _) _
  have bR : Blk W0 w.heap.size 25 [.int .i64 0, .int .i64 0, .string ⟨#[]⟩] := by rw [← hW0]; exact Blk.new w 25 #[.int .i64 0, .int .i64 0, .string ⟨#[]⟩]
  have HC0 := hide (h0.mono hb0)
  obtain ⟨-, a0, a1, a2⟩ := h0.mono hb0
  have HC1 := hide (h1.mono hb0)
  obtain ⟨-, b0, b1, b2⟩ := h1.mono hb0
  have HR2 := hide bR; have HW2 := hide hb0
  have hblt : b < w.heap.size := h0.1
  clear hb0 bR h0 h1
  go_enter Tryz.func21, Tryz.ntmps21
  go_wp2_with fail
  try rw [hW0]
  clear hW0
  have hm0 := (unhide HC0).1
  refine wp_region_held_drew (S := fun w' => w'.cell? ⟨b, o + 1, none⟩ = some (.int .i64 p.n) ∧ w'.cell? ⟨b, o + 3 + 1, none⟩ = some (.int .i64 q.n)) (by kernel_rfl) ⟨a1, b1⟩ (fun hHeld => ?_)
  clear a0 a1 a2 b0 b1 b2
  refine takeY (i := 0) (v := .slice (some ⟨b, o, none⟩) 2 c) 22 rfl rfl (by kernel_rfl) (by kernel_rfl) (by kernel_rfl) (fun _ _ _ _ h => h) (by rfl) (fun w hS => by obtain ⟨q0, q1⟩ := hS; simp [execOp, go_sem, *]) hHeld ?_
  simp only [List.setIfInBounds_toArray, List.set_cons_zero, List.set_cons_succ]
  refine takeY (i := 1) (v := .pointer (some ⟨b, o, none⟩)) 23 rfl rfl (by kernel_rfl) (by kernel_rfl) (by kernel_rfl) (fun _ _ _ _ h => h) (by rfl) (fun w hS => by obtain ⟨q0, q1⟩ := hS; simp [execOp, go_sem, *]) hHeld ?_
  simp only [List.setIfInBounds_toArray, List.set_cons_zero, List.set_cons_succ]
  refine takeY (i := 2) (v := .pointer (some ⟨b, o + 1, none⟩)) 24 rfl rfl (by kernel_rfl) (by kernel_rfl) (by kernel_rfl) (fun _ _ _ _ h => h) (by rfl) (fun w hS => by obtain ⟨q0, q1⟩ := hS; simp [execOp, go_sem, *]) hHeld ?_
  simp only [List.setIfInBounds_toArray, List.set_cons_zero, List.set_cons_succ]
  refine takeY (i := 3) (v := .int .i64 p.n) 25 rfl rfl (by kernel_rfl) (by kernel_rfl) (by kernel_rfl) (fun _ _ _ _ h => h) (by rfl) (fun w hS => by obtain ⟨q0, q1⟩ := hS; simp [execOp, go_sem, *]) hHeld ?_
  simp only [List.setIfInBounds_toArray, List.set_cons_zero, List.set_cons_succ]
  refine takeY (i := 4) (v := .slice (some ⟨b, o, none⟩) 2 c) 26 rfl rfl (by kernel_rfl) (by kernel_rfl) (by kernel_rfl) (fun _ _ _ _ h => h) (by rfl) (fun w hS => by obtain ⟨q0, q1⟩ := hS; simp [execOp, go_sem, *]) hHeld ?_
  simp only [List.setIfInBounds_toArray, List.set_cons_zero, List.set_cons_succ]
  refine takeY (i := 5) (v := .pointer (some ⟨b, o + 3, none⟩)) 27 rfl rfl (by kernel_rfl) (by kernel_rfl) (by kernel_rfl) (fun _ _ _ _ h => h) (by rfl) (fun w hS => by obtain ⟨q0, q1⟩ := hS; simp [execOp, go_sem, *]) hHeld ?_
  simp only [List.setIfInBounds_toArray, List.set_cons_zero, List.set_cons_succ]
  refine takeY (i := 6) (v := .pointer (some ⟨b, o + 3 + 1, none⟩)) 28 rfl rfl (by kernel_rfl) (by kernel_rfl) (by kernel_rfl) (fun _ _ _ _ h => h) (by rfl) (fun w hS => by obtain ⟨q0, q1⟩ := hS; simp [execOp, go_sem, *]) hHeld ?_
  simp only [List.setIfInBounds_toArray, List.set_cons_zero, List.set_cons_succ]
  refine takeY (i := 7) (v := .int .i64 q.n) 29 rfl rfl (by kernel_rfl) (by kernel_rfl) (by kernel_rfl) (fun _ _ _ _ h => h) (by rfl) (fun w hS => by obtain ⟨q0, q1⟩ := hS; simp [execOp, go_sem, *]) hHeld ?_
  simp only [List.setIfInBounds_toArray, List.set_cons_zero, List.set_cons_succ]
  refine takeY (i := 8) (v := .bool ((p.n == q.n))) 30 rfl rfl (by kernel_rfl) (by kernel_rfl) (by kernel_rfl) (fun _ _ _ _ h => h) (by rfl) (fun w hS => by obtain ⟨q0, q1⟩ := hS; simp [execOp, go_sem, *]) hHeld ?_
  simp only [List.setIfInBounds_toArray, List.set_cons_zero, List.set_cons_succ]
  refine callY (i := 9) (f := 14) (args := #[.bool ((p.n == q.n))]) (R := fun r wz => r = vv (boolX ((p.n == q.n))) ∧ Below W0.heap.size W0 wz) 31 rfl rfl (by rfl) (by kernel_rfl) ?hrun9 ((l2Bool_any ((p.n == q.n)) _).mono fun e w6 ⟨he, hb⟩ => ⟨_, he, rfl, below_of_drew hb⟩) ?_
  case hrun9 => simp [execOp, go_sem]
  rintro r3 w3 ⟨rfl, hb⟩
  have HR3 := hide ((unhide HR2).mono hb (unhide HR2).lt); have HW3 := hide ((unhide HW2).trans (hb.mono (unhide HW2).size))
  have hc0 := (unhide HC0).mono hb; have hc1 := (unhide HC1).mono hb
  clear hb
  refine ⟨⟨hc0.2.2.1, hc1.2.2.1⟩, ?_⟩
  simp only [List.setIfInBounds_toArray, List.set_cons_zero, List.set_cons_succ]
  obtain ⟨z, hz⟩ : ∃ z, boolX ((p.n == q.n)) = z := ⟨_, rfl⟩
  have HZ : Hid (bool2 10 p.n q.n = z) := hide (by
    rw [← hz]
    first | rfl | (simp [bool2]; rfl))
  rw [hz]
  clear hz
  unfold vv
  obtain ⟨r0, r1, r2⟩ := three (unhide HR3)
  have f0 := (unhide HR3).free 0; have f1 := (unhide HR3).free 1; have f2 := (unhide HR3).free 2
  have nb : b ≠ w.heap.size := fun e => by omega
  have far : ∀ (w' : World) (j i : Nat) (u : Value), (w'.setCell ⟨w.heap.size, j, none⟩ u).cell? ⟨b, i, none⟩ = w'.cell? ⟨b, i, none⟩ := fun w' j i u => World.cell?_of_block (w := w') (heap_setCell_other w' ⟨w.heap.size, j, none⟩ b u nb)
  refine storeY (i := 10) (w' := ((w3.setCell ⟨w.heap.size, 0, none⟩ (.int .i64 z.k)).setCell ⟨w.heap.size, 1, none⟩ (.int .i64 z.n)).setCell ⟨w.heap.size, 2, none⟩ (.string z.s)) rfl (by rfl) (by kernel_rfl) rfl ?hrunS rfl ⟨by rw [far, far, far]; exact hc0.2.2.1, by rw [far, far, far]; exact hc1.2.2.1⟩ ?_
  case hrunS => simp [execOp, go_sem, r0, r1, r2, f0, f1, f2]
  refine wpAnyH_done (by kernel_rfl) ?_ _
  obtain ⟨W9, hW9⟩ : ∃ W9, ((w3.setCell ⟨w.heap.size, 0, none⟩ (.int .i64 z.k)).setCell ⟨w.heap.size, 1, none⟩ (.int .i64 z.n)).setCell ⟨w.heap.size, 2, none⟩ (.string z.s) = W9 := ⟨_, rfl⟩
  have bR9 := ((((unhide HR3).set 0 (.int .i64 z.k)).set 1 (.int .i64 z.n)).set 2 (.string z.s))
  have HB9 := hide (vx_out (unhide HW3) (.int .i64 z.k) (.int .i64 z.n) (.string z.s))
  rw [hW9] at bR9 HB9 ⊢
  obtain ⟨k0, k1, k2⟩ := three bR9
  clear hW9 bR9 r0 r1 r2 f0 f1 f2 far hc0 hc1
  go_wp2
  exact bodyPost_ret (v := .agg #[.int .i64 z.k, .int .i64 z.n, .string z.s]) (by simp [results, Tryz.results21, go_sem, *]) rfl ⟨by rw [unhide HZ]; rfl, unhide HB9⟩

set_option maxRecDepth 100000 in
set_option maxHeartbeats 8000000 in
theorem onBools_ne (b o c : Nat) (p q : Vx) (w : World) (h0 : Cel w b o p) (h1 : Cel w b (o + 3) q) :
    Calls Tryz.prog 21 #[.int .i64 11, .slice (some ⟨b, o, none⟩) 2 c] w fun e w' => e = .returned (vv (bool2 11 p.n q.n)) ∧ Below w.heap.size w w' := by
  obtain ⟨W0, hW0⟩ : ∃ W0, w.alloc (.cells #[.int .i64 0, .int .i64 0, .string ⟨#[]⟩] 25) = W0 := ⟨_, rfl⟩
  have hb0 : Below w.heap.size w W0 := by rw [← hW0]; exact (Below.refl _ _).alloc (Nat.le_refl _) _
  have bR : Blk W0 w.heap.size 25 [.int .i64 0, .int .i64 0, .string ⟨#[]⟩] := by rw [← hW0]; exact Blk.new w 25 #[.int .i64 0, .int .i64 0, .string ⟨#[]⟩]
  have HC0 := hide (h0.mono hb0)
  obtain ⟨-, a0, a1, a2⟩ := h0.mono hb0
  have HC1 := hide (h1.mono hb0)
  obtain ⟨-, b0, b1, b2⟩ := h1.mono hb0
  have HR2 := hide bR; have HW2 := hide hb0
  have hblt : b < w.heap.size := h0.1
  clear hb0 bR h0 h1
  go_enter Tryz.func21, Tryz.ntmps21
  go_wp2_with fail
  try rw [hW0]
  clear hW0
  have hm0 := (unhide HC0).1
  refine wp_region_held_drew (S := fun w' => w'.cell? ⟨b, o + 1, none⟩ = some (.int .i64 p.n) ∧ w'.cell? ⟨b, o + 3 + 1, none⟩ = some (.int .i64 q.n)) (by kernel_rfl) ⟨a1, b1⟩ (fun hHeld => ?_)
  clear a0 a1 a2 b0 b1 b2
  refine takeY (i := 0) (v := .slice (some ⟨b, o, none⟩) 2 c) 34 rfl rfl (by kernel_rfl) (by kernel_rfl) (by kernel_rfl) (fun _ _ _ _ h => h) (by rfl) (fun w hS => by obtain ⟨q0, q1⟩ := hS; simp [execOp, go_sem, *]) hHeld ?_
  simp only [List.setIfInBounds_toArray, List.set_cons_zero, List.set_cons_succ]
  refine takeY (i := 1) (v := .pointer (some ⟨b, o, none⟩)) 35 rfl rfl (by kernel_rfl) (by kernel_rfl) (by kernel_rfl) (fun _ _ _ _ h => h) (by rfl) (fun w hS => by obtain ⟨q0, q1⟩ := hS; simp [execOp, go_sem, *]) hHeld ?_
  simp only [List.setIfInBounds_toArray, List.set_cons_zero, List.set_cons_succ]
  refine takeY (i := 2) (v := .pointer (some ⟨b, o + 1, none⟩)) 36 rfl rfl (by kernel_rfl) (by kernel_rfl) (by kernel_rfl) (fun _ _ _ _ h => h) (by rfl) (fun w hS => by obtain ⟨q0, q1⟩ := hS; simp [execOp, go_sem, *]) hHeld ?_
  simp only [List.setIfInBounds_toArray, List.set_cons_zero, List.set_cons_succ]
  refine takeY (i := 3) (v := .int .i64 p.n) 37 rfl rfl (by kernel_rfl) (by kernel_rfl) (by kernel_rfl) (fun _ _ _ _ h => h) (by rfl) (fun w hS => by obtain ⟨q0, q1⟩ := hS; simp [execOp, go_sem, *]) hHeld ?_
  simp only [List.setIfInBounds_toArray, List.set_cons_zero, List.set_cons_succ]
  refine takeY (i := 4) (v := .slice (some ⟨b, o, none⟩) 2 c) 38 rfl rfl (by kernel_rfl) (by kernel_rfl) (by kernel_rfl) (fun _ _ _ _ h => h) (by rfl) (fun w hS => by obtain ⟨q0, q1⟩ := hS; simp [execOp, go_sem, *]) hHeld ?_
  simp only [List.setIfInBounds_toArray, List.set_cons_zero, List.set_cons_succ]
  refine takeY (i := 5) (v := .pointer (some ⟨b, o + 3, none⟩)) 39 rfl rfl (by kernel_rfl) (by kernel_rfl) (by kernel_rfl) (fun _ _ _ _ h => h) (by rfl) (fun w hS => by obtain ⟨q0, q1⟩ := hS; simp [execOp, go_sem, *]) hHeld ?_
  simp only [List.setIfInBounds_toArray, List.set_cons_zero, List.set_cons_succ]
  refine takeY (i := 6) (v := .pointer (some ⟨b, o + 3 + 1, none⟩)) 40 rfl rfl (by kernel_rfl) (by kernel_rfl) (by kernel_rfl) (fun _ _ _ _ h => h) (by rfl) (fun w hS => by obtain ⟨q0, q1⟩ := hS; simp [execOp, go_sem, *]) hHeld ?_
  simp only [List.setIfInBounds_toArray, List.set_cons_zero, List.set_cons_succ]
  refine takeY (i := 7) (v := .int .i64 q.n) 41 rfl rfl (by kernel_rfl) (by kernel_rfl) (by kernel_rfl) (fun _ _ _ _ h => h) (by rfl) (fun w hS => by obtain ⟨q0, q1⟩ := hS; simp [execOp, go_sem, *]) hHeld ?_
  simp only [List.setIfInBounds_toArray, List.set_cons_zero, List.set_cons_succ]
  refine takeY (i := 8) (v := .bool ((p.n != q.n))) 42 rfl rfl (by kernel_rfl) (by kernel_rfl) (by kernel_rfl) (fun _ _ _ _ h => h) (by rfl) (fun w hS => by obtain ⟨q0, q1⟩ := hS; simp [execOp, go_sem, *]) hHeld ?_
  simp only [List.setIfInBounds_toArray, List.set_cons_zero, List.set_cons_succ]
  refine callY (i := 9) (f := 14) (args := #[.bool ((p.n != q.n))]) (R := fun r wz => r = vv (boolX ((p.n != q.n))) ∧ Below W0.heap.size W0 wz) 43 rfl rfl (by rfl) (by kernel_rfl) ?hrun9 ((l2Bool_any ((p.n != q.n)) _).mono fun e w6 ⟨he, hb⟩ => ⟨_, he, rfl, below_of_drew hb⟩) ?_
  case hrun9 => simp [execOp, go_sem]
  rintro r3 w3 ⟨rfl, hb⟩
  have HR3 := hide ((unhide HR2).mono hb (unhide HR2).lt); have HW3 := hide ((unhide HW2).trans (hb.mono (unhide HW2).size))
  have hc0 := (unhide HC0).mono hb; have hc1 := (unhide HC1).mono hb
  clear hb
  refine ⟨⟨hc0.2.2.1, hc1.2.2.1⟩, ?_⟩
  simp only [List.setIfInBounds_toArray, List.set_cons_zero, List.set_cons_succ]
  obtain ⟨z, hz⟩ : ∃ z, boolX ((p.n != q.n)) = z := ⟨_, rfl⟩
  have HZ : Hid (bool2 11 p.n q.n = z) := hide (by
    rw [← hz]
    first | rfl | (simp [bool2]; rfl))
  rw [hz]
  clear hz
  unfold vv
  obtain ⟨r0, r1, r2⟩ := three (unhide HR3)
  have f0 := (unhide HR3).free 0; have f1 := (unhide HR3).free 1; have f2 := (unhide HR3).free 2
  have nb : b ≠ w.heap.size := fun e => by omega
  have far : ∀ (w' : World) (j i : Nat) (u : Value), (w'.setCell ⟨w.heap.size, j, none⟩ u).cell? ⟨b, i, none⟩ = w'.cell? ⟨b, i, none⟩ := fun w' j i u => World.cell?_of_block (w := w') (heap_setCell_other w' ⟨w.heap.size, j, none⟩ b u nb)
  refine storeY (i := 10) (w' := ((w3.setCell ⟨w.heap.size, 0, none⟩ (.int .i64 z.k)).setCell ⟨w.heap.size, 1, none⟩ (.int .i64 z.n)).setCell ⟨w.heap.size, 2, none⟩ (.string z.s)) rfl (by rfl) (by kernel_rfl) rfl ?hrunS rfl ⟨by rw [far, far, far]; exact hc0.2.2.1, by rw [far, far, far]; exact hc1.2.2.1⟩ ?_
  case hrunS => simp [execOp, go_sem, r0, r1, r2, f0, f1, f2]
  refine wpAnyH_done (by kernel_rfl) ?_ _
  obtain ⟨W9, hW9⟩ : ∃ W9, ((w3.setCell ⟨w.heap.size, 0, none⟩ (.int .i64 z.k)).setCell ⟨w.heap.size, 1, none⟩ (.int .i64 z.n)).setCell ⟨w.heap.size, 2, none⟩ (.string z.s) = W9 := ⟨_, rfl⟩
  have bR9 := ((((unhide HR3).set 0 (.int .i64 z.k)).set 1 (.int .i64 z.n)).set 2 (.string z.s))
  have HB9 := hide (vx_out (unhide HW3) (.int .i64 z.k) (.int .i64 z.n) (.string z.s))
  rw [hW9] at bR9 HB9 ⊢
  obtain ⟨k0, k1, k2⟩ := three bR9
  clear hW9 bR9 r0 r1 r2 f0 f1 f2 far hc0 hc1
  go_wp2
  exact bodyPost_ret (v := .agg #[.int .i64 z.k, .int .i64 z.n, .string z.s]) (by simp [results, Tryz.results21, go_sem, *]) rfl ⟨by rw [unhide HZ]; rfl, unhide HB9⟩

set_option maxRecDepth 100000 in
set_option maxHeartbeats 8000000 in
theorem onBools_mul (b o c : Nat) (p q : Vx) (w : World) (h0 : Cel w b o p) (h1 : Cel w b (o + 3) q) :
    Calls Tryz.prog 21 #[.int .i64 4, .slice (some ⟨b, o, none⟩) 2 c] w fun e w' => e = .returned (vv (bool2 4 p.n q.n)) ∧ Below w.heap.size w w' := by
  obtain ⟨W0, hW0⟩ : ∃ W0, w.alloc (.cells #[.int .i64 0, .int .i64 0, .string ⟨#[]⟩] 25) = W0 := ⟨_, rfl⟩
  have hb0 : Below w.heap.size w W0 := by rw [← hW0]; exact (Below.refl _ _).alloc (Nat.le_refl _) _
  have bR : Blk W0 w.heap.size 25 [.int .i64 0, .int .i64 0, .string ⟨#[]⟩] := by rw [← hW0]; exact Blk.new w 25 #[.int .i64 0, .int .i64 0, .string ⟨#[]⟩]
  have HC0 := hide (h0.mono hb0)
  obtain ⟨-, a0, a1, a2⟩ := h0.mono hb0
  have HC1 := hide (h1.mono hb0)
  obtain ⟨-, b0, b1, b2⟩ := h1.mono hb0
  have HR2 := hide bR; have HW2 := hide hb0
  clear hb0 bR h0 h1
  go_enter Tryz.func21, Tryz.ntmps21
  go_wp2_with fail
  try rw [hW0]
  clear hW0
  refine (l2Err_any 1 _).mono ?_
  rintro e w3 ⟨rfl, hb⟩
  have HR3 := hide ((unhide HR2).mono hb (unhide HR2).lt); have HW3 := hide ((unhide HW2).trans (hb.mono (unhide HW2).size))
  clear hb
  rw [show (Value.agg #[.int .i64 4, .int .i64 1, .string ⟨#[]⟩]) = vv (errX 1) from rfl]
  obtain ⟨z, hz⟩ : ∃ z, errX 1 = z := ⟨_, rfl⟩
  have HZ : Hid (bool2 4 p.n q.n = z) := hide (by
    rw [← hz]
    simp [bool2])
  rw [hz]
  clear hz
  unfold vv
  obtain ⟨r0, r1, r2⟩ := three (unhide HR3)
  have f0 := (unhide HR3).free 0; have f1 := (unhide HR3).free 1; have f2 := (unhide HR3).free 2
  clear a0 a1 a2 b0 b1 b2
  go_wp2
  exact bodyPost_ret (v := .agg #[.int .i64 z.k, .int .i64 z.n, .string z.s]) (by simp [results, Tryz.results21, go_sem, *]) rfl ⟨by rw [unhide HZ]; rfl, vx_out (unhide HW3) _ _ _⟩

set_option maxRecDepth 100000 in
set_option maxHeartbeats 8000000 in
theorem onBools_div (b o c : Nat) (p q : Vx) (w : World) (h0 : Cel w b o p) (h1 : Cel w b (o + 3) q) :
    Calls Tryz.prog 21 #[.int .i64 5, .slice (some ⟨b, o, none⟩) 2 c] w fun e w' => e = .returned (vv (bool2 5 p.n q.n)) ∧ Below w.heap.size w w' := by
  obtain ⟨W0, hW0⟩ : ∃ W0, w.alloc (.cells #[.int .i64 0, .int .i64 0, .string ⟨#[]⟩] 25) = W0 := ⟨_, rfl⟩
  have hb0 : Below w.heap.size w W0 := by rw [← hW0]; exact (Below.refl _ _).alloc (Nat.le_refl _) _
  have bR : Blk W0 w.heap.size 25 [.int .i64 0, .int .i64 0, .string ⟨#[]⟩] := by rw [← hW0]; exact Blk.new w 25 #[.int .i64 0, .int .i64 0, .string ⟨#[]⟩]
  have HC0 := hide (h0.mono hb0)
  obtain ⟨-, a0, a1, a2⟩ := h0.mono hb0
  have HC1 := hide (h1.mono hb0)
  obtain ⟨-, b0, b1, b2⟩ := h1.mono hb0
  have HR2 := hide bR; have HW2 := hide hb0
  clear hb0 bR h0 h1
  go_enter Tryz.func21, Tryz.ntmps21
  go_wp2_with fail
  try rw [hW0]
  clear hW0
  refine (l2Err_any 1 _).mono ?_
  rintro e w3 ⟨rfl, hb⟩
  have HR3 := hide ((unhide HR2).mono hb (unhide HR2).lt); have HW3 := hide ((unhide HW2).trans (hb.mono (unhide HW2).size))
  clear hb
  rw [show (Value.agg #[.int .i64 4, .int .i64 1, .string ⟨#[]⟩]) = vv (errX 1) from rfl]
  obtain ⟨z, hz⟩ : ∃ z, errX 1 = z := ⟨_, rfl⟩
  have HZ : Hid (bool2 5 p.n q.n = z) := hide (by
    rw [← hz]
    simp [bool2])
  rw [hz]
  clear hz
  unfold vv
  obtain ⟨r0, r1, r2⟩ := three (unhide HR3)
  have f0 := (unhide HR3).free 0; have f1 := (unhide HR3).free 1; have f2 := (unhide HR3).free 2
  clear a0 a1 a2 b0 b1 b2
  go_wp2
  exact bodyPost_ret (v := .agg #[.int .i64 z.k, .int .i64 z.n, .string z.s]) (by simp [results, Tryz.results21, go_sem, *]) rfl ⟨by rw [unhide HZ]; rfl, vx_out (unhide HW3) _ _ _⟩

set_option maxRecDepth 100000 in
set_option maxHeartbeats 8000000 in
theorem onBools_mod (b o c : Nat) (p q : Vx) (w : World) (h0 : Cel w b o p) (h1 : Cel w b (o + 3) q) :
    Calls Tryz.prog 21 #[.int .i64 6, .slice (some ⟨b, o, none⟩) 2 c] w fun e w' => e = .returned (vv (bool2 6 p.n q.n)) ∧ Below w.heap.size w w' := by
  obtain ⟨W0, hW0⟩ : ∃ W0, w.alloc (.cells #[.int .i64 0, .int .i64 0, .string ⟨#[]⟩] 25) = W0 := ⟨_, rfl⟩
  have hb0 : Below w.heap.size w W0 := by rw [← hW0]; exact (Below.refl _ _).alloc (Nat.le_refl _) _
  have bR : Blk W0 w.heap.size 25 [.int .i64 0, .int .i64 0, .string ⟨#[]⟩] := by rw [← hW0]; exact Blk.new w 25 #[.int .i64 0, .int .i64 0, .string ⟨#[]⟩]
  have HC0 := hide (h0.mono hb0)
  obtain ⟨-, a0, a1, a2⟩ := h0.mono hb0
  have HC1 := hide (h1.mono hb0)
  obtain ⟨-, b0, b1, b2⟩ := h1.mono hb0
  have HR2 := hide bR; have HW2 := hide hb0
  clear hb0 bR h0 h1
  go_enter Tryz.func21, Tryz.ntmps21
  go_wp2_with fail
  try rw [hW0]
  clear hW0
  refine (l2Err_any 1 _).mono ?_
  rintro e w3 ⟨rfl, hb⟩
  have HR3 := hide ((unhide HR2).mono hb (unhide HR2).lt); have HW3 := hide ((unhide HW2).trans (hb.mono (unhide HW2).size))
  clear hb
  rw [show (Value.agg #[.int .i64 4, .int .i64 1, .string ⟨#[]⟩]) = vv (errX 1) from rfl]
  obtain ⟨z, hz⟩ : ∃ z, errX 1 = z := ⟨_, rfl⟩
  have HZ : Hid (bool2 6 p.n q.n = z) := hide (by
    rw [← hz]
    simp [bool2])
  rw [hz]
  clear hz
  unfold vv
  obtain ⟨r0, r1, r2⟩ := three (unhide HR3)
  have f0 := (unhide HR3).free 0; have f1 := (unhide HR3).free 1; have f2 := (unhide HR3).free 2
  clear a0 a1 a2 b0 b1 b2
  go_wp2
  exact bodyPost_ret (v := .agg #[.int .i64 z.k, .int .i64 z.n, .string z.s]) (by simp [results, Tryz.results21, go_sem, *]) rfl ⟨by rw [unhide HZ]; rfl, vx_out (unhide HW3) _ _ _⟩

set_option maxRecDepth 100000 in
set_option maxHeartbeats 8000000 in
theorem onBools_add (b o c : Nat) (p q : Vx) (w : World) (h0 : Cel w b o p) (h1 : Cel w b (o + 3) q) :
    Calls Tryz.prog 21 #[.int .i64 7, .slice (some ⟨b, o, none⟩) 2 c] w fun e w' => e = .returned (vv (bool2 7 p.n q.n)) ∧ Below w.heap.size w w' := by
  obtain ⟨W0, hW0⟩ : ∃ W0, w.alloc (.cells #[.int .i64 0, .int .i64 0, .string ⟨#[]⟩] 25) = W0 := ⟨_, rfl⟩
  have hb0 : Below w.heap.size w W0 := by rw [← hW0]; exact (Below.refl _ _).alloc (Nat.le_refl _) _
  have bR : Blk W0 w.heap.size 25 [.int .i64 0, .int .i64 0, .string ⟨#[]⟩] := by rw [← hW0]; exact Blk.new w 25 #[.int .i64 0, .int .i64 0, .string ⟨#[]⟩]
  have HC0 := hide (h0.mono hb0)
  obtain ⟨-, a0, a1, a2⟩ := h0.mono hb0
  have HC1 := hide (h1.mono hb0)
  obtain ⟨-, b0, b1, b2⟩ := h1.mono hb0
  have HR2 := hide bR; have HW2 := hide hb0
  clear hb0 bR h0 h1
  go_enter Tryz.func21, Tryz.ntmps21
  go_wp2_with fail
  try rw [hW0]
  clear hW0
  refine (l2Err_any 1 _).mono ?_
  rintro e w3 ⟨rfl, hb⟩
  have HR3 := hide ((unhide HR2).mono hb (unhide HR2).lt); have HW3 := hide ((unhide HW2).trans (hb.mono (unhide HW2).size))
  clear hb
  rw [show (Value.agg #[.int .i64 4, .int .i64 1, .string ⟨#[]⟩]) = vv (errX 1) from rfl]
  obtain ⟨z, hz⟩ : ∃ z, errX 1 = z := ⟨_, rfl⟩
  have HZ : Hid (bool2 7 p.n q.n = z) := hide (by
    rw [← hz]
    simp [bool2])
  rw [hz]
  clear hz
  unfold vv
  obtain ⟨r0, r1, r2⟩ := three (unhide HR3)
  have f0 := (unhide HR3).free 0; have f1 := (unhide HR3).free 1; have f2 := (unhide HR3).free 2
  clear a0 a1 a2 b0 b1 b2
  go_wp2
  exact bodyPost_ret (v := .agg #[.int .i64 z.k, .int .i64 z.n, .string z.s]) (by simp [results, Tryz.results21, go_sem, *]) rfl ⟨by rw [unhide HZ]; rfl, vx_out (unhide HW3) _ _ _⟩

set_option maxRecDepth 100000 in
set_option maxHeartbeats 8000000 in
theorem onBools_sub (b o c : Nat) (p q : Vx) (w : World) (h0 : Cel w b o p) (h1 : Cel w b (o + 3) q) :
    Calls Tryz.prog 21 #[.int .i64 8, .slice (some ⟨b, o, none⟩) 2 c] w fun e w' => e = .returned (vv (bool2 8 p.n q.n)) ∧ Below w.heap.size w w' := by
  obtain ⟨W0, hW0⟩ : ∃ W0, w.alloc (.cells #[.int .i64 0, .int .i64 0, .string ⟨#[]⟩] 25) = W0 := ⟨_, rfl⟩
  have hb0 : Below w.heap.size w W0 := by rw [← hW0]; exact (Below.refl _ _).alloc (Nat.le_refl _) _
  have bR : Blk W0 w.heap.size 25 [.int .i64 0, .int .i64 0, .string ⟨#[]⟩] := by rw [← hW0]; exact Blk.new w 25 #[.int .i64 0, .int .i64 0, .string ⟨#[]⟩]
  have HC0 := hide (h0.mono hb0)
  obtain ⟨-, a0, a1, a2⟩ := h0.mono hb0
  have HC1 := hide (h1.mono hb0)
  obtain ⟨-, b0, b1, b2⟩ := h1.mono hb0
  have HR2 := hide bR; have HW2 := hide hb0
  clear hb0 bR h0 h1
  go_enter Tryz.func21, Tryz.ntmps21
  go_wp2_with fail
  try rw [hW0]
  clear hW0
  refine (l2Err_any 1 _).mono ?_
  rintro e w3 ⟨rfl, hb⟩
  have HR3 := hide ((unhide HR2).mono hb (unhide HR2).lt); have HW3 := hide ((unhide HW2).trans (hb.mono (unhide HW2).size))
  clear hb
  rw [show (Value.agg #[.int .i64 4, .int .i64 1, .string ⟨#[]⟩]) = vv (errX 1) from rfl]
  obtain ⟨z, hz⟩ : ∃ z, errX 1 = z := ⟨_, rfl⟩
  have HZ : Hid (bool2 8 p.n q.n = z) := hide (by
    rw [← hz]
    simp [bool2])
  rw [hz]
  clear hz
  unfold vv
  obtain ⟨r0, r1, r2⟩ := three (unhide HR3)
  have f0 := (unhide HR3).free 0; have f1 := (unhide HR3).free 1; have f2 := (unhide HR3).free 2
  clear a0 a1 a2 b0 b1 b2
  go_wp2
  exact bodyPost_ret (v := .agg #[.int .i64 z.k, .int .i64 z.n, .string z.s]) (by simp [results, Tryz.results21, go_sem, *]) rfl ⟨by rw [unhide HZ]; rfl, vx_out (unhide HW3) _ _ _⟩

set_option maxRecDepth 100000 in
set_option maxHeartbeats 8000000 in
theorem onBools_cat (b o c : Nat) (p q : Vx) (w : World) (h0 : Cel w b o p) (h1 : Cel w b (o + 3) q) :
    Calls Tryz.prog 21 #[.int .i64 9, .slice (some ⟨b, o, none⟩) 2 c] w fun e w' => e = .returned (vv (bool2 9 p.n q.n)) ∧ Below w.heap.size w w' := by
  obtain ⟨W0, hW0⟩ : ∃ W0, w.alloc (.cells #[.int .i64 0, .int .i64 0, .string ⟨#[]⟩] 25) = W0 := ⟨_, rfl⟩
  have hb0 : Below w.heap.size w W0 := by rw [← hW0]; exact (Below.refl _ _).alloc (Nat.le_refl _) _
  have bR : Blk W0 w.heap.size 25 [.int .i64 0, .int .i64 0, .string ⟨#[]⟩] := by rw [← hW0]; exact Blk.new w 25 #[.int .i64 0, .int .i64 0, .string ⟨#[]⟩]
  have HC0 := hide (h0.mono hb0)
  obtain ⟨-, a0, a1, a2⟩ := h0.mono hb0
  have HC1 := hide (h1.mono hb0)
  obtain ⟨-, b0, b1, b2⟩ := h1.mono hb0
  have HR2 := hide bR; have HW2 := hide hb0
  clear hb0 bR h0 h1
  go_enter Tryz.func21, Tryz.ntmps21
  go_wp2_with fail
  try rw [hW0]
  clear hW0
  refine (l2Err_any 1 _).mono ?_
  rintro e w3 ⟨rfl, hb⟩
  have HR3 := hide ((unhide HR2).mono hb (unhide HR2).lt); have HW3 := hide ((unhide HW2).trans (hb.mono (unhide HW2).size))
  clear hb
  rw [show (Value.agg #[.int .i64 4, .int .i64 1, .string ⟨#[]⟩]) = vv (errX 1) from rfl]
  obtain ⟨z, hz⟩ : ∃ z, errX 1 = z := ⟨_, rfl⟩
  have HZ : Hid (bool2 9 p.n q.n = z) := hide (by
    rw [← hz]
    simp [bool2])
  rw [hz]
  clear hz
  unfold vv
  obtain ⟨r0, r1, r2⟩ := three (unhide HR3)
  have f0 := (unhide HR3).free 0; have f1 := (unhide HR3).free 1; have f2 := (unhide HR3).free 2
  clear a0 a1 a2 b0 b1 b2
  go_wp2
  exact bodyPost_ret (v := .agg #[.int .i64 z.k, .int .i64 z.n, .string z.s]) (by simp [results, Tryz.results21, go_sem, *]) rfl ⟨by rw [unhide HZ]; rfl, vx_out (unhide HW3) _ _ _⟩

set_option maxRecDepth 100000 in
set_option maxHeartbeats 8000000 in
theorem onBools_lt (b o c : Nat) (p q : Vx) (w : World) (h0 : Cel w b o p) (h1 : Cel w b (o + 3) q) :
    Calls Tryz.prog 21 #[.int .i64 12, .slice (some ⟨b, o, none⟩) 2 c] w fun e w' => e = .returned (vv (bool2 12 p.n q.n)) ∧ Below w.heap.size w w' := by
  obtain ⟨W0, hW0⟩ : ∃ W0, w.alloc (.cells #[.int .i64 0, .int .i64 0, .string ⟨#[]⟩] 25) = W0 := ⟨_, rfl⟩
  have hb0 : Below w.heap.size w W0 := by rw [← hW0]; exact (Below.refl _ _).alloc (Nat.le_refl _) _
  have bR : Blk W0 w.heap.size 25 [.int .i64 0, .int .i64 0, .string ⟨#[]⟩] := by rw [← hW0]; exact Blk.new w 25 #[.int .i64 0, .int .i64 0, .string ⟨#[]⟩]
  have HC0 := hide (h0.mono hb0)
  obtain ⟨-, a0, a1, a2⟩ := h0.mono hb0
  have HC1 := hide (h1.mono hb0)
  obtain ⟨-, b0, b1, b2⟩ := h1.mono hb0
  have HR2 := hide bR; have HW2 := hide hb0
  clear hb0 bR h0 h1
  go_enter Tryz.func21, Tryz.ntmps21
  go_wp2_with fail
  try rw [hW0]
  clear hW0
  refine (l2Err_any 1 _).mono ?_
  rintro e w3 ⟨rfl, hb⟩
  have HR3 := hide ((unhide HR2).mono hb (unhide HR2).lt); have HW3 := hide ((unhide HW2).trans (hb.mono (unhide HW2).size))
  clear hb
  rw [show (Value.agg #[.int .i64 4, .int .i64 1, .string ⟨#[]⟩]) = vv (errX 1) from rfl]
  obtain ⟨z, hz⟩ : ∃ z, errX 1 = z := ⟨_, rfl⟩
  have HZ : Hid (bool2 12 p.n q.n = z) := hide (by
    rw [← hz]
    simp [bool2])
  rw [hz]
  clear hz
  unfold vv
  obtain ⟨r0, r1, r2⟩ := three (unhide HR3)
  have f0 := (unhide HR3).free 0; have f1 := (unhide HR3).free 1; have f2 := (unhide HR3).free 2
  clear a0 a1 a2 b0 b1 b2
  go_wp2
  exact bodyPost_ret (v := .agg #[.int .i64 z.k, .int .i64 z.n, .string z.s]) (by simp [results, Tryz.results21, go_sem, *]) rfl ⟨by rw [unhide HZ]; rfl, vx_out (unhide HW3) _ _ _⟩

set_option maxRecDepth 100000 in
set_option maxHeartbeats 8000000 in
theorem onBools_le (b o c : Nat) (p q : Vx) (w : World) (h0 : Cel w b o p) (h1 : Cel w b (o + 3) q) :
    Calls Tryz.prog 21 #[.int .i64 13, .slice (some ⟨b, o, none⟩) 2 c] w fun e w' => e = .returned (vv (bool2 13 p.n q.n)) ∧ Below w.heap.size w w' := by
  obtain ⟨W0, hW0⟩ : ∃ W0, w.alloc (.cells #[.int .i64 0, .int .i64 0, .string ⟨#[]⟩] 25) = W0 := ⟨_, rfl⟩
  have hb0 : Below w.heap.size w W0 := by rw [← hW0]; exact (Below.refl _ _).alloc (Nat.le_refl _) _
  have bR : Blk W0 w.heap.size 25 [.int .i64 0, .int .i64 0, .string ⟨#[]⟩] := by rw [← hW0]; exact Blk.new w 25 #[.int .i64 0, .int .i64 0, .string ⟨#[]⟩]
  have HC0 := hide (h0.mono hb0)
  obtain ⟨-, a0, a1, a2⟩ := h0.mono hb0
  have HC1 := hide (h1.mono hb0)
  obtain ⟨-, b0, b1, b2⟩ := h1.mono hb0
  have HR2 := hide bR; have HW2 := hide hb0
  clear hb0 bR h0 h1
  go_enter Tryz.func21, Tryz.ntmps21
  go_wp2_with fail
  try rw [hW0]
  clear hW0
  refine (l2Err_any 1 _).mono ?_
  rintro e w3 ⟨rfl, hb⟩
  have HR3 := hide ((unhide HR2).mono hb (unhide HR2).lt); have HW3 := hide ((unhide HW2).trans (hb.mono (unhide HW2).size))
  clear hb
  rw [show (Value.agg #[.int .i64 4, .int .i64 1, .string ⟨#[]⟩]) = vv (errX 1) from rfl]
  obtain ⟨z, hz⟩ : ∃ z, errX 1 = z := ⟨_, rfl⟩
  have HZ : Hid (bool2 13 p.n q.n = z) := hide (by
    rw [← hz]
    simp [bool2])
  rw [hz]
  clear hz
  unfold vv
  obtain ⟨r0, r1, r2⟩ := three (unhide HR3)
  have f0 := (unhide HR3).free 0; have f1 := (unhide HR3).free 1; have f2 := (unhide HR3).free 2
  clear a0 a1 a2 b0 b1 b2
  go_wp2
  exact bodyPost_ret (v := .agg #[.int .i64 z.k, .int .i64 z.n, .string z.s]) (by simp [results, Tryz.results21, go_sem, *]) rfl ⟨by rw [unhide HZ]; rfl, vx_out (unhide HW3) _ _ _⟩

set_option maxRecDepth 100000 in
set_option maxHeartbeats 8000000 in
theorem onBools_min (b o c : Nat) (p q : Vx) (w : World) (h0 : Cel w b o p) (h1 : Cel w b (o + 3) q) :
    Calls Tryz.prog 21 #[.int .i64 17, .slice (some ⟨b, o, none⟩) 2 c] w fun e w' => e = .returned (vv (bool2 17 p.n q.n)) ∧ Below w.heap.size w w' := by
  obtain ⟨W0, hW0⟩ : ∃ W0, w.alloc (.cells #[.int .i64 0, .int .i64 0, .string ⟨#[]⟩] 25) = W0 := ⟨_, rfl⟩
  have hb0 : Below w.heap.size w W0 := by rw [← hW0]; exact (Below.refl _ _).alloc (Nat.le_refl _) _
  have bR : Blk W0 w.heap.size 25 [.int .i64 0, .int .i64 0, .string ⟨#[]⟩] := by rw [← hW0]; exact Blk.new w 25 #[.int .i64 0, .int .i64 0, .string ⟨#[]⟩]
  have HC0 := hide (h0.mono hb0)
  obtain ⟨-, a0, a1, a2⟩ := h0.mono hb0
  have HC1 := hide (h1.mono hb0)
  obtain ⟨-, b0, b1, b2⟩ := h1.mono hb0
  have HR2 := hide bR; have HW2 := hide hb0
  clear hb0 bR h0 h1
  go_enter Tryz.func21, Tryz.ntmps21
  go_wp2_with fail
  try rw [hW0]
  clear hW0
  refine (l2Err_any 1 _).mono ?_
  rintro e w3 ⟨rfl, hb⟩
  have HR3 := hide ((unhide HR2).mono hb (unhide HR2).lt); have HW3 := hide ((unhide HW2).trans (hb.mono (unhide HW2).size))
  clear hb
  rw [show (Value.agg #[.int .i64 4, .int .i64 1, .string ⟨#[]⟩]) = vv (errX 1) from rfl]
  obtain ⟨z, hz⟩ : ∃ z, errX 1 = z := ⟨_, rfl⟩
  have HZ : Hid (bool2 17 p.n q.n = z) := hide (by
    rw [← hz]
    simp [bool2])
  rw [hz]
  clear hz
  unfold vv
  obtain ⟨r0, r1, r2⟩ := three (unhide HR3)
  have f0 := (unhide HR3).free 0; have f1 := (unhide HR3).free 1; have f2 := (unhide HR3).free 2
  clear a0 a1 a2 b0 b1 b2
  go_wp2
  exact bodyPost_ret (v := .agg #[.int .i64 z.k, .int .i64 z.n, .string z.s]) (by simp [results, Tryz.results21, go_sem, *]) rfl ⟨by rw [unhide HZ]; rfl, vx_out (unhide HW3) _ _ _⟩

set_option maxRecDepth 100000 in
set_option maxHeartbeats 8000000 in
theorem onBools_max (b o c : Nat) (p q : Vx) (w : World) (h0 : Cel w b o p) (h1 : Cel w b (o + 3) q) :
    Calls Tryz.prog 21 #[.int .i64 18, .slice (some ⟨b, o, none⟩) 2 c] w fun e w' => e = .returned (vv (bool2 18 p.n q.n)) ∧ Below w.heap.size w w' := by
  obtain ⟨W0, hW0⟩ : ∃ W0, w.alloc (.cells #[.int .i64 0, .int .i64 0, .string ⟨#[]⟩] 25) = W0 := ⟨_, rfl⟩
  have hb0 : Below w.heap.size w W0 := by rw [← hW0]; exact (Below.refl _ _).alloc (Nat.le_refl _) _
  have bR : Blk W0 w.heap.size 25 [.int .i64 0, .int .i64 0, .string ⟨#[]⟩] := by rw [← hW0]; exact Blk.new w 25 #[.int .i64 0, .int .i64 0, .string ⟨#[]⟩]
  have HC0 := hide (h0.mono hb0)
  obtain ⟨-, a0, a1, a2⟩ := h0.mono hb0
  have HC1 := hide (h1.mono hb0)
  obtain ⟨-, b0, b1, b2⟩ := h1.mono hb0
  have HR2 := hide bR; have HW2 := hide hb0
  clear hb0 bR h0 h1
  go_enter Tryz.func21, Tryz.ntmps21
  go_wp2_with fail
  try rw [hW0]
  clear hW0
  refine (l2Err_any 1 _).mono ?_
  rintro e w3 ⟨rfl, hb⟩
  have HR3 := hide ((unhide HR2).mono hb (unhide HR2).lt); have HW3 := hide ((unhide HW2).trans (hb.mono (unhide HW2).size))
  clear hb
  rw [show (Value.agg #[.int .i64 4, .int .i64 1, .string ⟨#[]⟩]) = vv (errX 1) from rfl]
  obtain ⟨z, hz⟩ : ∃ z, errX 1 = z := ⟨_, rfl⟩
  have HZ : Hid (bool2 18 p.n q.n = z) := hide (by
    rw [← hz]
    simp [bool2])
  rw [hz]
  clear hz
  unfold vv
  obtain ⟨r0, r1, r2⟩ := three (unhide HR3)
  have f0 := (unhide HR3).free 0; have f1 := (unhide HR3).free 1; have f2 := (unhide HR3).free 2
  clear a0 a1 a2 b0 b1 b2
  go_wp2
  exact bodyPost_ret (v := .agg #[.int .i64 z.k, .int .i64 z.n, .string z.s]) (by simp [results, Tryz.results21, go_sem, *]) rfl ⟨by rw [unhide HZ]; rfl, vx_out (unhide HW3) _ _ _⟩

set_option maxRecDepth 100000 in
set_option maxHeartbeats 8000000 in
theorem onBools_has (b o c : Nat) (p q : Vx) (w : World) (h0 : Cel w b o p) (h1 : Cel w b (o + 3) q) :
    Calls Tryz.prog 21 #[.int .i64 20, .slice (some ⟨b, o, none⟩) 2 c] w fun e w' => e = .returned (vv (bool2 20 p.n q.n)) ∧ Below w.heap.size w w' := by
  obtain ⟨W0, hW0⟩ : ∃ W0, w.alloc (.cells #[.int .i64 0, .int .i64 0, .string ⟨#[]⟩] 25) = W0 := ⟨_, rfl⟩
  have hb0 : Below w.heap.size w W0 := by rw [← hW0]; exact (Below.refl _ _).alloc (Nat.le_refl _) _
  have bR : Blk W0 w.heap.size 25 [.int .i64 0, .int .i64 0, .string ⟨#[]⟩] := by rw [← hW0]; exact Blk.new w 25 #[.int .i64 0, .int .i64 0, .string ⟨#[]⟩]
  have HC0 := hide (h0.mono hb0)
  obtain ⟨-, a0, a1, a2⟩ := h0.mono hb0
  have HC1 := hide (h1.mono hb0)
  obtain ⟨-, b0, b1, b2⟩ := h1.mono hb0
  have HR2 := hide bR; have HW2 := hide hb0
  clear hb0 bR h0 h1
  go_enter Tryz.func21, Tryz.ntmps21
  go_wp2_with fail
  try rw [hW0]
  clear hW0
  refine (l2Err_any 1 _).mono ?_
  rintro e w3 ⟨rfl, hb⟩
  have HR3 := hide ((unhide HR2).mono hb (unhide HR2).lt); have HW3 := hide ((unhide HW2).trans (hb.mono (unhide HW2).size))
  clear hb
  rw [show (Value.agg #[.int .i64 4, .int .i64 1, .string ⟨#[]⟩]) = vv (errX 1) from rfl]
  obtain ⟨z, hz⟩ : ∃ z, errX 1 = z := ⟨_, rfl⟩
  have HZ : Hid (bool2 20 p.n q.n = z) := hide (by
    rw [← hz]
    simp [bool2])
  rw [hz]
  clear hz
  unfold vv
  obtain ⟨r0, r1, r2⟩ := three (unhide HR3)
  have f0 := (unhide HR3).free 0; have f1 := (unhide HR3).free 1; have f2 := (unhide HR3).free 2
  clear a0 a1 a2 b0 b1 b2
  go_wp2
  exact bodyPost_ret (v := .agg #[.int .i64 z.k, .int .i64 z.n, .string z.s]) (by simp [results, Tryz.results21, go_sem, *]) rfl ⟨by rw [unhide HZ]; rfl, vx_out (unhide HW3) _ _ _⟩

end Go.Proofs.YtnmpkdmflijhpaaGreatDoor
