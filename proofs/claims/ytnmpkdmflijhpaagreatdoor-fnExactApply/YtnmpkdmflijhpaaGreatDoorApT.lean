/- The model's operators on texts. -/
import Derived.Test.YtnmpkdmflijhpaaGreatDoorApV
import Derived.Test.YtnmpkdmflijhpaaGreatDoorReadI
namespace Go.Proofs.YtnmpkdmflijhpaaGreatDoor
open Go Go.RowKit

def text2 (op : Int) (s t : ByteArray) : Vx :=
  if op = 9 then (if 1000 < s.size + t.size then errX 4 else textX (s ++ t)) else if op = 10 then boolX (decide (s = t)) else if op = 11 then boolX (!decide (s = t))
  else if op = 12 then boolX (tl s.data.toList t.data.toList) else if op = 13 then boolX (!tl t.data.toList s.data.toList) else if op = 20 then boolX (hasFrom s t 0) else errX 1

set_option maxRecDepth 100000 in
set_option maxHeartbeats 8000000 in
theorem onTexts_cat (b o c : Nat) (p q : Vx) (w : World) (h0 : Cel w b o p) (h1 : Cel w b (o + 3) q) (hs : p.s.size ≤ 1000 ∧ q.s.size ≤ 1000) :
    Calls Tryz.prog 20 #[.int .i64 9, .slice (some ⟨b, o, none⟩) 2 c] w fun e w' => e = .returned (vv (text2 9 p.s q.s)) ∧ Below w.heap.size w w' := by
  obtain ⟨hp, hq⟩ := hs
  by_cases hl : 1000 < p.s.size + q.s.size
  · have hl' : (1000 : Int) < p.s.size + q.s.size := by omega
    obtain ⟨W0, hW0⟩ : ∃ W0, w.alloc (.cells #[.int .i64 0, .int .i64 0, .string ⟨#[]⟩] 25) = W0 := ⟨_, rfl⟩
    have hb0 : Below w.heap.size w W0 := by rw [← hW0]; exact (Below.refl _ _).alloc (Nat.le_refl _) _
    have bR : Blk W0 w.heap.size 25 [.int .i64 0, .int .i64 0, .string ⟨#[]⟩] := by rw [← hW0]; exact Blk.new w 25 #[.int .i64 0, .int .i64 0, .string ⟨#[]⟩]
    have HC0 := hide (h0.mono hb0)
    obtain ⟨-, a0, a1, a2⟩ := h0.mono hb0
    have HC1 := hide (h1.mono hb0)
    obtain ⟨-, b0, b1, b2⟩ := h1.mono hb0
    have HR2 := hide bR; have HW2 := hide hb0
    clear hb0 bR h0 h1
    go_enter Tryz.func20, Tryz.ntmps20
    go_wp2_with fail
    try rw [hW0]
    clear hW0
    refine (l2Err_any 4 _).mono ?_
    rintro e w3 ⟨rfl, hb⟩
    have HR3 := hide ((unhide HR2).mono hb (unhide HR2).lt); have HW3 := hide ((unhide HW2).trans (hb.mono (unhide HW2).size))
    clear hb
    rw [show (Value.agg #[.int .i64 4, .int .i64 4, .string ⟨#[]⟩]) = vv (errX 4) from rfl]
    obtain ⟨z, hz⟩ : ∃ z, errX 4 = z := ⟨_, rfl⟩
    have HZ : Hid (text2 9 p.s q.s = z) := hide (by
      rw [← hz]
      simp [text2, hl])
    rw [hz]
    clear hz
    unfold vv
    obtain ⟨r0, r1, r2⟩ := three (unhide HR3)
    have f0 := (unhide HR3).free 0; have f1 := (unhide HR3).free 1; have f2 := (unhide HR3).free 2
    clear a0 a1 a2 b0 b1 b2
    go_wp2
    exact bodyPost_ret (v := .agg #[.int .i64 z.k, .int .i64 z.n, .string z.s]) (by simp [results, Tryz.results20, go_sem, *]) rfl ⟨by rw [unhide HZ]; rfl, vx_out (unhide HW3) _ _ _⟩
  have hl' : ¬ (1000 : Int) < p.s.size + q.s.size := by omega
  obtain ⟨W0, hW0⟩ : ∃ W0, w.alloc (.cells #[.int .i64 0, .int .i64 0, .string ⟨#[]⟩] 25) = W0 := ⟨_, rfl⟩
  have hb0 : Below w.heap.size w W0 := by rw [← hW0]; exact (Below.refl _ _).alloc (Nat.le_refl _) _
  have bR : Blk W0 w.heap.size 25 [.int .i64 0, .int .i64 0, .string ⟨#[]⟩] := by rw [← hW0]; exact Blk.new w 25 #[.int .i64 0, .int .i64 0, .string ⟨#[]⟩]
  have HC0 := hide (h0.mono hb0)
  obtain ⟨-, a0, a1, a2⟩ := h0.mono hb0
  have HC1 := hide (h1.mono hb0)
  obtain ⟨-, b0, b1, b2⟩ := h1.mono hb0
  have HR2 := hide bR; have HW2 := hide hb0
  clear hb0 bR h0 h1
  go_enter Tryz.func20, Tryz.ntmps20
  go_wp2_with fail
  try rw [hW0]
  clear hW0
  refine (l2Text_any (p.s ++ q.s) _).mono ?_
  rintro e w3 ⟨rfl, hb⟩
  have HR3 := hide ((unhide HR2).mono hb (unhide HR2).lt); have HW3 := hide ((unhide HW2).trans (hb.mono (unhide HW2).size))
  clear hb
  rw [show (Value.agg #[.int .i64 3, .int .i64 0, .string (p.s ++ q.s)]) = vv (textX (p.s ++ q.s)) from rfl]
  obtain ⟨z, hz⟩ : ∃ z, textX (p.s ++ q.s) = z := ⟨_, rfl⟩
  have HZ : Hid (text2 9 p.s q.s = z) := hide (by
    rw [← hz]
    simp [text2, hl])
  rw [hz]
  clear hz
  unfold vv
  obtain ⟨r0, r1, r2⟩ := three (unhide HR3)
  have f0 := (unhide HR3).free 0; have f1 := (unhide HR3).free 1; have f2 := (unhide HR3).free 2
  clear a0 a1 a2 b0 b1 b2
  go_wp2
  exact bodyPost_ret (v := .agg #[.int .i64 z.k, .int .i64 z.n, .string z.s]) (by simp [results, Tryz.results20, go_sem, *]) rfl ⟨by rw [unhide HZ]; rfl, vx_out (unhide HW3) _ _ _⟩

set_option maxRecDepth 100000 in
set_option maxHeartbeats 8000000 in
theorem onTexts_eq (b o c : Nat) (p q : Vx) (w : World) (h0 : Cel w b o p) (h1 : Cel w b (o + 3) q) (hs : p.s.size ≤ 1000 ∧ q.s.size ≤ 1000) :
    Calls Tryz.prog 20 #[.int .i64 10, .slice (some ⟨b, o, none⟩) 2 c] w fun e w' => e = .returned (vv (text2 10 p.s q.s)) ∧ Below w.heap.size w w' := by
  obtain ⟨hp, hq⟩ := hs
  by_cases he : p.s = q.s
  · have HBE : Hid ((p.s.toList == q.s.toList) = true) := hide (by rw [he]; simp)
    have HE := hide he
    clear he
    obtain ⟨W0, hW0⟩ : ∃ W0, w.alloc (.cells #[.int .i64 0, .int .i64 0, .string ⟨#[]⟩] 25) = W0 := ⟨_, rfl⟩
    have hb0 : Below w.heap.size w W0 := by rw [← hW0]; exact (Below.refl _ _).alloc (Nat.le_refl _) _
    have bR : Blk W0 w.heap.size 25 [.int .i64 0, .int .i64 0, .string ⟨#[]⟩] := by rw [← hW0]; exact Blk.new w 25 #[.int .i64 0, .int .i64 0, .string ⟨#[]⟩]
    have HC0 := hide (h0.mono hb0)
    obtain ⟨-, a0, a1, a2⟩ := h0.mono hb0
    have HC1 := hide (h1.mono hb0)
    obtain ⟨-, b0, b1, b2⟩ := h1.mono hb0
    have HR2 := hide bR; have HW2 := hide hb0
    clear hb0 bR h0 h1
    go_enter Tryz.func20, Tryz.ntmps20
    go_wp2_with fail
    try rw [hW0]
    clear hW0
    rw [unhide HBE]
    refine (l2Bool_any (true) _).mono ?_
    rintro e w3 ⟨rfl, hb⟩
    have HR3 := hide ((unhide HR2).mono hb (unhide HR2).lt); have HW3 := hide ((unhide HW2).trans (hb.mono (unhide HW2).size))
    clear hb
    rw [show (Value.agg #[.int .i64 2, .int .i64 (if true then 1 else 0), .string ⟨#[]⟩]) = vv (boolX (true)) from rfl]
    obtain ⟨z, hz⟩ : ∃ z, boolX true = z := ⟨_, rfl⟩
    have HZ : Hid (text2 10 p.s q.s = z) := hide (by
      rw [← hz]
      simp [text2, unhide HE])
    rw [hz]
    clear hz
    unfold vv
    obtain ⟨r0, r1, r2⟩ := three (unhide HR3)
    have f0 := (unhide HR3).free 0; have f1 := (unhide HR3).free 1; have f2 := (unhide HR3).free 2
    clear a0 a1 a2 b0 b1 b2
    go_wp2
    exact bodyPost_ret (v := .agg #[.int .i64 z.k, .int .i64 z.n, .string z.s]) (by simp [results, Tryz.results20, go_sem, *]) rfl ⟨by rw [unhide HZ]; rfl, vx_out (unhide HW3) _ _ _⟩
  have HBE : Hid ((p.s.toList == q.s.toList) = false) := hide (by
    rw [beq_eq_false_iff_ne, ByteArray.toList_eq, ByteArray.toList_eq]
    exact fun e => he (ByteArray.ext (Array.toList_inj.1 e)))
  obtain ⟨W0, hW0⟩ : ∃ W0, w.alloc (.cells #[.int .i64 0, .int .i64 0, .string ⟨#[]⟩] 25) = W0 := ⟨_, rfl⟩
  have hb0 : Below w.heap.size w W0 := by rw [← hW0]; exact (Below.refl _ _).alloc (Nat.le_refl _) _
  have bR : Blk W0 w.heap.size 25 [.int .i64 0, .int .i64 0, .string ⟨#[]⟩] := by rw [← hW0]; exact Blk.new w 25 #[.int .i64 0, .int .i64 0, .string ⟨#[]⟩]
  have HC0 := hide (h0.mono hb0)
  obtain ⟨-, a0, a1, a2⟩ := h0.mono hb0
  have HC1 := hide (h1.mono hb0)
  obtain ⟨-, b0, b1, b2⟩ := h1.mono hb0
  have HR2 := hide bR; have HW2 := hide hb0
  clear hb0 bR h0 h1
  go_enter Tryz.func20, Tryz.ntmps20
  go_wp2_with fail
  try rw [hW0]
  clear hW0
  rw [unhide HBE]
  refine (l2Bool_any (false) _).mono ?_
  rintro e w3 ⟨rfl, hb⟩
  have HR3 := hide ((unhide HR2).mono hb (unhide HR2).lt); have HW3 := hide ((unhide HW2).trans (hb.mono (unhide HW2).size))
  clear hb
  rw [show (Value.agg #[.int .i64 2, .int .i64 (if false then 1 else 0), .string ⟨#[]⟩]) = vv (boolX (false)) from rfl]
  obtain ⟨z, hz⟩ : ∃ z, boolX false = z := ⟨_, rfl⟩
  have HZ : Hid (text2 10 p.s q.s = z) := hide (by
    rw [← hz]
    simp [text2, he])
  rw [hz]
  clear hz
  unfold vv
  obtain ⟨r0, r1, r2⟩ := three (unhide HR3)
  have f0 := (unhide HR3).free 0; have f1 := (unhide HR3).free 1; have f2 := (unhide HR3).free 2
  clear a0 a1 a2 b0 b1 b2
  go_wp2
  exact bodyPost_ret (v := .agg #[.int .i64 z.k, .int .i64 z.n, .string z.s]) (by simp [results, Tryz.results20, go_sem, *]) rfl ⟨by rw [unhide HZ]; rfl, vx_out (unhide HW3) _ _ _⟩

set_option maxRecDepth 100000 in
set_option maxHeartbeats 8000000 in
theorem onTexts_ne (b o c : Nat) (p q : Vx) (w : World) (h0 : Cel w b o p) (h1 : Cel w b (o + 3) q) (hs : p.s.size ≤ 1000 ∧ q.s.size ≤ 1000) :
    Calls Tryz.prog 20 #[.int .i64 11, .slice (some ⟨b, o, none⟩) 2 c] w fun e w' => e = .returned (vv (text2 11 p.s q.s)) ∧ Below w.heap.size w w' := by
  obtain ⟨hp, hq⟩ := hs
  by_cases he : p.s = q.s
  · have HBE : Hid ((p.s.toList == q.s.toList) = true) := hide (by rw [he]; simp)
    have HE := hide he
    clear he
    obtain ⟨W0, hW0⟩ : ∃ W0, w.alloc (.cells #[.int .i64 0, .int .i64 0, .string ⟨#[]⟩] 25) = W0 := ⟨_, rfl⟩
    have hb0 : Below w.heap.size w W0 := by rw [← hW0]; exact (Below.refl _ _).alloc (Nat.le_refl _) _
    have bR : Blk W0 w.heap.size 25 [.int .i64 0, .int .i64 0, .string ⟨#[]⟩] := by rw [← hW0]; exact Blk.new w 25 #[.int .i64 0, .int .i64 0, .string ⟨#[]⟩]
    have HC0 := hide (h0.mono hb0)
    obtain ⟨-, a0, a1, a2⟩ := h0.mono hb0
    have HC1 := hide (h1.mono hb0)
    obtain ⟨-, b0, b1, b2⟩ := h1.mono hb0
    have HR2 := hide bR; have HW2 := hide hb0
    clear hb0 bR h0 h1
    go_enter Tryz.func20, Tryz.ntmps20
    go_wp2_with fail
    try rw [hW0]
    clear hW0
    rw [unhide HBE]
    refine (l2Bool_any (false) _).mono ?_
    rintro e w3 ⟨rfl, hb⟩
    have HR3 := hide ((unhide HR2).mono hb (unhide HR2).lt); have HW3 := hide ((unhide HW2).trans (hb.mono (unhide HW2).size))
    clear hb
    rw [show (Value.agg #[.int .i64 2, .int .i64 (if false then 1 else 0), .string ⟨#[]⟩]) = vv (boolX (false)) from rfl]
    obtain ⟨z, hz⟩ : ∃ z, boolX false = z := ⟨_, rfl⟩
    have HZ : Hid (text2 11 p.s q.s = z) := hide (by
      rw [← hz]
      simp [text2, unhide HE])
    rw [hz]
    clear hz
    unfold vv
    obtain ⟨r0, r1, r2⟩ := three (unhide HR3)
    have f0 := (unhide HR3).free 0; have f1 := (unhide HR3).free 1; have f2 := (unhide HR3).free 2
    clear a0 a1 a2 b0 b1 b2
    go_wp2
    exact bodyPost_ret (v := .agg #[.int .i64 z.k, .int .i64 z.n, .string z.s]) (by simp [results, Tryz.results20, go_sem, *]) rfl ⟨by rw [unhide HZ]; rfl, vx_out (unhide HW3) _ _ _⟩
  have HBE : Hid ((p.s.toList == q.s.toList) = false) := hide (by
    rw [beq_eq_false_iff_ne, ByteArray.toList_eq, ByteArray.toList_eq]
    exact fun e => he (ByteArray.ext (Array.toList_inj.1 e)))
  obtain ⟨W0, hW0⟩ : ∃ W0, w.alloc (.cells #[.int .i64 0, .int .i64 0, .string ⟨#[]⟩] 25) = W0 := ⟨_, rfl⟩
  have hb0 : Below w.heap.size w W0 := by rw [← hW0]; exact (Below.refl _ _).alloc (Nat.le_refl _) _
  have bR : Blk W0 w.heap.size 25 [.int .i64 0, .int .i64 0, .string ⟨#[]⟩] := by rw [← hW0]; exact Blk.new w 25 #[.int .i64 0, .int .i64 0, .string ⟨#[]⟩]
  have HC0 := hide (h0.mono hb0)
  obtain ⟨-, a0, a1, a2⟩ := h0.mono hb0
  have HC1 := hide (h1.mono hb0)
  obtain ⟨-, b0, b1, b2⟩ := h1.mono hb0
  have HR2 := hide bR; have HW2 := hide hb0
  clear hb0 bR h0 h1
  go_enter Tryz.func20, Tryz.ntmps20
  go_wp2_with fail
  try rw [hW0]
  clear hW0
  rw [unhide HBE]
  refine (l2Bool_any (true) _).mono ?_
  rintro e w3 ⟨rfl, hb⟩
  have HR3 := hide ((unhide HR2).mono hb (unhide HR2).lt); have HW3 := hide ((unhide HW2).trans (hb.mono (unhide HW2).size))
  clear hb
  rw [show (Value.agg #[.int .i64 2, .int .i64 (if true then 1 else 0), .string ⟨#[]⟩]) = vv (boolX (true)) from rfl]
  obtain ⟨z, hz⟩ : ∃ z, boolX true = z := ⟨_, rfl⟩
  have HZ : Hid (text2 11 p.s q.s = z) := hide (by
    rw [← hz]
    simp [text2, he])
  rw [hz]
  clear hz
  unfold vv
  obtain ⟨r0, r1, r2⟩ := three (unhide HR3)
  have f0 := (unhide HR3).free 0; have f1 := (unhide HR3).free 1; have f2 := (unhide HR3).free 2
  clear a0 a1 a2 b0 b1 b2
  go_wp2
  exact bodyPost_ret (v := .agg #[.int .i64 z.k, .int .i64 z.n, .string z.s]) (by simp [results, Tryz.results20, go_sem, *]) rfl ⟨by rw [unhide HZ]; rfl, vx_out (unhide HW3) _ _ _⟩

set_option maxRecDepth 100000 in
set_option maxHeartbeats 8000000 in
theorem onTexts_lt (b o c : Nat) (p q : Vx) (w : World) (h0 : Cel w b o p) (h1 : Cel w b (o + 3) q) (hs : p.s.size ≤ 1000 ∧ q.s.size ≤ 1000) :
    Calls Tryz.prog 20 #[.int .i64 12, .slice (some ⟨b, o, none⟩) 2 c] w fun e w' => e = .returned (vv (text2 12 p.s q.s)) ∧ Below w.heap.size w w' := by
  obtain ⟨hp, hq⟩ := hs
  obtain ⟨W0, hW0⟩ : ∃ W0, w.alloc (.cells #[.int .i64 0, .int .i64 0, .string ⟨#[]⟩] 25) = W0 := ⟨_, rfl⟩
  have hb0 : Below w.heap.size w W0 := by rw [← hW0]; exact (Below.refl _ _).alloc (Nat.le_refl _) _
  have bR : Blk W0 w.heap.size 25 [.int .i64 0, .int .i64 0, .string ⟨#[]⟩] := by rw [← hW0]; exact Blk.new w 25 #[.int .i64 0, .int .i64 0, .string ⟨#[]⟩]
  have HC0 := hide (h0.mono hb0)
  obtain ⟨-, a0, a1, a2⟩ := h0.mono hb0
  have HC1 := hide (h1.mono hb0)
  obtain ⟨-, b0, b1, b2⟩ := h1.mono hb0
  have HR2 := hide bR; have HW2 := hide hb0
  clear hb0 bR h0 h1
  go_enter Tryz.func20, Tryz.ntmps20
  go_wp2_with fail
  try rw [hW0]
  clear hW0
  refine (l2TextLess_any _ p.s q.s _ rfl (by omega) (by omega)).mono ?_
  rintro e w3 ⟨rfl, nq, hwq⟩
  have hb : Below W0.heap.size W0 w3 := by rw [hwq]; exact below_drewN' _ nq
  have HR3 := hide ((unhide HR2).mono hb (unhide HR2).lt); have HW3 := hide ((unhide HW2).trans (hb.mono (unhide HW2).size))
  clear hb hwq
  go_wp2_with fail
  refine (l2Bool_any (tl p.s.data.toList q.s.data.toList) _).mono ?_
  rintro e w4 ⟨rfl, hb⟩
  have HR4 := hide ((unhide HR3).mono hb (unhide HR3).lt); have HW4 := hide ((unhide HW3).trans (hb.mono (unhide HW3).size))
  clear hb
  rw [show (Value.agg #[.int .i64 2, .int .i64 (if tl p.s.data.toList q.s.data.toList then 1 else 0), .string ⟨#[]⟩]) = vv (boolX (tl p.s.data.toList q.s.data.toList)) from rfl]
  obtain ⟨z, hz⟩ : ∃ z, boolX (tl p.s.data.toList q.s.data.toList) = z := ⟨_, rfl⟩
  have HZ : Hid (text2 12 p.s q.s = z) := hide (by
    rw [← hz]
    simp [text2])
  rw [hz]
  clear hz
  unfold vv
  obtain ⟨r0, r1, r2⟩ := three (unhide HR4)
  have f0 := (unhide HR4).free 0; have f1 := (unhide HR4).free 1; have f2 := (unhide HR4).free 2
  clear a0 a1 a2 b0 b1 b2
  go_wp2
  exact bodyPost_ret (v := .agg #[.int .i64 z.k, .int .i64 z.n, .string z.s]) (by simp [results, Tryz.results20, go_sem, *]) rfl ⟨by rw [unhide HZ]; rfl, vx_out (unhide HW4) _ _ _⟩

set_option maxRecDepth 100000 in
set_option maxHeartbeats 8000000 in
theorem onTexts_le (b o c : Nat) (p q : Vx) (w : World) (h0 : Cel w b o p) (h1 : Cel w b (o + 3) q) (hs : p.s.size ≤ 1000 ∧ q.s.size ≤ 1000) :
    Calls Tryz.prog 20 #[.int .i64 13, .slice (some ⟨b, o, none⟩) 2 c] w fun e w' => e = .returned (vv (text2 13 p.s q.s)) ∧ Below w.heap.size w w' := by
  obtain ⟨hp, hq⟩ := hs
  obtain ⟨W0, hW0⟩ : ∃ W0, w.alloc (.cells #[.int .i64 0, .int .i64 0, .string ⟨#[]⟩] 25) = W0 := ⟨_, rfl⟩
  have hb0 : Below w.heap.size w W0 := by rw [← hW0]; exact (Below.refl _ _).alloc (Nat.le_refl _) _
  have bR : Blk W0 w.heap.size 25 [.int .i64 0, .int .i64 0, .string ⟨#[]⟩] := by rw [← hW0]; exact Blk.new w 25 #[.int .i64 0, .int .i64 0, .string ⟨#[]⟩]
  have HC0 := hide (h0.mono hb0)
  obtain ⟨-, a0, a1, a2⟩ := h0.mono hb0
  have HC1 := hide (h1.mono hb0)
  obtain ⟨-, b0, b1, b2⟩ := h1.mono hb0
  have HR2 := hide bR; have HW2 := hide hb0
  clear hb0 bR h0 h1
  go_enter Tryz.func20, Tryz.ntmps20
  go_wp2_with fail
  try rw [hW0]
  clear hW0
  refine (l2TextLess_any _ q.s p.s _ rfl (by omega) (by omega)).mono ?_
  rintro e w3 ⟨rfl, nq, hwq⟩
  have hb : Below W0.heap.size W0 w3 := by rw [hwq]; exact below_drewN' _ nq
  have HR3 := hide ((unhide HR2).mono hb (unhide HR2).lt); have HW3 := hide ((unhide HW2).trans (hb.mono (unhide HW2).size))
  clear hb hwq
  go_wp2_with fail
  refine (l2Bool_any (!tl q.s.data.toList p.s.data.toList) _).mono ?_
  rintro e w4 ⟨rfl, hb⟩
  have HR4 := hide ((unhide HR3).mono hb (unhide HR3).lt); have HW4 := hide ((unhide HW3).trans (hb.mono (unhide HW3).size))
  clear hb
  rw [show (Value.agg #[.int .i64 2, .int .i64 (if !tl q.s.data.toList p.s.data.toList then 1 else 0), .string ⟨#[]⟩]) = vv (boolX (!tl q.s.data.toList p.s.data.toList)) from rfl]
  obtain ⟨z, hz⟩ : ∃ z, boolX (!tl q.s.data.toList p.s.data.toList) = z := ⟨_, rfl⟩
  have HZ : Hid (text2 13 p.s q.s = z) := hide (by
    rw [← hz]
    simp [text2])
  rw [hz]
  clear hz
  unfold vv
  obtain ⟨r0, r1, r2⟩ := three (unhide HR4)
  have f0 := (unhide HR4).free 0; have f1 := (unhide HR4).free 1; have f2 := (unhide HR4).free 2
  clear a0 a1 a2 b0 b1 b2
  go_wp2
  exact bodyPost_ret (v := .agg #[.int .i64 z.k, .int .i64 z.n, .string z.s]) (by simp [results, Tryz.results20, go_sem, *]) rfl ⟨by rw [unhide HZ]; rfl, vx_out (unhide HW4) _ _ _⟩

set_option maxRecDepth 100000 in
set_option maxHeartbeats 8000000 in
theorem onTexts_has (b o c : Nat) (p q : Vx) (w : World) (h0 : Cel w b o p) (h1 : Cel w b (o + 3) q) (hs : p.s.size ≤ 1000 ∧ q.s.size ≤ 1000) :
    Calls Tryz.prog 20 #[.int .i64 20, .slice (some ⟨b, o, none⟩) 2 c] w fun e w' => e = .returned (vv (text2 20 p.s q.s)) ∧ Below w.heap.size w w' := by
  obtain ⟨hp, hq⟩ := hs
  obtain ⟨W0, hW0⟩ : ∃ W0, w.alloc (.cells #[.int .i64 0, .int .i64 0, .string ⟨#[]⟩] 25) = W0 := ⟨_, rfl⟩
  have hb0 : Below w.heap.size w W0 := by rw [← hW0]; exact (Below.refl _ _).alloc (Nat.le_refl _) _
  have bR : Blk W0 w.heap.size 25 [.int .i64 0, .int .i64 0, .string ⟨#[]⟩] := by rw [← hW0]; exact Blk.new w 25 #[.int .i64 0, .int .i64 0, .string ⟨#[]⟩]
  have HC0 := hide (h0.mono hb0)
  obtain ⟨-, a0, a1, a2⟩ := h0.mono hb0
  have HC1 := hide (h1.mono hb0)
  obtain ⟨-, b0, b1, b2⟩ := h1.mono hb0
  have HR2 := hide bR; have HW2 := hide hb0
  clear hb0 bR h0 h1
  go_enter Tryz.func20, Tryz.ntmps20
  go_wp2_with fail
  try rw [hW0]
  clear hW0
  refine (l2Has_any p.s q.s _ (by omega) (by omega)).mono ?_
  rintro e w3 ⟨rfl, hwq⟩
  have hb : Below W0.heap.size W0 w3 := by rw [hwq]; exact Below.refl _ _
  have HR3 := hide ((unhide HR2).mono hb (unhide HR2).lt); have HW3 := hide ((unhide HW2).trans (hb.mono (unhide HW2).size))
  clear hb hwq
  go_wp2_with fail
  refine (l2Bool_any (hasFrom p.s q.s 0) _).mono ?_
  rintro e w4 ⟨rfl, hb⟩
  have HR4 := hide ((unhide HR3).mono hb (unhide HR3).lt); have HW4 := hide ((unhide HW3).trans (hb.mono (unhide HW3).size))
  clear hb
  rw [show (Value.agg #[.int .i64 2, .int .i64 (if hasFrom p.s q.s 0 then 1 else 0), .string ⟨#[]⟩]) = vv (boolX (hasFrom p.s q.s 0)) from rfl]
  obtain ⟨z, hz⟩ : ∃ z, boolX (hasFrom p.s q.s 0) = z := ⟨_, rfl⟩
  have HZ : Hid (text2 20 p.s q.s = z) := hide (by
    rw [← hz]
    simp [text2])
  rw [hz]
  clear hz
  unfold vv
  obtain ⟨r0, r1, r2⟩ := three (unhide HR4)
  have f0 := (unhide HR4).free 0; have f1 := (unhide HR4).free 1; have f2 := (unhide HR4).free 2
  clear a0 a1 a2 b0 b1 b2
  go_wp2
  exact bodyPost_ret (v := .agg #[.int .i64 z.k, .int .i64 z.n, .string z.s]) (by simp [results, Tryz.results20, go_sem, *]) rfl ⟨by rw [unhide HZ]; rfl, vx_out (unhide HW4) _ _ _⟩

set_option maxRecDepth 100000 in
set_option maxHeartbeats 8000000 in
theorem onTexts_mul (b o c : Nat) (p q : Vx) (w : World) (h0 : Cel w b o p) (h1 : Cel w b (o + 3) q) (hs : p.s.size ≤ 1000 ∧ q.s.size ≤ 1000) :
    Calls Tryz.prog 20 #[.int .i64 4, .slice (some ⟨b, o, none⟩) 2 c] w fun e w' => e = .returned (vv (text2 4 p.s q.s)) ∧ Below w.heap.size w w' := by
  obtain ⟨hp, hq⟩ := hs
  obtain ⟨W0, hW0⟩ : ∃ W0, w.alloc (.cells #[.int .i64 0, .int .i64 0, .string ⟨#[]⟩] 25) = W0 := ⟨_, rfl⟩
  have hb0 : Below w.heap.size w W0 := by rw [← hW0]; exact (Below.refl _ _).alloc (Nat.le_refl _) _
  have bR : Blk W0 w.heap.size 25 [.int .i64 0, .int .i64 0, .string ⟨#[]⟩] := by rw [← hW0]; exact Blk.new w 25 #[.int .i64 0, .int .i64 0, .string ⟨#[]⟩]
  have HC0 := hide (h0.mono hb0)
  obtain ⟨-, a0, a1, a2⟩ := h0.mono hb0
  have HC1 := hide (h1.mono hb0)
  obtain ⟨-, b0, b1, b2⟩ := h1.mono hb0
  have HR2 := hide bR; have HW2 := hide hb0
  clear hb0 bR h0 h1
  go_enter Tryz.func20, Tryz.ntmps20
  go_wp2_with fail
  try rw [hW0]
  clear hW0
  refine (l2Err_any 1 _).mono ?_
  rintro e w3 ⟨rfl, hb⟩
  have HR3 := hide ((unhide HR2).mono hb (unhide HR2).lt); have HW3 := hide ((unhide HW2).trans (hb.mono (unhide HW2).size))
  clear hb
  rw [show (Value.agg #[.int .i64 4, .int .i64 1, .string ⟨#[]⟩]) = vv (errX 1) from rfl]
  obtain ⟨z, hz⟩ : ∃ z, errX 1 = z := ⟨_, rfl⟩
  have HZ : Hid (text2 4 p.s q.s = z) := hide (by
    rw [← hz]
    simp [text2])
  rw [hz]
  clear hz
  unfold vv
  obtain ⟨r0, r1, r2⟩ := three (unhide HR3)
  have f0 := (unhide HR3).free 0; have f1 := (unhide HR3).free 1; have f2 := (unhide HR3).free 2
  clear a0 a1 a2 b0 b1 b2
  go_wp2
  exact bodyPost_ret (v := .agg #[.int .i64 z.k, .int .i64 z.n, .string z.s]) (by simp [results, Tryz.results20, go_sem, *]) rfl ⟨by rw [unhide HZ]; rfl, vx_out (unhide HW3) _ _ _⟩

set_option maxRecDepth 100000 in
set_option maxHeartbeats 8000000 in
theorem onTexts_div (b o c : Nat) (p q : Vx) (w : World) (h0 : Cel w b o p) (h1 : Cel w b (o + 3) q) (hs : p.s.size ≤ 1000 ∧ q.s.size ≤ 1000) :
    Calls Tryz.prog 20 #[.int .i64 5, .slice (some ⟨b, o, none⟩) 2 c] w fun e w' => e = .returned (vv (text2 5 p.s q.s)) ∧ Below w.heap.size w w' := by
  obtain ⟨hp, hq⟩ := hs
  obtain ⟨W0, hW0⟩ : ∃ W0, w.alloc (.cells #[.int .i64 0, .int .i64 0, .string ⟨#[]⟩] 25) = W0 := ⟨_, rfl⟩
  have hb0 : Below w.heap.size w W0 := by rw [← hW0]; exact (Below.refl _ _).alloc (Nat.le_refl _) _
  have bR : Blk W0 w.heap.size 25 [.int .i64 0, .int .i64 0, .string ⟨#[]⟩] := by rw [← hW0]; exact Blk.new w 25 #[.int .i64 0, .int .i64 0, .string ⟨#[]⟩]
  have HC0 := hide (h0.mono hb0)
  obtain ⟨-, a0, a1, a2⟩ := h0.mono hb0
  have HC1 := hide (h1.mono hb0)
  obtain ⟨-, b0, b1, b2⟩ := h1.mono hb0
  have HR2 := hide bR; have HW2 := hide hb0
  clear hb0 bR h0 h1
  go_enter Tryz.func20, Tryz.ntmps20
  go_wp2_with fail
  try rw [hW0]
  clear hW0
  refine (l2Err_any 1 _).mono ?_
  rintro e w3 ⟨rfl, hb⟩
  have HR3 := hide ((unhide HR2).mono hb (unhide HR2).lt); have HW3 := hide ((unhide HW2).trans (hb.mono (unhide HW2).size))
  clear hb
  rw [show (Value.agg #[.int .i64 4, .int .i64 1, .string ⟨#[]⟩]) = vv (errX 1) from rfl]
  obtain ⟨z, hz⟩ : ∃ z, errX 1 = z := ⟨_, rfl⟩
  have HZ : Hid (text2 5 p.s q.s = z) := hide (by
    rw [← hz]
    simp [text2])
  rw [hz]
  clear hz
  unfold vv
  obtain ⟨r0, r1, r2⟩ := three (unhide HR3)
  have f0 := (unhide HR3).free 0; have f1 := (unhide HR3).free 1; have f2 := (unhide HR3).free 2
  clear a0 a1 a2 b0 b1 b2
  go_wp2
  exact bodyPost_ret (v := .agg #[.int .i64 z.k, .int .i64 z.n, .string z.s]) (by simp [results, Tryz.results20, go_sem, *]) rfl ⟨by rw [unhide HZ]; rfl, vx_out (unhide HW3) _ _ _⟩

set_option maxRecDepth 100000 in
set_option maxHeartbeats 8000000 in
theorem onTexts_mod (b o c : Nat) (p q : Vx) (w : World) (h0 : Cel w b o p) (h1 : Cel w b (o + 3) q) (hs : p.s.size ≤ 1000 ∧ q.s.size ≤ 1000) :
    Calls Tryz.prog 20 #[.int .i64 6, .slice (some ⟨b, o, none⟩) 2 c] w fun e w' => e = .returned (vv (text2 6 p.s q.s)) ∧ Below w.heap.size w w' := by
  obtain ⟨hp, hq⟩ := hs
  obtain ⟨W0, hW0⟩ : ∃ W0, w.alloc (.cells #[.int .i64 0, .int .i64 0, .string ⟨#[]⟩] 25) = W0 := ⟨_, rfl⟩
  have hb0 : Below w.heap.size w W0 := by rw [← hW0]; exact (Below.refl _ _).alloc (Nat.le_refl _) _
  have bR : Blk W0 w.heap.size 25 [.int .i64 0, .int .i64 0, .string ⟨#[]⟩] := by rw [← hW0]; exact Blk.new w 25 #[.int .i64 0, .int .i64 0, .string ⟨#[]⟩]
  have HC0 := hide (h0.mono hb0)
  obtain ⟨-, a0, a1, a2⟩ := h0.mono hb0
  have HC1 := hide (h1.mono hb0)
  obtain ⟨-, b0, b1, b2⟩ := h1.mono hb0
  have HR2 := hide bR; have HW2 := hide hb0
  clear hb0 bR h0 h1
  go_enter Tryz.func20, Tryz.ntmps20
  go_wp2_with fail
  try rw [hW0]
  clear hW0
  refine (l2Err_any 1 _).mono ?_
  rintro e w3 ⟨rfl, hb⟩
  have HR3 := hide ((unhide HR2).mono hb (unhide HR2).lt); have HW3 := hide ((unhide HW2).trans (hb.mono (unhide HW2).size))
  clear hb
  rw [show (Value.agg #[.int .i64 4, .int .i64 1, .string ⟨#[]⟩]) = vv (errX 1) from rfl]
  obtain ⟨z, hz⟩ : ∃ z, errX 1 = z := ⟨_, rfl⟩
  have HZ : Hid (text2 6 p.s q.s = z) := hide (by
    rw [← hz]
    simp [text2])
  rw [hz]
  clear hz
  unfold vv
  obtain ⟨r0, r1, r2⟩ := three (unhide HR3)
  have f0 := (unhide HR3).free 0; have f1 := (unhide HR3).free 1; have f2 := (unhide HR3).free 2
  clear a0 a1 a2 b0 b1 b2
  go_wp2
  exact bodyPost_ret (v := .agg #[.int .i64 z.k, .int .i64 z.n, .string z.s]) (by simp [results, Tryz.results20, go_sem, *]) rfl ⟨by rw [unhide HZ]; rfl, vx_out (unhide HW3) _ _ _⟩

set_option maxRecDepth 100000 in
set_option maxHeartbeats 8000000 in
theorem onTexts_add (b o c : Nat) (p q : Vx) (w : World) (h0 : Cel w b o p) (h1 : Cel w b (o + 3) q) (hs : p.s.size ≤ 1000 ∧ q.s.size ≤ 1000) :
    Calls Tryz.prog 20 #[.int .i64 7, .slice (some ⟨b, o, none⟩) 2 c] w fun e w' => e = .returned (vv (text2 7 p.s q.s)) ∧ Below w.heap.size w w' := by
  obtain ⟨hp, hq⟩ := hs
  obtain ⟨W0, hW0⟩ : ∃ W0, w.alloc (.cells #[.int .i64 0, .int .i64 0, .string ⟨#[]⟩] 25) = W0 := ⟨_, rfl⟩
  have hb0 : Below w.heap.size w W0 := by rw [← hW0]; exact (Below.refl _ _).alloc (Nat.le_refl _) _
  have bR : Blk W0 w.heap.size 25 [.int .i64 0, .int .i64 0, .string ⟨#[]⟩] := by rw [← hW0]; exact Blk.new w 25 #[.int .i64 0, .int .i64 0, .string ⟨#[]⟩]
  have HC0 := hide (h0.mono hb0)
  obtain ⟨-, a0, a1, a2⟩ := h0.mono hb0
  have HC1 := hide (h1.mono hb0)
  obtain ⟨-, b0, b1, b2⟩ := h1.mono hb0
  have HR2 := hide bR; have HW2 := hide hb0
  clear hb0 bR h0 h1
  go_enter Tryz.func20, Tryz.ntmps20
  go_wp2_with fail
  try rw [hW0]
  clear hW0
  refine (l2Err_any 1 _).mono ?_
  rintro e w3 ⟨rfl, hb⟩
  have HR3 := hide ((unhide HR2).mono hb (unhide HR2).lt); have HW3 := hide ((unhide HW2).trans (hb.mono (unhide HW2).size))
  clear hb
  rw [show (Value.agg #[.int .i64 4, .int .i64 1, .string ⟨#[]⟩]) = vv (errX 1) from rfl]
  obtain ⟨z, hz⟩ : ∃ z, errX 1 = z := ⟨_, rfl⟩
  have HZ : Hid (text2 7 p.s q.s = z) := hide (by
    rw [← hz]
    simp [text2])
  rw [hz]
  clear hz
  unfold vv
  obtain ⟨r0, r1, r2⟩ := three (unhide HR3)
  have f0 := (unhide HR3).free 0; have f1 := (unhide HR3).free 1; have f2 := (unhide HR3).free 2
  clear a0 a1 a2 b0 b1 b2
  go_wp2
  exact bodyPost_ret (v := .agg #[.int .i64 z.k, .int .i64 z.n, .string z.s]) (by simp [results, Tryz.results20, go_sem, *]) rfl ⟨by rw [unhide HZ]; rfl, vx_out (unhide HW3) _ _ _⟩

set_option maxRecDepth 100000 in
set_option maxHeartbeats 8000000 in
theorem onTexts_sub (b o c : Nat) (p q : Vx) (w : World) (h0 : Cel w b o p) (h1 : Cel w b (o + 3) q) (hs : p.s.size ≤ 1000 ∧ q.s.size ≤ 1000) :
    Calls Tryz.prog 20 #[.int .i64 8, .slice (some ⟨b, o, none⟩) 2 c] w fun e w' => e = .returned (vv (text2 8 p.s q.s)) ∧ Below w.heap.size w w' := by
  obtain ⟨hp, hq⟩ := hs
  obtain ⟨W0, hW0⟩ : ∃ W0, w.alloc (.cells #[.int .i64 0, .int .i64 0, .string ⟨#[]⟩] 25) = W0 := ⟨_, rfl⟩
  have hb0 : Below w.heap.size w W0 := by rw [← hW0]; exact (Below.refl _ _).alloc (Nat.le_refl _) _
  have bR : Blk W0 w.heap.size 25 [.int .i64 0, .int .i64 0, .string ⟨#[]⟩] := by rw [← hW0]; exact Blk.new w 25 #[.int .i64 0, .int .i64 0, .string ⟨#[]⟩]
  have HC0 := hide (h0.mono hb0)
  obtain ⟨-, a0, a1, a2⟩ := h0.mono hb0
  have HC1 := hide (h1.mono hb0)
  obtain ⟨-, b0, b1, b2⟩ := h1.mono hb0
  have HR2 := hide bR; have HW2 := hide hb0
  clear hb0 bR h0 h1
  go_enter Tryz.func20, Tryz.ntmps20
  go_wp2_with fail
  try rw [hW0]
  clear hW0
  refine (l2Err_any 1 _).mono ?_
  rintro e w3 ⟨rfl, hb⟩
  have HR3 := hide ((unhide HR2).mono hb (unhide HR2).lt); have HW3 := hide ((unhide HW2).trans (hb.mono (unhide HW2).size))
  clear hb
  rw [show (Value.agg #[.int .i64 4, .int .i64 1, .string ⟨#[]⟩]) = vv (errX 1) from rfl]
  obtain ⟨z, hz⟩ : ∃ z, errX 1 = z := ⟨_, rfl⟩
  have HZ : Hid (text2 8 p.s q.s = z) := hide (by
    rw [← hz]
    simp [text2])
  rw [hz]
  clear hz
  unfold vv
  obtain ⟨r0, r1, r2⟩ := three (unhide HR3)
  have f0 := (unhide HR3).free 0; have f1 := (unhide HR3).free 1; have f2 := (unhide HR3).free 2
  clear a0 a1 a2 b0 b1 b2
  go_wp2
  exact bodyPost_ret (v := .agg #[.int .i64 z.k, .int .i64 z.n, .string z.s]) (by simp [results, Tryz.results20, go_sem, *]) rfl ⟨by rw [unhide HZ]; rfl, vx_out (unhide HW3) _ _ _⟩

set_option maxRecDepth 100000 in
set_option maxHeartbeats 8000000 in
theorem onTexts_min (b o c : Nat) (p q : Vx) (w : World) (h0 : Cel w b o p) (h1 : Cel w b (o + 3) q) (hs : p.s.size ≤ 1000 ∧ q.s.size ≤ 1000) :
    Calls Tryz.prog 20 #[.int .i64 17, .slice (some ⟨b, o, none⟩) 2 c] w fun e w' => e = .returned (vv (text2 17 p.s q.s)) ∧ Below w.heap.size w w' := by
  obtain ⟨hp, hq⟩ := hs
  obtain ⟨W0, hW0⟩ : ∃ W0, w.alloc (.cells #[.int .i64 0, .int .i64 0, .string ⟨#[]⟩] 25) = W0 := ⟨_, rfl⟩
  have hb0 : Below w.heap.size w W0 := by rw [← hW0]; exact (Below.refl _ _).alloc (Nat.le_refl _) _
  have bR : Blk W0 w.heap.size 25 [.int .i64 0, .int .i64 0, .string ⟨#[]⟩] := by rw [← hW0]; exact Blk.new w 25 #[.int .i64 0, .int .i64 0, .string ⟨#[]⟩]
  have HC0 := hide (h0.mono hb0)
  obtain ⟨-, a0, a1, a2⟩ := h0.mono hb0
  have HC1 := hide (h1.mono hb0)
  obtain ⟨-, b0, b1, b2⟩ := h1.mono hb0
  have HR2 := hide bR; have HW2 := hide hb0
  clear hb0 bR h0 h1
  go_enter Tryz.func20, Tryz.ntmps20
  go_wp2_with fail
  try rw [hW0]
  clear hW0
  refine (l2Err_any 1 _).mono ?_
  rintro e w3 ⟨rfl, hb⟩
  have HR3 := hide ((unhide HR2).mono hb (unhide HR2).lt); have HW3 := hide ((unhide HW2).trans (hb.mono (unhide HW2).size))
  clear hb
  rw [show (Value.agg #[.int .i64 4, .int .i64 1, .string ⟨#[]⟩]) = vv (errX 1) from rfl]
  obtain ⟨z, hz⟩ : ∃ z, errX 1 = z := ⟨_, rfl⟩
  have HZ : Hid (text2 17 p.s q.s = z) := hide (by
    rw [← hz]
    simp [text2])
  rw [hz]
  clear hz
  unfold vv
  obtain ⟨r0, r1, r2⟩ := three (unhide HR3)
  have f0 := (unhide HR3).free 0; have f1 := (unhide HR3).free 1; have f2 := (unhide HR3).free 2
  clear a0 a1 a2 b0 b1 b2
  go_wp2
  exact bodyPost_ret (v := .agg #[.int .i64 z.k, .int .i64 z.n, .string z.s]) (by simp [results, Tryz.results20, go_sem, *]) rfl ⟨by rw [unhide HZ]; rfl, vx_out (unhide HW3) _ _ _⟩

set_option maxRecDepth 100000 in
set_option maxHeartbeats 8000000 in
theorem onTexts_max (b o c : Nat) (p q : Vx) (w : World) (h0 : Cel w b o p) (h1 : Cel w b (o + 3) q) (hs : p.s.size ≤ 1000 ∧ q.s.size ≤ 1000) :
    Calls Tryz.prog 20 #[.int .i64 18, .slice (some ⟨b, o, none⟩) 2 c] w fun e w' => e = .returned (vv (text2 18 p.s q.s)) ∧ Below w.heap.size w w' := by
  obtain ⟨hp, hq⟩ := hs
  obtain ⟨W0, hW0⟩ : ∃ W0, w.alloc (.cells #[.int .i64 0, .int .i64 0, .string ⟨#[]⟩] 25) = W0 := ⟨_, rfl⟩
  have hb0 : Below w.heap.size w W0 := by rw [← hW0]; exact (Below.refl _ _).alloc (Nat.le_refl _) _
  have bR : Blk W0 w.heap.size 25 [.int .i64 0, .int .i64 0, .string ⟨#[]⟩] := by rw [← hW0]; exact Blk.new w 25 #[.int .i64 0, .int .i64 0, .string ⟨#[]⟩]
  have HC0 := hide (h0.mono hb0)
  obtain ⟨-, a0, a1, a2⟩ := h0.mono hb0
  have HC1 := hide (h1.mono hb0)
  obtain ⟨-, b0, b1, b2⟩ := h1.mono hb0
  have HR2 := hide bR; have HW2 := hide hb0
  clear hb0 bR h0 h1
  go_enter Tryz.func20, Tryz.ntmps20
  go_wp2_with fail
  try rw [hW0]
  clear hW0
  refine (l2Err_any 1 _).mono ?_
  rintro e w3 ⟨rfl, hb⟩
  have HR3 := hide ((unhide HR2).mono hb (unhide HR2).lt); have HW3 := hide ((unhide HW2).trans (hb.mono (unhide HW2).size))
  clear hb
  rw [show (Value.agg #[.int .i64 4, .int .i64 1, .string ⟨#[]⟩]) = vv (errX 1) from rfl]
  obtain ⟨z, hz⟩ : ∃ z, errX 1 = z := ⟨_, rfl⟩
  have HZ : Hid (text2 18 p.s q.s = z) := hide (by
    rw [← hz]
    simp [text2])
  rw [hz]
  clear hz
  unfold vv
  obtain ⟨r0, r1, r2⟩ := three (unhide HR3)
  have f0 := (unhide HR3).free 0; have f1 := (unhide HR3).free 1; have f2 := (unhide HR3).free 2
  clear a0 a1 a2 b0 b1 b2
  go_wp2
  exact bodyPost_ret (v := .agg #[.int .i64 z.k, .int .i64 z.n, .string z.s]) (by simp [results, Tryz.results20, go_sem, *]) rfl ⟨by rw [unhide HZ]; rfl, vx_out (unhide HW3) _ _ _⟩

end Go.Proofs.YtnmpkdmflijhpaaGreatDoor
