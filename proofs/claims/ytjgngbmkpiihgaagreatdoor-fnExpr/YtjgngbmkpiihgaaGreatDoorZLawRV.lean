import Derived.Test.YtjgngbmkpiihgaaGreatDoorGRb
import Derived.Test.YtjgngbmkpiihgaaGreatDoorGIE
/- (loose) The program's ReadValue; the law FnExactReadValue. -/
namespace Go.Proofs.YtjgngbmkpiihgaaGreatDoor
open Go Go.RowKit

theorem rd_bounds (l : List UInt8) : -9223372036854775808 ≤ (rd l).1 ∧ (rd l).1 ≤ 9223372036854775807 := by
  unfold rd
  cases h : readDec l with
  | none => simp
  | some n =>
    unfold readDec at h
    split at h
    · rename_i m hm
      split at h
      · simp only [Option.some.injEq] at h
        subst h
        have hb := Lib.parseIntB_bounds hm
        have : (2 : Nat) ^ (64 - 1) = 9223372036854775808 := rfl
        simp only; omega
      · cases h
    · cases h
theorem lv_bounds (s : ByteArray) : (-9223372036854775808 ≤ (lv s).2.1 ∧ (lv s).2.1 ≤ 9223372036854775807) ∧ (lv s).2.2.size ≤ s.size := by
  unfold lv
  split
  · exact ⟨by simp, Nat.zero_le _⟩
  · split
    · exact ⟨by simp, Nat.zero_le _⟩
    · split
      · exact ⟨by simp, Nat.zero_le _⟩
      · split
        · refine ⟨by simp, ?_⟩
          show (mid s).size ≤ s.size
          rw [mid_size]; omega
        · exact ⟨rd_bounds _, Nat.zero_le _⟩

set_option maxRecDepth 100000 in
set_option maxHeartbeats 4000000 in
theorem implRead_any (s : ByteArray) (w : World) (hs : s.size ≤ 1048576) (hp : Pow w) (q1 : ErrV "strconv.ErrSyntax" w) (q2 : ErrV "strconv.ErrRange" w) (kind num : Int) (tx : ByteArray) (ok : Bool) (hr : rv s = (kind, num, tx, ok)) :
    Calls Tryz.prog 97 #[.string s] w fun e w' => e = .returned (.tuple #[.agg #[.int .i64 kind, .int .i64 num, .string tx], .bool ok]) ∧ Below w.heap.size w w' := by
  obtain ⟨k, n, t, hl⟩ : ∃ k n t, lv s = (k, n, t) := ⟨_, _, _, rfl⟩
  have hbd := lv_bounds s
  rw [rv_lv] at hr
  rw [hl] at hr hbd
  dsimp only at hr hbd
  have HN := hide hbd.1
  have ht := hbd.2
  clear hbd
  have HR := hide (Blk.new w 39 #[.int .i64 0, .int .i64 0, .string ⟨#[]⟩])
  have HW : Hid (Below w.heap.size w (w.alloc (.cells #[.int .i64 0, .int .i64 0, .string ⟨#[]⟩] 39))) := (Below.refl _ _).alloc (Nat.le_refl _) _
  go_enter Tryz.func97, Tryz.ntmps97
  go_wp2_with fail
  refine (likely_any s _ hs (hp.mono (unhide HW)) (q1.mono (unhide HW)) (q2.mono (unhide HW)) k n t hl).mono ?_
  rintro e w1 ⟨rfl, hb⟩
  replace HR := hide ((unhide HR).mono hb (unhide HR).lt); replace HW := hide ((unhide HW).trans (hb.mono (unhide HW).size)); clear hb
  have hb : Below w1.heap.size w1 (w1.alloc (.cells #[.int .i64 k, .int .i64 n, .string t] 39)) := (Below.refl _ _).alloc (Nat.le_refl _) _
  have HM := hide (Blk.new w1 39 #[.int .i64 k, .int .i64 n, .string t])
  replace HR := hide ((unhide HR).mono hb (unhide HR).lt); replace HW := hide ((unhide HW).trans (hb.mono (unhide HW).size)); clear hb
  obtain ⟨m0, m1, m2⟩ := three (unhide HM)
  go_wp2_with fail
  refine (implShow_any k n t _ (by omega) (unhide HN).1 (unhide HN).2 (hp.mono (unhide HW))).mono ?_
  rintro e w2 ⟨rfl, hb⟩
  replace HM := hide ((unhide HM).mono hb (unhide HM).lt); replace HR := hide ((unhide HR).mono hb (unhide HR).lt); replace HW := hide ((unhide HW).trans (hb.mono (unhide HW).size)); clear hb
  clear m0 m1 m2
  obtain ⟨m0, m1, m2⟩ := three (unhide HM)
  obtain ⟨B, hB⟩ : ∃ B, B = showB k n t := ⟨_, rfl⟩
  rw [← hB] at hr ⊢
  clear hB
  by_cases h : B = s
  · rw [if_pos h] at hr
    simp only [Prod.mk.injEq] at hr
    obtain ⟨rfl, rfl, rfl, rfl⟩ := hr
    have e0 : (B.toList == s.toList) = true := by rw [h]; simp
    clear h
    obtain ⟨⟨r0, r1, r2⟩, ⟨f0, f1, f2⟩⟩ := three' (unhide HR)
    have HZ := hide ((((unhide HW).setCell (p := ⟨w.heap.size, 0, none⟩) (Nat.le_refl _) (.int .i64 k)).setCell (p := ⟨w.heap.size, 1, none⟩) (Nat.le_refl _) (.int .i64 n)).setCell (p := ⟨w.heap.size, 2, none⟩) (Nat.le_refl _) (.string t))
    go_wp2
    exact bodyPost_ret (v := .tuple #[.agg #[.int .i64 k, .int .i64 n, .string t], .bool true]) (by simp [results, Tryz.results97, go_sem, *]) rfl ⟨rfl, unhide HZ⟩
  · rw [if_neg h] at hr
    simp only [Prod.mk.injEq] at hr
    obtain ⟨rfl, rfl, rfl, rfl⟩ := hr
    have e0 : (B.toList == s.toList) = false := by rw [ByteArray.toList_eq, ByteArray.toList_eq, beq_eq_false_iff_ne]; exact fun e => h (string_ext e)
    clear h
    go_wp2_with fail
    refine (blankValue_any _).mono ?_
    rintro e w1 ⟨rfl, hb⟩
    replace HR := hide ((unhide HR).mono hb (unhide HR).lt); replace HW := hide ((unhide HW).trans (hb.mono (unhide HW).size)); clear hb
    obtain ⟨⟨r0, r1, r2⟩, ⟨f0, f1, f2⟩⟩ := three' (unhide HR)
    have HZ := hide ((((unhide HW).setCell (p := ⟨w.heap.size, 0, none⟩) (Nat.le_refl _) (.int .i64 0)).setCell (p := ⟨w.heap.size, 1, none⟩) (Nat.le_refl _) (.int .i64 0)).setCell (p := ⟨w.heap.size, 2, none⟩) (Nat.le_refl _) (.string ⟨#[]⟩))
    go_wp2
    exact bodyPost_ret (v := .tuple #[.agg #[.int .i64 0, .int .i64 0, .string ⟨#[]⟩], .bool false]) (by simp [results, Tryz.results97, go_sem, *]) rfl ⟨rfl, unhide HZ⟩

end Go.Proofs.YtjgngbmkpiihgaaGreatDoor
