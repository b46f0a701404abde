/- The model's ReadValue. -/
import Derived.Test.YtnmpkdmflijhpaaDoorReadI
import Derived.Test.YtnmpkdmflijhpaaDoorMk
import Derived.Test.YtnmpkdmflijhpaaDoorShow
namespace Go.Proofs.YtnmpkdmflijhpaaDoor
open Go Go.RowKit

def mid (s : ByteArray) : ByteArray := s.extract 1 (s.size - 1)
theorem mid_size (s : ByteArray) : (mid s).size = s.size - 1 - 1 := by simp [mid]
/-- What ReadValue answers. -/
def rv (s : ByteArray) : Int × Int × ByteArray × Bool :=
  if s = ⟨#[98, 108, 97, 110, 107]⟩ then (0, 0, ⟨#[]⟩, true)
  else if s = ⟨#[116, 114, 117, 101]⟩ then (2, 1, ⟨#[]⟩, true)
  else if s = ⟨#[102, 97, 108, 115, 101]⟩ then (2, 0, ⟨#[]⟩, true)
  else match readDec s.data.toList with
    | some n => (1, n, ⟨#[]⟩, true)
    | none => if 2 ≤ s.size ∧ okText (mid s) = true ∧ ⟨#[34]⟩ ++ mid s ++ ⟨#[34]⟩ = s then (3, 0, mid s, true) else (0, 0, ⟨#[]⟩, false)
theorem show_blank : showB 0 0 ⟨#[]⟩ = ⟨#[98, 108, 97, 110, 107]⟩ := by simp [showB, okVal, ByteArray.size]
theorem show_true : showB 2 1 ⟨#[]⟩ = ⟨#[116, 114, 117, 101]⟩ := by simp [showB, okVal, ByteArray.size]
theorem show_false : showB 2 0 ⟨#[]⟩ = ⟨#[102, 97, 108, 115, 101]⟩ := by simp [showB, okVal, ByteArray.size]
theorem three' {w : World} {b : Nat} {t : TypeId} {v0 v1 v2 : Value} (h : Blk w b t [v0, v1, v2]) :
    (w.cell? ⟨b, 0, none⟩ = some v0 ∧ w.cell? ⟨b, 1, none⟩ = some v1 ∧ w.cell? ⟨b, 2, none⟩ = some v2) ∧ (w.frozen? ⟨b, 0, none⟩ = false ∧ w.frozen? ⟨b, 1, none⟩ = false ∧ w.frozen? ⟨b, 2, none⟩ = false) := ⟨⟨h.cell 0, h.cell 1, h.cell 2⟩, ⟨h.free 0, h.free 1, h.free 2⟩⟩
theorem run_mid (s : ByteArray) (h2 : 2 ≤ s.size) (w : World) : (Instr.slice 9 (.string s) (some (.int .i64 1)) (some (.int .i64 ((s.size : Int) - 1))) none).run Tryd.prog w = .ok (.string (mid s)) w := by
  rw [run_slice_string w 9 s .i64 .i64 _ _ Tryd.underlying9 (by omega) (by omega) (by omega), show ((1 : Int)).toNat = 1 from rfl, show ((s.size : Int) - 1).toNat = s.size - 1 by omega]
  rfl

set_option maxRecDepth 100000 in
set_option maxHeartbeats 8000000 in
theorem specRead_any (s : ByteArray) (w : World) (hs : s.size ≤ 9223372036854775807) (kind num : Int) (t : ByteArray) (ok : Bool) (hr : rv s = (kind, num, t, ok)) :
    Calls Tryd.prog 31 #[.string s] w fun e w' => e = .returned (.tuple #[.agg #[.int .i64 kind, .int .i64 num, .string t], .bool ok]) ∧ Below w.heap.size w w' := by
  have HR := hide (Blk.new w 57 #[.int .i64 0, .int .i64 0, .string ⟨#[]⟩])
  have HW : Hid (Below w.heap.size w (w.alloc (.cells #[.int .i64 0, .int .i64 0, .string ⟨#[]⟩] 57))) := (Below.refl _ _).alloc (Nat.le_refl _) _
  go_enter Tryd.func31, Tryd.ntmps31
  go_wp2_with fail
  refine (l2Blank_any _).mono ?_
  rintro e w1 ⟨rfl, hb⟩
  replace HR := hide ((unhide HR).mono hb (unhide HR).lt); replace HW := hide ((unhide HW).trans (hb.mono (unhide HW).size)); clear hb
  go_wp2_with fail
  refine (specShow_any 0 0 ⟨#[]⟩ _ (by decide) (by omega) (by omega)).mono ?_
  rintro e w1 ⟨rfl, hb⟩
  replace HR := hide ((unhide HR).mono hb (unhide HR).lt); replace HW := hide ((unhide HW).trans (hb.mono (unhide HW).size)); clear hb
  rw [show_blank]
  obtain ⟨B, hB⟩ : ∃ B : ByteArray, B = ⟨#[98, 108, 97, 110, 107]⟩ := ⟨_, rfl⟩
  rw [← hB]
  have hl : B.size ≤ 1100 := by rw [hB]; decide
  by_cases h : s = B
  · have e0 : (s.toList == B.toList) = true := by rw [h]; simp
    have h' : s = ⟨#[98, 108, 97, 110, 107]⟩ := h.trans hB
    clear hB
    rw [rv, if_pos h'] at hr
    simp only [Prod.mk.injEq] at hr
    obtain ⟨rfl, rfl, rfl, rfl⟩ := hr
    clear h h'
    go_wp2_with fail
    refine (l2Blank_any _).mono ?_
    rintro e w1 ⟨rfl, hb⟩
    replace HR := hide ((unhide HR).mono hb (unhide HR).lt); replace HW := hide ((unhide HW).trans (hb.mono (unhide HW).size)); clear hb
    obtain ⟨⟨r0, r1, r2⟩, ⟨f0, f1, f2⟩⟩ := three' (unhide HR)
    have HZ := hide ((((unhide HW).setCell (p := ⟨w.heap.size, 0, none⟩) (Nat.le_refl _) (.int .i64 0)).setCell (p := ⟨w.heap.size, 1, none⟩) (Nat.le_refl _) (.int .i64 0)).setCell (p := ⟨w.heap.size, 2, none⟩) (Nat.le_refl _) (.string ⟨#[]⟩))
    go_wp2
    exact bodyPost_ret (v := .tuple #[.agg #[.int .i64 0, .int .i64 0, .string ⟨#[]⟩], .bool true]) (by simp [results, Tryd.results31, go_sem, *]) rfl ⟨rfl, unhide HZ⟩
  have e0 : (s.toList == B.toList) = false := by rw [ByteArray.toList_eq, ByteArray.toList_eq, beq_eq_false_iff_ne]; exact fun e => h (string_ext e)
  have n1 : ¬ s = ⟨#[98, 108, 97, 110, 107]⟩ := fun e => h (e.trans hB.symm)
  clear hB h
  go_wp2_with fail
  refine (l2Bool_any true _).mono ?_
  rintro e w1 ⟨rfl, hb⟩
  replace HR := hide ((unhide HR).mono hb (unhide HR).lt); replace HW := hide ((unhide HW).trans (hb.mono (unhide HW).size)); clear hb
  rw [if_pos rfl]
  go_wp2_with fail
  refine (specShow_any 2 1 ⟨#[]⟩ _ (by decide) (by omega) (by omega)).mono ?_
  rintro e w1 ⟨rfl, hb⟩
  replace HR := hide ((unhide HR).mono hb (unhide HR).lt); replace HW := hide ((unhide HW).trans (hb.mono (unhide HW).size)); clear hb
  rw [show_true]
  obtain ⟨B, hB⟩ : ∃ B : ByteArray, B = ⟨#[116, 114, 117, 101]⟩ := ⟨_, rfl⟩
  rw [← hB]
  have hl : B.size ≤ 1100 := by rw [hB]; decide
  by_cases h : s = B
  · have e0 : (s.toList == B.toList) = true := by rw [h]; simp
    have h' : s = ⟨#[116, 114, 117, 101]⟩ := h.trans hB
    clear hB
    rw [rv, if_neg n1, if_pos h'] at hr
    simp only [Prod.mk.injEq] at hr
    obtain ⟨rfl, rfl, rfl, rfl⟩ := hr
    clear h h'
    go_wp2_with fail
    refine (l2Bool_any true _).mono ?_
    rintro e w1 ⟨rfl, hb⟩
    replace HR := hide ((unhide HR).mono hb (unhide HR).lt); replace HW := hide ((unhide HW).trans (hb.mono (unhide HW).size)); clear hb
    rw [if_pos rfl]
    obtain ⟨⟨r0, r1, r2⟩, ⟨f0, f1, f2⟩⟩ := three' (unhide HR)
    have HZ := hide ((((unhide HW).setCell (p := ⟨w.heap.size, 0, none⟩) (Nat.le_refl _) (.int .i64 2)).setCell (p := ⟨w.heap.size, 1, none⟩) (Nat.le_refl _) (.int .i64 1)).setCell (p := ⟨w.heap.size, 2, none⟩) (Nat.le_refl _) (.string ⟨#[]⟩))
    go_wp2
    exact bodyPost_ret (v := .tuple #[.agg #[.int .i64 2, .int .i64 1, .string ⟨#[]⟩], .bool true]) (by simp [results, Tryd.results31, go_sem, *]) rfl ⟨rfl, unhide HZ⟩
  have e0 : (s.toList == B.toList) = false := by rw [ByteArray.toList_eq, ByteArray.toList_eq, beq_eq_false_iff_ne]; exact fun e => h (string_ext e)
  have n2 : ¬ s = ⟨#[116, 114, 117, 101]⟩ := fun e => h (e.trans hB.symm)
  clear hB h
  go_wp2_with fail
  refine (l2Bool_any false _).mono ?_
  rintro e w1 ⟨rfl, hb⟩
  replace HR := hide ((unhide HR).mono hb (unhide HR).lt); replace HW := hide ((unhide HW).trans (hb.mono (unhide HW).size)); clear hb
  rw [if_neg (by decide)]
  go_wp2_with fail
  refine (specShow_any 2 0 ⟨#[]⟩ _ (by decide) (by omega) (by omega)).mono ?_
  rintro e w1 ⟨rfl, hb⟩
  replace HR := hide ((unhide HR).mono hb (unhide HR).lt); replace HW := hide ((unhide HW).trans (hb.mono (unhide HW).size)); clear hb
  rw [show_false]
  obtain ⟨B, hB⟩ : ∃ B : ByteArray, B = ⟨#[102, 97, 108, 115, 101]⟩ := ⟨_, rfl⟩
  rw [← hB]
  have hl : B.size ≤ 1100 := by rw [hB]; decide
  by_cases h : s = B
  · have e0 : (s.toList == B.toList) = true := by rw [h]; simp
    have h' : s = ⟨#[102, 97, 108, 115, 101]⟩ := h.trans hB
    clear hB
    rw [rv, if_neg n1, if_neg n2, if_pos h'] at hr
    simp only [Prod.mk.injEq] at hr
    obtain ⟨rfl, rfl, rfl, rfl⟩ := hr
    clear h h'
    go_wp2_with fail
    refine (l2Bool_any false _).mono ?_
    rintro e w1 ⟨rfl, hb⟩
    replace HR := hide ((unhide HR).mono hb (unhide HR).lt); replace HW := hide ((unhide HW).trans (hb.mono (unhide HW).size)); clear hb
    rw [if_neg (by decide)]
    obtain ⟨⟨r0, r1, r2⟩, ⟨f0, f1, f2⟩⟩ := three' (unhide HR)
    have HZ := hide ((((unhide HW).setCell (p := ⟨w.heap.size, 0, none⟩) (Nat.le_refl _) (.int .i64 2)).setCell (p := ⟨w.heap.size, 1, none⟩) (Nat.le_refl _) (.int .i64 0)).setCell (p := ⟨w.heap.size, 2, none⟩) (Nat.le_refl _) (.string ⟨#[]⟩))
    go_wp2
    exact bodyPost_ret (v := .tuple #[.agg #[.int .i64 2, .int .i64 0, .string ⟨#[]⟩], .bool true]) (by simp [results, Tryd.results31, go_sem, *]) rfl ⟨rfl, unhide HZ⟩
  have e0 : (s.toList == B.toList) = false := by rw [ByteArray.toList_eq, ByteArray.toList_eq, beq_eq_false_iff_ne]; exact fun e => h (string_ext e)
  have n3 : ¬ s = ⟨#[102, 97, 108, 115, 101]⟩ := fun e => h (e.trans hB.symm)
  clear hB h
  cases hrd : readDec s.data.toList with
  | some n =>
    rw [rv, if_neg n1, if_neg n2, if_neg n3, hrd] at hr
    simp only [Prod.mk.injEq] at hr
    obtain ⟨rfl, rfl, rfl, rfl⟩ := hr
    go_wp2_with fail
    refine (l2ReadInt_any s _ hs n true (by rw [rd, hrd])).mono ?_
    rintro e w1 ⟨rfl, hb⟩
    replace HR := hide ((unhide HR).mono hb (unhide HR).lt); replace HW := hide ((unhide HW).trans (hb.mono (unhide HW).size)); clear hb
    go_wp2_with fail
    refine (l2Int_any n _).mono ?_
    rintro e w1 ⟨rfl, hb⟩
    replace HR := hide ((unhide HR).mono hb (unhide HR).lt); replace HW := hide ((unhide HW).trans (hb.mono (unhide HW).size)); clear hb
    obtain ⟨⟨r0, r1, r2⟩, ⟨f0, f1, f2⟩⟩ := three' (unhide HR)
    have HZ := hide ((((unhide HW).setCell (p := ⟨w.heap.size, 0, none⟩) (Nat.le_refl _) (.int .i64 1)).setCell (p := ⟨w.heap.size, 1, none⟩) (Nat.le_refl _) (.int .i64 n)).setCell (p := ⟨w.heap.size, 2, none⟩) (Nat.le_refl _) (.string ⟨#[]⟩))
    go_wp2
    exact bodyPost_ret (v := .tuple #[.agg #[.int .i64 1, .int .i64 n, .string ⟨#[]⟩], .bool true]) (by simp [results, Tryd.results31, go_sem, *]) rfl ⟨rfl, unhide HZ⟩
  | none =>
    rw [rv, if_neg n1, if_neg n2, if_neg n3, hrd] at hr
    simp only at hr
    go_wp2_with fail
    refine (l2ReadInt_any s _ hs 0 false (by rw [rd, hrd])).mono ?_
    rintro e w1 ⟨rfl, hb⟩
    replace HR := hide ((unhide HR).mono hb (unhide HR).lt); replace HW := hide ((unhide HW).trans (hb.mono (unhide HW).size)); clear hb
    by_cases h2 : 2 ≤ s.size
    · have hsl := run_mid s h2
      obtain ⟨M, hM⟩ : ∃ M, M = mid s := ⟨_, rfl⟩
      rw [← hM] at hsl hr
      have hMs : M.size ≤ 9223372036854775807 := by rw [hM, mid_size]; omega
      clear hM
      go_wp2_with fail
      refine (l2Text_any M _).mono ?_
      rintro e w1 ⟨rfl, hb⟩
      replace HR := hide ((unhide HR).mono hb (unhide HR).lt); replace HW := hide ((unhide HW).trans (hb.mono (unhide HW).size)); clear hb
      have hb : Below w1.heap.size w1 (w1.alloc (.cells #[.int .i64 3, .int .i64 0, .string M] 57)) := (Below.refl _ _).alloc (Nat.le_refl _) _
      have HM := hide (Blk.new w1 57 #[.int .i64 3, .int .i64 0, .string M])
      replace HR := hide ((unhide HR).mono hb (unhide HR).lt); replace HW := hide ((unhide HW).trans (hb.mono (unhide HW).size)); clear hb
      have hok : okVal 3 0 M = okText M := by simp [okVal]
      obtain ⟨q0, q1, q2⟩ := three (unhide HM)
      go_wp2_with fail
      refine (specValidV_any 3 0 M _ hMs).mono ?_
      rintro e w2 ⟨rfl, hb⟩
      replace HM := hide ((unhide HM).mono hb (unhide HM).lt)
      replace HR := hide ((unhide HR).mono hb (unhide HR).lt); replace HW := hide ((unhide HW).trans (hb.mono (unhide HW).size)); clear hb
      rw [hok]
      clear q0 q1 q2
      obtain ⟨q0, q1, q2⟩ := three (unhide HM)
      cases ht : okText M
      · rw [if_neg (by rw [ht]; simp)] at hr
        simp only [Prod.mk.injEq] at hr
        obtain ⟨rfl, rfl, rfl, rfl⟩ := hr
        go_wp2_with fail
        refine (l2Blank_any _).mono ?_
        rintro e w1 ⟨rfl, hb⟩
        replace HR := hide ((unhide HR).mono hb (unhide HR).lt); replace HW := hide ((unhide HW).trans (hb.mono (unhide HW).size)); clear hb
        obtain ⟨⟨r0, r1, r2⟩, ⟨f0, f1, f2⟩⟩ := three' (unhide HR)
        have HZ := hide ((((unhide HW).setCell (p := ⟨w.heap.size, 0, none⟩) (Nat.le_refl _) (.int .i64 0)).setCell (p := ⟨w.heap.size, 1, none⟩) (Nat.le_refl _) (.int .i64 0)).setCell (p := ⟨w.heap.size, 2, none⟩) (Nat.le_refl _) (.string ⟨#[]⟩))
        go_wp2
        exact bodyPost_ret (v := .tuple #[.agg #[.int .i64 0, .int .i64 0, .string ⟨#[]⟩], .bool false]) (by simp [results, Tryd.results31, go_sem, *]) rfl ⟨rfl, unhide HZ⟩
      · go_wp2_with fail
        refine (specShow_any 3 0 M _ hMs (by omega) (by omega)).mono ?_
        rintro e w3 ⟨rfl, hb⟩
        replace HM := hide ((unhide HM).mono hb (unhide HM).lt)
        replace HR := hide ((unhide HR).mono hb (unhide HR).lt); replace HW := hide ((unhide HW).trans (hb.mono (unhide HW).size)); clear hb
        clear q0 q1 q2
        obtain ⟨q0, q1, q2⟩ := three (unhide HM)
        have hsh : showB 3 0 M = ⟨#[34]⟩ ++ M ++ ⟨#[34]⟩ := by simp [showB, hok, ht]
        rw [hsh]
        obtain ⟨B, hB⟩ : ∃ B : ByteArray, B = ⟨#[34]⟩ ++ M ++ ⟨#[34]⟩ := ⟨_, rfl⟩
        rw [← hB] at hr ⊢
        clear hsh hB
        by_cases h : B = s
        · rw [if_pos ⟨h2, ht, h⟩] at hr
          simp only [Prod.mk.injEq] at hr
          obtain ⟨rfl, rfl, rfl, rfl⟩ := hr
          have e0 : (B.toList == s.toList) = true := by rw [h]; simp
          clear h
          obtain ⟨⟨r0, r1, r2⟩, ⟨f0, f1, f2⟩⟩ := three' (unhide HR)
          have HZ := hide ((((unhide HW).setCell (p := ⟨w.heap.size, 0, none⟩) (Nat.le_refl _) (.int .i64 3)).setCell (p := ⟨w.heap.size, 1, none⟩) (Nat.le_refl _) (.int .i64 0)).setCell (p := ⟨w.heap.size, 2, none⟩) (Nat.le_refl _) (.string M))
          go_wp2
          exact bodyPost_ret (v := .tuple #[.agg #[.int .i64 3, .int .i64 0, .string M], .bool true]) (by simp [results, Tryd.results31, go_sem, *]) rfl ⟨rfl, unhide HZ⟩
        · rw [if_neg (fun hh => h hh.2.2)] at hr
          simp only [Prod.mk.injEq] at hr
          obtain ⟨rfl, rfl, rfl, rfl⟩ := hr
          have e0 : (B.toList == s.toList) = false := by rw [ByteArray.toList_eq, ByteArray.toList_eq, beq_eq_false_iff_ne]; exact fun e => h (string_ext e)
          clear h
          go_wp2_with fail
          refine (l2Blank_any _).mono ?_
          rintro e w1 ⟨rfl, hb⟩
          replace HR := hide ((unhide HR).mono hb (unhide HR).lt); replace HW := hide ((unhide HW).trans (hb.mono (unhide HW).size)); clear hb
          obtain ⟨⟨r0, r1, r2⟩, ⟨f0, f1, f2⟩⟩ := three' (unhide HR)
          have HZ := hide ((((unhide HW).setCell (p := ⟨w.heap.size, 0, none⟩) (Nat.le_refl _) (.int .i64 0)).setCell (p := ⟨w.heap.size, 1, none⟩) (Nat.le_refl _) (.int .i64 0)).setCell (p := ⟨w.heap.size, 2, none⟩) (Nat.le_refl _) (.string ⟨#[]⟩))
          go_wp2
          exact bodyPost_ret (v := .tuple #[.agg #[.int .i64 0, .int .i64 0, .string ⟨#[]⟩], .bool false]) (by simp [results, Tryd.results31, go_sem, *]) rfl ⟨rfl, unhide HZ⟩
    · rw [if_neg (fun hh => h2 hh.1)] at hr
      simp only [Prod.mk.injEq] at hr
      obtain ⟨rfl, rfl, rfl, rfl⟩ := hr
      go_wp2_with fail
      refine (l2Blank_any _).mono ?_
      rintro e w1 ⟨rfl, hb⟩
      replace HR := hide ((unhide HR).mono hb (unhide HR).lt); replace HW := hide ((unhide HW).trans (hb.mono (unhide HW).size)); clear hb
      obtain ⟨⟨r0, r1, r2⟩, ⟨f0, f1, f2⟩⟩ := three' (unhide HR)
      have HZ := hide ((((unhide HW).setCell (p := ⟨w.heap.size, 0, none⟩) (Nat.le_refl _) (.int .i64 0)).setCell (p := ⟨w.heap.size, 1, none⟩) (Nat.le_refl _) (.int .i64 0)).setCell (p := ⟨w.heap.size, 2, none⟩) (Nat.le_refl _) (.string ⟨#[]⟩))
      go_wp2
      exact bodyPost_ret (v := .tuple #[.agg #[.int .i64 0, .int .i64 0, .string ⟨#[]⟩], .bool false]) (by simp [results, Tryd.results31, go_sem, *]) rfl ⟨rfl, unhide HZ⟩
end Go.Proofs.YtnmpkdmflijhpaaDoor
