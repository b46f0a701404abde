import Derived.Test.YtjgngbmkpiihgaaGreatDoorZVal
import Derived.Test.YtjgngbmkpiihgaaGreatDoorGDi
import Derived.Test.YtjgngbmkpiihgaaGreatDoorZShowM
import Derived.Test.YtjgngbmkpiihgaaGreatDoorShelf
import Derived.Lib.AppendIntMem
/- The program's decimal and plain text. -/
namespace Go.Proofs.YtjgngbmkpiihgaaGreatDoor
open Go Go.RowKit

theorem ret_str {a b : ByteArray} (h : a = b) : Ending.returned (.string a) = .returned (.string b) := by rw [h]
def Pow (w : World) : Prop := Lib.TabIs Tryz.prog w "internal/strconv.uint64pow10" .u64 Lib.pow10Tab
theorem Pow.mono {w w' : World} (h : Pow w) (hb : Below w.heap.size w w') : Pow w' := Lib.tabBelow_of_tabIs h w' hb

set_option maxRecDepth 100000 in
set_option maxHeartbeats 1000000 in
theorem decimal_any (x : Int) (w : World) (h0 : -9223372036854775808 ≤ x) (h1 : x ≤ 9223372036854775807) (ht : Pow w) :
    Calls Tryz.prog 130 #[.int .i64 x] w fun e w' => e = .returned (.string ⟨(Lib.itoa x).toArray⟩) ∧ Below w.heap.size w w' := by
  have HX := hide (And.intro h0 h1); clear h0 h1
  go_enter Tryz.func130, Tryz.ntmps130
  go_wp2_with fail
  refine (Tryz.strconv_FormatInt_10 x (unhide HX).1 (unhide HX).2 _ ht).mono ?_
  rintro e w1 ⟨rfl, k, os, rfl⟩
  have hb := hide (Lib.below_grow w.heap.size w (Nat.le_refl _) k os)
  go_wp2
  go_ret
  exact ⟨rfl, unhide hb⟩


theorem fb_true : (⟨(Lib.formatBool true).toArray⟩ : ByteArray) = ⟨#[116, 114, 117, 101]⟩ := by decide +kernel
theorem fb_false : (⟨(Lib.formatBool false).toArray⟩ : ByteArray) = ⟨#[102, 97, 108, 115, 101]⟩ := by decide +kernel

/-- What the program's plainText gives. -/
def plainB (kind num : Int) (s : ByteArray) : ByteArray :=
  if kind = 1 then ⟨(Lib.itoa num).toArray⟩ else if kind = 2 then (if num = 1 then ⟨#[116, 114, 117, 101]⟩ else ⟨#[102, 97, 108, 115, 101]⟩) else s

set_option maxRecDepth 100000 in
set_option maxHeartbeats 4000000 in
theorem plainText_any (kind num : Int) (s : ByteArray) (w : World) (h0 : -9223372036854775808 ≤ num) (h1 : num ≤ 9223372036854775807) (ht : Pow w) :
    Calls Tryz.prog 131 #[.agg #[.int .i64 kind, .int .i64 num, .string s]] w fun e w' => e = .returned (.string (plainB kind num s)) ∧ Below w.heap.size w w' := by
  have HX := hide (And.intro h0 h1); clear h0 h1
  have HW : Hid (Below w.heap.size w (w.alloc (.cells #[.int .i64 kind, .int .i64 num, .string s] 39))) := (Below.refl _ _).alloc (Nat.le_refl _) _
  by_cases k1 : kind = 1
  · subst k1
    go_enter Tryz.func131, Tryz.ntmps131
    go_wp2_with fail
    refine (decimal_any num _ (unhide HX).1 (unhide HX).2 (ht.mono (unhide HW))).mono ?_
    rintro e w2 ⟨rfl, hb2⟩
    replace HW := hide ((unhide HW).trans (hb2.mono (unhide HW).size)); clear hb2
    go_wp2
    go_ret
    exact ⟨ret_str (by simp [plainB]), unhide HW⟩
  · by_cases k2 : kind = 2
    · subst k2
      by_cases n1 : num = 1
      · subst n1
        go_enter Tryz.func131, Tryz.ntmps131
        go_wp2_with fail
        refine (Tryz.strconv_FormatBool true _).mono ?_
        rintro e w2 ⟨rfl, rfl⟩
        rw [fb_true]
        go_wp2
        go_ret
        exact ⟨ret_str (by simp [plainB]), unhide HW⟩
      · have hf : (num == 1) = false := by simpa using n1
        go_enter Tryz.func131, Tryz.ntmps131
        go_wp2_with fail
        refine (Tryz.strconv_FormatBool false _).mono ?_
        rintro e w2 ⟨rfl, rfl⟩
        rw [fb_false]
        go_wp2
        go_ret
        exact ⟨ret_str (by simp [plainB, n1]), unhide HW⟩
    · go_enter Tryz.func131, Tryz.ntmps131
      go_wp2
      go_ret
      exact ⟨ret_str (by simp [plainB, k1, k2]), unhide HW⟩
end Go.Proofs.YtjgngbmkpiihgaaGreatDoor

/- Values as they are shown: the model and the program. -/
namespace Go.Proofs.YtjgngbmkpiihgaaGreatDoor
open Go Go.RowKit

set_option maxRecDepth 100000 in
set_option maxHeartbeats 4000000 in
theorem specShow_any (kind num : Int) (s : ByteArray) (w : World) (hs : s.size ≤ 9223372036854775807) (h0 : -9223372036854775808 ≤ num) (h1 : num ≤ 9223372036854775807) :
    Calls Tryz.prog 51 #[.agg #[.int .i64 kind, .int .i64 num, .string s]] w fun e w' => e = .returned (.string (showB kind num s)) ∧ Below w.heap.size w w' := by
  have HX := hide (And.intro h0 h1); clear h0 h1
  have H0 := hide (Blk.new w 39 #[.int .i64 kind, .int .i64 num, .string s])
  have HW : Hid (Below w.heap.size w (w.alloc (.cells #[.int .i64 kind, .int .i64 num, .string s] 39))) := (Below.refl _ _).alloc (Nat.le_refl _) _
  go_enter Tryz.func51, Tryz.ntmps51
  go_wp2_with fail
  refine (specValidV_any kind num s _ hs).mono ?_
  rintro e w1 ⟨rfl, hb1⟩
  replace H0 := hide ((unhide H0).mono hb1 (unhide H0).lt); replace HW := hide ((unhide HW).trans (hb1.mono (unhide HW).size)); clear hb1
  obtain ⟨z0, z1, z2⟩ := three (unhide H0)
  cases hok : okVal kind num s
  · go_wp2
    go_ret
    exact ⟨ret_str (by simp [showB, hok]), unhide HW⟩
  · rcases kinds kind with rfl | rfl | rfl | rfl | rfl | ⟨k0, k1, k2, k3, k4⟩
    · go_wp2
      go_ret
      exact ⟨ret_str (by simp [showB, hok]), unhide HW⟩
    · go_wp2_with fail
      refine (l2Decimal_any num _ (unhide HX).1 (unhide HX).2).mono ?_
      rintro e w2 ⟨rfl, hb2⟩
      replace HW := hide ((unhide HW).trans (hb2.mono (unhide HW).size)); clear hb2
      go_wp2
      go_ret
      exact ⟨ret_str (by simp [showB, hok]), unhide HW⟩
    · by_cases n1 : num = 1
      all_goals
        go_wp2
        go_ret
        exact ⟨ret_str (by first | (subst n1; simp [showB, hok]; done) | (simp [showB, hok, n1])), unhide HW⟩
    · have hsz : s.size ≤ 1000 := by simp [okVal] at hok; exact (okText_iff.1 hok.2).1
      go_wp2
      go_ret
      exact ⟨ret_str (by simp [showB, hok]), unhide HW⟩
    · go_wp2_with fail
      refine (l2Decimal_any num _ (unhide HX).1 (unhide HX).2).mono ?_
      rintro e w2 ⟨rfl, hb2⟩
      replace HW := hide ((unhide HW).trans (hb2.mono (unhide HW).size)); clear hb2
      have hl := itoa_size num (unhide HX).1 (unhide HX).2
      obtain ⟨S, hS⟩ : ∃ S : ByteArray, S = ⟨(Lib.itoa num).toArray⟩ := ⟨_, rfl⟩
      rw [← hS] at hl ⊢
      have HS := hide hS; clear hS
      go_wp2
      go_ret
      exact ⟨ret_str (by have := unhide HS; simp [showB, hok, this]), unhide HW⟩
    · simp [okVal, k0, k1, k2, k3, k4] at hok

set_option maxRecDepth 100000 in
set_option maxHeartbeats 4000000 in
theorem implShow_any (kind num : Int) (s : ByteArray) (w : World) (hs : s.size ≤ 9223372036854775807) (h0 : -9223372036854775808 ≤ num) (h1 : num ≤ 9223372036854775807) (ht : Pow w) :
    Calls Tryz.prog 111 #[.agg #[.int .i64 kind, .int .i64 num, .string s]] w fun e w' => e = .returned (.string (showB kind num s)) ∧ Below w.heap.size w w' := by
  have HX := hide (And.intro h0 h1); clear h0 h1
  have H0 := hide (Blk.new w 39 #[.int .i64 kind, .int .i64 num, .string s])
  have HW : Hid (Below w.heap.size w (w.alloc (.cells #[.int .i64 kind, .int .i64 num, .string s] 39))) := (Below.refl _ _).alloc (Nat.le_refl _) _
  go_enter Tryz.func111, Tryz.ntmps111
  go_wp2_with fail
  refine (implValidV_any kind num s _ hs).mono ?_
  rintro e w1 ⟨rfl, hb1⟩
  replace H0 := hide ((unhide H0).mono hb1 (unhide H0).lt); replace HW := hide ((unhide HW).trans (hb1.mono (unhide HW).size)); clear hb1
  obtain ⟨z0, z1, z2⟩ := three (unhide H0)
  have HT := hide (ht.mono (unhide HW))
  cases hok : okVal kind num s
  · go_wp2
    go_ret
    exact ⟨ret_str (by simp [showB, hok]), unhide HW⟩
  · rcases kinds kind with rfl | rfl | rfl | rfl | rfl | ⟨k0, k1, k2, k3, k4⟩
    · go_wp2
      go_ret
      exact ⟨ret_str (by simp [showB, hok]), unhide HW⟩
    · go_wp2_with fail
      refine (plainText_any 1 num s _ (unhide HX).1 (unhide HX).2 (unhide HT)).mono ?_
      rintro e w2 ⟨rfl, hb2⟩
      replace HW := hide ((unhide HW).trans (hb2.mono (unhide HW).size)); clear hb2
      go_wp2
      go_ret
      exact ⟨ret_str (by simp [showB, plainB, hok]), unhide HW⟩
    · go_wp2_with fail
      refine (plainText_any 2 num s _ (unhide HX).1 (unhide HX).2 (unhide HT)).mono ?_
      rintro e w2 ⟨rfl, hb2⟩
      replace HW := hide ((unhide HW).trans (hb2.mono (unhide HW).size)); clear hb2
      go_wp2
      go_ret
      exact ⟨ret_str (by simp [showB, plainB, hok]), unhide HW⟩
    · have hsz : s.size ≤ 1000 := by simp [okVal] at hok; exact (okText_iff.1 hok.2).1
      go_wp2
      go_ret
      exact ⟨ret_str (by simp [showB, hok]), unhide HW⟩
    · go_wp2_with fail
      refine (decimal_any num _ (unhide HX).1 (unhide HX).2 (unhide HT)).mono ?_
      rintro e w2 ⟨rfl, hb2⟩
      replace HW := hide ((unhide HW).trans (hb2.mono (unhide HW).size)); clear hb2
      have hl := itoa_size num (unhide HX).1 (unhide HX).2
      obtain ⟨S, hS⟩ : ∃ S : ByteArray, S = ⟨(Lib.itoa num).toArray⟩ := ⟨_, rfl⟩
      rw [← hS] at hl ⊢
      have HS := hide hS; clear hS
      go_wp2
      go_ret
      exact ⟨ret_str (by have := unhide HS; simp [showB, hok, this]), unhide HW⟩
    · simp [okVal, k0, k1, k2, k3, k4] at hok
end Go.Proofs.YtjgngbmkpiihgaaGreatDoor
