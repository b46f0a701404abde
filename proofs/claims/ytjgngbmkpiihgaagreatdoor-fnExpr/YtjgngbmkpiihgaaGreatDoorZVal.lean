import Derived.Test.YtjgngbmkpiihgaaGreatDoorGOw
/- Values: what says whether one is valid. -/
namespace Go.Proofs.YtjgngbmkpiihgaaGreatDoor
open Go Go.RowKit

def TB (b : Nat) : Prop := 32 ≤ b ∧ b ≤ 126 ∧ b ≠ 34
def tb (b : Nat) : Bool := decide (32 ≤ b ∧ b ≤ 126 ∧ b ≠ 34)

set_option maxHeartbeats 400000 in
theorem l2TextByte_any (b : Nat) (w : World) :
    Calls Tryz.prog 103 #[.int .u8 b] w fun e w' => e = .returned (.bool (tb b)) ∧ w' = w := by
  by_cases h1 : 32 ≤ b
  · by_cases h2 : b ≤ 126
    · by_cases h3 : b = 34
      all_goals
        go_enter Tryz.func103, Tryz.ntmps103
        go_wp2
        go_ret
        exact ⟨ret_bool (by first | (subst h3; decide) | (simp [tb, h1, h2, h3] <;> omega)), rfl⟩
    · go_enter Tryz.func103, Tryz.ntmps103
      go_wp2
      go_ret
      exact ⟨ret_bool (by simp [tb] <;> omega), rfl⟩
  · go_enter Tryz.func103, Tryz.ntmps103
    go_wp2
    go_ret
    exact ⟨ret_bool (by simp [tb] <;> omega), rfl⟩
set_option maxHeartbeats 400000 in
theorem isTextByte_any (b : Nat) (w : World) :
    Calls Tryz.prog 96 #[.int .u8 b] w fun e w' => e = .returned (.bool (tb b)) ∧ w' = w := by
  by_cases h1 : 32 ≤ b
  · by_cases h2 : b ≤ 126
    · by_cases h3 : b = 34
      all_goals
        go_enter Tryz.func96, Tryz.ntmps96
        go_wp2
        go_ret
        exact ⟨ret_bool (by first | (subst h3; decide) | (simp [tb, h1, h2, h3] <;> omega)), rfl⟩
    · go_enter Tryz.func96, Tryz.ntmps96
      go_wp2
      go_ret
      exact ⟨ret_bool (by simp [tb] <;> omega), rfl⟩
  · go_enter Tryz.func96, Tryz.ntmps96
    go_wp2
    go_ret
    exact ⟨ret_bool (by simp [tb] <;> omega), rfl⟩

/-- A text of the document: at most a thousand text bytes. -/
def okText (s : ByteArray) : Bool := decide (s.size ≤ 1000) && s.data.toList.all fun c => tb c.toNat

theorem okText_iff {s : ByteArray} : okText s = true ↔ s.size ≤ 1000 ∧ ∀ j (hj : j < s.size), tb s[j].toNat = true := by
  simp only [okText, Bool.and_eq_true, decide_eq_true_eq, List.all_eq_true]
  refine and_congr_right fun _ => ⟨fun h j hj => h _ (by simp [ByteArray.getElem_eq_getElem_data]), fun h c hc => ?_⟩
  obtain ⟨j, hj, rfl⟩ := List.mem_iff_getElem.1 hc
  exact h j (by simpa using hj)
theorem okText_yes {s : ByteArray} (h1 : s.size ≤ 1000) (h : ∀ j (hj : j < s.size), tb s[j].toNat = true) : okText s = true := okText_iff.2 ⟨h1, h⟩
theorem okText_no {s : ByteArray} {k : Nat} (hk : k < s.size) (h : tb s[k].toNat = false) : okText s = false := by
  cases e : okText s with
  | false => rfl
  | true => have := (okText_iff.1 e).2 k hk; rw [h] at this; cases this

set_option maxHeartbeats 1000000 in
theorem l2GoodText_any (s : ByteArray) (w : World) (hs : s.size ≤ 9223372036854775807) :
    Calls Tryz.prog 114 #[.string s] w fun e w' => e = .returned (.bool (okText s)) ∧ w' = w := by
  by_cases h1 : s.size ≤ 1000
  · go_enter Tryz.func114, Tryz.ntmps114
    go_wp2
    go_loopw [3] (fun i wr => ∃ k : Nat, k ≤ s.size ∧ i = .int .i64 k ∧ (∀ j (hj : j < s.size), j < k → tb (s[j]).toNat = true) ∧ wr = w) (fun i _ => s.size - (intOf i).toNat)
    case atStart => exact ⟨0, Nat.zero_le _, rfl, fun j h h' => absurd h' (Nat.not_lt_zero _), rfl⟩
    case round =>
      obtain ⟨k, hk, rfl, heq, rfl⟩ := hrel
      have HE := hide heq; clear heq
      by_cases hlt : k < s.size
      · cases ht : tb s[k].toNat
        · go_wp2_with (go_at_call 103; refine (l2TextByte_any _ _).mono ?_; rintro e w' ⟨rfl, rfl⟩; rw [ht])
          go_ret
          exact ⟨ret_bool (okText_no hlt ht).symm, rfl⟩
        · go_wp2_with (go_at_call 103; refine (l2TextByte_any _ _).mono ?_; rintro e w' ⟨rfl, rfl⟩; rw [ht])
          go_roundw
          case rel => exact ⟨k + 1, by omega, by go_num, fun j hj hk => by
            by_cases e : j = k
            · subst e; exact ht
            · exact unhide HE j hj (by omega), trivial⟩
          case measure => simp [intOf]; omega
      · go_wp2
        go_ret
        exact ⟨ret_bool (okText_yes h1 fun j hj => unhide HE j hj (by omega)).symm, rfl⟩
  · go_enter Tryz.func114, Tryz.ntmps114
    go_wp2
    go_ret
    exact ⟨ret_bool (by simp [okText, h1]), rfl⟩

set_option maxHeartbeats 1000000 in
theorem isText_any (s : ByteArray) (w : World) (hs : s.size ≤ 9223372036854775807) :
    Calls Tryz.prog 129 #[.string s] w fun e w' => e = .returned (.bool (okText s)) ∧ w' = w := by
  by_cases h1 : s.size ≤ 1000
  · go_enter Tryz.func129, Tryz.ntmps129
    go_wp2
    go_loopw [9] (fun i wr => ∃ k : Nat, k ≤ s.size ∧ i = .int .i64 k ∧ (∀ j (hj : j < s.size), j < k → tb (s[j]).toNat = true) ∧ wr = w) (fun i _ => s.size - (intOf i).toNat)
    case atStart => exact ⟨0, Nat.zero_le _, rfl, fun j h h' => absurd h' (Nat.not_lt_zero _), rfl⟩
    case round =>
      obtain ⟨k, hk, rfl, heq, rfl⟩ := hrel
      have HE := hide heq; clear heq
      by_cases hlt : k < s.size
      · cases ht : tb s[k].toNat
        · go_wp2_with (go_at_call 96; refine (isTextByte_any _ _).mono ?_; rintro e w' ⟨rfl, rfl⟩; rw [ht])
          go_ret
          exact ⟨ret_bool (okText_no hlt ht).symm, rfl⟩
        · go_wp2_with (go_at_call 96; refine (isTextByte_any _ _).mono ?_; rintro e w' ⟨rfl, rfl⟩; rw [ht])
          go_roundw
          case rel => exact ⟨k + 1, by omega, by go_num, fun j hj hk => by
            by_cases e : j = k
            · subst e; exact ht
            · exact unhide HE j hj (by omega), trivial⟩
          case measure => simp [intOf]; omega
      · go_wp2
        go_ret
        exact ⟨ret_bool (okText_yes h1 fun j hj => unhide HE j hj (by omega)).symm, rfl⟩
  · go_enter Tryz.func129, Tryz.ntmps129
    go_wp2
    go_ret
    exact ⟨ret_bool (by simp [okText, h1]), rfl⟩

theorem three {w : World} {b : Nat} {t : TypeId} {v0 v1 v2 : Value} (h : Blk w b t [v0, v1, v2]) :
    w.cell? ⟨b, 0, none⟩ = some v0 ∧ w.cell? ⟨b, 1, none⟩ = some v1 ∧ w.cell? ⟨b, 2, none⟩ = some v2 := ⟨h.cell 0, h.cell 1, h.cell 2⟩
theorem size0 (s : ByteArray) : ((s.size : Int) == 0) = decide (s.size = 0) := by rw [Bool.eq_iff_iff]; simp
theorem empty0 (s : ByteArray) : s.toList.isEmpty = decide (s.size = 0) := by
  rw [ByteArray.toList_eq]
  obtain ⟨⟨l⟩⟩ := s
  cases l <;> simp [ByteArray.size]
/-- The value is valid. -/
def okVal (kind num : Int) (s : ByteArray) : Bool :=
  if kind = 0 then decide (num = 0) && decide (s.size = 0)
  else if kind = 1 then decide (s.size = 0)
  else if kind = 2 then decide (num = 0 ∨ num = 1) && decide (s.size = 0)
  else if kind = 3 then decide (num = 0) && okText s
  else if kind = 4 then decide (1 ≤ num ∧ num ≤ 5) && decide (s.size = 0)
  else false
theorem kinds (k : Int) : k = 0 ∨ k = 1 ∨ k = 2 ∨ k = 3 ∨ k = 4 ∨ (¬ k = 0 ∧ ¬ k = 1 ∧ ¬ k = 2 ∧ ¬ k = 3 ∧ ¬ k = 4) := by omega
theorem nums2 (n : Int) : n = 0 ∨ n = 1 ∨ (¬ n = 0 ∧ ¬ n = 1) := by omega
theorem nums5 (n : Int) : n < 1 ∨ (1 ≤ n ∧ 5 < n) ∨ (1 ≤ n ∧ n ≤ 5) := by omega

set_option maxHeartbeats 4000000 in
theorem specValidV_any (kind num : Int) (s : ByteArray) (w : World) (hs : s.size ≤ 9223372036854775807) :
    Calls Tryz.prog 85 #[.agg #[.int .i64 kind, .int .i64 num, .string s]] w fun e w' => e = .returned (.bool (okVal kind num s)) ∧ Below w.heap.size w w' := by
  have e0 := size0 s
  have E0 := hide e0; clear e0
  rcases kinds kind with rfl | rfl | rfl | rfl | rfl | ⟨k0, k1, k2, k3, k4⟩
  · by_cases n0 : num = 0
    all_goals
      go_enter Tryz.func85, Tryz.ntmps85
      go_wp2
      go_ret
      exact ⟨ret_bool (by simp [okVal, n0, unhide E0]), (Below.refl _ _).alloc (Nat.le_refl _) _⟩
  · go_enter Tryz.func85, Tryz.ntmps85
    go_wp2
    go_ret
    exact ⟨ret_bool (by simp [okVal, unhide E0]), (Below.refl _ _).alloc (Nat.le_refl _) _⟩
  · rcases nums2 num with rfl | rfl | ⟨n0, n1⟩
    · go_enter Tryz.func85, Tryz.ntmps85
      go_wp2
      go_ret
      exact ⟨ret_bool (by simp [okVal, unhide E0]), (Below.refl _ _).alloc (Nat.le_refl _) _⟩
    · go_enter Tryz.func85, Tryz.ntmps85
      go_wp2
      go_ret
      exact ⟨ret_bool (by simp [okVal, unhide E0]), (Below.refl _ _).alloc (Nat.le_refl _) _⟩
    · go_enter Tryz.func85, Tryz.ntmps85
      go_wp2
      go_ret
      exact ⟨ret_bool (by simp [okVal, n0, n1]), (Below.refl _ _).alloc (Nat.le_refl _) _⟩
  · by_cases n0 : num = 0
    · go_enter Tryz.func85, Tryz.ntmps85
      go_wp2_with (go_at_call 114; refine (l2GoodText_any s _ hs).mono ?_; rintro e w' ⟨rfl, rfl⟩)
      go_ret
      exact ⟨ret_bool (by simp [okVal, n0]), (Below.refl _ _).alloc (Nat.le_refl _) _⟩
    · go_enter Tryz.func85, Tryz.ntmps85
      go_wp2
      go_ret
      exact ⟨ret_bool (by simp [okVal, n0]), (Below.refl _ _).alloc (Nat.le_refl _) _⟩
  · rcases nums5 num with n1 | ⟨n1, n2⟩ | ⟨n1, n2⟩
    · go_enter Tryz.func85, Tryz.ntmps85
      go_wp2
      go_ret
      exact ⟨ret_bool (by simp [okVal, show ¬ 1 ≤ num by omega]), (Below.refl _ _).alloc (Nat.le_refl _) _⟩
    · go_enter Tryz.func85, Tryz.ntmps85
      go_wp2
      go_ret
      exact ⟨ret_bool (by simp [okVal, show ¬ num ≤ 5 by omega]), (Below.refl _ _).alloc (Nat.le_refl _) _⟩
    · go_enter Tryz.func85, Tryz.ntmps85
      go_wp2
      go_ret
      exact ⟨ret_bool (by simp [okVal, n1, n2, unhide E0]), (Below.refl _ _).alloc (Nat.le_refl _) _⟩
  · go_enter Tryz.func85, Tryz.ntmps85
    go_wp2
    go_ret
    exact ⟨ret_bool (by simp [okVal, k0, k1, k2, k3, k4]), (Below.refl _ _).alloc (Nat.le_refl _) _⟩
set_option maxHeartbeats 4000000 in
theorem implValidV_any (kind num : Int) (s : ByteArray) (w : World) (hs : s.size ≤ 9223372036854775807) :
    Calls Tryz.prog 109 #[.agg #[.int .i64 kind, .int .i64 num, .string s]] w fun e w' => e = .returned (.bool (okVal kind num s)) ∧ Below w.heap.size w w' := by
  have e0 := empty0 s
  have E0 := hide e0; clear e0
  rcases kinds kind with rfl | rfl | rfl | rfl | rfl | ⟨k0, k1, k2, k3, k4⟩
  · by_cases n0 : num = 0
    all_goals
      go_enter Tryz.func109, Tryz.ntmps109
      go_wp2
      go_ret
      exact ⟨ret_bool (by simp only [okVal]; simp [n0, unhide E0]), (Below.refl _ _).alloc (Nat.le_refl _) _⟩
  · go_enter Tryz.func109, Tryz.ntmps109
    go_wp2
    go_ret
    exact ⟨ret_bool (by simp [okVal, unhide E0]), (Below.refl _ _).alloc (Nat.le_refl _) _⟩
  · rcases nums2 num with rfl | rfl | ⟨n0, n1⟩
    · go_enter Tryz.func109, Tryz.ntmps109
      go_wp2
      go_ret
      exact ⟨ret_bool (by simp [okVal, unhide E0]), (Below.refl _ _).alloc (Nat.le_refl _) _⟩
    · go_enter Tryz.func109, Tryz.ntmps109
      go_wp2
      go_ret
      exact ⟨ret_bool (by simp [okVal, unhide E0]), (Below.refl _ _).alloc (Nat.le_refl _) _⟩
    · go_enter Tryz.func109, Tryz.ntmps109
      go_wp2
      go_ret
      exact ⟨ret_bool (by simp [okVal, n0, n1]), (Below.refl _ _).alloc (Nat.le_refl _) _⟩
  · by_cases n0 : num = 0
    · go_enter Tryz.func109, Tryz.ntmps109
      go_wp2_with (go_at_call 129; refine (isText_any s _ hs).mono ?_; rintro e w' ⟨rfl, rfl⟩)
      go_ret
      exact ⟨ret_bool (by simp [okVal, n0]), (Below.refl _ _).alloc (Nat.le_refl _) _⟩
    · go_enter Tryz.func109, Tryz.ntmps109
      go_wp2
      go_ret
      exact ⟨ret_bool (by simp [okVal, n0]), (Below.refl _ _).alloc (Nat.le_refl _) _⟩
  · rcases nums5 num with n1 | ⟨n1, n2⟩ | ⟨n1, n2⟩
    · go_enter Tryz.func109, Tryz.ntmps109
      go_wp2
      go_ret
      exact ⟨ret_bool (by simp [okVal, show ¬ 1 ≤ num by omega]), (Below.refl _ _).alloc (Nat.le_refl _) _⟩
    · go_enter Tryz.func109, Tryz.ntmps109
      go_wp2
      go_ret
      exact ⟨ret_bool (by simp [okVal, show ¬ num ≤ 5 by omega]), (Below.refl _ _).alloc (Nat.le_refl _) _⟩
    · go_enter Tryz.func109, Tryz.ntmps109
      go_wp2
      go_ret
      exact ⟨ret_bool (by simp [okVal, n1, n2, unhide E0]), (Below.refl _ _).alloc (Nat.le_refl _) _⟩
  · go_enter Tryz.func109, Tryz.ntmps109
    go_wp2
    go_ret
    exact ⟨ret_bool (by simp [okVal, k0, k1, k2, k3, k4]), (Below.refl _ _).alloc (Nat.le_refl _) _⟩
end Go.Proofs.YtjgngbmkpiihgaaGreatDoor
