/- Good names, the whole question: the model and the program. -/
import Derived.Test.YtonmaniehocbbaaGreatDoorNam
namespace Go.Proofs.YtonmaniehocbbaaGreatDoor
open Go Go.RowKit

theorem getD0 {s : ByteArray} (h : 0 < s.size) : s.data.getD 0 0 = s[0] := by
  rw [Array.getD_eq_getD_getElem?, Array.getElem?_eq_getElem (by simpa using h)]; rfl
theorem goodN_eq (s : ByteArray) : goodN s = (decide (1 ≤ s.size ∧ s.size ≤ 16) && small (s.data.getD 0 0).toNat && (s.data.toList.all fun c => nameB c.toNat) && !rsv s) := rfl

set_option maxRecDepth 100000 in
set_option maxHeartbeats 4000000 in
theorem l3GoodName_any (s : ByteArray) (w : World) (hs : s.size ≤ 9223372036854775807) : Calls Tryz.prog 33 #[.string s] w fun e w' => e = .returned (.bool (goodN s)) ∧ w' = w := by
  have hg := goodN_eq s
  have hall := runN_all nameB s
  have hle := runN_le nameB s 0
  by_cases h0 : s.size = 0
  · rw [show goodN s = false by rw [hg, decide_eq_false (by omega)]; rfl]
    have h0' : ((s.size : Int) == 0) = true := by simp [h0]
    clear hg hall hle
    go_enter Tryz.func33, Tryz.ntmps33
    go_wp2_with fail
    go_ret
    exact ⟨rfl, rfl⟩
  have h0' : ((s.size : Int) == 0) = false := beq_eq_false_iff_ne.2 (by omega)
  by_cases h16 : 16 < s.size
  · rw [show goodN s = false by rw [hg, decide_eq_false (by omega)]; rfl]
    clear hg hall hle
    go_enter Tryz.func33, Tryz.ntmps33
    go_wp2_with fail
    go_ret
    exact ⟨rfl, rfl⟩
  have h1 : 0 < s.size := by omega
  rw [decide_eq_true (by omega), getD0 h1, Bool.true_and] at hg
  cases hsm : small (s[0]).toNat
  · rw [show goodN s = false by rw [hg, hsm]; rfl]
    clear hg hall hle
    go_enter Tryz.func33, Tryz.ntmps33
    go_wp2_with (go_at_call 53; refine (l3Small_any _ _).mono ?_; rintro e w' ⟨rfl, rfl⟩; rw [hsm])
    go_ret
    exact ⟨rfl, rfl⟩
  rw [hsm, Bool.true_and] at hg
  obtain ⟨r, hr⟩ : ∃ r, runN nameB s 0 = r := ⟨_, rfl⟩
  rw [hr] at hall hle
  by_cases ha : r = s.size
  · rw [hall.1 ha, Bool.true_and] at hg
    have hq : ((r : Int) == (s.size : Int)) = true := by simp [ha]
    cases hrs : rsv s
    all_goals
      rw [hrs] at hg
      rw [hg]
      clear hg hall hle ha
      go_enter Tryz.func33, Tryz.ntmps33
      go_wp2_with (first | (go_at_call 53; refine (l3Small_any _ _).mono ?_; rintro e w' ⟨rfl, rfl⟩; rw [hsm]) | (go_at_call 54; refine (l3NameLen_any s 0 _ hs (Nat.zero_le _)).mono ?_; rintro e w' ⟨rfl, rfl⟩; rw [hr]) | (go_at_call 55; refine (l3Reserved_any _ _).mono ?_; rintro e w' ⟨rfl, rfl⟩; rw [hrs]))
      go_ret
      exact ⟨rfl, rfl⟩
  · have hall' : (s.data.toList.all fun c => nameB c.toNat) = false := by
      cases e : (s.data.toList.all fun c => nameB c.toNat)
      · rfl
      · exact absurd (hall.2 e) ha
    rw [hall', Bool.false_and] at hg
    rw [hg]
    have hq : ((r : Int) == (s.size : Int)) = false := beq_eq_false_iff_ne.2 (by omega)
    clear hg hall hle ha hall'
    go_enter Tryz.func33, Tryz.ntmps33
    go_wp2_with (first | (go_at_call 53; refine (l3Small_any _ _).mono ?_; rintro e w' ⟨rfl, rfl⟩; rw [hsm]) | (go_at_call 54; refine (l3NameLen_any s 0 _ hs (Nat.zero_le _)).mono ?_; rintro e w' ⟨rfl, rfl⟩; rw [hr]))
    go_ret
    exact ⟨rfl, rfl⟩

set_option maxRecDepth 100000 in
set_option maxHeartbeats 4000000 in
theorem isGoodName_any (s : ByteArray) (w : World) (hs : s.size ≤ 9223372036854775807) : Calls Tryz.prog 90 #[.string s] w fun e w' => e = .returned (.bool (goodN s)) ∧ w' = w := by
  have hg := goodN_eq s
  have e0 := empty0 s
  by_cases h0 : s.size = 0
  · rw [show goodN s = false by rw [hg, decide_eq_false (by omega)]; rfl]
    rw [decide_eq_true h0] at e0
    clear hg
    go_enter Tryz.func90, Tryz.ntmps90
    go_wp2_with fail
    go_ret
    exact ⟨rfl, rfl⟩
  rw [decide_eq_false h0] at e0
  by_cases h16 : 16 < s.size
  · rw [show goodN s = false by rw [hg, decide_eq_false (by omega)]; rfl]
    clear hg
    go_enter Tryz.func90, Tryz.ntmps90
    go_wp2_with fail
    go_ret
    exact ⟨rfl, rfl⟩
  have h1 : 0 < s.size := by omega
  rw [decide_eq_true (by omega), getD0 h1, Bool.true_and] at hg
  cases hsm : small (s[0]).toNat
  · rw [show goodN s = false by rw [hg, hsm]; rfl]
    clear hg
    go_enter Tryz.func90, Tryz.ntmps90
    go_wp2_with (go_at_call 109; refine (isLetter_any _ _).mono ?_; rintro e w' ⟨rfl, rfl⟩; rw [hsm])
    go_ret
    exact ⟨rfl, rfl⟩
  rw [hsm, Bool.true_and] at hg
  cases hrs : rsv s
  case true =>
    rw [hrs, show (!true) = false from rfl, Bool.and_false] at hg
    rw [hg]
    clear hg
    go_enter Tryz.func90, Tryz.ntmps90
    go_wp2_with (first | (go_at_call 109; refine (isLetter_any _ _).mono ?_; rintro e w' ⟨rfl, rfl⟩; rw [hsm]) | (go_at_call 110; refine (isReserved_any _ _).mono ?_; rintro e w' ⟨rfl, rfl⟩; rw [hrs]))
    go_ret
    exact ⟨rfl, rfl⟩
  rw [hrs, show (!false) = true from rfl, Bool.and_true] at hg
  rw [hg]
  have HG : Hid ((∀ j (hj : j < s.size), nameB (s[j]).toNat = true) → (s.data.toList.all fun c => nameB c.toNat) = true) := by
    refine hide fun h => ?_
    rw [List.all_eq_true]
    intro c hc
    obtain ⟨j, hj, rfl⟩ := List.mem_iff_getElem.1 hc
    exact h j (by simpa using hj)
  have HN : Hid (∀ j (hj : j < s.size), nameB (s[j]).toNat = false → (s.data.toList.all fun c => nameB c.toNat) = false) := by
    refine hide fun j hj h => ?_
    rw [List.all_eq_false]
    exact ⟨s[j], by simp [ByteArray.getElem_eq_getElem_data], by simp [h]⟩
  clear hg
  generalize (s.data.toList.all fun c => nameB c.toNat) = A at *
  go_enter Tryz.func90, Tryz.ntmps90
  go_wp2_with (first | (go_at_call 109; refine (isLetter_any _ _).mono ?_; rintro e w' ⟨rfl, hw⟩; replace hw := hw.symm; subst hw; rw [hsm]) | (go_at_call 110; refine (isReserved_any _ _).mono ?_; rintro e w' ⟨rfl, hw⟩; replace hw := hw.symm; subst hw; rw [hrs]))
  go_loopw [23] (fun i wr => ∃ k : Nat, k ≤ s.size ∧ i = .int .i64 k ∧ (∀ j (hj : j < s.size), j < k → nameB (s[j]).toNat = true) ∧ wr = w) (fun i _ => s.size - (intOf i).toNat)
  case atStart => exact ⟨0, Nat.zero_le _, rfl, fun j _ hj => absurd hj (Nat.not_lt_zero _), rfl⟩
  case round =>
    obtain ⟨k, hk, rfl, hall, rfl⟩ := hrel
    have HA := hide hall; clear hall
    by_cases hlt : k < s.size
    · cases ht : nameB (s[k]).toNat
      · go_wp2_with (go_at_call 111; refine (isNameByte_any _ _).mono ?_; rintro e w' ⟨rfl, rfl⟩; rw [ht])
        go_ret
        exact ⟨ret_bool (unhide HN k hlt ht).symm, rfl⟩
      · go_wp2_with (go_at_call 111; refine (isNameByte_any _ _).mono ?_; rintro e w' ⟨rfl, rfl⟩; rw [ht])
        go_roundw
        case rel => exact ⟨k + 1, by omega, by go_num, fun j hj hjk => by
          by_cases e : j = k
          · subst e; exact ht
          · exact unhide HA j hj (by omega), trivial⟩
        case measure => simp [intOf]; omega
    · go_wp2_with fail
      go_ret
      exact ⟨ret_bool (unhide HG fun j hj => unhide HA j hj (by omega)).symm, rfl⟩
end Go.Proofs.YtonmaniehocbbaaGreatDoor
