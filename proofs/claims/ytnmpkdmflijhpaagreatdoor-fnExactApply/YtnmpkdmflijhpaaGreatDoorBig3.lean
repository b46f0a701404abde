/- The model's exact integers: taking one from another; signs. -/
import Derived.Test.YtnmpkdmflijhpaaGreatDoorBig2
namespace Go.Proofs.YtnmpkdmflijhpaaGreatDoor
open Go Go.RowKit

set_option maxRecDepth 100000 in
set_option maxHeartbeats 4000000 in
theorem l2MagSub_any (v u : Value) (l m : List Nat) (w : World) (hv : DigS w v l) (hu : DigS w u m) (hl : Dig l) (hm : Dig m) (bl : l.length ≤ 500) (hle : dval m ≤ dval l) :
    Calls Tryz.prog 54 #[v, u] w fun e w' => ∃ r, e = .returned r ∧ DigS w' r (digs (dval l - dval m)) ∧ Below w.heap.size w w' := by
  have HB0 : Hid (Below w.heap.size w (w.alloc (.cells #[] 3))) := (Below.refl _ _).alloc (Nat.le_refl _) _
  obtain ⟨a, ca, rfl, -, -, hA⟩ := id hv
  obtain ⟨b, cb, rfl, -, -, hB⟩ := id hu
  have HV := hide hv; have HU := hide hu; have HLE := hide hle; clear hv hu hA hB hle
  go_enter Tryz.func54, Tryz.ntmps54
  go_wp2_with fail
  go_loopw [5, 6, 7] (fun out c i wr => ∃ (k cc : Nat) (o : List Nat), k ≤ l.length ∧ i = .int .i64 k ∧ c = .int .i64 cc ∧ cc ≤ 1 ∧ o.length = k ∧ Dig o ∧ dval l % 10 ^ k + cc * 10 ^ k = dval o + dval m % 10 ^ k ∧ wr.ownsRow w.heap.size 3 1 out k (ui o) ∧ Below w.heap.size w wr) (fun _ _ i _ => l.length - (intOf i).toNat)
  case atStart => exact ⟨0, 0, [], by omega, rfl, rfl, by omega, rfl, (fun d hd => by cases hd), by simp [dval, Nat.mod_one], owns_none w 3, unhide HB0⟩
  case round =>
    clear HB0
    obtain ⟨k, cc, o, hk, rfl, rfl, hcc, hol, hod, hval, hown, hb⟩ := hrel
    have HO := hide hown; have HB := hide hb; have HD := hide (And.intro hod hval); have HOL := hide hol
    clear hown hod hval hol
    by_cases hlt : k < l.length
    · obtain ⟨x, hx⟩ : ∃ x, l.getD k 0 = x := ⟨_, rfl⟩
      obtain ⟨y, hy⟩ : ∃ y, m.getD k 0 = y := ⟨_, rfl⟩
      have hx10 : x < 10 := by rw [← hx]; exact hl.getD k
      have hy10 : y < 10 := by rw [← hy]; exact hm.getD k
      have HX := hide hx; have HY := hide hy; clear hx hy
      have V2 := hide ((unhide HV).mono hb); have U2 := hide ((unhide HU).mono hb); clear hb
      go_wp2_with fail
      refine (l2Digit_any _ l k wr (unhide V2) x (unhide HX)).mono ?_
      rintro e w' ⟨rfl, rfl⟩
      go_wp2_with fail
      refine (l2Digit_any _ m k w' (unhide U2) y (unhide HY)).mono ?_
      rintro e w'' ⟨rfl, rfl⟩
      by_cases hneg : x < y + cc
      · have hn' : (x : Int) - y - cc < 0 := by omega
        obtain ⟨i0, hi, hz0, hz1, hz2⟩ := info_parts infoI
        go_wp2_with (at_builtin; refine wpList_append_own _ rfl _ _ 44 rfl w.heap.size 3 i0 _ 1 8 Tryz.underlying44 hi hz0 hz1 hz2 rfl (by omega) u5 _ _ rfl ((unhide HO).alloc _) ⟨w''.heap.size, 0, none⟩ 1 1 [.int .i64 ((x : Int) - y - cc + 10)] rfl rfl (cell_one w'' 3 _) (by simp [Value.oneCell']) (by unfold maxLen; omega) (by omega) (by have := (unhide HB).size; simp; omega) ?_)
        intro v' w' hown' hgrow' _
        have hB' := ((unhide HB).alloc (by have := (unhide HB).size; omega) (.cells #[.int .i64 ((x : Int) - y - cc + 10)] 3)).grown hgrow' (by have := (unhide HB).size; simp; omega) (fun q' e => owns_block (unhide HO) e)
        have HO3 : Hid (w'.ownsRow w.heap.size 3 1 v' (k + 1) (ui (o ++ [x + 10 - y - cc]))) := by
          rw [Hid]; rw [show (x : Int) - y - cc + 10 = ((x + 10 - y - cc : Nat) : Int) by omega] at hown'; simpa [ui] using hown'
        have HB3 := hide hB'
        clear hown' hgrow' hB' hi hz0 hz1 hz2
        go_wp2_with fail
        go_roundw
        case rel =>
          refine ⟨k + 1, 1, o ++ [x + 10 - y - cc], by omega, by go_num, rfl, by omega, ?_, ?_, ?_, unhide HO3, unhide HB3⟩
          · have := unhide HOL; simp [this]
          · exact (unhide HD).1.snoc (by omega)
          · rw [dval_snoc, unhide HOL, mod_step, mod_step, ← dig_at hl, ← dig_at hm, unhide HX, unhide HY]
            obtain ⟨d, b, h1, h2, h3, h4, h5⟩ := sub_step (unhide HD).2 hcc hx10 hy10
            obtain rfl : b = 1 := by omega
            obtain rfl : d = x + 10 - y - cc := by omega
            exact h5
        case measure => simp [intOf]; omega
      · have hn' : 0 ≤ (x : Int) - y - cc := by omega
        obtain ⟨i0, hi, hz0, hz1, hz2⟩ := info_parts infoI
        go_wp2_with (at_builtin; refine wpList_append_own _ rfl _ _ 44 rfl w.heap.size 3 i0 _ 1 8 Tryz.underlying44 hi hz0 hz1 hz2 rfl (by omega) u5 _ _ rfl ((unhide HO).alloc _) ⟨w''.heap.size, 0, none⟩ 1 1 [.int .i64 ((x : Int) - y - cc)] rfl rfl (cell_one w'' 3 _) (by simp [Value.oneCell']) (by unfold maxLen; omega) (by omega) (by have := (unhide HB).size; simp; omega) ?_)
        intro v' w' hown' hgrow' _
        have hB' := ((unhide HB).alloc (by have := (unhide HB).size; omega) (.cells #[.int .i64 ((x : Int) - y - cc)] 3)).grown hgrow' (by have := (unhide HB).size; simp; omega) (fun q' e => owns_block (unhide HO) e)
        have HO3 : Hid (w'.ownsRow w.heap.size 3 1 v' (k + 1) (ui (o ++ [x - y - cc]))) := by
          rw [Hid]; rw [show (x : Int) - y - cc = ((x - y - cc : Nat) : Int) by omega] at hown'; simpa [ui] using hown'
        have HB3 := hide hB'
        clear hown' hgrow' hB' hi hz0 hz1 hz2
        go_wp2_with fail
        go_roundw
        case rel =>
          refine ⟨k + 1, 0, o ++ [x - y - cc], by omega, by go_num, rfl, by omega, ?_, ?_, ?_, unhide HO3, unhide HB3⟩
          · have := unhide HOL; simp [this]
          · exact (unhide HD).1.snoc (by omega)
          · rw [dval_snoc, unhide HOL, mod_step, mod_step, ← dig_at hl, ← dig_at hm, unhide HX, unhide HY]
            obtain ⟨d, b, h1, h2, h3, h4, h5⟩ := sub_step (unhide HD).2 hcc hx10 hy10
            obtain rfl : b = 0 := by omega
            obtain rfl : d = x - y - cc := by omega
            exact h5
        case measure => simp [intOf]; omega
    · obtain rfl : k = l.length := by omega
      have h1 := (unhide HD).2
      have h2 := dval_lt hl
      have h3 := unhide HLE
      rw [mod_all hl (Nat.le_refl _), Nat.mod_eq_of_lt (by omega : dval m < 10 ^ l.length)] at h1
      have h4 := dval_lt (unhide HD).1
      rw [unhide HOL] at h4
      have hc0 : cc = 0 := by
        rcases (by omega : cc = 0 ∨ cc = 1) with h | h
        · exact h
        · subst h; omega
      subst hc0
      have hval : dval o = dval l - dval m := by omega
      have hdo := (unhide HD).1
      have HOd : DigS wr u5 o := by have := unhide HO; rw [← unhide HOL] at this; exact digS_of_owns this
      have hol : o.length ≤ 1000 := by have := unhide HOL; omega
      clear HD HO HOL h1 h2 h3 h4
      go_wp2_with fail
      refine (l2Trim_any u5 o wr HOd hdo hol).mono ?_
      rintro e w' ⟨r, rfl, hr, rfl⟩
      rw [hval] at hr
      have HR := hide hr; clear hr
      go_wp2
      go_ret
      exact ⟨_, rfl, unhide HR, unhide HB⟩
end Go.Proofs.YtnmpkdmflijhpaaGreatDoor
