import Derived.Test.YtjgngbmkpiihgaaGreatDoorGDi
import Derived.Test.YtjgngbmkpiihgaaGreatDoorGHn
import Derived.Deep.RegionHeld3
/- The model's exact integers: cutting off zeros, places, order. -/
namespace Go.Proofs.YtjgngbmkpiihgaaGreatDoor
open Go Go.RowKit

set_option maxRecDepth 100000 in
set_option maxHeartbeats 1000000 in
theorem l2Trim_any (v : Value) (l : List Nat) (w : World) (hv : DigS w v l) (hd : Dig l) (hl : l.length ≤ 1000) :
    Calls Tryz.prog 100 #[v] w fun e w' => ∃ u, e = .returned u ∧ DigS w u (digs (dval l)) ∧ w' = w := by
  obtain ⟨a, cap, rfl, hc, hn, hI⟩ := hv
  go_enter Tryz.func100, Tryz.ntmps100
  go_wp2
  go_loopw [3] (fun i wr => ∃ k : Nat, k ≤ l.length ∧ i = .int .i64 k ∧ (∀ j, k ≤ j → j < l.length → l.getD j 0 = 0) ∧ wr = w) (fun i _ => (intOf i).toNat)
  case atStart => exact ⟨l.length, Nat.le_refl _, rfl, fun j h h' => absurd h' (by omega), rfl⟩
  case round =>
    obtain ⟨k, hk, rfl, hz, rfl⟩ := hrel
    have HZ := hide hz; clear hz
    have fin : (k = 0 ∨ l.getD (k - 1) 0 ≠ 0) → DigS wr (.slice a k cap) (digs (dval l)) := fun h => by
      have e := trim_eq hd hk (unhide HZ) h
      have el : (l.take k).length = k := by simp; omega
      refine ⟨a, cap, by rw [← e, el], by rw [← e, el]; omega, hn, ?_⟩
      rw [← e, el]
      intro j hj
      obtain ⟨b, off, e1, h1, h2⟩ := hI j (by omega)
      exact ⟨b, off, e1, h1, by rw [h2]; simp [List.getD, hj]⟩
    have HF := hide fin; clear fin
    cases k with
    | zero =>
      go_wp2
      go_ret
      exact ⟨_, rfl, (unhide HF) (.inl trivial), rfl⟩
    | succ k =>
      obtain ⟨b, off, rfl, hb, hcell⟩ := hI k (by omega)
      obtain ⟨d, hD⟩ : ∃ d, l.getD k 0 = d := ⟨_, rfl⟩
      dsimp only at hcell
      rw [hD] at hcell
      by_cases h0 : d = 0
      · go_wp2
        go_roundw
        case rel => exact ⟨k, by omega, rfl, fun j hj hj' => by
          by_cases e : j = k
          · subst e; rw [hD]; exact h0
          · exact unhide HZ j (by omega) hj', trivial⟩
        case measure => simp [intOf]
      · go_wp2
        go_ret
        exact ⟨_, rfl, (unhide HF) (.inr (by rw [Nat.add_sub_cancel, hD]; exact h0)), rfl⟩

set_option maxRecDepth 100000 in
set_option maxHeartbeats 1000000 in
theorem l2Digit_any (v : Value) (l : List Nat) (i : Nat) (w : World) (hv : DigS w v l) (d : Nat) (hd : l.getD i 0 = d) :
    Calls Tryz.prog 166 #[v, .int .i64 i] w fun e w' => e = .returned (.int .i64 d) ∧ w' = w := by
  obtain ⟨a, cap, rfl, hc, hn, hI⟩ := hv
  by_cases h : i < l.length
  · obtain ⟨b, off, rfl, hb, hcell⟩ := hI i h
    dsimp only at hcell
    rw [hd] at hcell
    go_enter Tryz.func166, Tryz.ntmps166
    go_wp2
    go_ret
    exact ⟨rfl, rfl⟩
  · obtain rfl : d = 0 := by rw [← hd]; simp [List.getD, List.getElem?_eq_none (by omega : l.length ≤ i)]
    go_enter Tryz.func166, Tryz.ntmps166
    go_wp2
    go_ret
    exact ⟨rfl, rfl⟩

set_option maxRecDepth 100000 in
set_option maxHeartbeats 2000000 in
theorem l2MagLess_any (v u : Value) (l m : List Nat) (w : World) (hv : DigS w v l) (hu : DigS w u m) (hl : Dig l) (hm : Dig m) (bl : l.length ≤ 1000) (bm : m.length ≤ 1000) (V : Bool) (hV : V = true ↔ dval l < dval m) :
    Calls Tryz.prog 157 #[v, u] w fun e w' => e = .returned (.bool V) ∧ ∃ n, w' = w.drewN n := by
  have HV := hide hV; clear hV
  have L1 : (digs (dval l)).length ≤ 1000 := Nat.le_trans (digs_length_le (dval_lt hl)) bl
  have L2 : (digs (dval m)).length ≤ 1000 := Nat.le_trans (digs_length_le (dval_lt hm)) bm
  have HU := hide hu; clear hu
  go_enter Tryz.func157, Tryz.ntmps157
  go_wp2_with fail
  refine (l2Trim_any v l w hv hl bl).mono ?_
  rintro e w1 ⟨v1, rfl, hv1, rfl⟩
  have HV1 := hide hv1; clear hv1 hv
  go_wp2_with fail
  refine (l2Trim_any u m w1 (unhide HU) hm bm).mono ?_
  rintro e w2 ⟨u1, rfl, hu1, rfl⟩
  obtain ⟨a, ca, rfl, -, -, hA⟩ := unhide HV1
  obtain ⟨b, cb, rfl, -, -, hB⟩ := hu1
  clear HV1 HU
  generalize dval l = x at *
  generalize dval m = y at *
  by_cases hlen : (digs x).length = (digs y).length
  · rw [hlen] at hA ⊢
    go_wp2
    go_loopw [5] (fun i wr => ∃ k n : Nat, k ≤ (digs y).length ∧ i = .int .i64 ((k : Int) - 1) ∧ x / 10 ^ k = y / 10 ^ k ∧ wr = w2.drewN n) (fun i _ => (intOf i + 1).toNat)
    case atStart =>
      refine ⟨(digs y).length, 0, Nat.le_refl _, rfl, ?_, rfl⟩
      rw [Nat.div_eq_of_lt (by rw [← hlen]; exact lt_digs x), Nat.div_eq_of_lt (lt_digs y)]
    case round =>
      obtain ⟨k, n, hk, rfl, hq, rfl⟩ := hrel
      cases k with
      | zero =>
        have hf : V = false := by
          cases V with
          | false => rfl
          | true => have := (unhide HV).1 rfl; simp at hq; omega
        subst hf
        go_wp2
        go_ret
        exact ⟨rfl, _, rfl⟩
      | succ k =>
        rw [show ((k + 1 : Nat) : Int) - 1 = (k : Int) by omega]
        obtain ⟨b1, o1, rfl, -, c1⟩ := hA k (by omega)
        obtain ⟨b2, o2, rfl, -, c2⟩ := hB k (by omega)
        dsimp only at c1 c2
        rw [digs_at] at c1 c2
        have s1 := div_step x k; have s2 := div_step y k
        obtain ⟨d, hd⟩ : ∃ d, x / 10 ^ k % 10 = d := ⟨_, rfl⟩
        obtain ⟨f, hf⟩ : ∃ f, y / 10 ^ k % 10 = f := ⟨_, rfl⟩
        rw [hd] at c1 s1; rw [hf] at c2 s2
        have HQ := hide hq; have HS := hide (And.intro s1 s2); clear hq s1 s2 hd hf
        by_cases hdf : d = f
        · subst hdf
          go_wp2
          go_quiet (fail)
          go_wp2
          go_roundw
          case rel => exact ⟨k, _, by omega, rfl, by have := unhide HQ; have := unhide HS; omega, rfl⟩
          case measure => simp [intOf]
        · have hc : V = decide (d < f) := by
            rw [Bool.eq_iff_iff, unhide HV, decide_eq_true_eq]
            have q := unhide HQ; have s := unhide HS
            refine ⟨fun h => ?_, fun h => div_lt_of (p := 10 ^ k) (by omega)⟩
            rcases Nat.lt_or_ge d f with h' | h'
            · omega
            · exact absurd h (by have := div_lt_of (m := y) (n := x) (p := 10 ^ k) (by omega); omega)
          have HC := hide hc; clear hc
          go_wp2
          go_quiet (fail)
          go_wp2
          go_quiet (fail)
          go_wp2
          go_ret
          exact ⟨ret_bool (unhide HC).symm, _, by rw [drewN_drewN, drewN_drewN]⟩
  · have hc : V = decide ((digs x).length < (digs y).length) := by
      rw [Bool.eq_iff_iff, unhide HV, decide_eq_true_eq]
      refine ⟨fun h => ?_, fun h => digs_len_lt (by omega)⟩
      rcases Nat.lt_or_ge (digs x).length (digs y).length with h' | h'
      · omega
      · exact absurd h (by have := digs_len_lt (m := y) (n := x) (by omega); omega)
    have HC := hide hc; clear hc
    go_wp2
    go_ret
    exact ⟨ret_bool (unhide HC).symm, 0, rfl⟩

theorem Dig.getD {l : List Nat} (h : Dig l) (i : Nat) : l.getD i 0 < 10 := by rw [dig_at h]; exact Nat.mod_lt _ (by decide)
theorem mod_all {l : List Nat} (h : Dig l) {n : Nat} (hn : l.length ≤ n) : dval l % 10 ^ n = dval l := Nat.mod_eq_of_lt (Nat.lt_of_lt_of_le (dval_lt h) (Nat.pow_le_pow_right (by decide) hn))
theorem tmod_nat (n : Nat) : (n : Int).tmod 10 = ((n % 10 : Nat) : Int) := (Int.ofNat_tmod n 10).symm
theorem tdiv_nat (n : Nat) : (n : Int).tdiv 10 = ((n / 10 : Nat) : Int) := (Int.ofNat_tdiv n 10).symm

set_option maxRecDepth 100000 in
set_option maxHeartbeats 4000000 in
theorem l2MagAdd_any (v u : Value) (l m : List Nat) (w : World) (hv : DigS w v l) (hu : DigS w u m) (hl : Dig l) (hm : Dig m) (bl : l.length ≤ 500) (bm : m.length ≤ 500) :
    Calls Tryz.prog 156 #[v, u] w fun e w' => ∃ r, e = .returned r ∧ DigS w' r (digs (dval l + dval m)) ∧ Below w.heap.size w w' := by
  have HB0 : Hid (Below w.heap.size w (w.alloc (.cells #[] 3))) := (Below.refl _ _).alloc (Nat.le_refl _) _
  obtain ⟨a, ca, rfl, -, -, hA⟩ := id hv
  obtain ⟨b, cb, rfl, -, -, hB⟩ := id hu
  have HV := hide hv; have HU := hide hu; clear hv hu hA hB
  obtain ⟨n, hn⟩ : ∃ n, n = if m.length > l.length then m.length else l.length := ⟨_, rfl⟩
  have hn1 : l.length ≤ n := by rw [hn]; split <;> omega
  have hn2 : m.length ≤ n := by rw [hn]; split <;> omega
  have bn : n ≤ 500 := by rw [hn]; split <;> omega
  have HN := hide (And.intro hn1 hn2)
  by_cases hg : m.length > l.length
  · rw [if_pos hg] at hn
    rw [← hn] at HU hg ⊢
    clear hn hn1 hn2
    go_enter Tryz.func156, Tryz.ntmps156
    go_wp2_with fail
    go_loopw [6, 7, 8] (fun out c i wr => ∃ (k cc : Nat) (o : List Nat), k ≤ n + 1 ∧ i = .int .i64 k ∧ c = .int .i64 cc ∧ cc ≤ 1 ∧ o.length = k ∧ Dig o ∧ dval o + cc * 10 ^ k = dval l % 10 ^ k + dval m % 10 ^ k ∧ wr.ownsRow w.heap.size 3 1 out k (ui o) ∧ Below w.heap.size w wr) (fun _ _ i _ => n + 1 - (intOf i).toNat)
    case atStart => exact ⟨0, 0, [], by omega, rfl, rfl, by omega, rfl, (fun d hd => by cases hd), by simp [dval, Nat.mod_one], owns_none w 3, unhide HB0⟩
    case round =>
      clear HB0
      obtain ⟨k, cc, o, hk, rfl, rfl, hcc, hol, hod, hval, hown, hb⟩ := hrel
      have HO := hide hown; have HB := hide hb; have HD := hide (And.intro hod hval); have HOL := hide hol
      clear hown hod hval hol
      by_cases hlt : k ≤ n
      · obtain ⟨x, hx⟩ : ∃ x, l.getD k 0 = x := ⟨_, rfl⟩
        obtain ⟨y, hy⟩ : ∃ y, m.getD k 0 = y := ⟨_, rfl⟩
        have hx10 : x < 10 := by rw [← hx]; exact hl.getD k
        have hy10 : y < 10 := by rw [← hy]; exact hm.getD k
        have HX := hide hx; have HY := hide hy; clear hx hy
        have V2 := hide ((unhide HV).mono hb); have U2 := hide ((unhide HU).mono hb); clear hb
        go_wp2_with fail
        refine (l2Digit_any _ l k wr (unhide V2) x (unhide HX)).mono ?_
        rintro e w' ⟨rfl, rfl⟩
        go_wp2_with fail
        refine (l2Digit_any _ m k w' (unhide U2) y (unhide HY)).mono ?_
        rintro e w'' ⟨rfl, rfl⟩
        have hs10 : (x + y + cc) / 10 ≤ 1 := by omega
        obtain ⟨i0, hi, hz0, hz1, hz2⟩ := info_parts infoI
        go_wp2_with (at_builtin; refine wpList_append_own _ rfl _ _ 80 rfl w.heap.size 3 i0 _ 1 8 Tryz.underlying80 hi hz0 hz1 hz2 rfl (by omega) u6 _ _ rfl ((unhide HO).alloc _) ⟨w''.heap.size, 0, none⟩ 1 1 [.int .i64 (((x : Int) + y + cc) % 10)] rfl rfl (cell_one w'' 3 _) (by simp [Value.oneCell']) (by unfold maxLen; omega) (by omega) (by have := (unhide HB).size; simp; omega) ?_)
        intro v' w' hown' hgrow' _
        have hB' := ((unhide HB).alloc (by have := (unhide HB).size; omega) (.cells #[.int .i64 (((x : Int) + y + cc) % 10)] 3)).grown hgrow' (by have := (unhide HB).size; simp; omega) (fun q' e => owns_block (unhide HO) e)
        have HO3 : Hid (w'.ownsRow w.heap.size 3 1 v' (k + 1) (ui (o ++ [(x + y + cc) % 10]))) := by
          rw [Hid]; simpa [ui] using hown'
        have HB3 := hide hB'
        clear hown' hgrow' hB' hi hz0 hz1 hz2
        go_wp2_with fail
        go_roundw
        case rel =>
          refine ⟨k + 1, (x + y + cc) / 10, o ++ [(x + y + cc) % 10], by omega, by go_num, by go_num, hs10, ?_, ?_, ?_, unhide HO3, unhide HB3⟩
          · have := unhide HOL; simp [this]
          · exact (unhide HD).1.snoc (by omega)
          · rw [dval_snoc, unhide HOL, mod_step, mod_step, ← dig_at hl, ← dig_at hm, unhide HX, unhide HY]
            exact add_step (unhide HD).2 rfl
        case measure => simp [intOf]; omega
      · obtain rfl : k = n + 1 := by omega
        have h1 := (unhide HD).2
        rw [mod_all hl (by have := unhide HN; omega), mod_all hm (by have := unhide HN; omega)] at h1
        have hc0 : cc = 0 := by
          have h2 := Nat.lt_of_lt_of_le (dval_lt hl) (Nat.pow_le_pow_right (n := 10) (by decide) (unhide HN).1)
          have h3 := Nat.lt_of_lt_of_le (dval_lt hm) (Nat.pow_le_pow_right (n := 10) (by decide) (unhide HN).2)
          rw [Nat.pow_succ] at h1
          rcases (by omega : cc = 0 ∨ cc = 1) with h | h
          · exact h
          · subst h; omega
        subst hc0
        have hval : dval o = dval l + dval m := by omega
        have hdo := (unhide HD).1
        have HOd : DigS wr u6 o := by have := unhide HO; rw [← unhide HOL] at this; exact digS_of_owns this
        have hol : o.length ≤ 1000 := by have := unhide HOL; omega
        clear HD HO HOL h1
        go_wp2_with fail
        refine (l2Trim_any u6 o wr HOd hdo hol).mono ?_
        rintro e w' ⟨r, rfl, hr, rfl⟩
        rw [hval] at hr
        have HR := hide hr; clear hr
        go_wp2
        go_ret
        exact ⟨_, rfl, unhide HR, unhide HB⟩
  · rw [if_neg hg] at hn
    rw [← hn] at HV hg ⊢
    clear hn hn1 hn2
    go_enter Tryz.func156, Tryz.ntmps156
    go_wp2_with fail
    go_loopw [6, 7, 8] (fun out c i wr => ∃ (k cc : Nat) (o : List Nat), k ≤ n + 1 ∧ i = .int .i64 k ∧ c = .int .i64 cc ∧ cc ≤ 1 ∧ o.length = k ∧ Dig o ∧ dval o + cc * 10 ^ k = dval l % 10 ^ k + dval m % 10 ^ k ∧ wr.ownsRow w.heap.size 3 1 out k (ui o) ∧ Below w.heap.size w wr) (fun _ _ i _ => n + 1 - (intOf i).toNat)
    case atStart => exact ⟨0, 0, [], by omega, rfl, rfl, by omega, rfl, (fun d hd => by cases hd), by simp [dval, Nat.mod_one], owns_none w 3, unhide HB0⟩
    case round =>
      clear HB0
      obtain ⟨k, cc, o, hk, rfl, rfl, hcc, hol, hod, hval, hown, hb⟩ := hrel
      have HO := hide hown; have HB := hide hb; have HD := hide (And.intro hod hval); have HOL := hide hol
      clear hown hod hval hol
      by_cases hlt : k ≤ n
      · obtain ⟨x, hx⟩ : ∃ x, l.getD k 0 = x := ⟨_, rfl⟩
        obtain ⟨y, hy⟩ : ∃ y, m.getD k 0 = y := ⟨_, rfl⟩
        have hx10 : x < 10 := by rw [← hx]; exact hl.getD k
        have hy10 : y < 10 := by rw [← hy]; exact hm.getD k
        have HX := hide hx; have HY := hide hy; clear hx hy
        have V2 := hide ((unhide HV).mono hb); have U2 := hide ((unhide HU).mono hb); clear hb
        go_wp2_with fail
        refine (l2Digit_any _ l k wr (unhide V2) x (unhide HX)).mono ?_
        rintro e w' ⟨rfl, rfl⟩
        go_wp2_with fail
        refine (l2Digit_any _ m k w' (unhide U2) y (unhide HY)).mono ?_
        rintro e w'' ⟨rfl, rfl⟩
        have hs10 : (x + y + cc) / 10 ≤ 1 := by omega
        obtain ⟨i0, hi, hz0, hz1, hz2⟩ := info_parts infoI
        go_wp2_with (at_builtin; refine wpList_append_own _ rfl _ _ 80 rfl w.heap.size 3 i0 _ 1 8 Tryz.underlying80 hi hz0 hz1 hz2 rfl (by omega) u6 _ _ rfl ((unhide HO).alloc _) ⟨w''.heap.size, 0, none⟩ 1 1 [.int .i64 (((x : Int) + y + cc) % 10)] rfl rfl (cell_one w'' 3 _) (by simp [Value.oneCell']) (by unfold maxLen; omega) (by omega) (by have := (unhide HB).size; simp; omega) ?_)
        intro v' w' hown' hgrow' _
        have hB' := ((unhide HB).alloc (by have := (unhide HB).size; omega) (.cells #[.int .i64 (((x : Int) + y + cc) % 10)] 3)).grown hgrow' (by have := (unhide HB).size; simp; omega) (fun q' e => owns_block (unhide HO) e)
        have HO3 : Hid (w'.ownsRow w.heap.size 3 1 v' (k + 1) (ui (o ++ [(x + y + cc) % 10]))) := by
          rw [Hid]; simpa [ui] using hown'
        have HB3 := hide hB'
        clear hown' hgrow' hB' hi hz0 hz1 hz2
        go_wp2_with fail
        go_roundw
        case rel =>
          refine ⟨k + 1, (x + y + cc) / 10, o ++ [(x + y + cc) % 10], by omega, by go_num, by go_num, hs10, ?_, ?_, ?_, unhide HO3, unhide HB3⟩
          · have := unhide HOL; simp [this]
          · exact (unhide HD).1.snoc (by omega)
          · rw [dval_snoc, unhide HOL, mod_step, mod_step, ← dig_at hl, ← dig_at hm, unhide HX, unhide HY]
            exact add_step (unhide HD).2 rfl
        case measure => simp [intOf]; omega
      · obtain rfl : k = n + 1 := by omega
        have h1 := (unhide HD).2
        rw [mod_all hl (by have := unhide HN; omega), mod_all hm (by have := unhide HN; omega)] at h1
        have hc0 : cc = 0 := by
          have h2 := Nat.lt_of_lt_of_le (dval_lt hl) (Nat.pow_le_pow_right (n := 10) (by decide) (unhide HN).1)
          have h3 := Nat.lt_of_lt_of_le (dval_lt hm) (Nat.pow_le_pow_right (n := 10) (by decide) (unhide HN).2)
          rw [Nat.pow_succ] at h1
          rcases (by omega : cc = 0 ∨ cc = 1) with h | h
          · exact h
          · subst h; omega
        subst hc0
        have hval : dval o = dval l + dval m := by omega
        have hdo := (unhide HD).1
        have HOd : DigS wr u6 o := by have := unhide HO; rw [← unhide HOL] at this; exact digS_of_owns this
        have hol : o.length ≤ 1000 := by have := unhide HOL; omega
        clear HD HO HOL h1
        go_wp2_with fail
        refine (l2Trim_any u6 o wr HOd hdo hol).mono ?_
        rintro e w' ⟨r, rfl, hr, rfl⟩
        rw [hval] at hr
        have HR := hide hr; clear hr
        go_wp2
        go_ret
        exact ⟨_, rfl, unhide HR, unhide HB⟩
end Go.Proofs.YtjgngbmkpiihgaaGreatDoor

/- The model's exact integers: taking one from another; signs. -/
namespace Go.Proofs.YtjgngbmkpiihgaaGreatDoor
open Go Go.RowKit

set_option maxRecDepth 100000 in
set_option maxHeartbeats 4000000 in
theorem l2MagSub_any (v u : Value) (l m : List Nat) (w : World) (hv : DigS w v l) (hu : DigS w u m) (hl : Dig l) (hm : Dig m) (bl : l.length ≤ 500) (hle : dval m ≤ dval l) :
    Calls Tryz.prog 158 #[v, u] w fun e w' => ∃ r, e = .returned r ∧ DigS w' r (digs (dval l - dval m)) ∧ Below w.heap.size w w' := by
  have HB0 : Hid (Below w.heap.size w (w.alloc (.cells #[] 3))) := (Below.refl _ _).alloc (Nat.le_refl _) _
  obtain ⟨a, ca, rfl, -, -, hA⟩ := id hv
  obtain ⟨b, cb, rfl, -, -, hB⟩ := id hu
  have HV := hide hv; have HU := hide hu; have HLE := hide hle; clear hv hu hA hB hle
  go_enter Tryz.func158, Tryz.ntmps158
  go_wp2_with fail
  go_loopw [5, 6, 7] (fun out c i wr => ∃ (k cc : Nat) (o : List Nat), k ≤ l.length ∧ i = .int .i64 k ∧ c = .int .i64 cc ∧ cc ≤ 1 ∧ o.length = k ∧ Dig o ∧ dval l % 10 ^ k + cc * 10 ^ k = dval o + dval m % 10 ^ k ∧ wr.ownsRow w.heap.size 3 1 out k (ui o) ∧ Below w.heap.size w wr) (fun _ _ i _ => l.length - (intOf i).toNat)
  case atStart => exact ⟨0, 0, [], by omega, rfl, rfl, by omega, rfl, (fun d hd => by cases hd), by simp [dval, Nat.mod_one], owns_none w 3, unhide HB0⟩
  case round =>
    clear HB0
    obtain ⟨k, cc, o, hk, rfl, rfl, hcc, hol, hod, hval, hown, hb⟩ := hrel
    have HO := hide hown; have HB := hide hb; have HD := hide (And.intro hod hval); have HOL := hide hol
    clear hown hod hval hol
    by_cases hlt : k < l.length
    · obtain ⟨x, hx⟩ : ∃ x, l.getD k 0 = x := ⟨_, rfl⟩
      obtain ⟨y, hy⟩ : ∃ y, m.getD k 0 = y := ⟨_, rfl⟩
      have hx10 : x < 10 := by rw [← hx]; exact hl.getD k
      have hy10 : y < 10 := by rw [← hy]; exact hm.getD k
      have HX := hide hx; have HY := hide hy; clear hx hy
      have V2 := hide ((unhide HV).mono hb); have U2 := hide ((unhide HU).mono hb); clear hb
      go_wp2_with fail
      refine (l2Digit_any _ l k wr (unhide V2) x (unhide HX)).mono ?_
      rintro e w' ⟨rfl, rfl⟩
      go_wp2_with fail
      refine (l2Digit_any _ m k w' (unhide U2) y (unhide HY)).mono ?_
      rintro e w'' ⟨rfl, rfl⟩
      by_cases hneg : x < y + cc
      · have hn' : (x : Int) - y - cc < 0 := by omega
        obtain ⟨i0, hi, hz0, hz1, hz2⟩ := info_parts infoI
        go_wp2_with (at_builtin; refine wpList_append_own _ rfl _ _ 80 rfl w.heap.size 3 i0 _ 1 8 Tryz.underlying80 hi hz0 hz1 hz2 rfl (by omega) u5 _ _ rfl ((unhide HO).alloc _) ⟨w''.heap.size, 0, none⟩ 1 1 [.int .i64 ((x : Int) - y - cc + 10)] rfl rfl (cell_one w'' 3 _) (by simp [Value.oneCell']) (by unfold maxLen; omega) (by omega) (by have := (unhide HB).size; simp; omega) ?_)
        intro v' w' hown' hgrow' _
        have hB' := ((unhide HB).alloc (by have := (unhide HB).size; omega) (.cells #[.int .i64 ((x : Int) - y - cc + 10)] 3)).grown hgrow' (by have := (unhide HB).size; simp; omega) (fun q' e => owns_block (unhide HO) e)
        have HO3 : Hid (w'.ownsRow w.heap.size 3 1 v' (k + 1) (ui (o ++ [x + 10 - y - cc]))) := by
          rw [Hid]; rw [show (x : Int) - y - cc + 10 = ((x + 10 - y - cc : Nat) : Int) by omega] at hown'; simpa [ui] using hown'
        have HB3 := hide hB'
        clear hown' hgrow' hB' hi hz0 hz1 hz2
        go_wp2_with fail
        go_roundw
        case rel =>
          refine ⟨k + 1, 1, o ++ [x + 10 - y - cc], by omega, by go_num, rfl, by omega, ?_, ?_, ?_, unhide HO3, unhide HB3⟩
          · have := unhide HOL; simp [this]
          · exact (unhide HD).1.snoc (by omega)
          · rw [dval_snoc, unhide HOL, mod_step, mod_step, ← dig_at hl, ← dig_at hm, unhide HX, unhide HY]
            obtain ⟨d, b, h1, h2, h3, h4, h5⟩ := sub_step (unhide HD).2 hcc hx10 hy10
            obtain rfl : b = 1 := by omega
            obtain rfl : d = x + 10 - y - cc := by omega
            exact h5
        case measure => simp [intOf]; omega
      · have hn' : 0 ≤ (x : Int) - y - cc := by omega
        obtain ⟨i0, hi, hz0, hz1, hz2⟩ := info_parts infoI
        go_wp2_with (at_builtin; refine wpList_append_own _ rfl _ _ 80 rfl w.heap.size 3 i0 _ 1 8 Tryz.underlying80 hi hz0 hz1 hz2 rfl (by omega) u5 _ _ rfl ((unhide HO).alloc _) ⟨w''.heap.size, 0, none⟩ 1 1 [.int .i64 ((x : Int) - y - cc)] rfl rfl (cell_one w'' 3 _) (by simp [Value.oneCell']) (by unfold maxLen; omega) (by omega) (by have := (unhide HB).size; simp; omega) ?_)
        intro v' w' hown' hgrow' _
        have hB' := ((unhide HB).alloc (by have := (unhide HB).size; omega) (.cells #[.int .i64 ((x : Int) - y - cc)] 3)).grown hgrow' (by have := (unhide HB).size; simp; omega) (fun q' e => owns_block (unhide HO) e)
        have HO3 : Hid (w'.ownsRow w.heap.size 3 1 v' (k + 1) (ui (o ++ [x - y - cc]))) := by
          rw [Hid]; rw [show (x : Int) - y - cc = ((x - y - cc : Nat) : Int) by omega] at hown'; simpa [ui] using hown'
        have HB3 := hide hB'
        clear hown' hgrow' hB' hi hz0 hz1 hz2
        go_wp2_with fail
        go_roundw
        case rel =>
          refine ⟨k + 1, 0, o ++ [x - y - cc], by omega, by go_num, rfl, by omega, ?_, ?_, ?_, unhide HO3, unhide HB3⟩
          · have := unhide HOL; simp [this]
          · exact (unhide HD).1.snoc (by omega)
          · rw [dval_snoc, unhide HOL, mod_step, mod_step, ← dig_at hl, ← dig_at hm, unhide HX, unhide HY]
            obtain ⟨d, b, h1, h2, h3, h4, h5⟩ := sub_step (unhide HD).2 hcc hx10 hy10
            obtain rfl : b = 0 := by omega
            obtain rfl : d = x - y - cc := by omega
            exact h5
        case measure => simp [intOf]; omega
    · obtain rfl : k = l.length := by omega
      have h1 := (unhide HD).2
      have h2 := dval_lt hl
      have h3 := unhide HLE
      rw [mod_all hl (Nat.le_refl _), Nat.mod_eq_of_lt (by omega : dval m < 10 ^ l.length)] at h1
      have h4 := dval_lt (unhide HD).1
      rw [unhide HOL] at h4
      have hc0 : cc = 0 := by
        rcases (by omega : cc = 0 ∨ cc = 1) with h | h
        · exact h
        · subst h; omega
      subst hc0
      have hval : dval o = dval l - dval m := by omega
      have hdo := (unhide HD).1
      have HOd : DigS wr u5 o := by have := unhide HO; rw [← unhide HOL] at this; exact digS_of_owns this
      have hol : o.length ≤ 1000 := by have := unhide HOL; omega
      clear HD HO HOL h1 h2 h3 h4
      go_wp2_with fail
      refine (l2Trim_any u5 o wr HOd hdo hol).mono ?_
      rintro e w' ⟨r, rfl, hr, rfl⟩
      rw [hval] at hr
      have HR := hide hr; clear hr
      go_wp2
      go_ret
      exact ⟨_, rfl, unhide HR, unhide HB⟩
end Go.Proofs.YtjgngbmkpiihgaaGreatDoor

/- The model's exact integers with a sign. -/
namespace Go.Proofs.YtjgngbmkpiihgaaGreatDoor
open Go Go.RowKit

/-- The value v is the exact integer z. -/
def BigV (w : World) (v : Value) (z : Int) : Prop := ∃ u, v = .agg #[.bool (decide (z < 0)), u] ∧ DigS w u (digs z.natAbs)
theorem BigV.mono {w w' : World} {v : Value} {z : Int} (h : BigV w v z) (hb : Below w.heap.size w w') : BigV w' v z := by
  obtain ⟨u, e, hu⟩ := h
  exact ⟨u, e, hu.mono hb⟩

theorem two {w : World} {b : Nat} {t : TypeId} {v0 v1 : Value} (h : Blk w b t [v0, v1]) :
    (w.cell? ⟨b, 0, none⟩ = some v0 ∧ w.cell? ⟨b, 1, none⟩ = some v1) ∧ (w.frozen? ⟨b, 0, none⟩ = false ∧ w.frozen? ⟨b, 1, none⟩ = false) := ⟨⟨h.cell 0, h.cell 1⟩, ⟨h.free 0, h.free 1⟩⟩

set_option maxRecDepth 100000 in
set_option maxHeartbeats 1000000 in
theorem l2BigNeg_any (v : Value) (z : Int) (w : World) (hv : BigV w v z) :
    Calls Tryz.prog 143 #[v] w fun e w' => ∃ r, e = .returned r ∧ BigV w' r (-z) ∧ Below w.heap.size w w' := by
  obtain ⟨u, rfl, hu⟩ := hv
  obtain ⟨a, ca, rfl, -, -, -⟩ := id hu
  have HU := hide hu; clear hu
  by_cases hz : z = 0
  · subst hz
    have e0 : (digs (Int.natAbs 0)).length = 0 := by simp [digs_zero]
    rw [e0] at HU ⊢
    have hB : ∀ o1 o2, Below w.heap.size w ((w.alloc o1).alloc o2) := fun o1 o2 => ((Below.refl _ w).alloc (Nat.le_refl _) o1).alloc (by simp) o2
    have HB := hide hB; clear hB
    go_enter Tryz.func143, Tryz.ntmps143
    go_wp2
    refine bodyPost_ret (v := .agg #[.bool false, .slice a 0 ca]) (by simp [results, Tryz.results143, go_sem, *]) rfl ⟨_, rfl, ⟨_, rfl, ?_⟩, unhide HB _ _⟩
    exact (unhide HU).mono (unhide HB _ _)
  · have hn : (digs z.natAbs).length ≠ 0 := by intro e; have := digs_nil.1 (List.length_eq_zero_iff.1 e); omega
    have hB : ∀ o1 o2, Below w.heap.size w ((w.alloc o1).alloc o2) := fun o1 o2 => ((Below.refl _ w).alloc (Nat.le_refl _) o1).alloc (by simp) o2
    have HB := hide hB; clear hB
    have hs : decide (-z < 0) = !decide (z < 0) := by
      by_cases h : z < 0
      · simp [h]; omega
      · simp [h]; omega
    have HS := hide hs; clear hs
    go_enter Tryz.func143, Tryz.ntmps143
    go_wp2
    refine bodyPost_ret (v := .agg #[.bool (!decide (z < 0)), .slice a (digs z.natAbs).length ca]) (by simp [results, Tryz.results143, go_sem, *]) rfl ⟨_, rfl, ⟨_, by rw [unhide HS], ?_⟩, unhide HB _ _⟩
    rw [Int.natAbs_neg]
    exact (unhide HU).mono (unhide HB _ _)
end Go.Proofs.YtjgngbmkpiihgaaGreatDoor
