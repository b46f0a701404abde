import Derived.Test.YtjgngbmkpiihgaaGreatDoorGMb
import Derived.Test.YtjgngbmkpiihgaaGreatDoorGOw
import Derived.Test.YtjgngbmkpiihgaaGreatDoorGNa
import Derived.Test.YtjgngbmkpiihgaaGreatDoorGHn
import Derived.Test.YtjgngbmkpiihgaaGreatDoorZVal
import Derived.Test.YtjgngbmkpiihgaaGreatDoorZExM
/- The law's own wClose: where the bracket that closes stands. -/
namespace Go.Proofs.YtjgngbmkpiihgaaGreatDoor
open Go Go.RowKit

theorem map_one {o : Option Nat} {j : Nat} (h : o.map (· + 1) = some j) : ∃ i, j = i + 1 ∧ o = some i := by
  cases o with
  | none => cases h
  | some i => exact ⟨i, (Option.some.inj h).symm, rfl⟩
theorem wcl_next {d : Nat} {b : Bool} {c : UInt8} {r : List UInt8} {j : Nat} (h : wcl d b (c :: r) = some j) :
    ((if c = 34 then !b else b) = false ∧ c = 40 ∧ ∃ i, j = i + 1 ∧ wcl (d + 1) (if c = 34 then !b else b) r = some i) ∨
    ((if c = 34 then !b else b) = false ∧ c = 41 ∧ d = 1 ∧ j = 0) ∨ ((if c = 34 then !b else b) = false ∧ c = 41 ∧ d ≠ 1 ∧ ∃ i, j = i + 1 ∧ wcl (d - 1) (if c = 34 then !b else b) r = some i) ∨
    (¬ ((if c = 34 then !b else b) = false ∧ c = 40) ∧ ¬ ((if c = 34 then !b else b) = false ∧ c = 41) ∧ ∃ i, j = i + 1 ∧ wcl d (if c = 34 then !b else b) r = some i) := by
  unfold wcl at h
  generalize (if c = 34 then !b else b) = b' at *
  split at h
  · next e => exact .inl ⟨e.1, e.2, map_one h⟩
  · next e1 =>
    split at h
    · next e2 =>
      split at h
      · next e3 => exact .inr (.inl ⟨e2.1, e2.2, e3, (Option.some.inj h).symm⟩)
      · next e3 => exact .inr (.inr (.inl ⟨e2.1, e2.2, e3, map_one h⟩))
    · next e2 => exact .inr (.inr (.inr ⟨e1, e2, map_one h⟩))
theorem drop_byte {s : ByteArray} {k : Nat} (h : k < s.size) : s.data.toList.drop k = s[k] :: s.data.toList.drop (k + 1) := List.drop_eq_getElem_cons (l := s.data.toList) (i := k) (by rw [Array.length_toList]; exact h)
theorem b34 {c : UInt8} (h : c.toNat = 34) : c = 34 := UInt8.toNat_inj.1 (h.trans rfl)
theorem b40 {c : UInt8} (h : c.toNat = 40) : c = 40 := UInt8.toNat_inj.1 (h.trans rfl)
theorem b41 {c : UInt8} (h : c.toNat = 41) : c = 41 := UInt8.toNat_inj.1 (h.trans rfl)
set_option maxRecDepth 100000 in
set_option maxHeartbeats 4000000 in
theorem wClose_any (s : ByteArray) (i j : Nat) (w : World) (hs : s.size ≤ 1048576) (hi : i < s.size) (hc : s[i] = 40) (hj : wcl 1 false (s.data.toList.drop (i + 1)) = some j) :
    Calls Tryz.prog 11 #[.string s, .int .i64 i] w fun e w' => e = .returned (.int .i64 (i + 1 + j : Nat)) ∧ w' = w := by
  have H0 : Hid (wcl 0 false (s.data.toList.drop i) = some (j + 1)) := hide (by rw [drop_byte hi, hc]; unfold wcl; simp [hj])
  have H1 : Hid (bt s i = 40) := hide (by rw [bt_lt hi, hc]; rfl)
  obtain ⟨E, hE⟩ : ∃ E, i + 1 + j = E := ⟨_, rfl⟩
  rw [hE]
  have HE := hide hE
  clear hc hj hE
  go_enter Tryz.func11, Tryz.ntmps11
  go_wp2_with fail
  go_loopw [5, 6, 7] (fun vd vq vk wr => wr = w ∧ ∃ (d : Nat) (b : Bool) (k r : Nat), vd = .int .i64 d ∧ vq = .bool b ∧ vk = .int .i64 k ∧ d ≤ k ∧ k ≤ s.size ∧ wcl d b (s.data.toList.drop k) = some r ∧ k + r = E ∧ (d = 0 → bt s k = 40 ∧ b = false)) (fun _ _ vk _ => s.size - (intOf vk).toNat)
  case atStart => exact ⟨rfl, 0, false, i, j + 1, rfl, rfl, rfl, Nat.zero_le _, by omega, unhide H0, by have := unhide HE; omega, fun _ => ⟨unhide H1, rfl⟩⟩
  case round =>
    obtain ⟨hw, d, b, k, r, rfl, rfl, rfl, hdk, hk, hr, hkr, hd0⟩ := hrel
    subst hw
    clear H0 H1
    have hlt : k < s.size := Decidable.byContradiction fun hn => by
      rw [List.drop_of_length_le (by rw [Array.length_toList]; exact Nat.le_of_not_lt hn)] at hr
      cases hr
    rw [drop_byte hlt] at hr
    rw [bt_lt hlt] at hd0
    have hlt' : (k : Int) < s.size := by omega
    have hdb : d ≤ 1048576 := by omega
    obtain ⟨c, hc⟩ : ∃ c, s[k] = c := ⟨_, rfl⟩
    obtain ⟨n, hn⟩ : ∃ n, s[k].toNat = n := ⟨_, rfl⟩
    have hcn : c.toNat = n := by rw [← hc, hn]
    rw [hn] at hd0
    rw [hc] at hr
    clear hc
    by_cases h34 : n = 34
    · obtain rfl := b34 (hcn.trans h34)
      have hd1 : d ≠ 0 := fun e => by have := (hd0 e).1; omega
      rcases wcl_next hr with ⟨-, e, -⟩ | ⟨-, e, -⟩ | ⟨-, e, -⟩ | ⟨-, -, r', rfl, hr'⟩
      · cases e
      · cases e
      · cases e
      rw [if_pos rfl] at hr'
      have HR := hide hr'
      have HKR : Hid (k + 1 + r' = E) := hide (by omega)
      have e1 : ((n : Int) == 34) = true := by simp [h34]
      have e2 : ((n : Int) == 40) = false := beq_eq_false_iff_ne.2 (by omega)
      have e3 : ((n : Int) == 41) = false := beq_eq_false_iff_ne.2 (by omega)
      clear hr hr' hkr hd0 hcn h34
      cases b
      all_goals
        go_wp2_with fail
        go_roundw
        case rel => exact ⟨trivial, d, _, k + 1, r', rfl, rfl, by go_num, by omega, by omega, unhide HR, unhide HKR, fun e => absurd e hd1⟩
        case measure => simp [intOf]; omega
    have e1 : ((n : Int) == 34) = false := beq_eq_false_iff_ne.2 (by omega)
    have hc34 : c ≠ 34 := fun e => h34 (by rw [← hcn, e]; rfl)
    by_cases hb40 : b = false ∧ n = 40
    · obtain ⟨rfl, h40⟩ := hb40
      obtain rfl := b40 (hcn.trans h40)
      rcases wcl_next hr with ⟨-, -, r', rfl, hr'⟩ | ⟨-, e, -⟩ | ⟨-, e, -⟩ | ⟨e, -⟩
      rotate_left
      · cases e
      · cases e
      · exact absurd ⟨rfl, rfl⟩ e
      have HR := hide hr'
      have HKR : Hid (k + 1 + r' = E) := hide (by omega)
      have e2 : ((n : Int) == 40) = true := by simp [h40]
      have e3 : ((n : Int) == 41) = false := beq_eq_false_iff_ne.2 (by omega)
      clear hr hr' hkr hd0 hcn h34 h40 hc34
      go_wp2_with fail
      go_roundw
      case rel => exact ⟨trivial, d + 1, _, k + 1, r', by go_num, rfl, by go_num, by omega, by omega, unhide HR, unhide HKR, fun e => by omega⟩
      case measure => simp [intOf]; omega
    by_cases hb41 : b = false ∧ n = 41
    · obtain ⟨rfl, h41⟩ := hb41
      obtain rfl := b41 (hcn.trans h41)
      have hd1 : d ≠ 0 := fun e => by have := (hd0 e).1; omega
      have e2 : ((n : Int) == 40) = false := beq_eq_false_iff_ne.2 (by omega)
      have e3 : ((n : Int) == 41) = true := by simp [h41]
      rcases wcl_next hr with ⟨-, e, -⟩ | ⟨-, -, rfl, rfl⟩ | ⟨-, -, hd2, r', rfl, hr'⟩ | ⟨-, e, -⟩
      · cases e
      · have HK : Hid (k = E) := hide (by omega)
        clear hr hkr hd0 hcn h34 h41 hc34
        go_wp2_with fail
        go_ret
        exact ⟨by rw [unhide HK]; rfl, rfl⟩
      · have HR := hide hr'
        have HKR : Hid (k + 1 + r' = E) := hide (by omega)
        obtain ⟨d', rfl⟩ : ∃ d', d = d' + 1 := ⟨d - 1, by omega⟩
        have e4 : (((d' + 1 : Nat) : Int) - 1 == 0) = false := beq_eq_false_iff_ne.2 (by omega)
        have e5 : ¬ (d' : Int) = 0 := by omega
        have e6 : ¬ d' = 0 := by omega
        clear hr hr' hkr hd0 hcn h34 h41 hc34
        go_wp2_with fail
        go_roundw
        case rel => exact ⟨trivial, d', _, k + 1, r', by go_num, rfl, by go_num, by omega, by omega, unhide HR, unhide HKR, fun e => absurd e e6⟩
        case measure => simp [intOf]; omega
      · exact absurd ⟨rfl, rfl⟩ e
    have hd1 : d ≠ 0 := fun e => hb40 ⟨(hd0 e).2, (hd0 e).1⟩
    rcases wcl_next hr with ⟨e, e', -⟩ | ⟨e, e', -⟩ | ⟨e, e', -⟩ | ⟨-, -, r', rfl, hr'⟩
    · rw [if_neg hc34] at e; exact absurd ⟨e, by rw [← hcn, e']; rfl⟩ hb40
    · rw [if_neg hc34] at e; exact absurd ⟨e, by rw [← hcn, e']; rfl⟩ hb41
    · rw [if_neg hc34] at e; exact absurd ⟨e, by rw [← hcn, e']; rfl⟩ hb41
    rw [if_neg hc34] at hr'
    have HR := hide hr'
    have HKR : Hid (k + 1 + r' = E) := hide (by omega)
    cases b
    · have e2 : ((n : Int) == 40) = false := beq_eq_false_iff_ne.2 fun e => hb40 ⟨rfl, by omega⟩
      have e3 : ((n : Int) == 41) = false := beq_eq_false_iff_ne.2 fun e => hb41 ⟨rfl, by omega⟩
      clear hr hr' hkr hd0 hcn h34 hc34 hb40 hb41
      go_wp2_with fail
      go_roundw
      case rel => exact ⟨trivial, d, _, k + 1, r', rfl, rfl, by go_num, by omega, by omega, unhide HR, unhide HKR, fun e => absurd e hd1⟩
      case measure => simp [intOf]; omega
    · clear hr hr' hkr hd0 hcn h34 hc34 hb40 hb41
      go_wp2_with fail
      go_roundw
      case rel => exact ⟨trivial, d, _, k + 1, r', rfl, rfl, by go_num, by omega, by omega, unhide HR, unhide HKR, fun e => absurd e hd1⟩
      case measure => simp [intOf]; omega
end Go.Proofs.YtjgngbmkpiihgaaGreatDoor

/- The law's own wSameValue. -/
namespace Go.Proofs.YtjgngbmkpiihgaaGreatDoor
open Go Go.RowKit

set_option maxRecDepth 100000 in
set_option maxHeartbeats 1000000 in
theorem wSameValue_any (k n k' n' : Int) (t t' : ByteArray) (w : World) :
    Calls Tryz.prog 36 #[.agg #[.int .i64 k, .int .i64 n, .string t], .agg #[.int .i64 k', .int .i64 n', .string t']] w fun e w' => e = .returned (.bool (decide (k = k') && (decide (n = n') && (t.toList == t'.toList)))) ∧ Below w.heap.size w w' := by
  have hB : ∀ o1 o2, Below w.heap.size w ((w.alloc o1).alloc o2) := fun o1 o2 => ((Below.refl _ w).alloc (Nat.le_refl _) o1).alloc (by simp) o2
  have HB := hide hB; clear hB
  by_cases h1 : k = k'
  · subst h1
    by_cases h2 : n = n'
    · subst h2
      cases hq : t.toList == t'.toList
      all_goals
        go_enter Tryz.func36, Tryz.ntmps36
        go_wp2
        go_ret
        exact ⟨ret_bool (by simp), unhide HB _ _⟩
    · go_enter Tryz.func36, Tryz.ntmps36
      go_wp2
      go_ret
      exact ⟨ret_bool (by simp [h2]), unhide HB _ _⟩
  · go_enter Tryz.func36, Tryz.ntmps36
    go_wp2
    go_ret
    exact ⟨ret_bool (by simp [h1]), unhide HB _ _⟩
end Go.Proofs.YtjgngbmkpiihgaaGreatDoor

/- The law's own wSameNodes. -/
namespace Go.Proofs.YtjgngbmkpiihgaaGreatDoor
open Go Go.RowKit

theorem text_eq {s t : ByteArray} (h : (s.toList == t.toList) = true) : s = t := by
  have h' : s.toList = t.toList := by simpa using h
  rw [ByteArray.toList_eq, ByteArray.toList_eq] at h'
  exact ByteArray.ext (Array.toList_inj.1 h')

set_option maxRecDepth 100000 in
set_option maxHeartbeats 4000000 in
theorem wSameNodes_any (a b : Option Addr) (e f : Nat → Nx) (n m ca cb : Nat) (w : World) (hn : n ≤ 1048576) (hm : m ≤ 1048576) (ha : Nods w a n e) (hb : Nods w b m f) :
    Calls Tryz.prog 9 #[.slice a n ca, .slice b m cb] w fun r w' => ∃ q : Bool, r = .returned (.bool q) ∧ (q = true ↔ n = m ∧ ∀ k, k < n → e k = f k) ∧ Below w.heap.size w w' := by
  by_cases hnm : n = m
  case neg =>
    have h1 : ((n : Int) != (m : Int)) = true := by simp; omega
    clear ha hb
    go_enter Tryz.func9, Tryz.ntmps9
    go_wp2_with fail
    go_ret
    exact ⟨false, rfl, by simp [hnm], Below.refl _ _⟩
  subst hnm
  have HA := hide ha; have HB0 := hide hb
  clear ha hb
  have h1 : ((n : Int) != (n : Int)) = false := by simp
  go_enter Tryz.func9, Tryz.ntmps9
  go_wp2_with fail
  go_loopw [5] (fun i wr => ∃ k : Nat, k ≤ n ∧ i = .int .i64 k ∧ (∀ j, j < k → e j = f j) ∧ Below w.heap.size w wr) (fun i _ => n - (intOf i).toNat)
  case atStart => exact ⟨0, Nat.zero_le _, rfl, fun j hj => absurd hj (Nat.not_lt_zero _), Below.refl _ _⟩
  case round =>
    obtain ⟨k, hk, rfl, hsame, hB⟩ := hrel
    have HB := hide hB
    have HS := hide hsame
    clear hsame
    by_cases hlt : k < n
    · obtain ⟨b1, o1, rfl, C1⟩ := ((unhide HA).mono hB) k hlt
      obtain ⟨b2, o2, rfl, C2⟩ := ((unhide HB0).mono hB) k hlt
      obtain ⟨u, hu⟩ : ∃ u, e k = u := ⟨_, rfl⟩
      obtain ⟨x, hx⟩ : ∃ x, f k = x := ⟨_, rfl⟩
      rw [hu] at C1
      rw [hx] at C2
      have HU := hide hu; have HX := hide hx
      have HC1 := hide C1; have HC2 := hide C2
      have k0 : (0 : Int) ≤ k := by omega
      have k1 : (k : Int) < n := by omega
      clear hB hu hx C1 C2
      by_cases hop0 : u.op = x.op
      case neg =>
        have hop : (u.op != x.op) = true := by simpa using hop0
        go_wp2_with fail
        refine wp_region_held_drew (S := fun w' => NCel w' b1 (o1 + k * 5) u ∧ NCel w' b2 (o2 + k * 5) x) (by kernel_rfl) ⟨unhide HC1, unhide HC2⟩ (fun hHeld => ?_)
        refine takeY (i := 0) (v := .slice (some ⟨b1, o1, none⟩) n ca) 17 rfl rfl (by kernel_rfl) (by kernel_rfl) (by kernel_rfl) (fun _ _ _ _ h => h) (by rfl) (fun w hS => by simp [execOp, go_sem, *]) hHeld ?_
        simp only [List.setIfInBounds_toArray, List.set_cons_zero, List.set_cons_succ]
        refine takeY (i := 1) (v := .int .i64 k) 18 rfl rfl (by kernel_rfl) (by kernel_rfl) (by kernel_rfl) (fun _ _ _ _ h => h) (by rfl) (fun w hS => by simp [execOp, go_sem, *]) hHeld ?_
        simp only [List.setIfInBounds_toArray, List.set_cons_zero, List.set_cons_succ]
        refine takeY (i := 2) (v := .pointer (some ⟨b1, o1 + k * 5, none⟩)) 19 rfl rfl (by kernel_rfl) (by kernel_rfl) (by kernel_rfl) (fun _ _ _ _ h => h) (by rfl) (fun w hS => by simp [execOp, go_sem, *]) hHeld ?_
        simp only [List.setIfInBounds_toArray, List.set_cons_zero, List.set_cons_succ]
        refine takeY (i := 3) (v := .pointer (some ⟨b1, o1 + k * 5, none⟩)) 20 rfl rfl (by kernel_rfl) (by kernel_rfl) (by kernel_rfl) (fun _ _ _ _ h => h) (by rfl) (fun w hS => by simp [execOp, go_sem, *]) hHeld ?_
        simp only [List.setIfInBounds_toArray, List.set_cons_zero, List.set_cons_succ]
        refine takeY (i := 4) (v := .int .i64 u.op) 21 rfl rfl (by kernel_rfl) (by kernel_rfl) (by kernel_rfl) (fun _ _ _ _ h => h) (by rfl) (fun w hS => by obtain ⟨⟨-, q0, q1, q2, q3, q4⟩, -⟩ := hS; simp [execOp, go_sem, q0]) hHeld ?_
        simp only [List.setIfInBounds_toArray, List.set_cons_zero, List.set_cons_succ]
        refine takeY (i := 5) (v := .slice (some ⟨b2, o2, none⟩) n cb) 22 rfl rfl (by kernel_rfl) (by kernel_rfl) (by kernel_rfl) (fun _ _ _ _ h => h) (by rfl) (fun w hS => by simp [execOp, go_sem, *]) hHeld ?_
        simp only [List.setIfInBounds_toArray, List.set_cons_zero, List.set_cons_succ]
        refine takeY (i := 6) (v := .int .i64 k) 23 rfl rfl (by kernel_rfl) (by kernel_rfl) (by kernel_rfl) (fun _ _ _ _ h => h) (by rfl) (fun w hS => by simp [execOp, go_sem, *]) hHeld ?_
        simp only [List.setIfInBounds_toArray, List.set_cons_zero, List.set_cons_succ]
        refine takeY (i := 7) (v := .pointer (some ⟨b2, o2 + k * 5, none⟩)) 24 rfl rfl (by kernel_rfl) (by kernel_rfl) (by kernel_rfl) (fun _ _ _ _ h => h) (by rfl) (fun w hS => by simp [execOp, go_sem, *]) hHeld ?_
        simp only [List.setIfInBounds_toArray, List.set_cons_zero, List.set_cons_succ]
        refine takeY (i := 8) (v := .pointer (some ⟨b2, o2 + k * 5, none⟩)) 25 rfl rfl (by kernel_rfl) (by kernel_rfl) (by kernel_rfl) (fun _ _ _ _ h => h) (by rfl) (fun w hS => by simp [execOp, go_sem, *]) hHeld ?_
        simp only [List.setIfInBounds_toArray, List.set_cons_zero, List.set_cons_succ]
        refine takeY (i := 9) (v := .int .i64 x.op) 26 rfl rfl (by kernel_rfl) (by kernel_rfl) (by kernel_rfl) (fun _ _ _ _ h => h) (by rfl) (fun w hS => by obtain ⟨-, ⟨-, q0, q1, q2, q3, q4⟩⟩ := hS; simp [execOp, go_sem, q0]) hHeld ?_
        simp only [List.setIfInBounds_toArray, List.set_cons_zero, List.set_cons_succ]
        refine takeY (i := 10) (v := .bool true) 27 rfl rfl (by kernel_rfl) (by kernel_rfl) (by kernel_rfl) (fun _ _ _ _ h => h) (by rfl) (fun w hS => by simp [execOp, go_sem, hop]) hHeld ?_
        simp only [List.setIfInBounds_toArray, List.set_cons_zero, List.set_cons_succ]
        refine takeY (i := 11) (v := .bool true) 28 rfl rfl (by kernel_rfl) (by kernel_rfl) (by kernel_rfl) (fun _ _ _ _ h => h) (by rfl) (fun w hS => by simp [execOp, go_sem, *]) hHeld ?_
        simp only [List.setIfInBounds_toArray, List.set_cons_zero, List.set_cons_succ]
        refine takeN (i := 12) 29 rfl rfl (by kernel_rfl) (by kernel_rfl) (by kernel_rfl) (fun _ _ _ _ h => h) (by rfl) hHeld ?_
        simp only [List.setIfInBounds_toArray, List.set_cons_zero, List.set_cons_succ]
        refine takeN (i := 13) 30 rfl rfl (by kernel_rfl) (by kernel_rfl) (by kernel_rfl) (fun _ _ _ _ h => h) (by rfl) hHeld ?_
        simp only [List.setIfInBounds_toArray, List.set_cons_zero, List.set_cons_succ]
        refine takeN (i := 14) 31 rfl rfl (by kernel_rfl) (by kernel_rfl) (by kernel_rfl) (fun _ _ _ _ h => h) (by rfl) hHeld ?_
        simp only [List.setIfInBounds_toArray, List.set_cons_zero, List.set_cons_succ]
        refine takeN (i := 15) 32 rfl rfl (by kernel_rfl) (by kernel_rfl) (by kernel_rfl) (fun _ _ _ _ h => h) (by rfl) hHeld ?_
        simp only [List.setIfInBounds_toArray, List.set_cons_zero, List.set_cons_succ]
        refine takeN (i := 16) 33 rfl rfl (by kernel_rfl) (by kernel_rfl) (by kernel_rfl) (fun _ _ _ _ h => h) (by rfl) hHeld ?_
        simp only [List.setIfInBounds_toArray, List.set_cons_zero, List.set_cons_succ]
        refine takeN (i := 17) 34 rfl rfl (by kernel_rfl) (by kernel_rfl) (by kernel_rfl) (fun _ _ _ _ h => h) (by rfl) hHeld ?_
        simp only [List.setIfInBounds_toArray, List.set_cons_zero, List.set_cons_succ]
        refine takeN (i := 18) 35 rfl rfl (by kernel_rfl) (by kernel_rfl) (by kernel_rfl) (fun _ _ _ _ h => h) (by rfl) hHeld ?_
        simp only [List.setIfInBounds_toArray, List.set_cons_zero, List.set_cons_succ]
        refine takeN (i := 19) 36 rfl rfl (by kernel_rfl) (by kernel_rfl) (by kernel_rfl) (fun _ _ _ _ h => h) (by rfl) hHeld ?_
        simp only [List.setIfInBounds_toArray, List.set_cons_zero, List.set_cons_succ]
        refine takeN (i := 20) 37 rfl rfl (by kernel_rfl) (by kernel_rfl) (by kernel_rfl) (fun _ _ _ _ h => h) (by rfl) hHeld ?_
        simp only [List.setIfInBounds_toArray, List.set_cons_zero, List.set_cons_succ]
        refine takeN (i := 21) 38 rfl rfl (by kernel_rfl) (by kernel_rfl) (by kernel_rfl) (fun _ _ _ _ h => h) (by rfl) hHeld ?_
        simp only [List.setIfInBounds_toArray, List.set_cons_zero, List.set_cons_succ]
        refine takeN (i := 22) 39 rfl rfl (by kernel_rfl) (by kernel_rfl) (by kernel_rfl) (fun _ _ _ _ h => h) (by rfl) hHeld ?_
        simp only [List.setIfInBounds_toArray, List.set_cons_zero, List.set_cons_succ]
        refine takeY (i := 23) (v := .bool true) 40 rfl rfl (by kernel_rfl) (by kernel_rfl) (by kernel_rfl) (fun _ _ _ _ h => h) (by rfl) (fun w hS => by simp [execOp, go_sem, *]) hHeld ?_
        simp only [List.setIfInBounds_toArray, List.set_cons_zero, List.set_cons_succ]
        refine takeY (i := 24) (v := .bool true) 41 rfl rfl (by kernel_rfl) (by kernel_rfl) (by kernel_rfl) (fun _ _ _ _ h => h) (by rfl) (fun w hS => by simp [execOp, go_sem, *]) hHeld ?_
        simp only [List.setIfInBounds_toArray, List.set_cons_zero, List.set_cons_succ]
        refine takeN (i := 25) 42 rfl rfl (by kernel_rfl) (by kernel_rfl) (by kernel_rfl) (fun _ _ _ _ h => h) (by rfl) hHeld ?_
        simp only [List.setIfInBounds_toArray, List.set_cons_zero, List.set_cons_succ]
        refine takeN (i := 26) 43 rfl rfl (by kernel_rfl) (by kernel_rfl) (by kernel_rfl) (fun _ _ _ _ h => h) (by rfl) hHeld ?_
        simp only [List.setIfInBounds_toArray, List.set_cons_zero, List.set_cons_succ]
        refine takeN (i := 27) 44 rfl rfl (by kernel_rfl) (by kernel_rfl) (by kernel_rfl) (fun _ _ _ _ h => h) (by rfl) hHeld ?_
        simp only [List.setIfInBounds_toArray, List.set_cons_zero, List.set_cons_succ]
        refine takeN (i := 28) 45 rfl rfl (by kernel_rfl) (by kernel_rfl) (by kernel_rfl) (fun _ _ _ _ h => h) (by rfl) hHeld ?_
        simp only [List.setIfInBounds_toArray, List.set_cons_zero, List.set_cons_succ]
        refine takeN (i := 29) 46 rfl rfl (by kernel_rfl) (by kernel_rfl) (by kernel_rfl) (fun _ _ _ _ h => h) (by rfl) hHeld ?_
        simp only [List.setIfInBounds_toArray, List.set_cons_zero, List.set_cons_succ]
        refine takeN (i := 30) 47 rfl rfl (by kernel_rfl) (by kernel_rfl) (by kernel_rfl) (fun _ _ _ _ h => h) (by rfl) hHeld ?_
        simp only [List.setIfInBounds_toArray, List.set_cons_zero, List.set_cons_succ]
        refine takeN (i := 31) 48 rfl rfl (by kernel_rfl) (by kernel_rfl) (by kernel_rfl) (fun _ _ _ _ h => h) (by rfl) hHeld ?_
        simp only [List.setIfInBounds_toArray, List.set_cons_zero, List.set_cons_succ]
        refine takeN (i := 32) 49 rfl rfl (by kernel_rfl) (by kernel_rfl) (by kernel_rfl) (fun _ _ _ _ h => h) (by rfl) hHeld ?_
        simp only [List.setIfInBounds_toArray, List.set_cons_zero, List.set_cons_succ]
        refine takeN (i := 33) 50 rfl rfl (by kernel_rfl) (by kernel_rfl) (by kernel_rfl) (fun _ _ _ _ h => h) (by rfl) hHeld ?_
        simp only [List.setIfInBounds_toArray, List.set_cons_zero, List.set_cons_succ]
        refine takeN (i := 34) 51 rfl rfl (by kernel_rfl) (by kernel_rfl) (by kernel_rfl) (fun _ _ _ _ h => h) (by rfl) hHeld ?_
        simp only [List.setIfInBounds_toArray, List.set_cons_zero, List.set_cons_succ]
        refine takeN (i := 35) 52 rfl rfl (by kernel_rfl) (by kernel_rfl) (by kernel_rfl) (fun _ _ _ _ h => h) (by rfl) hHeld ?_
        simp only [List.setIfInBounds_toArray, List.set_cons_zero, List.set_cons_succ]
        refine takeN (i := 36) 53 rfl rfl (by kernel_rfl) (by kernel_rfl) (by kernel_rfl) (fun _ _ _ _ h => h) (by rfl) hHeld ?_
        simp only [List.setIfInBounds_toArray, List.set_cons_zero, List.set_cons_succ]
        refine takeY (i := 37) (v := .bool true) 54 rfl rfl (by kernel_rfl) (by kernel_rfl) (by kernel_rfl) (fun _ _ _ _ h => h) (by rfl) (fun w hS => by simp [execOp, go_sem, *]) hHeld ?_
        simp only [List.setIfInBounds_toArray, List.set_cons_zero, List.set_cons_succ]
        refine wpAnyH_done (by kernel_rfl) ?_ _
        clear hHeld
        go_wp2_with fail
        go_ret
        exact ⟨false, rfl, ⟨fun h => (by cases h), fun h => absurd (h.2 k hlt) fun e => hop0 (by rw [← unhide HU, ← unhide HX, e])⟩, (unhide HB).drew⟩
      have hop : (u.op != x.op) = false := by simpa using hop0
      cases hnm0 : u.nm.toList == x.nm.toList
      case false =>
        have hnm : ¬ u.nm.toList = x.nm.toList := by simpa using hnm0
        go_wp2_with fail
        refine wp_region_held_drew (S := fun w' => NCel w' b1 (o1 + k * 5) u ∧ NCel w' b2 (o2 + k * 5) x) (by kernel_rfl) ⟨unhide HC1, unhide HC2⟩ (fun hHeld => ?_)
        refine takeY (i := 0) (v := .slice (some ⟨b1, o1, none⟩) n ca) 17 rfl rfl (by kernel_rfl) (by kernel_rfl) (by kernel_rfl) (fun _ _ _ _ h => h) (by rfl) (fun w hS => by simp [execOp, go_sem, *]) hHeld ?_
        simp only [List.setIfInBounds_toArray, List.set_cons_zero, List.set_cons_succ]
        refine takeY (i := 1) (v := .int .i64 k) 18 rfl rfl (by kernel_rfl) (by kernel_rfl) (by kernel_rfl) (fun _ _ _ _ h => h) (by rfl) (fun w hS => by simp [execOp, go_sem, *]) hHeld ?_
        simp only [List.setIfInBounds_toArray, List.set_cons_zero, List.set_cons_succ]
        refine takeY (i := 2) (v := .pointer (some ⟨b1, o1 + k * 5, none⟩)) 19 rfl rfl (by kernel_rfl) (by kernel_rfl) (by kernel_rfl) (fun _ _ _ _ h => h) (by rfl) (fun w hS => by simp [execOp, go_sem, *]) hHeld ?_
        simp only [List.setIfInBounds_toArray, List.set_cons_zero, List.set_cons_succ]
        refine takeY (i := 3) (v := .pointer (some ⟨b1, o1 + k * 5, none⟩)) 20 rfl rfl (by kernel_rfl) (by kernel_rfl) (by kernel_rfl) (fun _ _ _ _ h => h) (by rfl) (fun w hS => by simp [execOp, go_sem, *]) hHeld ?_
        simp only [List.setIfInBounds_toArray, List.set_cons_zero, List.set_cons_succ]
        refine takeY (i := 4) (v := .int .i64 u.op) 21 rfl rfl (by kernel_rfl) (by kernel_rfl) (by kernel_rfl) (fun _ _ _ _ h => h) (by rfl) (fun w hS => by obtain ⟨⟨-, q0, q1, q2, q3, q4⟩, -⟩ := hS; simp [execOp, go_sem, q0]) hHeld ?_
        simp only [List.setIfInBounds_toArray, List.set_cons_zero, List.set_cons_succ]
        refine takeY (i := 5) (v := .slice (some ⟨b2, o2, none⟩) n cb) 22 rfl rfl (by kernel_rfl) (by kernel_rfl) (by kernel_rfl) (fun _ _ _ _ h => h) (by rfl) (fun w hS => by simp [execOp, go_sem, *]) hHeld ?_
        simp only [List.setIfInBounds_toArray, List.set_cons_zero, List.set_cons_succ]
        refine takeY (i := 6) (v := .int .i64 k) 23 rfl rfl (by kernel_rfl) (by kernel_rfl) (by kernel_rfl) (fun _ _ _ _ h => h) (by rfl) (fun w hS => by simp [execOp, go_sem, *]) hHeld ?_
        simp only [List.setIfInBounds_toArray, List.set_cons_zero, List.set_cons_succ]
        refine takeY (i := 7) (v := .pointer (some ⟨b2, o2 + k * 5, none⟩)) 24 rfl rfl (by kernel_rfl) (by kernel_rfl) (by kernel_rfl) (fun _ _ _ _ h => h) (by rfl) (fun w hS => by simp [execOp, go_sem, *]) hHeld ?_
        simp only [List.setIfInBounds_toArray, List.set_cons_zero, List.set_cons_succ]
        refine takeY (i := 8) (v := .pointer (some ⟨b2, o2 + k * 5, none⟩)) 25 rfl rfl (by kernel_rfl) (by kernel_rfl) (by kernel_rfl) (fun _ _ _ _ h => h) (by rfl) (fun w hS => by simp [execOp, go_sem, *]) hHeld ?_
        simp only [List.setIfInBounds_toArray, List.set_cons_zero, List.set_cons_succ]
        refine takeY (i := 9) (v := .int .i64 x.op) 26 rfl rfl (by kernel_rfl) (by kernel_rfl) (by kernel_rfl) (fun _ _ _ _ h => h) (by rfl) (fun w hS => by obtain ⟨-, ⟨-, q0, q1, q2, q3, q4⟩⟩ := hS; simp [execOp, go_sem, q0]) hHeld ?_
        simp only [List.setIfInBounds_toArray, List.set_cons_zero, List.set_cons_succ]
        refine takeY (i := 10) (v := .bool false) 27 rfl rfl (by kernel_rfl) (by kernel_rfl) (by kernel_rfl) (fun _ _ _ _ h => h) (by rfl) (fun w hS => by simp [execOp, go_sem, hop]) hHeld ?_
        simp only [List.setIfInBounds_toArray, List.set_cons_zero, List.set_cons_succ]
        refine takeY (i := 11) (v := .bool false) 28 rfl rfl (by kernel_rfl) (by kernel_rfl) (by kernel_rfl) (fun _ _ _ _ h => h) (by rfl) (fun w hS => by simp [execOp, go_sem, *]) hHeld ?_
        simp only [List.setIfInBounds_toArray, List.set_cons_zero, List.set_cons_succ]
        refine takeY (i := 12) (v := .slice (some ⟨b1, o1, none⟩) n ca) 29 rfl rfl (by kernel_rfl) (by kernel_rfl) (by kernel_rfl) (fun _ _ _ _ h => h) (by rfl) (fun w hS => by simp [execOp, go_sem, *]) hHeld ?_
        simp only [List.setIfInBounds_toArray, List.set_cons_zero, List.set_cons_succ]
        refine takeY (i := 13) (v := .int .i64 k) 30 rfl rfl (by kernel_rfl) (by kernel_rfl) (by kernel_rfl) (fun _ _ _ _ h => h) (by rfl) (fun w hS => by simp [execOp, go_sem, *]) hHeld ?_
        simp only [List.setIfInBounds_toArray, List.set_cons_zero, List.set_cons_succ]
        refine takeY (i := 14) (v := .pointer (some ⟨b1, o1 + k * 5, none⟩)) 31 rfl rfl (by kernel_rfl) (by kernel_rfl) (by kernel_rfl) (fun _ _ _ _ h => h) (by rfl) (fun w hS => by simp [execOp, go_sem, *]) hHeld ?_
        simp only [List.setIfInBounds_toArray, List.set_cons_zero, List.set_cons_succ]
        refine takeY (i := 15) (v := .pointer (some ⟨b1, o1 + k * 5 + 4, none⟩)) 32 rfl rfl (by kernel_rfl) (by kernel_rfl) (by kernel_rfl) (fun _ _ _ _ h => h) (by rfl) (fun w hS => by simp [execOp, go_sem, *]) hHeld ?_
        simp only [List.setIfInBounds_toArray, List.set_cons_zero, List.set_cons_succ]
        refine takeY (i := 16) (v := .string u.nm) 33 rfl rfl (by kernel_rfl) (by kernel_rfl) (by kernel_rfl) (fun _ _ _ _ h => h) (by rfl) (fun w hS => by obtain ⟨⟨-, q0, q1, q2, q3, q4⟩, -⟩ := hS; simp [execOp, go_sem, q4]) hHeld ?_
        simp only [List.setIfInBounds_toArray, List.set_cons_zero, List.set_cons_succ]
        refine takeY (i := 17) (v := .slice (some ⟨b2, o2, none⟩) n cb) 34 rfl rfl (by kernel_rfl) (by kernel_rfl) (by kernel_rfl) (fun _ _ _ _ h => h) (by rfl) (fun w hS => by simp [execOp, go_sem, *]) hHeld ?_
        simp only [List.setIfInBounds_toArray, List.set_cons_zero, List.set_cons_succ]
        refine takeY (i := 18) (v := .int .i64 k) 35 rfl rfl (by kernel_rfl) (by kernel_rfl) (by kernel_rfl) (fun _ _ _ _ h => h) (by rfl) (fun w hS => by simp [execOp, go_sem, *]) hHeld ?_
        simp only [List.setIfInBounds_toArray, List.set_cons_zero, List.set_cons_succ]
        refine takeY (i := 19) (v := .pointer (some ⟨b2, o2 + k * 5, none⟩)) 36 rfl rfl (by kernel_rfl) (by kernel_rfl) (by kernel_rfl) (fun _ _ _ _ h => h) (by rfl) (fun w hS => by simp [execOp, go_sem, *]) hHeld ?_
        simp only [List.setIfInBounds_toArray, List.set_cons_zero, List.set_cons_succ]
        refine takeY (i := 20) (v := .pointer (some ⟨b2, o2 + k * 5 + 4, none⟩)) 37 rfl rfl (by kernel_rfl) (by kernel_rfl) (by kernel_rfl) (fun _ _ _ _ h => h) (by rfl) (fun w hS => by simp [execOp, go_sem, *]) hHeld ?_
        simp only [List.setIfInBounds_toArray, List.set_cons_zero, List.set_cons_succ]
        refine takeY (i := 21) (v := .string x.nm) 38 rfl rfl (by kernel_rfl) (by kernel_rfl) (by kernel_rfl) (fun _ _ _ _ h => h) (by rfl) (fun w hS => by obtain ⟨-, ⟨-, q0, q1, q2, q3, q4⟩⟩ := hS; simp [execOp, go_sem, q4]) hHeld ?_
        simp only [List.setIfInBounds_toArray, List.set_cons_zero, List.set_cons_succ]
        refine takeY (i := 22) (v := .bool true) 39 rfl rfl (by kernel_rfl) (by kernel_rfl) (by kernel_rfl) (fun _ _ _ _ h => h) (by rfl) (fun w hS => by simp [execOp, go_sem, hnm]) hHeld ?_
        simp only [List.setIfInBounds_toArray, List.set_cons_zero, List.set_cons_succ]
        refine takeY (i := 23) (v := .bool true) 40 rfl rfl (by kernel_rfl) (by kernel_rfl) (by kernel_rfl) (fun _ _ _ _ h => h) (by rfl) (fun w hS => by simp [execOp, go_sem, *]) hHeld ?_
        simp only [List.setIfInBounds_toArray, List.set_cons_zero, List.set_cons_succ]
        refine takeY (i := 24) (v := .bool true) 41 rfl rfl (by kernel_rfl) (by kernel_rfl) (by kernel_rfl) (fun _ _ _ _ h => h) (by rfl) (fun w hS => by simp [execOp, go_sem, *]) hHeld ?_
        simp only [List.setIfInBounds_toArray, List.set_cons_zero, List.set_cons_succ]
        refine takeN (i := 25) 42 rfl rfl (by kernel_rfl) (by kernel_rfl) (by kernel_rfl) (fun _ _ _ _ h => h) (by rfl) hHeld ?_
        simp only [List.setIfInBounds_toArray, List.set_cons_zero, List.set_cons_succ]
        refine takeN (i := 26) 43 rfl rfl (by kernel_rfl) (by kernel_rfl) (by kernel_rfl) (fun _ _ _ _ h => h) (by rfl) hHeld ?_
        simp only [List.setIfInBounds_toArray, List.set_cons_zero, List.set_cons_succ]
        refine takeN (i := 27) 44 rfl rfl (by kernel_rfl) (by kernel_rfl) (by kernel_rfl) (fun _ _ _ _ h => h) (by rfl) hHeld ?_
        simp only [List.setIfInBounds_toArray, List.set_cons_zero, List.set_cons_succ]
        refine takeN (i := 28) 45 rfl rfl (by kernel_rfl) (by kernel_rfl) (by kernel_rfl) (fun _ _ _ _ h => h) (by rfl) hHeld ?_
        simp only [List.setIfInBounds_toArray, List.set_cons_zero, List.set_cons_succ]
        refine takeN (i := 29) 46 rfl rfl (by kernel_rfl) (by kernel_rfl) (by kernel_rfl) (fun _ _ _ _ h => h) (by rfl) hHeld ?_
        simp only [List.setIfInBounds_toArray, List.set_cons_zero, List.set_cons_succ]
        refine takeN (i := 30) 47 rfl rfl (by kernel_rfl) (by kernel_rfl) (by kernel_rfl) (fun _ _ _ _ h => h) (by rfl) hHeld ?_
        simp only [List.setIfInBounds_toArray, List.set_cons_zero, List.set_cons_succ]
        refine takeN (i := 31) 48 rfl rfl (by kernel_rfl) (by kernel_rfl) (by kernel_rfl) (fun _ _ _ _ h => h) (by rfl) hHeld ?_
        simp only [List.setIfInBounds_toArray, List.set_cons_zero, List.set_cons_succ]
        refine takeN (i := 32) 49 rfl rfl (by kernel_rfl) (by kernel_rfl) (by kernel_rfl) (fun _ _ _ _ h => h) (by rfl) hHeld ?_
        simp only [List.setIfInBounds_toArray, List.set_cons_zero, List.set_cons_succ]
        refine takeN (i := 33) 50 rfl rfl (by kernel_rfl) (by kernel_rfl) (by kernel_rfl) (fun _ _ _ _ h => h) (by rfl) hHeld ?_
        simp only [List.setIfInBounds_toArray, List.set_cons_zero, List.set_cons_succ]
        refine takeN (i := 34) 51 rfl rfl (by kernel_rfl) (by kernel_rfl) (by kernel_rfl) (fun _ _ _ _ h => h) (by rfl) hHeld ?_
        simp only [List.setIfInBounds_toArray, List.set_cons_zero, List.set_cons_succ]
        refine takeN (i := 35) 52 rfl rfl (by kernel_rfl) (by kernel_rfl) (by kernel_rfl) (fun _ _ _ _ h => h) (by rfl) hHeld ?_
        simp only [List.setIfInBounds_toArray, List.set_cons_zero, List.set_cons_succ]
        refine takeN (i := 36) 53 rfl rfl (by kernel_rfl) (by kernel_rfl) (by kernel_rfl) (fun _ _ _ _ h => h) (by rfl) hHeld ?_
        simp only [List.setIfInBounds_toArray, List.set_cons_zero, List.set_cons_succ]
        refine takeY (i := 37) (v := .bool true) 54 rfl rfl (by kernel_rfl) (by kernel_rfl) (by kernel_rfl) (fun _ _ _ _ h => h) (by rfl) (fun w hS => by simp [execOp, go_sem, *]) hHeld ?_
        simp only [List.setIfInBounds_toArray, List.set_cons_zero, List.set_cons_succ]
        refine wpAnyH_done (by kernel_rfl) ?_ _
        clear hHeld
        go_wp2_with fail
        go_ret
        exact ⟨false, rfl, ⟨fun h => (by cases h), fun h => absurd (h.2 k hlt) fun e => by rw [unhide HU, unhide HX] at e; rw [e] at hnm0; simp at hnm0⟩, (unhide HB).drew⟩
      have hnm : u.nm.toList = x.nm.toList := by simpa using hnm0
      have HV := hide fun w => wSameValue_any u.v.k u.v.n x.v.k x.v.n u.v.s x.v.s w
      obtain ⟨q, hq⟩ : ∃ q, (decide (u.v.k = x.v.k) && (decide (u.v.n = x.v.n) && (u.v.s.toList == x.v.s.toList))) = q := ⟨_, rfl⟩
      rw [hq] at HV
      have HQ : Hid (q = true ↔ u = x) := hide (by
        rw [← hq]
        constructor
        · intro h
          simp only [Bool.and_eq_true, decide_eq_true_eq] at h
          obtain ⟨uo, ⟨uk, un, us⟩, um⟩ := u
          obtain ⟨xo, ⟨xk, xn, xs⟩, xm⟩ := x
          obtain ⟨q1, q2, q3⟩ := h
          simp only at *
          rw [hop0, q1, q2, text_eq q3, text_eq hnm0]
        · intro h; rw [h]; simp)
      clear hq
      go_wp2_with fail
      refine wp_region_held_drew (S := fun w' => NCel w' b1 (o1 + k * 5) u ∧ NCel w' b2 (o2 + k * 5) x) (by kernel_rfl) ⟨unhide HC1, unhide HC2⟩ (fun hHeld => ?_)
      refine takeY (i := 0) (v := .slice (some ⟨b1, o1, none⟩) n ca) 17 rfl rfl (by kernel_rfl) (by kernel_rfl) (by kernel_rfl) (fun _ _ _ _ h => h) (by rfl) (fun w hS => by simp [execOp, go_sem, *]) hHeld ?_
      simp only [List.setIfInBounds_toArray, List.set_cons_zero, List.set_cons_succ]
      refine takeY (i := 1) (v := .int .i64 k) 18 rfl rfl (by kernel_rfl) (by kernel_rfl) (by kernel_rfl) (fun _ _ _ _ h => h) (by rfl) (fun w hS => by simp [execOp, go_sem, *]) hHeld ?_
      simp only [List.setIfInBounds_toArray, List.set_cons_zero, List.set_cons_succ]
      refine takeY (i := 2) (v := .pointer (some ⟨b1, o1 + k * 5, none⟩)) 19 rfl rfl (by kernel_rfl) (by kernel_rfl) (by kernel_rfl) (fun _ _ _ _ h => h) (by rfl) (fun w hS => by simp [execOp, go_sem, *]) hHeld ?_
      simp only [List.setIfInBounds_toArray, List.set_cons_zero, List.set_cons_succ]
      refine takeY (i := 3) (v := .pointer (some ⟨b1, o1 + k * 5, none⟩)) 20 rfl rfl (by kernel_rfl) (by kernel_rfl) (by kernel_rfl) (fun _ _ _ _ h => h) (by rfl) (fun w hS => by simp [execOp, go_sem, *]) hHeld ?_
      simp only [List.setIfInBounds_toArray, List.set_cons_zero, List.set_cons_succ]
      refine takeY (i := 4) (v := .int .i64 u.op) 21 rfl rfl (by kernel_rfl) (by kernel_rfl) (by kernel_rfl) (fun _ _ _ _ h => h) (by rfl) (fun w hS => by obtain ⟨⟨-, q0, q1, q2, q3, q4⟩, -⟩ := hS; simp [execOp, go_sem, q0]) hHeld ?_
      simp only [List.setIfInBounds_toArray, List.set_cons_zero, List.set_cons_succ]
      refine takeY (i := 5) (v := .slice (some ⟨b2, o2, none⟩) n cb) 22 rfl rfl (by kernel_rfl) (by kernel_rfl) (by kernel_rfl) (fun _ _ _ _ h => h) (by rfl) (fun w hS => by simp [execOp, go_sem, *]) hHeld ?_
      simp only [List.setIfInBounds_toArray, List.set_cons_zero, List.set_cons_succ]
      refine takeY (i := 6) (v := .int .i64 k) 23 rfl rfl (by kernel_rfl) (by kernel_rfl) (by kernel_rfl) (fun _ _ _ _ h => h) (by rfl) (fun w hS => by simp [execOp, go_sem, *]) hHeld ?_
      simp only [List.setIfInBounds_toArray, List.set_cons_zero, List.set_cons_succ]
      refine takeY (i := 7) (v := .pointer (some ⟨b2, o2 + k * 5, none⟩)) 24 rfl rfl (by kernel_rfl) (by kernel_rfl) (by kernel_rfl) (fun _ _ _ _ h => h) (by rfl) (fun w hS => by simp [execOp, go_sem, *]) hHeld ?_
      simp only [List.setIfInBounds_toArray, List.set_cons_zero, List.set_cons_succ]
      refine takeY (i := 8) (v := .pointer (some ⟨b2, o2 + k * 5, none⟩)) 25 rfl rfl (by kernel_rfl) (by kernel_rfl) (by kernel_rfl) (fun _ _ _ _ h => h) (by rfl) (fun w hS => by simp [execOp, go_sem, *]) hHeld ?_
      simp only [List.setIfInBounds_toArray, List.set_cons_zero, List.set_cons_succ]
      refine takeY (i := 9) (v := .int .i64 x.op) 26 rfl rfl (by kernel_rfl) (by kernel_rfl) (by kernel_rfl) (fun _ _ _ _ h => h) (by rfl) (fun w hS => by obtain ⟨-, ⟨-, q0, q1, q2, q3, q4⟩⟩ := hS; simp [execOp, go_sem, q0]) hHeld ?_
      simp only [List.setIfInBounds_toArray, List.set_cons_zero, List.set_cons_succ]
      refine takeY (i := 10) (v := .bool false) 27 rfl rfl (by kernel_rfl) (by kernel_rfl) (by kernel_rfl) (fun _ _ _ _ h => h) (by rfl) (fun w hS => by simp [execOp, go_sem, hop]) hHeld ?_
      simp only [List.setIfInBounds_toArray, List.set_cons_zero, List.set_cons_succ]
      refine takeY (i := 11) (v := .bool false) 28 rfl rfl (by kernel_rfl) (by kernel_rfl) (by kernel_rfl) (fun _ _ _ _ h => h) (by rfl) (fun w hS => by simp [execOp, go_sem, *]) hHeld ?_
      simp only [List.setIfInBounds_toArray, List.set_cons_zero, List.set_cons_succ]
      refine takeY (i := 12) (v := .slice (some ⟨b1, o1, none⟩) n ca) 29 rfl rfl (by kernel_rfl) (by kernel_rfl) (by kernel_rfl) (fun _ _ _ _ h => h) (by rfl) (fun w hS => by simp [execOp, go_sem, *]) hHeld ?_
      simp only [List.setIfInBounds_toArray, List.set_cons_zero, List.set_cons_succ]
      refine takeY (i := 13) (v := .int .i64 k) 30 rfl rfl (by kernel_rfl) (by kernel_rfl) (by kernel_rfl) (fun _ _ _ _ h => h) (by rfl) (fun w hS => by simp [execOp, go_sem, *]) hHeld ?_
      simp only [List.setIfInBounds_toArray, List.set_cons_zero, List.set_cons_succ]
      refine takeY (i := 14) (v := .pointer (some ⟨b1, o1 + k * 5, none⟩)) 31 rfl rfl (by kernel_rfl) (by kernel_rfl) (by kernel_rfl) (fun _ _ _ _ h => h) (by rfl) (fun w hS => by simp [execOp, go_sem, *]) hHeld ?_
      simp only [List.setIfInBounds_toArray, List.set_cons_zero, List.set_cons_succ]
      refine takeY (i := 15) (v := .pointer (some ⟨b1, o1 + k * 5 + 4, none⟩)) 32 rfl rfl (by kernel_rfl) (by kernel_rfl) (by kernel_rfl) (fun _ _ _ _ h => h) (by rfl) (fun w hS => by simp [execOp, go_sem, *]) hHeld ?_
      simp only [List.setIfInBounds_toArray, List.set_cons_zero, List.set_cons_succ]
      refine takeY (i := 16) (v := .string u.nm) 33 rfl rfl (by kernel_rfl) (by kernel_rfl) (by kernel_rfl) (fun _ _ _ _ h => h) (by rfl) (fun w hS => by obtain ⟨⟨-, q0, q1, q2, q3, q4⟩, -⟩ := hS; simp [execOp, go_sem, q4]) hHeld ?_
      simp only [List.setIfInBounds_toArray, List.set_cons_zero, List.set_cons_succ]
      refine takeY (i := 17) (v := .slice (some ⟨b2, o2, none⟩) n cb) 34 rfl rfl (by kernel_rfl) (by kernel_rfl) (by kernel_rfl) (fun _ _ _ _ h => h) (by rfl) (fun w hS => by simp [execOp, go_sem, *]) hHeld ?_
      simp only [List.setIfInBounds_toArray, List.set_cons_zero, List.set_cons_succ]
      refine takeY (i := 18) (v := .int .i64 k) 35 rfl rfl (by kernel_rfl) (by kernel_rfl) (by kernel_rfl) (fun _ _ _ _ h => h) (by rfl) (fun w hS => by simp [execOp, go_sem, *]) hHeld ?_
      simp only [List.setIfInBounds_toArray, List.set_cons_zero, List.set_cons_succ]
      refine takeY (i := 19) (v := .pointer (some ⟨b2, o2 + k * 5, none⟩)) 36 rfl rfl (by kernel_rfl) (by kernel_rfl) (by kernel_rfl) (fun _ _ _ _ h => h) (by rfl) (fun w hS => by simp [execOp, go_sem, *]) hHeld ?_
      simp only [List.setIfInBounds_toArray, List.set_cons_zero, List.set_cons_succ]
      refine takeY (i := 20) (v := .pointer (some ⟨b2, o2 + k * 5 + 4, none⟩)) 37 rfl rfl (by kernel_rfl) (by kernel_rfl) (by kernel_rfl) (fun _ _ _ _ h => h) (by rfl) (fun w hS => by simp [execOp, go_sem, *]) hHeld ?_
      simp only [List.setIfInBounds_toArray, List.set_cons_zero, List.set_cons_succ]
      refine takeY (i := 21) (v := .string x.nm) 38 rfl rfl (by kernel_rfl) (by kernel_rfl) (by kernel_rfl) (fun _ _ _ _ h => h) (by rfl) (fun w hS => by obtain ⟨-, ⟨-, q0, q1, q2, q3, q4⟩⟩ := hS; simp [execOp, go_sem, q4]) hHeld ?_
      simp only [List.setIfInBounds_toArray, List.set_cons_zero, List.set_cons_succ]
      refine takeY (i := 22) (v := .bool false) 39 rfl rfl (by kernel_rfl) (by kernel_rfl) (by kernel_rfl) (fun _ _ _ _ h => h) (by rfl) (fun w hS => by simp [execOp, go_sem, hnm]) hHeld ?_
      simp only [List.setIfInBounds_toArray, List.set_cons_zero, List.set_cons_succ]
      refine takeY (i := 23) (v := .bool false) 40 rfl rfl (by kernel_rfl) (by kernel_rfl) (by kernel_rfl) (fun _ _ _ _ h => h) (by rfl) (fun w hS => by simp [execOp, go_sem, *]) hHeld ?_
      simp only [List.setIfInBounds_toArray, List.set_cons_zero, List.set_cons_succ]
      refine takeY (i := 24) (v := .bool false) 41 rfl rfl (by kernel_rfl) (by kernel_rfl) (by kernel_rfl) (fun _ _ _ _ h => h) (by rfl) (fun w hS => by simp [execOp, go_sem, *]) hHeld ?_
      simp only [List.setIfInBounds_toArray, List.set_cons_zero, List.set_cons_succ]
      refine takeY (i := 25) (v := .slice (some ⟨b1, o1, none⟩) n ca) 42 rfl rfl (by kernel_rfl) (by kernel_rfl) (by kernel_rfl) (fun _ _ _ _ h => h) (by rfl) (fun w hS => by simp [execOp, go_sem, *]) hHeld ?_
      simp only [List.setIfInBounds_toArray, List.set_cons_zero, List.set_cons_succ]
      refine takeY (i := 26) (v := .int .i64 k) 43 rfl rfl (by kernel_rfl) (by kernel_rfl) (by kernel_rfl) (fun _ _ _ _ h => h) (by rfl) (fun w hS => by simp [execOp, go_sem, *]) hHeld ?_
      simp only [List.setIfInBounds_toArray, List.set_cons_zero, List.set_cons_succ]
      refine takeY (i := 27) (v := .pointer (some ⟨b1, o1 + k * 5, none⟩)) 44 rfl rfl (by kernel_rfl) (by kernel_rfl) (by kernel_rfl) (fun _ _ _ _ h => h) (by rfl) (fun w hS => by simp [execOp, go_sem, *]) hHeld ?_
      simp only [List.setIfInBounds_toArray, List.set_cons_zero, List.set_cons_succ]
      refine takeY (i := 28) (v := .pointer (some ⟨b1, o1 + k * 5 + 1, none⟩)) 45 rfl rfl (by kernel_rfl) (by kernel_rfl) (by kernel_rfl) (fun _ _ _ _ h => h) (by rfl) (fun w hS => by simp [execOp, go_sem, *]) hHeld ?_
      simp only [List.setIfInBounds_toArray, List.set_cons_zero, List.set_cons_succ]
      refine takeY (i := 29) (v := .agg #[.int .i64 u.v.k, .int .i64 u.v.n, .string u.v.s]) 46 rfl rfl (by kernel_rfl) (by kernel_rfl) (by kernel_rfl) (fun _ _ _ _ h => h) (by rfl) (fun w hS => by obtain ⟨⟨-, q0, q1, q2, q3, q4⟩, -⟩ := hS; simp [execOp, go_sem, q1, q2, q3]) hHeld ?_
      simp only [List.setIfInBounds_toArray, List.set_cons_zero, List.set_cons_succ]
      refine takeY (i := 30) (v := .slice (some ⟨b2, o2, none⟩) n cb) 47 rfl rfl (by kernel_rfl) (by kernel_rfl) (by kernel_rfl) (fun _ _ _ _ h => h) (by rfl) (fun w hS => by simp [execOp, go_sem, *]) hHeld ?_
      simp only [List.setIfInBounds_toArray, List.set_cons_zero, List.set_cons_succ]
      refine takeY (i := 31) (v := .int .i64 k) 48 rfl rfl (by kernel_rfl) (by kernel_rfl) (by kernel_rfl) (fun _ _ _ _ h => h) (by rfl) (fun w hS => by simp [execOp, go_sem, *]) hHeld ?_
      simp only [List.setIfInBounds_toArray, List.set_cons_zero, List.set_cons_succ]
      refine takeY (i := 32) (v := .pointer (some ⟨b2, o2 + k * 5, none⟩)) 49 rfl rfl (by kernel_rfl) (by kernel_rfl) (by kernel_rfl) (fun _ _ _ _ h => h) (by rfl) (fun w hS => by simp [execOp, go_sem, *]) hHeld ?_
      simp only [List.setIfInBounds_toArray, List.set_cons_zero, List.set_cons_succ]
      refine takeY (i := 33) (v := .pointer (some ⟨b2, o2 + k * 5 + 1, none⟩)) 50 rfl rfl (by kernel_rfl) (by kernel_rfl) (by kernel_rfl) (fun _ _ _ _ h => h) (by rfl) (fun w hS => by simp [execOp, go_sem, *]) hHeld ?_
      simp only [List.setIfInBounds_toArray, List.set_cons_zero, List.set_cons_succ]
      refine takeY (i := 34) (v := .agg #[.int .i64 x.v.k, .int .i64 x.v.n, .string x.v.s]) 51 rfl rfl (by kernel_rfl) (by kernel_rfl) (by kernel_rfl) (fun _ _ _ _ h => h) (by rfl) (fun w hS => by obtain ⟨-, ⟨-, q0, q1, q2, q3, q4⟩⟩ := hS; simp [execOp, go_sem, q1, q2, q3]) hHeld ?_
      simp only [List.setIfInBounds_toArray, List.set_cons_zero, List.set_cons_succ]
      refine callY (i := 35) (f := 36) (args := #[.agg #[.int .i64 u.v.k, .int .i64 u.v.n, .string u.v.s], .agg #[.int .i64 x.v.k, .int .i64 x.v.n, .string x.v.s]]) (R := fun v wz => v = .bool q ∧ Below wr.heap.size wr wz) 52 rfl rfl (by rfl) (by kernel_rfl) ?hrun1 ((unhide HV _).mono fun e w6 ⟨he, hb⟩ => ⟨_, he, rfl, below_of_drew hb⟩) ?_
      case hrun1 => simp [execOp, go_sem]
      rintro v w6 ⟨rfl, hb6⟩
      have HB6 := hide ((unhide HB).trans (hb6.mono (unhide HB).size))
      replace hHeld : NCel w6 b1 (o1 + k * 5) u ∧ NCel w6 b2 (o2 + k * 5) x := ⟨(unhide HC1).mono hb6, (unhide HC2).mono hb6⟩
      clear hb6
      refine ⟨hHeld, ?_⟩
      simp only [List.setIfInBounds_toArray, List.set_cons_zero, List.set_cons_succ]
      refine takeY (i := 36) (v := .bool !q) 53 rfl rfl (by kernel_rfl) (by kernel_rfl) (by kernel_rfl) (fun _ _ _ _ h => h) (by rfl) (fun w hS => by simp [execOp, go_sem, *]) hHeld ?_
      simp only [List.setIfInBounds_toArray, List.set_cons_zero, List.set_cons_succ]
      refine takeY (i := 37) (v := .bool !q) 54 rfl rfl (by kernel_rfl) (by kernel_rfl) (by kernel_rfl) (fun _ _ _ _ h => h) (by rfl) (fun w hS => by simp [execOp, go_sem, *]) hHeld ?_
      simp only [List.setIfInBounds_toArray, List.set_cons_zero, List.set_cons_succ]
      refine wpAnyH_done (by kernel_rfl) ?_ _
      clear hHeld
      cases q
      · go_wp2_with fail
        go_ret
        exact ⟨false, rfl, ⟨fun h => (by cases h), fun h => by have := (unhide HQ).2 (by rw [← unhide HU, ← unhide HX]; exact h.2 k hlt); cases this⟩, unhide HB6⟩
      · go_wp2_with fail
        go_roundw
        case rel => exact ⟨k + 1, by omega, by go_num, fun j hj => (if h : j < k then unhide HS j h else (by
          have hj' : j = k := by omega
          rw [hj', unhide HU, unhide HX]; exact (unhide HQ).1 rfl)), unhide HB6⟩
        case measure => simp [intOf]; omega
    · obtain rfl : n = k := by omega
      clear hB
      go_wp2_with fail
      go_ret
      exact ⟨true, rfl, ⟨fun _ => ⟨trivial, unhide HS⟩, fun _ => rfl⟩, unhide HB⟩
end Go.Proofs.YtjgngbmkpiihgaaGreatDoor

/- The law's own wNameByte. -/
namespace Go.Proofs.YtjgngbmkpiihgaaGreatDoor
open Go Go.RowKit

set_option maxHeartbeats 1000000 in
theorem wNameByte_any (b : Nat) (w : World) : Calls Tryz.prog 10 #[.int .u8 b] w fun e w' => e = .returned (.bool (nameB b)) ∧ w' = w := by
  have hn : nameB b = decide ((97 ≤ b ∧ b ≤ 122) ∨ (48 ≤ b ∧ b ≤ 57) ∨ b = 95) := by
    unfold nameB small digitB
    rw [Bool.eq_iff_iff]
    simp [or_assoc]
  rw [hn]
  clear hn
  by_cases h1 : 97 ≤ b
  · by_cases h2 : b ≤ 122
    · go_enter Tryz.func10, Tryz.ntmps10
      go_wp2
      go_ret
      exact ⟨ret_bool (by simp; done), rfl⟩
    · have h3 : 48 ≤ b := by omega
      have h4 : ¬ b ≤ 57 := by omega
      have h5 : ¬ b = 95 := by omega
      go_enter Tryz.func10, Tryz.ntmps10
      go_wp2
      go_ret
      exact ⟨ret_bool (by first | (simp; done) | (simp; omega) | (rw [Bool.eq_iff_iff]; simp; omega)), rfl⟩
  · by_cases h3 : 48 ≤ b
    · by_cases h4 : b ≤ 57
      · go_enter Tryz.func10, Tryz.ntmps10
        go_wp2
        go_ret
        exact ⟨ret_bool (by first | (simp; done) | (simp; omega) | (rw [Bool.eq_iff_iff]; simp; omega)), rfl⟩
      · go_enter Tryz.func10, Tryz.ntmps10
        go_wp2
        go_ret
        exact ⟨ret_bool (by rw [Bool.eq_iff_iff]; simp; omega), rfl⟩
    · have h5 : ¬ b = 95 := by omega
      go_enter Tryz.func10, Tryz.ntmps10
      go_wp2
      go_ret
      exact ⟨ret_bool (by first | (simp; done) | (simp; omega) | (rw [Bool.eq_iff_iff]; simp; omega)), rfl⟩
end Go.Proofs.YtjgngbmkpiihgaaGreatDoor
