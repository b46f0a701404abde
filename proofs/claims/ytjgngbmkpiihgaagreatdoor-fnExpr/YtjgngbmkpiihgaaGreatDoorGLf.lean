import Derived.Test.YtjgngbmkpiihgaaGreatDoorGIp
import Derived.Test.YtjgngbmkpiihgaaGreatDoorGDh
import Derived.Test.YtjgngbmkpiihgaaGreatDoorGLw
import Derived.Test.YtjgngbmkpiihgaaGreatDoorZRdI
import Derived.Test.YtjgngbmkpiihgaaGreatDoorGSb
/- (loose) The program's PrintExpr. -/
namespace Go.Proofs.YtjgngbmkpiihgaaGreatDoor
open Go Go.RowKit

set_option maxRecDepth 100000 in
set_option maxHeartbeats 4000000 in
theorem implPrintExpr_any (a : Option Addr) (m c : Nat) (e : Nat → Nx) (w : World) (hm : m ≤ 9223372036854775807) (ha : Nods w a m e) (hf : ∀ k, k < m → Fit (e k)) (hw : Wrds w) (hp : Pow w) :
    Calls Tryz.prog 6 #[.slice a m c] w fun r w' => r = .returned (.string (if vxB e m then (top e m).t else ⟨#[]⟩)) ∧ Below w.heap.size w w' := by
  have HC := hide (printed_any a m c e w hm ha hf hw hp)
  obtain ⟨t, ht⟩ : ∃ t, (if vxB e m then (top e m).t else ⟨#[]⟩) = t := ⟨_, rfl⟩
  obtain ⟨q, hq⟩ : ∃ q, vxB e m = q := ⟨_, rfl⟩
  rw [ht, hq] at HC
  rw [ht]
  clear ht hq ha hf hw hp
  go_enter Tryz.func6, Tryz.ntmps6
  go_wp2_with fail
  refine (unhide HC).mono ?_
  rintro x w1 ⟨rfl, hb⟩
  have HB := hide hb
  clear hb HC
  go_wp2_with fail
  go_ret
  exact ⟨rfl, unhide HB⟩
end Go.Proofs.YtjgngbmkpiihgaaGreatDoor

/- The law FnExpr. -/
namespace Go.Proofs.YtjgngbmkpiihgaaGreatDoor
open Go Go.RowKit

theorem nf_same {l r : List Nx} (h1 : l.length = r.length) (h2 : ∀ k, k < l.length → nf l k = nf r k) : l = r :=
  List.ext_getElem h1 fun k a b => by
    have := h2 k a
    rwa [nf_get l k a, nf_get r k b] at this
theorem qt_snoc (l : List UInt8) (c : UInt8) : qt false (l ++ [c]) = if c = 34 then !qt false l else qt false l := by rw [qt_app]; rfl
theorem take_byte {s : ByteArray} {k : Nat} (h : k < s.size) : s.data.toList.take (k + 1) = s.data.toList.take k ++ [s[k]] := List.take_succ_eq_append_getElem (l := s.data.toList) (i := k) (by rw [Array.length_toList]; exact h)
theorem last_byte {s : ByteArray} {k : Nat} (h : k < s.size) {c : UInt8} (hc : (s.data.toList.take k).getLast? = some c) : ∃ i, k = i + 1 ∧ ∃ hi : i < s.size, s[i] = c := by
  cases k with
  | zero => cases hc
  | succ i =>
    rw [take_byte (show i < s.size by omega), List.getLast?_append] at hc
    exact ⟨i, rfl, by omega, by simpa using hc⟩

set_option maxRecDepth 100000 in
set_option maxHeartbeats 8000000 in
theorem lawExpr_any (a : Option Addr) (len c : Nat) (f : Nat → Nat) (w : World) (hlen0 : len ≤ 9223372036854775807) (hby : Byts w a len f) (hw : Wrds w) (hp : Pow w) (q1 : ErrV "strconv.ErrSyntax" w) (q2 : ErrV "strconv.ErrRange" w) :
    Calls Tryz.prog 3 #[.slice a len c] w fun r w' => r = .returned (.bool true) ∧ Below w.heap.size w w' := by
  by_cases hbig : 1048576 < len
  · have hbig' : (1048576 : Int) < (len : Int) := by omega
    clear hw hp q1 q2 hby
    go_enter Tryz.func3, Tryz.ntmps3
    go_wp2_with fail
    go_ret
    exact ⟨rfl, Below.refl _ _⟩
  have hlen : len ≤ 1048576 := by omega
  have hbig' : ¬ (1048576 : Int) < (len : Int) := by omega
  obtain ⟨l, hF, hL, hD⟩ := drawPrint_ex len f hlen
  obtain ⟨s, hs⟩ : ∃ s, (if vxB (nf l) l.length then (top (nf l) l.length).t else ⟨#[]⟩) = s := ⟨_, rfl⟩
  have HBy := hide hby; have HF := hide hF; have HD := hide hD; have HW := hide hw; have HP := hide hp; have HQ1 := hide q1; have HQ2 := hide q2
  have HFk : Hid (∀ k, k < l.length → Fit (nf l k)) := hide fun k hk => by rw [nf_get l k hk]; exact hF _ (List.getElem_mem hk)
  have HSs := hide hs
  clear hby hF hD hw hp q1 q2 hbig hs
  go_enter Tryz.func3, Tryz.ntmps3
  go_wp2_with fail
  refine (unhide HD _ _ _ (unhide HBy)).mono ?_
  rintro e w1 ⟨v1, rfl, ho1, hb1⟩
  obtain ⟨a1, k1, rfl, n1⟩ := ho1.nods
  have HN1 := hide n1; have HB := hide hb1
  clear ho1 n1 hb1
  go_wp2_with fail
  refine (unhide HD _ _ _ ((unhide HBy).mono (unhide HB))).mono ?_
  rintro e w2 ⟨v2, rfl, ho2, hb2⟩
  obtain ⟨a2, k2, rfl, n2⟩ := ho2.nods
  replace HN1 := hide ((unhide HN1).mono hb2); have HN2 := hide n2; replace HB := hide ((unhide HB).trans (hb2.mono (unhide HB).size))
  clear ho2 n2 hb2
  go_wp2_with fail
  refine (implPrintExpr_any a1 l.length k1 (nf l) _ (by omega) (unhide HN1) (unhide HFk) ((unhide HW).mono (unhide HB)) ((unhide HP).mono (unhide HB))).mono ?_
  rintro e w3 ⟨rfl, hb3⟩
  rw [unhide HSs]
  replace HN2 := hide ((unhide HN2).mono hb3); replace HB := hide ((unhide HB).trans (hb3.mono (unhide HB).size))
  clear hb3 HN1
  go_wp2_with fail
  refine (specPrintExpr_any a2 l.length k2 (nf l) _ (by omega) (unhide HN2) (unhide HFk)).mono ?_
  rintro e w4 ⟨rfl, hb4⟩
  rw [unhide HSs]
  replace HN2 := hide ((unhide HN2).mono hb4); replace HB := hide ((unhide HB).trans (hb4.mono (unhide HB).size))
  clear hb4
  by_cases hs0 : s.size = 0
  · have hs0' : ((s.size : Int) == 0) = true := by simp [hs0]
    go_wp2_with fail
    go_ret
    exact ⟨ret_bool (by first | rfl | simp [hs0]), unhide HB⟩
  have hs0' : ((s.size : Int) == 0) = false := beq_eq_false_iff_ne.2 (by omega)
  have hv : vxL l = true := by
    have := unhide HSs
    cases h : vxB (nf l) l.length
    · rw [h, if_neg (by decide)] at this; rw [← this] at hs0; exact absurd rfl hs0
    · exact h
  have hst : (top (nf l) l.length).t = s := by
    have := unhide HSs
    rw [if_pos (show vxB (nf l) l.length = true from hv)] at this
    exact this
  have hFn : ∀ n, n ∈ l → n.v.n ≤ 9223372036854775807 := fun n hn => (unhide HF n hn).2.2.2
  have hsz : s.size ≤ 4000 := by
    rw [← hst]
    unfold vxL vxB at hv
    simp only [Bool.and_eq_true, decide_eq_true_eq] at hv
    exact hv.2
  have HRd : Hid (PrsA s 0 l) := hide (by rw [← hst]; exact print_read hv hFn)
  have HOt : Hid (∀ a r, s.data.toList = a ++ 40 :: r → qt false a = false → (∀ c, a.getLast? = some c → nameB c.toNat = false) → ∃ j, wcl 1 false r = some j ∧ j < r.length ∧ ∀ (u : ByteArray) (code : Int) (e : List Nx), u.data.toList = a ++ (r.take j ++ r.drop (j + 1)) → PrsA u code e → ¬ (code = 0 ∧ e = l)) :=
    hide fun a r h1 h2 h3 => print_out hv hFn (by rw [hst]; exact h1) h2 h3
  have HIm := hide (fun u W (hu : u.size ≤ 1048576) (h : Below w.heap.size w W) => implParse_any u W hu ((unhide HW).mono h) ((unhide HP).mono h) ((unhide HQ1).mono h) ((unhide HQ2).mono h))
  clear hv hst hFn HSs
  go_wp2_with fail
  refine (unhide HIm s _ (by omega) (unhide HB)).mono ?_
  rintro e w5 ⟨code, en, vi, hA, -, rfl, ho5, hb5⟩
  obtain ⟨rfl, rfl⟩ := (unhide HRd).uniq hA
  obtain ⟨a5, k5, rfl, n5⟩ := ho5.nods
  have HN5 := hide n5
  replace HN2 := hide ((unhide HN2).mono hb5); replace HB := hide ((unhide HB).trans (hb5.mono (unhide HB).size))
  clear hA ho5 hb5 n5
  go_wp2_with fail
  refine (wSameNodes_any a5 a2 (nf l) (nf l) l.length l.length k5 k2 _ (by omega) (by omega) (unhide HN5) (unhide HN2)).mono ?_
  rintro e w6 ⟨q, rfl, hq, hb6⟩
  obtain rfl : q = true := hq.2 ⟨rfl, fun _ _ => rfl⟩
  replace HN2 := hide ((unhide HN2).mono hb6); replace HB := hide ((unhide HB).trans (hb6.mono (unhide HB).size))
  clear hq hb6 HN5
  go_wp2_with fail
  go_loopw [8, 9] (fun vq vi wr => ∃ k : Nat, k ≤ s.size ∧ vi = .int .i64 k ∧ vq = .bool (qt false (s.data.toList.take k)) ∧ Below w6.heap.size w6 wr ∧ Below w.heap.size w wr) (fun _ vi _ => s.size - (intOf vi).toNat)
  case atStart => exact ⟨0, Nat.zero_le _, rfl, rfl, Below.refl _ _, unhide HB⟩
  case round =>
    obtain ⟨k, hk, rfl, rfl, hb, hbw⟩ := hrel
    have HBr := hide hb; have HBw := hide hbw
    clear hb hbw
    by_cases hlt : k < s.size
    case neg =>
      obtain rfl : k = s.size := by omega
      have hlt' : ¬ (s.size : Int) < s.size := by omega
      go_wp2_with fail
      go_ret
      exact ⟨rfl, unhide HBw⟩
    have hlt' : (k : Int) < s.size := by omega
    obtain ⟨b, hb⟩ : ∃ b, qt false (s.data.toList.take k) = b := ⟨_, rfl⟩
    have HT : Hid (qt false (s.data.toList.take (k + 1)) = if s[k] = 34 then !b else b) := hide (by rw [take_byte hlt, qt_snoc, hb])
    obtain ⟨n, hn⟩ : ∃ n, s[k].toNat = n := ⟨_, rfl⟩
    have HNn := hide hn; have HBb := hide hb
    rw [hb]
    clear hb
    by_cases h34 : n = 34
    · rw [if_pos (b34 (hn.trans h34))] at HT
      have e1 : ((n : Int) == 34) = true := by simp [h34]
      have e2 : ((n : Int) == 40) = false := beq_eq_false_iff_ne.2 (by omega)
      clear h34
      cases b
      all_goals
        go_wp2_with fail
        go_roundw
        case rel => exact ⟨k + 1, by omega, by go_num, by rw [unhide HT]; rfl, unhide HBr, unhide HBw⟩
        case measure => simp [intOf]; omega
    rw [if_neg (fun e => h34 (by rw [← hn, e]; rfl))] at HT
    have e1 : ((n : Int) == 34) = false := beq_eq_false_iff_ne.2 (by omega)
    cases b
    case true =>
      go_wp2_with fail
      go_roundw
      case rel => exact ⟨k + 1, by omega, by go_num, by rw [unhide HT], unhide HBr, unhide HBw⟩
      case measure => simp [intOf]; omega
    by_cases h40 : n = 40
    case neg =>
      have e2 : ((n : Int) == 40) = false := beq_eq_false_iff_ne.2 (by omega)
      go_wp2_with fail
      go_roundw
      case rel => exact ⟨k + 1, by omega, by go_num, by rw [unhide HT], unhide HBr, unhide HBw⟩
      case measure => simp [intOf]; omega
    have e2 : ((n : Int) == 40) = true := by simp [h40]
    have hc40 : s[k] = 40 := b40 (hn.trans h40)
    have hway : (k = 0 ∨ (∃ i, k = i + 1 ∧ nameB (bt s i) = false)) ∨ (∃ i, k = i + 1 ∧ nameB (bt s i) = true) := by
      cases k with
      | zero => exact .inl (.inl rfl)
      | succ i =>
        cases h : nameB (bt s i)
        · exact .inl (.inr ⟨i, rfl, h⟩)
        · exact .inr ⟨i, rfl, h⟩
    rcases hway with hway | ⟨i, rfl, hnb⟩
    case inr =>
      have hi : i < s.size := by omega
      have e3 : (((i + 1 : Nat) : Int) == 0) = false := beq_eq_false_iff_ne.2 (by omega)
      have e3' : ((i : Int) + 1 == 0) = false := beq_eq_false_iff_ne.2 (by omega)
      have i1 : (i : Int) < s.size := by omega
      rw [bt_lt hi] at hnb
      have HWn := hide (wNameByte_any (s[i]).toNat)
      rw [hnb] at HWn
      clear hnb
      go_wp2_with fail
      refine (unhide HWn _).mono ?_
      rintro e wr' ⟨rfl, hw'⟩
      subst hw'
      go_wp2_with fail
      go_roundw
      case rel => exact ⟨i + 1 + 1, by omega, by go_num, by rw [unhide HT], unhide HBr, unhide HBw⟩
      case measure => simp [intOf]; omega
    have hlast : ∀ c, (s.data.toList.take k).getLast? = some c → nameB c.toNat = false := fun c hc => by
      obtain ⟨i, rfl, hi, rfl⟩ := last_byte hlt hc
      rcases hway with h | ⟨i', h, h'⟩
      · cases h
      · obtain rfl : i = i' := by omega
        rwa [bt_lt hi] at h'
    have hparts : s.data.toList = s.data.toList.take k ++ 40 :: s.data.toList.drop (k + 1) := by
      rw [← hc40, ← drop_byte hlt, List.take_append_drop]
    obtain ⟨j, hj1, hj2, hj3⟩ := unhide HOt _ _ hparts (unhide HBb) hlast
    have hj4 : j < s.size - (k + 1) := by rw [List.length_drop, Array.length_toList] at hj2; exact hj2
    obtain ⟨J, hJ⟩ : ∃ J, k + 1 + j = J := ⟨_, rfl⟩
    have HCl := hide (wClose_any s k j)
    rw [hJ] at HCl
    have HCl' := hide (fun W => unhide HCl W (by omega) hlt hc40 hj1)
    obtain ⟨u, hu⟩ : ∃ u, s.extract 0 k ++ s.extract (k + 1) J ++ s.extract (J + 1) s.size = u := ⟨_, rfl⟩
    have hul : u.data.toList = s.data.toList.take k ++ ((s.data.toList.drop (k + 1)).take j ++ (s.data.toList.drop (k + 1)).drop (j + 1)) := by
      rw [← hu, ByteArray.data_append, ByteArray.data_append, Array.toList_append, Array.toList_append, ext_list, ext_list, ext_list, List.drop_zero, List.append_assoc, ← hJ]
      congr 1
      congr 1
      · rw [List.drop_take]; congr 1; omega
      · rw [show s.size = s.data.toList.length from (Array.length_toList).symm, List.take_length, List.drop_drop]; congr 1
    have HNo : Hid (∀ code e, PrsA u code e → ¬ (code = 0 ∧ e = l)) := hide fun code e h => hj3 u code e hul h
    have husz : u.size ≤ 1048576 := by
      rw [← hu, ByteArray.size_append, ByteArray.size_append, ByteArray.size_extract, ByteArray.size_extract, ByteArray.size_extract]; omega
    have HUu := hide hu
    have hJs : J < s.size := by omega
    have J0 : ¬ (J : Int) < 0 := by omega
    have kk : (k : Int) ≤ s.size := by omega
    have kj1 : (k : Int) + 1 ≤ J := by omega
    have kj2 : (J : Int) ≤ s.size := by omega
    have jk : (J : Int) + 1 ≤ s.size := by omega
    have kw : IntKind.i64.wrap ((k : Int) + 1) = (k : Int) + 1 := i64_nat (k + 1) (by omega)
    have jw : IntKind.i64.wrap ((J : Int) + 1) = (J : Int) + 1 := i64_nat (J + 1) (by omega)
    have k0 : ¬ (k : Int) + 1 < 0 := by omega
    have jn0 : ¬ (J : Int) + 1 < 0 := by omega
    have HKw := hide kw; have HJw := hide jw; have HK0 := hide k0; have HJ0 := hide jn0
    have HJJ := hide hJ
    clear kw jw k0 jn0
    clear hlast hparts hj1 hj2 hj3 hul HCl hu hc40 hJ h40 hj4
    rcases hway with h0 | ⟨i, hki, hnb⟩
    case' inl =>
      have e3 : ((k : Int) == 0) = true := by simp [h0]
      clear h0
      go_wp2_with fail
    case' inr =>
      have hi : i < s.size := by omega
      have e3 : ((k : Int) == 0) = false := beq_eq_false_iff_ne.2 (by omega)
      have hk1 : (k : Int) - 1 = i := by omega
      have i1 : (i : Int) < s.size := by omega
      rw [bt_lt hi] at hnb
      have HWn := hide (wNameByte_any (s[i]).toNat)
      rw [hnb] at HWn
      clear hnb hki
      go_wp2_with fail
      refine (unhide HWn _).mono ?_
      rintro e wr' ⟨rfl, hw'⟩
      subst hw'
      go_wp2_with fail
    all_goals
      refine (unhide HCl' _).mono ?_
      rintro e wr ⟨rfl, hw'⟩
      subst hw'
      have HBd := hide ((unhide HBw).drew)
      go_wp2_with fail
      refine wp_region_held_drew (S := fun _ => True) (by kernel_rfl) trivial (fun hHeld => ?_)
      refine takeY (i := 0) (v := .string s) 80 rfl rfl (by kernel_rfl) (by kernel_rfl) (by kernel_rfl) (fun _ _ _ _ h => h) (by rfl) (fun w hS => by simp [execOp, go_sem, *]) hHeld ?_
      simp only [List.setIfInBounds_toArray, List.set_cons_zero, List.set_cons_succ]
      refine takeY (i := 1) (v := .int .i64 k) 81 rfl rfl (by kernel_rfl) (by kernel_rfl) (by kernel_rfl) (fun _ _ _ _ h => h) (by rfl) (fun w hS => by simp [execOp, go_sem, *]) hHeld ?_
      simp only [List.setIfInBounds_toArray, List.set_cons_zero, List.set_cons_succ]
      refine takeY (i := 2) (v := .string (s.extract 0 k)) 82 rfl rfl (by kernel_rfl) (by kernel_rfl) (by kernel_rfl) (fun _ _ _ _ h => h) (by rfl) (fun w hS => by simp [execOp, go_sem, *]) hHeld ?_
      simp only [List.setIfInBounds_toArray, List.set_cons_zero, List.set_cons_succ]
      refine takeY (i := 3) (v := .string s) 83 rfl rfl (by kernel_rfl) (by kernel_rfl) (by kernel_rfl) (fun _ _ _ _ h => h) (by rfl) (fun w hS => by simp [execOp, go_sem, *]) hHeld ?_
      simp only [List.setIfInBounds_toArray, List.set_cons_zero, List.set_cons_succ]
      refine takeY (i := 4) (v := .int .i64 k) 84 rfl rfl (by kernel_rfl) (by kernel_rfl) (by kernel_rfl) (fun _ _ _ _ h => h) (by rfl) (fun w hS => by simp [execOp, go_sem, *]) hHeld ?_
      simp only [List.setIfInBounds_toArray, List.set_cons_zero, List.set_cons_succ]
      refine takeY (i := 5) (v := .int .i64 ((k : Int) + 1)) 85 rfl rfl (by kernel_rfl) (by kernel_rfl) (by kernel_rfl) (fun _ _ _ _ h => h) (by rfl) (fun w hS => by simp [execOp, go_sem, unhide HKw]) hHeld ?_
      simp only [List.setIfInBounds_toArray, List.set_cons_zero, List.set_cons_succ]
      refine takeY (i := 6) (v := .int .i64 J) 86 rfl rfl (by kernel_rfl) (by kernel_rfl) (by kernel_rfl) (fun _ _ _ _ h => h) (by rfl) (fun w hS => by simp [execOp, go_sem, *]) hHeld ?_
      simp only [List.setIfInBounds_toArray, List.set_cons_zero, List.set_cons_succ]
      refine takeY (i := 7) (v := .string (s.extract (k + 1) J)) 87 rfl rfl (by kernel_rfl) (by kernel_rfl) (by kernel_rfl) (fun _ _ _ _ h => h) (by rfl) (fun w hS => by have := unhide HK0; simp [execOp, go_sem, *]) hHeld ?_
      simp only [List.setIfInBounds_toArray, List.set_cons_zero, List.set_cons_succ]
      refine takeY (i := 8) (v := .string (s.extract 0 k ++ s.extract (k + 1) J)) 88 rfl rfl (by kernel_rfl) (by kernel_rfl) (by kernel_rfl) (fun _ _ _ _ h => h) (by rfl) (fun w hS => by simp [execOp, go_sem]; omega) hHeld ?_
      simp only [List.setIfInBounds_toArray, List.set_cons_zero, List.set_cons_succ]
      refine takeY (i := 9) (v := .string s) 89 rfl rfl (by kernel_rfl) (by kernel_rfl) (by kernel_rfl) (fun _ _ _ _ h => h) (by rfl) (fun w hS => by simp [execOp, go_sem, *]) hHeld ?_
      simp only [List.setIfInBounds_toArray, List.set_cons_zero, List.set_cons_succ]
      refine takeY (i := 10) (v := .int .i64 J) 90 rfl rfl (by kernel_rfl) (by kernel_rfl) (by kernel_rfl) (fun _ _ _ _ h => h) (by rfl) (fun w hS => by simp [execOp, go_sem, *]) hHeld ?_
      simp only [List.setIfInBounds_toArray, List.set_cons_zero, List.set_cons_succ]
      refine takeY (i := 11) (v := .int .i64 ((J : Int) + 1)) 91 rfl rfl (by kernel_rfl) (by kernel_rfl) (by kernel_rfl) (fun _ _ _ _ h => h) (by rfl) (fun w hS => by simp [execOp, go_sem, unhide HJw]) hHeld ?_
      simp only [List.setIfInBounds_toArray, List.set_cons_zero, List.set_cons_succ]
      refine takeY (i := 12) (v := .string (s.extract (J + 1) s.size)) 92 rfl rfl (by kernel_rfl) (by kernel_rfl) (by kernel_rfl) (fun _ _ _ _ h => h) (by rfl) (fun w hS => by have := unhide HJ0; simp [execOp, go_sem, *]) hHeld ?_
      simp only [List.setIfInBounds_toArray, List.set_cons_zero, List.set_cons_succ]
      refine takeY (i := 13) (v := .string u) 93 rfl rfl (by kernel_rfl) (by kernel_rfl) (by kernel_rfl) (fun _ _ _ _ h => h) (by rfl) (fun w hS => by simp [execOp, go_sem, unhide HUu]; omega) hHeld ?_
      simp only [List.setIfInBounds_toArray, List.set_cons_zero, List.set_cons_succ]
      refine callY (i := 14) (f := 8) (args := #[.string u]) (R := fun v wz => ∃ (code : Int) (en : List Nx) (vv : Value), v = .tuple #[vv, .int .i64 code] ∧ PrsA u code en ∧ en.length ≤ 1048576 ∧ OwnN wz wr.heap.size vv en ∧ Below wr.heap.size wr wz) 94 rfl rfl (by rfl) (by kernel_rfl) ?hrun1 ((unhide HIm u _ husz (unhide HBd)).mono fun e w6 ⟨code, en, vv, h1, h2, h3, h4, h5⟩ => ⟨_, h3, code, en, vv, rfl, h1, h2, h4, below_of_drew h5⟩) ?_
      case hrun1 => simp [execOp, go_sem]
      rintro v w6 ⟨code, en, vv, rfl, hA6, hen, ho6, hb6⟩
      obtain ⟨a6, k6, rfl, n6⟩ := ho6.nods
      have HA6 := hide hA6; have HN6 := hide n6; have HB6 := hide hb6
      clear hA6 ho6 hb6 n6
      refine ⟨trivial, ?_⟩
      simp only [List.setIfInBounds_toArray, List.set_cons_zero, List.set_cons_succ]
      refine takeY (i := 15) (v := .tuple #[Value.slice a6 en.length k6, .int .i64 code]) 79 rfl rfl (by kernel_rfl) (by kernel_rfl) (by kernel_rfl) (fun _ _ _ _ h => h) (by rfl) (fun w hS => by simp [execOp, go_sem, *]) hHeld ?_
      simp only [List.setIfInBounds_toArray, List.set_cons_zero, List.set_cons_succ]
      refine takeY (i := 16) (v := Value.slice a6 en.length k6) 95 rfl rfl (by kernel_rfl) (by kernel_rfl) (by kernel_rfl) (fun _ _ _ _ h => h) (by rfl) (fun w hS => by simp [execOp, go_sem, *]) hHeld ?_
      simp only [List.setIfInBounds_toArray, List.set_cons_zero, List.set_cons_succ]
      refine takeY (i := 17) (v := .int .i64 code) 96 rfl rfl (by kernel_rfl) (by kernel_rfl) (by kernel_rfl) (fun _ _ _ _ h => h) (by rfl) (fun w hS => by simp [execOp, go_sem, *]) hHeld ?_
      simp only [List.setIfInBounds_toArray, List.set_cons_zero, List.set_cons_succ]
      refine takeY (i := 18) (v := Value.slice a6 en.length k6) 11 rfl rfl (by kernel_rfl) (by kernel_rfl) (by kernel_rfl) (fun _ _ _ _ h => h) (by rfl) (fun w hS => by simp [execOp, go_sem, *]) hHeld ?_
      simp only [List.setIfInBounds_toArray, List.set_cons_zero, List.set_cons_succ]
      refine takeY (i := 19) (v := .int .i64 code) 12 rfl rfl (by kernel_rfl) (by kernel_rfl) (by kernel_rfl) (fun _ _ _ _ h => h) (by rfl) (fun w hS => by simp [execOp, go_sem, *]) hHeld ?_
      simp only [List.setIfInBounds_toArray, List.set_cons_zero, List.set_cons_succ]
      refine wpAnyH_done (by kernel_rfl) ?_ _
      clear hHeld
      have HN9 := hide ((unhide HN2).mono ((unhide HBr).trans ((unhide HB6).mono (unhide HBr).size)))
      replace HBr := hide ((unhide HBr).trans ((unhide HB6).mono (unhide HBr).size)); replace HBw := hide ((unhide HBw).trans ((unhide HB6).mono (unhide HBw).size))
      by_cases h0 : code = 0
      · subst h0
        go_wp2_with fail
        refine (wSameNodes_any a6 a2 (nf en) (nf l) en.length l.length k6 k2 _ hen (by omega) (unhide HN6) (unhide HN9)).mono ?_
        rintro e w7 ⟨q, rfl, hq, hb7⟩
        obtain rfl : q = false := by
          cases q
          · rfl
          · obtain ⟨h1, h2⟩ := hq.1 rfl
            exact absurd ⟨rfl, nf_same h1 h2⟩ (unhide HNo 0 en (unhide HA6))
        replace HBr := hide ((unhide HBr).trans (hb7.mono (unhide HBr).size)); replace HBw := hide ((unhide HBw).trans (hb7.mono (unhide HBw).size))
        clear hq hb7
        go_wp2_with fail
        go_roundw
        case rel => exact ⟨k + 1, by omega, by go_num, by rw [unhide HT], unhide HBr, unhide HBw⟩
        case measure => simp [intOf]; omega
      · have h0' : (code == 0) = false := beq_eq_false_iff_ne.2 h0
        go_wp2_with fail
        go_roundw
        case rel => exact ⟨k + 1, by omega, by go_num, by rw [unhide HT], unhide HBr, unhide HBw⟩
        case measure => simp [intOf]; omega
end Go.Proofs.YtjgngbmkpiihgaaGreatDoor
