import Derived.Test.YtjgngbmkpiihgaaGreatDoorGDi
import Derived.Test.YtjgngbmkpiihgaaGreatDoorGBi
import Derived.Test.YtjgngbmkpiihgaaGreatDoorZVal
/- How a plain decimal reads, digit by digit. No model in this text. -/
namespace Go.Proofs.YtjgngbmkpiihgaaGreatDoor
open Go.Lib

def dgt (c : UInt8) : Nat := c.toNat - 48
def Digits (l : List UInt8) : Prop := ∀ c, c ∈ l → 48 ≤ c.toNat ∧ c.toNat ≤ 57
/-- The digits of a text of digits, the lowest first. -/
def low (l : List UInt8) : List Nat := l.reverse.map dgt
theorem low_dig {l : List UInt8} (h : Digits l) : Dig (low l) := fun d hd => by
  obtain ⟨c, hc, rfl⟩ := List.mem_map.1 hd
  have := h c (List.mem_reverse.1 hc)
  unfold dgt; omega
theorem hval_dval (l : List Nat) : ∀ acc, hval acc l = acc * 10 ^ l.length + dval l.reverse := by
  induction l with
  | nil => intro acc; simp [hval, dval]
  | cons d r ih =>
    intro acc
    rw [hval, ih, List.reverse_cons, dval_snoc, List.length_reverse, List.length_cons, Nat.pow_succ, Nat.add_mul, Nat.mul_assoc, Nat.mul_comm 10, Nat.mul_comm d]
    omega
theorem low_dec (n : Nat) : Digits (decDigits n) ∧ dval (low (decDigits n)) = n ∧ decDigits n ≠ [] := by
  obtain ⟨a, b, c, d⟩ := hd_spec n
  have hb : ∀ x, x ∈ hiDigs n → (UInt8.ofNat (48 + x)).toNat = 48 + x := fun x hx => by
    have := b x hx
    rw [UInt8.toNat_ofNat']; omega
  refine ⟨fun x hx => ?_, ?_, dec_ne n⟩
  · rw [c] at hx
    obtain ⟨y, hy, rfl⟩ := List.mem_map.1 hx
    have := b y hy; rw [hb y hy]; omega
  · have e : low (decDigits n) = (hiDigs n).reverse := by
      rw [c, low, hdig, ← List.map_reverse, List.map_map]
      conv => rhs; rw [← List.map_id (hiDigs n).reverse]
      refine List.map_congr_left fun x hx => ?_
      have := hb x (List.mem_reverse.1 hx)
      simp only [Function.comp, dgt, this, id]; omega
    have := hval_dval (hiDigs n) 0
    rw [a] at this
    rw [e]; omega
/-- What a plain decimal looks like. -/
theorem itoa_looks (n : Int) : (n < 0 → ∃ t, itoa n = 45 :: t ∧ t = decDigits n.natAbs) ∧ (¬ n < 0 → itoa n = decDigits n.natAbs ∧ ∃ c r, itoa n = c :: r ∧ c.toNat ≠ 45) := by
  refine ⟨fun h => ⟨_, by rw [itoa, if_pos h], rfl⟩, fun h => ?_⟩
  have e : itoa n = decDigits n.natAbs := by rw [itoa, if_neg h, show n.toNat = n.natAbs by omega]
  obtain ⟨c, r, e2, h1, h2⟩ := dec_head n.natAbs
  exact ⟨e, c, r, by rw [e, e2], by omega⟩
theorem itoa_len (n : Int) (h : I64 n) : 1 ≤ (itoa n).length ∧ (itoa n).length ≤ 20 := by
  have hd : ∀ m : Nat, m ≤ 9223372036854775808 → 1 ≤ (decDigits m).length ∧ (decDigits m).length ≤ 19 := fun m hm => by
    by_cases h0 : m = 0
    · subst h0; rw [decDigits_one (by omega)]; simp
    · rw [decDigits_digs h0]
      have h1 := digs_length_le (n := m) (k := 19) (by omega)
      have h2 : (digs m).length ≠ 0 := fun e => h0 (digs_nil.1 (List.length_eq_zero_iff.1 e))
      simp; omega
  have := hd n.natAbs (by unfold I64 at h; omega)
  by_cases hn : n < 0
  · obtain ⟨t, e, rfl⟩ := (itoa_looks n).1 hn
    rw [e, List.length_cons]; omega
  · rw [((itoa_looks n).2 hn).1]; omega
/-- A text that begins with a minus, or not, and goes on with digits, and the number that it could show. -/
def couldBe (neg : Bool) (l : List UInt8) : Int := if neg then -(dval (low l) : Int) else dval (low l)
theorem could_neg {t : List UInt8} {n : Int} (h : itoa n = 45 :: t) : Digits t ∧ couldBe true t = n := by
  by_cases hn : n < 0
  · obtain ⟨t', e, rfl⟩ := (itoa_looks n).1 hn
    rw [h] at e
    have : t = decDigits n.natAbs := by simpa using e
    subst this
    obtain ⟨a, b, -⟩ := low_dec n.natAbs
    exact ⟨a, by simp only [couldBe, b, if_true]; omega⟩
  · obtain ⟨-, c, r, e, hc⟩ := (itoa_looks n).2 hn
    rw [h] at e
    simp only [List.cons.injEq] at e
    rw [← e.1] at hc
    exact absurd rfl hc
theorem could_pos {c : UInt8} {t : List UInt8} {n : Int} (hc : c.toNat ≠ 45) (h : itoa n = c :: t) : Digits (c :: t) ∧ couldBe false (c :: t) = n := by
  by_cases hn : n < 0
  · obtain ⟨t', e, -⟩ := (itoa_looks n).1 hn
    rw [h] at e
    simp only [List.cons.injEq] at e
    rw [e.1] at hc
    exact absurd rfl hc
  · obtain ⟨e, -⟩ := (itoa_looks n).2 hn
    rw [← h, e]
    obtain ⟨a, b, -⟩ := low_dec n.natAbs
    refine ⟨a, ?_⟩
    simp only [couldBe, b, Bool.false_eq_true, if_false]; omega
end Go.Proofs.YtjgngbmkpiihgaaGreatDoor

/- The model's reading of a plain decimal. -/
namespace Go.Proofs.YtjgngbmkpiihgaaGreatDoor
open Go Go.RowKit

def rd (l : List UInt8) : Int × Bool := match readDec l with
  | some n => (n, true)
  | none => (0, false)

set_option maxRecDepth 100000 in
set_option maxHeartbeats 600000 in
theorem readInt_true (s : ByteArray) (w : World) (h1 : 0 < s.size) (h20 : s.size ≤ 20) (hc : s[0].toNat = 45) (x : Int) (ok : Bool) (hr : rd s.data.toList = (x, ok))
    (KL : ∀ n, I64 n → Lib.itoa n = s.data.toList → Digits (s.data.toList.drop 1) ∧ couldBe true (s.data.toList.drop 1) = n) :
    Calls Tryz.prog 68 #[.string s] w fun e w' => e = .returned (.tuple #[.int .i64 x, .bool ok]) ∧ Below w.heap.size w w' := by
  have HKL := hide KL; have HR := hide hr; clear KL hr
  have HB0 : Hid (Below w.heap.size w (w.alloc (.cells #[] 3))) := (Below.refl _ _).alloc (Nat.le_refl _) _
  have hNo : (∀ n, I64 n → Lib.itoa n ≠ s.data.toList) → x = 0 ∧ ok = false := fun h => by
    have h2 := unhide HR
    rw [rd, readDec_none h] at h2
    simp only [Prod.mk.injEq] at h2
    exact ⟨h2.1.symm, h2.2.symm⟩
  have HNO := hide hNo; clear hNo
  have hl : s.data.toList.length = s.size := by rw [Array.length_toList]; rfl
  have HL := hide hl; clear hl
  have e0 : ((s.size : Int) == 0) = false := by rw [size0]; simp only [decide_eq_false_iff_not]; omega
  have e1 : decide ((20 : Int) < s.size) = false := by simp only [decide_eq_false_iff_not]; omega
  have e2 : ((s[0].toNat : Int) == 45) = true := by simp; omega
  clear hc
  obtain ⟨F, hF⟩ : ∃ F, F = 1 := ⟨_, rfl⟩
  have HF := hide hF; clear hF
  go_enter Tryz.func68, Tryz.ntmps68
  go_wp2_with fail
  go_loopw [6, 7] (fun v i wr => ∃ (k : Nat) (o : List Nat), F ≤ k ∧ k ≤ s.size ∧ i = .int .i64 ((k : Int) - 1) ∧ o = low (s.data.toList.drop k) ∧ Digits (s.data.toList.drop k) ∧ wr.ownsRow w.heap.size 3 1 v o.length (ui o) ∧ Below w.heap.size w wr) (fun _ i _ => (intOf i + 1).toNat)
  case atStart =>
    have hdrop : s.data.toList.drop s.size = [] := by rw [← unhide HL]; simp
    exact ⟨s.size, [], by have := unhide HF; omega, Nat.le_refl _, rfl, by rw [hdrop]; rfl, (by rw [hdrop]; intro c hc; cases hc), owns_none w 3, unhide HB0⟩
  case round =>
    clear HB0
    obtain ⟨k, o, hFk, hk, rfl, ho, hdg, hown, hb⟩ := hrel
    have HO := hide hown; have HB := hide hb; have HOO := hide ho; have HDG := hide hdg; clear hown hb hdg
    have hol : o.length ≤ 20 := by rw [ho]; simp [low]; omega
    clear ho
    have hF := unhide HF
    replace hFk : 1 ≤ k := by omega
    clear hF
    by_cases hend : k = 1
    · subst hend
      have hdig := unhide HDG
      have hoo := unhide HOO
      have HOd : DigS wr u6 o := digS_of_owns (unhide HO)
      have hod : Dig o := by rw [hoo]; exact low_dig hdig
      clear HO HOO HDG hdig
      go_wp2_with fail
      refine (l2Trim_any u6 o wr HOd hod (by omega)).mono ?_
      rintro e w' ⟨r, rfl, hr, rfl⟩
      have hz : couldBe true (s.data.toList.drop 1) = -(dval o : Int) := by rw [couldBe, hoo]; rfl
      have HZ := hide hz; clear hz hoo HOd
      obtain ⟨z, hzz⟩ : ∃ z : Int, z = -(dval o : Int) := ⟨_, rfl⟩
      have hab : z.natAbs = dval o := by omega
      rw [← hab] at hr
      have hlz : (digs z.natAbs).length ≤ 500 := by rw [hab]; exact Nat.le_trans (digs_length_le (dval_lt hod)) (by omega)
      have hres : (∀ n, I64 n → Lib.itoa n = s.data.toList → n = z) := fun n hn e => by
        have h2 := (unhide HKL n hn e).2
        rw [unhide HZ] at h2; omega
      have HRES := hide hres; clear hres
      have hsgn : decide (0 < (digs z.natAbs).length) = decide (z < 0) := by
        rw [decide_eq_decide]
        have h0 : (digs z.natAbs).length = 0 ↔ z.natAbs = 0 := by rw [List.length_eq_zero_iff, digs_nil]
        omega
      obtain ⟨g, cg, rfl, -⟩ := id hr
      have hBV : BigV w' (.agg #[.bool (decide (z < 0)), .slice g (digs z.natAbs).length cg]) z := ⟨_, rfl, hr⟩
      obtain ⟨lz, hlzz⟩ : ∃ lz, (digs z.natAbs).length = lz := ⟨_, rfl⟩
      rw [hlzz] at hBV hsgn ⊢
      have HLZ := hide (And.intro hlz hlzz); clear hlz hlzz hr hab hzz HZ hod
      obtain ⟨sz, hsz⟩ : ∃ sz, decide (z < 0) = sz := ⟨_, rfl⟩
      rw [hsz] at hBV
      have HS := hide hsz
      have hb9 : Below w'.heap.size w' (w'.alloc (.cells #[.bool sz, .slice g lz cg] 108)) := (Below.refl _ _).alloc (Nat.le_refl _) _
      have H9 := hide (Blk.new w' 108 #[.bool sz, .slice g lz cg])
      have HBV := hide (hBV.mono hb9)
      have HW := hide ((unhide HB).trans (hb9.mono (unhide HB).size))
      clear hBV hb9
      have HWW : Hid True := trivial
      have e3 : decide (0 < lz) = sz := hsgn.trans hsz
      clear hsgn hsz
      go_wp2_with fail
      refine (l2Fits_any _ z _ (unhide HBV) (unhide HLZ).1).mono ?_
      rintro e w3 ⟨rfl, hb3⟩
      replace H9 := hide ((unhide H9).mono hb3 (unhide H9).lt); replace HBV := hide ((unhide HBV).mono hb3); replace HW := hide ((unhide HW).trans (hb3.mono (unhide HW).size)); clear hb3
      by_cases hf : -9223372036854775808 ≤ z ∧ z ≤ 9223372036854775807
      · have HFI := hide hf
        rw [show fitsB z = true from decide_eq_true hf]
        clear hf
        obtain ⟨⟨z0, z1⟩, -⟩ := two (unhide H9)
        go_wp2_with fail
        refine (l2ToInt_any _ z _ (unhide HBV) (unhide HFI).1 (unhide HFI).2).mono ?_
        rintro e w4 ⟨rfl, hb4⟩
        replace HW := hide ((unhide HW).trans (hb4.mono (unhide HW).size)); clear hb4 z0 z1 H9 HBV
        go_wp2_with fail
        refine (l2Decimal_any z _ (unhide HFI).1 (unhide HFI).2).mono ?_
        rintro e w5 ⟨rfl, hb5⟩
        replace HW := hide ((unhide HW).trans (hb5.mono (unhide HW).size)); clear hb5
        by_cases heq : Lib.itoa z = s.data.toList
        · have hx : x = z ∧ ok = true := by
            have h2 := unhide HR
            rw [← heq, rd, readDec_itoa (unhide HFI)] at h2
            simp only [Prod.mk.injEq] at h2
            exact ⟨h2.1.symm, h2.2.symm⟩
          obtain ⟨rfl, rfl⟩ := hx
          have e5 : ((⟨(Lib.itoa x).toArray⟩ : ByteArray).toList == s.toList) = true := by rw [ByteArray.toList_eq, ByteArray.toList_eq, ← heq]; simp
          obtain ⟨T, hT⟩ : ∃ T : ByteArray, T = ⟨(Lib.itoa x).toArray⟩ := ⟨_, rfl⟩
          rw [← hT] at e5 ⊢
          clear hT heq
          go_wp2
          exact bodyPost_ret (v := .tuple #[.int .i64 x, .bool true]) (by simp [results, Tryz.results68, go_sem]) rfl ⟨rfl, unhide HW⟩
        · obtain ⟨rfl, rfl⟩ := unhide HNO fun n hn e => heq (by rw [← unhide HRES n hn e]; exact e)
          have e5 : ((⟨(Lib.itoa z).toArray⟩ : ByteArray).toList == s.toList) = false := by rw [ByteArray.toList_eq, ByteArray.toList_eq, beq_eq_false_iff_ne]; simpa using heq
          obtain ⟨T, hT⟩ : ∃ T : ByteArray, T = ⟨(Lib.itoa z).toArray⟩ := ⟨_, rfl⟩
          rw [← hT] at e5 ⊢
          clear hT heq
          go_wp2
          exact bodyPost_ret (v := .tuple #[.int .i64 0, .bool false]) (by simp [results, Tryz.results68, go_sem]) rfl ⟨rfl, unhide HW⟩
      · rw [show fitsB z = false from decide_eq_false hf]
        obtain ⟨rfl, rfl⟩ := unhide HNO fun n hn e => hf (by rw [← unhide HRES n hn e]; exact hn)
        clear hf
        go_wp2
        exact bodyPost_ret (v := .tuple #[.int .i64 0, .bool false]) (by simp [results, Tryz.results68, go_sem]) rfl ⟨rfl, unhide HW⟩
    · obtain ⟨k, rfl⟩ : ∃ k', k = k' + 1 := ⟨k - 1, by omega⟩
      rw [show ((k + 1 : Nat) : Int) - 1 = (k : Int) by omega]
      have hks : k < s.size := by omega
      have hFk' : 1 ≤ k := by omega
      have hcell : s.data.toList.drop k = s[k] :: s.data.toList.drop (k + 1) := by
        rw [List.drop_eq_getElem_cons (by have := unhide HL; omega)]; rfl
      have HC := hide hcell; clear hcell
      have bad : ¬ (48 ≤ s[k].toNat ∧ s[k].toNat ≤ 57) → x = 0 ∧ ok = false := fun hbad => (unhide HNO) fun n hn e => hbad (by
        refine (unhide HKL n hn e).1 s[k] ?_
        have e3 : s.data.toList.drop k = (s.data.toList.drop 1).drop (k - 1) := by rw [List.drop_drop]; congr 1; omega
        have : s[k] ∈ s.data.toList.drop k := by rw [unhide HC]; exact List.mem_cons_self ..
        rw [e3] at this
        exact List.mem_of_mem_drop this)
      have HBAD := hide bad; clear bad
      by_cases g1 : s[k].toNat < 48
      · obtain ⟨rfl, rfl⟩ := unhide HBAD (by omega)
        go_wp2
        exact bodyPost_ret (v := .tuple #[.int .i64 0, .bool false]) (by simp [results, Tryz.results68, go_sem]) rfl ⟨rfl, unhide HB⟩
      by_cases g2 : 57 < s[k].toNat
      · obtain ⟨rfl, rfl⟩ := unhide HBAD (by omega)
        go_wp2
        exact bodyPost_ret (v := .tuple #[.int .i64 0, .bool false]) (by simp [results, Tryz.results68, go_sem]) rfl ⟨rfl, unhide HB⟩
      obtain ⟨i0, hi, hz0, hz1, hz2⟩ := info_parts infoI
      go_wp2_with (at_builtin; refine wpList_append_own _ rfl _ _ 80 rfl w.heap.size 3 i0 _ 1 8 Tryz.underlying80 hi hz0 hz1 hz2 rfl (by omega) u6 _ _ rfl ((unhide HO).alloc _) ⟨wr.heap.size, 0, none⟩ 1 1 [.int .i64 ((s[k].toNat : Int) - 48)] rfl rfl (cell_one wr 3 _) (by simp [Value.oneCell']) (by unfold maxLen; omega) (by omega) (by have := (unhide HB).size; simp; omega) ?_)
      intro v' w' hown' hgrow' _
      have hB' := ((unhide HB).alloc (by have := (unhide HB).size; omega) (.cells #[.int .i64 ((s[k].toNat : Int) - 48)] 3)).grown hgrow' (by have := (unhide HB).size; simp; omega) (fun q' e => owns_block (unhide HO) e)
      have HO3 : Hid (w'.ownsRow w.heap.size 3 1 v' (o.length + 1) (ui (o ++ [dgt s[k]]))) := by
        rw [Hid]; rw [show (s[k].toNat : Int) - 48 = ((dgt s[k] : Nat) : Int) by unfold dgt; omega] at hown'; simpa [ui] using hown'
      have HB3 := hide hB'
      clear hown' hgrow' hB' hi hz0 hz1 hz2
      go_wp2_with fail
      go_roundw
      case rel =>
        refine ⟨k, o ++ [dgt s[k]], by have := unhide HF; omega, by omega, rfl, ?_, ?_, ?_, unhide HB3⟩
        · rw [unhide HC, low, List.reverse_cons, List.map_append, unhide HOO]; rfl
        · rw [unhide HC]; intro c hc
          rcases List.mem_cons.1 hc with rfl | hc
          · omega
          · exact unhide HDG c hc
        · have := unhide HO3; simpa using this
      case measure => simp [intOf]

set_option maxRecDepth 100000 in
set_option maxHeartbeats 600000 in
theorem readInt_false (s : ByteArray) (w : World) (h1 : 0 < s.size) (h20 : s.size ≤ 20) (hc : s[0].toNat ≠ 45) (x : Int) (ok : Bool) (hr : rd s.data.toList = (x, ok))
    (KL : ∀ n, I64 n → Lib.itoa n = s.data.toList → Digits (s.data.toList.drop 0) ∧ couldBe false (s.data.toList.drop 0) = n) :
    Calls Tryz.prog 68 #[.string s] w fun e w' => e = .returned (.tuple #[.int .i64 x, .bool ok]) ∧ Below w.heap.size w w' := by
  have HKL := hide KL; have HR := hide hr; clear KL hr
  have HB0 : Hid (Below w.heap.size w (w.alloc (.cells #[] 3))) := (Below.refl _ _).alloc (Nat.le_refl _) _
  have hNo : (∀ n, I64 n → Lib.itoa n ≠ s.data.toList) → x = 0 ∧ ok = false := fun h => by
    have h2 := unhide HR
    rw [rd, readDec_none h] at h2
    simp only [Prod.mk.injEq] at h2
    exact ⟨h2.1.symm, h2.2.symm⟩
  have HNO := hide hNo; clear hNo
  have hl : s.data.toList.length = s.size := by rw [Array.length_toList]; rfl
  have HL := hide hl; clear hl
  have e0 : ((s.size : Int) == 0) = false := by rw [size0]; simp only [decide_eq_false_iff_not]; omega
  have e1 : decide ((20 : Int) < s.size) = false := by simp only [decide_eq_false_iff_not]; omega
  have e2 : ((s[0].toNat : Int) == 45) = false := by rw [beq_eq_false_iff_ne]; omega
  clear hc
  obtain ⟨F, hF⟩ : ∃ F, F = 0 := ⟨_, rfl⟩
  have HF := hide hF; clear hF
  go_enter Tryz.func68, Tryz.ntmps68
  go_wp2_with fail
  go_loopw [6, 7] (fun v i wr => ∃ (k : Nat) (o : List Nat), F ≤ k ∧ k ≤ s.size ∧ i = .int .i64 ((k : Int) - 1) ∧ o = low (s.data.toList.drop k) ∧ Digits (s.data.toList.drop k) ∧ wr.ownsRow w.heap.size 3 1 v o.length (ui o) ∧ Below w.heap.size w wr) (fun _ i _ => (intOf i + 1).toNat)
  case atStart =>
    have hdrop : s.data.toList.drop s.size = [] := by rw [← unhide HL]; simp
    exact ⟨s.size, [], by have := unhide HF; omega, Nat.le_refl _, rfl, by rw [hdrop]; rfl, (by rw [hdrop]; intro c hc; cases hc), owns_none w 3, unhide HB0⟩
  case round =>
    clear HB0
    obtain ⟨k, o, hFk, hk, rfl, ho, hdg, hown, hb⟩ := hrel
    have HO := hide hown; have HB := hide hb; have HOO := hide ho; have HDG := hide hdg; clear hown hb hdg
    have hol : o.length ≤ 20 := by rw [ho]; simp [low]; omega
    clear ho
    have hF := unhide HF
    replace hFk : 0 ≤ k := by omega
    clear hF
    by_cases hend : k = 0
    · subst hend
      have hdig := unhide HDG
      have hoo := unhide HOO
      have HOd : DigS wr u6 o := digS_of_owns (unhide HO)
      have hod : Dig o := by rw [hoo]; exact low_dig hdig
      clear HO HOO HDG hdig
      go_wp2_with fail
      refine (l2Trim_any u6 o wr HOd hod (by omega)).mono ?_
      rintro e w' ⟨r, rfl, hr, rfl⟩
      have hz : couldBe false (s.data.toList.drop 0) = (dval o : Int) := by rw [couldBe, hoo]; rfl
      have HZ := hide hz; clear hz hoo HOd
      obtain ⟨z, hzz⟩ : ∃ z : Int, z = (dval o : Int) := ⟨_, rfl⟩
      have hab : z.natAbs = dval o := by omega
      rw [← hab] at hr
      have hlz : (digs z.natAbs).length ≤ 500 := by rw [hab]; exact Nat.le_trans (digs_length_le (dval_lt hod)) (by omega)
      have hres : (∀ n, I64 n → Lib.itoa n = s.data.toList → n = z) := fun n hn e => by
        have h2 := (unhide HKL n hn e).2
        rw [unhide HZ] at h2; omega
      have HRES := hide hres; clear hres
      have hsgn : decide (z < 0) = false := by rw [decide_eq_false_iff_not]; omega
      obtain ⟨g, cg, rfl, -⟩ := id hr
      have hBV : BigV w' (.agg #[.bool (decide (z < 0)), .slice g (digs z.natAbs).length cg]) z := ⟨_, rfl, hr⟩
      obtain ⟨lz, hlzz⟩ : ∃ lz, (digs z.natAbs).length = lz := ⟨_, rfl⟩
      rw [hlzz] at hBV ⊢
      have HLZ := hide (And.intro hlz hlzz); clear hlz hlzz hr hab hzz HZ hod
      obtain ⟨sz, hsz⟩ : ∃ sz, decide (z < 0) = sz := ⟨_, rfl⟩
      rw [hsz] at hBV
      have HS := hide hsz
      have hb9 : Below w'.heap.size w' (w'.alloc (.cells #[.bool sz, .slice g lz cg] 108)) := (Below.refl _ _).alloc (Nat.le_refl _) _
      have H9 := hide (Blk.new w' 108 #[.bool sz, .slice g lz cg])
      have HBV := hide (hBV.mono hb9)
      have HW := hide ((unhide HB).trans (hb9.mono (unhide HB).size))
      clear hBV hb9
      have HWW : Hid True := trivial
      obtain rfl : sz = false := hsz.symm.trans hsgn
      clear hsgn hsz
      go_wp2_with fail
      refine (l2Fits_any _ z _ (unhide HBV) (unhide HLZ).1).mono ?_
      rintro e w3 ⟨rfl, hb3⟩
      replace H9 := hide ((unhide H9).mono hb3 (unhide H9).lt); replace HBV := hide ((unhide HBV).mono hb3); replace HW := hide ((unhide HW).trans (hb3.mono (unhide HW).size)); clear hb3
      by_cases hf : -9223372036854775808 ≤ z ∧ z ≤ 9223372036854775807
      · have HFI := hide hf
        rw [show fitsB z = true from decide_eq_true hf]
        clear hf
        obtain ⟨⟨z0, z1⟩, -⟩ := two (unhide H9)
        go_wp2_with fail
        refine (l2ToInt_any _ z _ (unhide HBV) (unhide HFI).1 (unhide HFI).2).mono ?_
        rintro e w4 ⟨rfl, hb4⟩
        replace HW := hide ((unhide HW).trans (hb4.mono (unhide HW).size)); clear hb4 z0 z1 H9 HBV
        go_wp2_with fail
        refine (l2Decimal_any z _ (unhide HFI).1 (unhide HFI).2).mono ?_
        rintro e w5 ⟨rfl, hb5⟩
        replace HW := hide ((unhide HW).trans (hb5.mono (unhide HW).size)); clear hb5
        by_cases heq : Lib.itoa z = s.data.toList
        · have hx : x = z ∧ ok = true := by
            have h2 := unhide HR
            rw [← heq, rd, readDec_itoa (unhide HFI)] at h2
            simp only [Prod.mk.injEq] at h2
            exact ⟨h2.1.symm, h2.2.symm⟩
          obtain ⟨rfl, rfl⟩ := hx
          have e5 : ((⟨(Lib.itoa x).toArray⟩ : ByteArray).toList == s.toList) = true := by rw [ByteArray.toList_eq, ByteArray.toList_eq, ← heq]; simp
          obtain ⟨T, hT⟩ : ∃ T : ByteArray, T = ⟨(Lib.itoa x).toArray⟩ := ⟨_, rfl⟩
          rw [← hT] at e5 ⊢
          clear hT heq
          go_wp2
          exact bodyPost_ret (v := .tuple #[.int .i64 x, .bool true]) (by simp [results, Tryz.results68, go_sem]) rfl ⟨rfl, unhide HW⟩
        · obtain ⟨rfl, rfl⟩ := unhide HNO fun n hn e => heq (by rw [← unhide HRES n hn e]; exact e)
          have e5 : ((⟨(Lib.itoa z).toArray⟩ : ByteArray).toList == s.toList) = false := by rw [ByteArray.toList_eq, ByteArray.toList_eq, beq_eq_false_iff_ne]; simpa using heq
          obtain ⟨T, hT⟩ : ∃ T : ByteArray, T = ⟨(Lib.itoa z).toArray⟩ := ⟨_, rfl⟩
          rw [← hT] at e5 ⊢
          clear hT heq
          go_wp2
          exact bodyPost_ret (v := .tuple #[.int .i64 0, .bool false]) (by simp [results, Tryz.results68, go_sem]) rfl ⟨rfl, unhide HW⟩
      · rw [show fitsB z = false from decide_eq_false hf]
        obtain ⟨rfl, rfl⟩ := unhide HNO fun n hn e => hf (by rw [← unhide HRES n hn e]; exact hn)
        clear hf
        go_wp2
        exact bodyPost_ret (v := .tuple #[.int .i64 0, .bool false]) (by simp [results, Tryz.results68, go_sem]) rfl ⟨rfl, unhide HW⟩
    · obtain ⟨k, rfl⟩ : ∃ k', k = k' + 1 := ⟨k - 1, by omega⟩
      rw [show ((k + 1 : Nat) : Int) - 1 = (k : Int) by omega]
      have hks : k < s.size := by omega
      have hFk' : 0 ≤ k := by omega
      have hcell : s.data.toList.drop k = s[k] :: s.data.toList.drop (k + 1) := by
        rw [List.drop_eq_getElem_cons (by have := unhide HL; omega)]; rfl
      have HC := hide hcell; clear hcell
      have bad : ¬ (48 ≤ s[k].toNat ∧ s[k].toNat ≤ 57) → x = 0 ∧ ok = false := fun hbad => (unhide HNO) fun n hn e => hbad (by
        refine (unhide HKL n hn e).1 s[k] ?_
        have e3 : s.data.toList.drop k = (s.data.toList.drop 0).drop (k - 0) := by rw [List.drop_drop]; congr 1; omega
        have : s[k] ∈ s.data.toList.drop k := by rw [unhide HC]; exact List.mem_cons_self ..
        rw [e3] at this
        exact List.mem_of_mem_drop this)
      have HBAD := hide bad; clear bad
      by_cases g1 : s[k].toNat < 48
      · obtain ⟨rfl, rfl⟩ := unhide HBAD (by omega)
        go_wp2
        exact bodyPost_ret (v := .tuple #[.int .i64 0, .bool false]) (by simp [results, Tryz.results68, go_sem]) rfl ⟨rfl, unhide HB⟩
      by_cases g2 : 57 < s[k].toNat
      · obtain ⟨rfl, rfl⟩ := unhide HBAD (by omega)
        go_wp2
        exact bodyPost_ret (v := .tuple #[.int .i64 0, .bool false]) (by simp [results, Tryz.results68, go_sem]) rfl ⟨rfl, unhide HB⟩
      obtain ⟨i0, hi, hz0, hz1, hz2⟩ := info_parts infoI
      go_wp2_with (at_builtin; refine wpList_append_own _ rfl _ _ 80 rfl w.heap.size 3 i0 _ 1 8 Tryz.underlying80 hi hz0 hz1 hz2 rfl (by omega) u6 _ _ rfl ((unhide HO).alloc _) ⟨wr.heap.size, 0, none⟩ 1 1 [.int .i64 ((s[k].toNat : Int) - 48)] rfl rfl (cell_one wr 3 _) (by simp [Value.oneCell']) (by unfold maxLen; omega) (by omega) (by have := (unhide HB).size; simp; omega) ?_)
      intro v' w' hown' hgrow' _
      have hB' := ((unhide HB).alloc (by have := (unhide HB).size; omega) (.cells #[.int .i64 ((s[k].toNat : Int) - 48)] 3)).grown hgrow' (by have := (unhide HB).size; simp; omega) (fun q' e => owns_block (unhide HO) e)
      have HO3 : Hid (w'.ownsRow w.heap.size 3 1 v' (o.length + 1) (ui (o ++ [dgt s[k]]))) := by
        rw [Hid]; rw [show (s[k].toNat : Int) - 48 = ((dgt s[k] : Nat) : Int) by unfold dgt; omega] at hown'; simpa [ui] using hown'
      have HB3 := hide hB'
      clear hown' hgrow' hB' hi hz0 hz1 hz2
      go_wp2_with fail
      go_roundw
      case rel =>
        refine ⟨k, o ++ [dgt s[k]], by have := unhide HF; omega, by omega, rfl, ?_, ?_, ?_, unhide HB3⟩
        · rw [unhide HC, low, List.reverse_cons, List.map_append, unhide HOO]; rfl
        · rw [unhide HC]; intro c hc
          rcases List.mem_cons.1 hc with rfl | hc
          · omega
          · exact unhide HDG c hc
        · have := unhide HO3; simpa using this
      case measure => simp [intOf]

theorem rd_short {s : ByteArray} (h : s.size = 0 ∨ 20 < s.size) : rd s.data.toList = (0, false) := by
  rw [rd, readDec_none fun n hn e => ?_]
  have := itoa_len n hn
  rw [e, Array.length_toList] at this
  have e2 : s.data.size = s.size := rfl
  omega

set_option maxRecDepth 100000 in
set_option maxHeartbeats 1000000 in
theorem l2ReadInt_any (s : ByteArray) (w : World) (hs : s.size ≤ 9223372036854775807) (x : Int) (ok : Bool) (hr : rd s.data.toList = (x, ok)) :
    Calls Tryz.prog 68 #[.string s] w fun e w' => e = .returned (.tuple #[.int .i64 x, .bool ok]) ∧ Below w.heap.size w w' := by
  by_cases h0 : s.size = 0
  · rw [rd_short (.inl h0)] at hr
    simp only [Prod.mk.injEq] at hr
    obtain ⟨rfl, rfl⟩ := hr
    have e0 : ((s.size : Int) == 0) = true := by rw [size0]; simpa using h0
    clear h0
    go_enter Tryz.func68, Tryz.ntmps68
    go_wp2
    exact bodyPost_ret (v := .tuple #[.int .i64 0, .bool false]) (by simp [results, Tryz.results68, go_sem]) rfl ⟨rfl, Below.refl _ _⟩
  by_cases h20 : 20 < s.size
  · rw [rd_short (.inr h20)] at hr
    simp only [Prod.mk.injEq] at hr
    obtain ⟨rfl, rfl⟩ := hr
    have e0 : ((s.size : Int) == 0) = false := by rw [size0]; simpa using h0
    have e1 : decide ((20 : Int) < s.size) = true := by simp only [decide_eq_true_eq]; omega
    clear h0
    go_enter Tryz.func68, Tryz.ntmps68
    go_wp2
    exact bodyPost_ret (v := .tuple #[.int .i64 0, .bool false]) (by simp [results, Tryz.results68, go_sem]) rfl ⟨rfl, Below.refl _ _⟩
  · have h1 : 0 < s.size := by omega
    have hcons : ∃ r, s.data.toList = s[0] :: r := ⟨s.data.toList.drop 1, List.drop_eq_getElem_cons (l := s.data.toList) (i := 0) (by rw [Array.length_toList]; exact h1)⟩
    obtain ⟨r, hcons⟩ := hcons
    by_cases hc : s[0].toNat = 45
    · refine readInt_true s w h1 (by omega) hc x ok hr fun n hn e => ?_
      rw [hcons] at e ⊢
      have hc' : s[0] = 45 := UInt8.toNat_inj.1 hc
      rw [hc'] at e
      exact could_neg e
    · refine readInt_false s w h1 (by omega) hc x ok hr fun n hn e => ?_
      rw [hcons] at e ⊢
      exact could_pos hc e
end Go.Proofs.YtjgngbmkpiihgaaGreatDoor
