import Derived.Test.YtjgngbmkpiihgaaGreatDoorGRc
import Derived.Test.YtjgngbmkpiihgaaGreatDoorZRvM
import Derived.Test.YtjgngbmkpiihgaaGreatDoorGNa
import Derived.Test.YtjgngbmkpiihgaaGreatDoorGSh
/- (loose) The model's ReadValue. -/
namespace Go.Proofs.YtjgngbmkpiihgaaGreatDoor
open Go Go.RowKit

theorem show_blank : showB 0 0 ⟨#[]⟩ = ⟨#[98, 108, 97, 110, 107]⟩ := by simp [showB, okVal, ByteArray.size]
theorem show_true : showB 2 1 ⟨#[]⟩ = ⟨#[116, 114, 117, 101]⟩ := by simp [showB, okVal, ByteArray.size]
theorem show_false : showB 2 0 ⟨#[]⟩ = ⟨#[102, 97, 108, 115, 101]⟩ := by simp [showB, okVal, ByteArray.size]
theorem three' {w : World} {b : Nat} {t : TypeId} {v0 v1 v2 : Value} (h : Blk w b t [v0, v1, v2]) :
    (w.cell? ⟨b, 0, none⟩ = some v0 ∧ w.cell? ⟨b, 1, none⟩ = some v1 ∧ w.cell? ⟨b, 2, none⟩ = some v2) ∧ (w.frozen? ⟨b, 0, none⟩ = false ∧ w.frozen? ⟨b, 1, none⟩ = false ∧ w.frozen? ⟨b, 2, none⟩ = false) := ⟨⟨h.cell 0, h.cell 1, h.cell 2⟩, ⟨h.free 0, h.free 1, h.free 2⟩⟩
theorem run_mid (s : ByteArray) (h2 : 2 ≤ s.size) (w : World) : (Instr.slice 9 (.string s) (some (.int .i64 1)) (some (.int .i64 ((s.size : Int) - 1))) none).run Tryz.prog w = .ok (.string (mid s)) w := by
  rw [run_slice_string w 9 s .i64 .i64 _ _ Tryz.underlying9 (by omega) (by omega) (by omega), show ((1 : Int)).toNat = 1 from rfl, show ((s.size : Int) - 1).toNat = s.size - 1 by omega]
  rfl

end Go.Proofs.YtjgngbmkpiihgaaGreatDoor

/- The program's reading of a plain decimal. -/
namespace Go.Proofs.YtjgngbmkpiihgaaGreatDoor
open Go Go.RowKit

/-- A package-level variable that holds an error that is not nil. -/
def ErrV (name : String) (w : World) : Prop := ∃ tp p, w.var? Tryz.prog name = some #[.iface tp p]
theorem var_mono {w w' : World} {P : Program} {name : String} {cs : Array Value} (h : w.var? P name = some cs) (hb : Below w.heap.size w w') : w'.var? P name = some cs := by
  unfold World.var? at h ⊢
  cases hg : P.globalNamed name with
  | none => rw [hg] at h; cases h
  | some g =>
    rw [hg] at h
    simp only [Option.bind_some] at h ⊢
    have hlt : g < w.heap.size := by
      apply Nat.lt_of_not_le; intro h0
      rw [Array.getElem?_eq_none h0] at h; cases h
    rw [hb.block g hlt]; exact h
theorem ErrV.mono {name : String} {w w' : World} (h : ErrV name w) (hb : Below w.heap.size w w') : ErrV name w' := by
  obtain ⟨tp, p, h⟩ := h
  exact ⟨tp, p, var_mono h hb⟩

set_option maxRecDepth 100000 in
set_option maxHeartbeats 4000000 in
theorem readDecimal_any (s : ByteArray) (w : World) (hs : s.size ≤ 1048576) (hp : Pow w) (h1 : ErrV "strconv.ErrSyntax" w) (h2 : ErrV "strconv.ErrRange" w) (x : Int) (ok : Bool) (hr : rd s.data.toList = (x, ok)) :
    Calls Tryz.prog 136 #[.string s] w fun e w' => e = .returned (.tuple #[.int .i64 x, .bool ok]) ∧ Below w.heap.size w w' := by
  have HP := hide hp; have HR := hide hr; clear hp hr
  cases hq : Lib.parseIntB 64 s.data.toList with
  | ok n =>
    have hb := Lib.parseIntB_bounds hq
    have hn : I64 n := by have : (2 : Nat) ^ (64 - 1) = 9223372036854775808 := rfl; unfold I64; omega
    have HN := hide hn; clear hb hn
    go_enter Tryz.func136, Tryz.ntmps136
    go_wp2_with fail
    refine (Tryz.strconv_ParseInt_10_at64_ok s (by omega) n hq w).mono ?_
    rintro e w1 ⟨rfl, hw1⟩
    have hb1 : Below w.heap.size w w1 := by
      rcases hw1 with rfl | ⟨t, rfl⟩
      · exact Below.refl _ _
      · exact Lib.bytesWorld_below _ _ _
    clear hw1
    have HW := hide hb1; clear hb1
    go_wp2_with fail
    refine (decimal_any n _ (unhide HN).1 (unhide HN).2 ((unhide HP).mono (unhide HW))).mono ?_
    rintro e w2 ⟨rfl, hb2⟩
    replace HW := hide ((unhide HW).trans (hb2.mono (unhide HW).size)); clear hb2
    by_cases heq : Lib.itoa n = s.data.toList
    · have hx : x = n ∧ ok = true := by
        have h3 := unhide HR
        rw [rd, readDec, hq] at h3
        simp only [if_pos heq, Prod.mk.injEq] at h3
        exact ⟨h3.1.symm, h3.2.symm⟩
      obtain ⟨rfl, rfl⟩ := hx
      have e5 : ((⟨(Lib.itoa x).toArray⟩ : ByteArray).toList == s.toList) = true := by rw [ByteArray.toList_eq, ByteArray.toList_eq, ← heq]; simp
      obtain ⟨T, hT⟩ : ∃ T : ByteArray, T = ⟨(Lib.itoa x).toArray⟩ := ⟨_, rfl⟩
      rw [← hT] at e5 ⊢
      clear hT heq hq
      go_wp2
      exact bodyPost_ret (v := .tuple #[.int .i64 x, .bool true]) (by simp [results, Tryz.results136, go_sem]) rfl ⟨rfl, unhide HW⟩
    · have hx : x = 0 ∧ ok = false := by
        have h3 := unhide HR
        rw [rd, readDec, hq] at h3
        simp only [if_neg heq, Prod.mk.injEq] at h3
        exact ⟨h3.1.symm, h3.2.symm⟩
      obtain ⟨rfl, rfl⟩ := hx
      have e5 : ((⟨(Lib.itoa n).toArray⟩ : ByteArray).toList == s.toList) = false := by rw [ByteArray.toList_eq, ByteArray.toList_eq, beq_eq_false_iff_ne]; simpa using heq
      obtain ⟨T, hT⟩ : ∃ T : ByteArray, T = ⟨(Lib.itoa n).toArray⟩ := ⟨_, rfl⟩
      rw [← hT] at e5 ⊢
      clear hT heq hq
      go_wp2
      exact bodyPost_ret (v := .tuple #[.int .i64 0, .bool false]) (by simp [results, Tryz.results136, go_sem]) rfl ⟨rfl, unhide HW⟩
  | «syntax» =>
    obtain ⟨tp, p, hv⟩ := h1
    have hx : x = 0 ∧ ok = false := by
      have h3 := unhide HR
      rw [rd, readDec, hq] at h3
      simp only [Prod.mk.injEq] at h3
      exact ⟨h3.1.symm, h3.2.symm⟩
    obtain ⟨rfl, rfl⟩ := hx
    go_enter Tryz.func136, Tryz.ntmps136
    go_wp2_with fail
    refine (Tryz.strconv_ParseInt_10_at64_syntax_var s (by omega) hq tp p w hv).mono ?_
    rintro e w1 ⟨N, rfl, -, -, hb1⟩
    have HW := hide hb1; clear hb1 hq
    go_wp2
    exact bodyPost_ret (v := .tuple #[.int .i64 0, .bool false]) (by simp [results, Tryz.results136, go_sem]) rfl ⟨rfl, unhide HW⟩
  | range =>
    obtain ⟨tp, p, hv⟩ := h2
    have hx : x = 0 ∧ ok = false := by
      have h3 := unhide HR
      rw [rd, readDec, hq] at h3
      simp only [Prod.mk.injEq] at h3
      exact ⟨h3.1.symm, h3.2.symm⟩
    obtain ⟨rfl, rfl⟩ := hx
    go_enter Tryz.func136, Tryz.ntmps136
    go_wp2_with fail
    refine (Tryz.strconv_ParseInt_10_at64_range_var s (by omega) hq tp p w hv).mono ?_
    rintro e w1 ⟨N, rfl, -, -, hb1⟩
    have HW := hide hb1; clear hb1 hq
    go_wp2
    exact bodyPost_ret (v := .tuple #[.int .i64 0, .bool false]) (by simp [results, Tryz.results136, go_sem]) rfl ⟨rfl, unhide HW⟩
end Go.Proofs.YtjgngbmkpiihgaaGreatDoor

/- (loose) The program's likelyValue. -/
namespace Go.Proofs.YtjgngbmkpiihgaaGreatDoor
open Go Go.RowKit

/-- The value that a text seems to show. -/
def lv (s : ByteArray) : Int × Int × ByteArray :=
  if s = ⟨#[98, 108, 97, 110, 107]⟩ then (0, 0, ⟨#[]⟩)
  else if s = ⟨#[116, 114, 117, 101]⟩ then (2, 1, ⟨#[]⟩)
  else if s = ⟨#[102, 97, 108, 115, 101]⟩ then (2, 0, ⟨#[]⟩)
  else if 2 ≤ s.size ∧ s.data.toList.head? = some 34 then (3, 0, mid s)
  else (1, (rd s.data.toList).1, ⟨#[]⟩)
theorem head_at {s : ByteArray} (h : 0 < s.size) : s.data.toList.head? = some s[0] := by
  have e : s.data.toList = s[0] :: s.data.toList.drop 1 := List.drop_eq_getElem_cons (l := s.data.toList) (i := 0) (by rw [Array.length_toList]; exact h)
  rw [e]; rfl
theorem itoa_head (n : Int) : (Lib.itoa n).head? ≠ some 34 := by
  by_cases hn : n < 0
  · obtain ⟨t, e, -⟩ := (itoa_looks n).1 hn
    rw [e]; simp
  · obtain ⟨e, -⟩ := (itoa_looks n).2 hn
    obtain ⟨c, r, e2, h1, h2⟩ := dec_head n.natAbs
    rw [e, e2]
    intro h
    simp only [List.head?_cons, Option.some.injEq] at h
    rw [h] at h1
    exact absurd h1 (by decide)
theorem quoted_head (t : ByteArray) : ((⟨#[34]⟩ : ByteArray) ++ t ++ ⟨#[34]⟩).data.toList.head? = some 34 := by simp [ByteArray.data_append]
theorem rv_lv (s : ByteArray) : rv s = if showB (lv s).1 (lv s).2.1 (lv s).2.2 = s then ((lv s).1, (lv s).2.1, (lv s).2.2, true) else (0, 0, ⟨#[]⟩, false) := by
  unfold rv lv
  by_cases n1 : s = ⟨#[98, 108, 97, 110, 107]⟩
  · simp only [if_pos n1]
    rw [if_pos (by rw [show_blank, n1])]
  by_cases n2 : s = ⟨#[116, 114, 117, 101]⟩
  · simp only [if_neg n1, if_pos n2]
    rw [if_pos (by rw [show_true, n2])]
  by_cases n3 : s = ⟨#[102, 97, 108, 115, 101]⟩
  · simp only [if_neg n1, if_neg n2, if_pos n3]
    rw [if_pos (by rw [show_false, n3])]
  simp only [if_neg n1, if_neg n2, if_neg n3]
  by_cases h : 2 ≤ s.size ∧ s.data.toList.head? = some 34
  · simp only [if_pos h]
    rw [readDec_none fun n _ e => itoa_head n (by rw [e]; exact h.2)]
    simp only
    cases ht : okText (mid s)
    · rw [if_neg (by simp), if_neg]
      intro e
      have : showB 3 0 (mid s) = ⟨#[63]⟩ := by simp [showB, okVal, ht]
      rw [this] at e
      rw [← e] at h
      exact absurd h.1 (by decide)
    · have : showB 3 0 (mid s) = ⟨#[34]⟩ ++ mid s ++ ⟨#[34]⟩ := by simp [showB, okVal, ht]
      rw [this]
      by_cases hq : (⟨#[34]⟩ : ByteArray) ++ mid s ++ ⟨#[34]⟩ = s
      · rw [if_pos ⟨h.1, rfl, hq⟩, if_pos hq]
      · rw [if_neg (fun hh => hq hh.2.2), if_neg hq]
  · simp only [if_neg h]
    have hsh : ∀ n, showB 1 n ⟨#[]⟩ = ⟨(Lib.itoa n).toArray⟩ := fun n => by simp [showB, okVal, ByteArray.size]
    rw [hsh]
    cases hq : readDec s.data.toList with
    | some n =>
      have e := readDec_some hq
      simp only [rd, hq]
      rw [if_pos]
      exact string_ext (by simpa using e)
    | none =>
      simp only [rd, hq]
      rw [if_neg (fun hh => h ⟨hh.1, by rw [← hh.2.2]; exact quoted_head _⟩), if_neg]
      intro e
      rw [← e] at hq
      have := readDec_itoa (n := 0) ⟨by omega, by omega⟩
      rw [this] at hq
      cases hq

set_option maxRecDepth 100000 in
set_option maxHeartbeats 8000000 in
theorem likely_any (s : ByteArray) (w : World) (hs : s.size ≤ 1048576) (hp : Pow w) (q1 : ErrV "strconv.ErrSyntax" w) (q2 : ErrV "strconv.ErrRange" w) (kind num : Int) (t : ByteArray) (hr : lv s = (kind, num, t)) :
    Calls Tryz.prog 118 #[.string s] w fun e w' => e = .returned (.agg #[.int .i64 kind, .int .i64 num, .string t]) ∧ Below w.heap.size w w' := by
  have HR := hide (Blk.new w 39 #[.int .i64 0, .int .i64 0, .string ⟨#[]⟩])
  have HW : Hid (Below w.heap.size w (w.alloc (.cells #[.int .i64 0, .int .i64 0, .string ⟨#[]⟩] 39))) := (Below.refl _ _).alloc (Nat.le_refl _) _
  go_enter Tryz.func118, Tryz.ntmps118
  by_cases n1 : s = ⟨#[98, 108, 97, 110, 107]⟩
  · have e1 : (s.toList == [98, 108, 97, 110, 107]) = true := by rw [n1]; decide +kernel
    rw [lv, if_pos n1] at hr
    simp only [Prod.mk.injEq] at hr
    obtain ⟨rfl, rfl, rfl⟩ := hr
    clear n1
    go_wp2_with fail
    refine (blankValue_any _).mono ?_
    rintro e w1 ⟨rfl, hb⟩
    replace HR := hide ((unhide HR).mono hb (unhide HR).lt); replace HW := hide ((unhide HW).trans (hb.mono (unhide HW).size)); clear hb
    obtain ⟨⟨r0, r1, r2⟩, ⟨f0, f1, f2⟩⟩ := three' (unhide HR)
    have HZ := hide ((((unhide HW).setCell (p := ⟨w.heap.size, 0, none⟩) (Nat.le_refl _) (.int .i64 0)).setCell (p := ⟨w.heap.size, 1, none⟩) (Nat.le_refl _) (.int .i64 0)).setCell (p := ⟨w.heap.size, 2, none⟩) (Nat.le_refl _) (.string ⟨#[]⟩))
    go_wp2
    exact bodyPost_ret (v := .agg #[.int .i64 0, .int .i64 0, .string ⟨#[]⟩]) (by simp [results, Tryz.results118, go_sem, *]) rfl ⟨rfl, unhide HZ⟩
  have e1 : (s.toList == [98, 108, 97, 110, 107]) = false := by rw [ByteArray.toList_eq, beq_eq_false_iff_ne]; exact fun e => n1 (string_ext e)
  by_cases n2 : s = ⟨#[116, 114, 117, 101]⟩
  · have e2 : (s.toList == [116, 114, 117, 101]) = true := by rw [n2]; decide +kernel
    rw [lv, if_neg n1, if_pos n2] at hr
    simp only [Prod.mk.injEq] at hr
    obtain ⟨rfl, rfl, rfl⟩ := hr
    clear n1 n2
    go_wp2_with fail
    refine (boolValue_any true _).mono ?_
    rintro e w1 ⟨rfl, hb⟩
    replace HR := hide ((unhide HR).mono hb (unhide HR).lt); replace HW := hide ((unhide HW).trans (hb.mono (unhide HW).size)); clear hb
    rw [if_pos rfl]
    obtain ⟨⟨r0, r1, r2⟩, ⟨f0, f1, f2⟩⟩ := three' (unhide HR)
    have HZ := hide ((((unhide HW).setCell (p := ⟨w.heap.size, 0, none⟩) (Nat.le_refl _) (.int .i64 2)).setCell (p := ⟨w.heap.size, 1, none⟩) (Nat.le_refl _) (.int .i64 1)).setCell (p := ⟨w.heap.size, 2, none⟩) (Nat.le_refl _) (.string ⟨#[]⟩))
    go_wp2
    exact bodyPost_ret (v := .agg #[.int .i64 2, .int .i64 1, .string ⟨#[]⟩]) (by simp [results, Tryz.results118, go_sem, *]) rfl ⟨rfl, unhide HZ⟩
  have e2 : (s.toList == [116, 114, 117, 101]) = false := by rw [ByteArray.toList_eq, beq_eq_false_iff_ne]; exact fun e => n2 (string_ext e)
  by_cases n3 : s = ⟨#[102, 97, 108, 115, 101]⟩
  · have e3 : (s.toList == [102, 97, 108, 115, 101]) = true := by rw [n3]; decide +kernel
    rw [lv, if_neg n1, if_neg n2, if_pos n3] at hr
    simp only [Prod.mk.injEq] at hr
    obtain ⟨rfl, rfl, rfl⟩ := hr
    clear n1 n2 n3
    go_wp2_with fail
    refine (boolValue_any false _).mono ?_
    rintro e w1 ⟨rfl, hb⟩
    replace HR := hide ((unhide HR).mono hb (unhide HR).lt); replace HW := hide ((unhide HW).trans (hb.mono (unhide HW).size)); clear hb
    rw [if_neg (by decide)]
    obtain ⟨⟨r0, r1, r2⟩, ⟨f0, f1, f2⟩⟩ := three' (unhide HR)
    have HZ := hide ((((unhide HW).setCell (p := ⟨w.heap.size, 0, none⟩) (Nat.le_refl _) (.int .i64 2)).setCell (p := ⟨w.heap.size, 1, none⟩) (Nat.le_refl _) (.int .i64 0)).setCell (p := ⟨w.heap.size, 2, none⟩) (Nat.le_refl _) (.string ⟨#[]⟩))
    go_wp2
    exact bodyPost_ret (v := .agg #[.int .i64 2, .int .i64 0, .string ⟨#[]⟩]) (by simp [results, Tryz.results118, go_sem, *]) rfl ⟨rfl, unhide HZ⟩
  have e3 : (s.toList == [102, 97, 108, 115, 101]) = false := by rw [ByteArray.toList_eq, beq_eq_false_iff_ne]; exact fun e => n3 (string_ext e)
  by_cases h2 : 2 ≤ s.size
  · have hh := head_at (s := s) (by omega)
    have h0 : 0 < s.size := by omega
    by_cases h34 : s[0].toNat = 34
    · have e4 : ((s[0].toNat : Int) == 34) = true := by simp; omega
      have hsl := run_mid s h2
      rw [lv, if_neg n1, if_neg n2, if_neg n3, if_pos ⟨h2, by rw [hh, UInt8.toNat_inj.1 (show s[0].toNat = (34 : UInt8).toNat from h34)]⟩] at hr
      simp only [Prod.mk.injEq] at hr
      obtain ⟨rfl, rfl, rfl⟩ := hr
      obtain ⟨M, hM⟩ : ∃ M, M = mid s := ⟨_, rfl⟩
      rw [← hM] at hsl ⊢
      clear hM h34 n1 n2 n3 hh
      go_wp2_with fail
      refine (textValue_any M _).mono ?_
      rintro e w1 ⟨rfl, hb⟩
      replace HR := hide ((unhide HR).mono hb (unhide HR).lt); replace HW := hide ((unhide HW).trans (hb.mono (unhide HW).size)); clear hb
      obtain ⟨⟨r0, r1, r2⟩, ⟨f0, f1, f2⟩⟩ := three' (unhide HR)
      have HZ := hide ((((unhide HW).setCell (p := ⟨w.heap.size, 0, none⟩) (Nat.le_refl _) (.int .i64 3)).setCell (p := ⟨w.heap.size, 1, none⟩) (Nat.le_refl _) (.int .i64 0)).setCell (p := ⟨w.heap.size, 2, none⟩) (Nat.le_refl _) (.string M))
      go_wp2
      exact bodyPost_ret (v := .agg #[.int .i64 3, .int .i64 0, .string M]) (by simp [results, Tryz.results118, go_sem, *]) rfl ⟨rfl, unhide HZ⟩
    · have e4 : ((s[0].toNat : Int) == 34) = false := by rw [beq_eq_false_iff_ne]; omega
      rw [lv, if_neg n1, if_neg n2, if_neg n3, if_neg (fun h => h34 (by have := h.2; rw [hh] at this; simp only [Option.some.injEq] at this; rw [this]; rfl))] at hr
      simp only [Prod.mk.injEq] at hr
      obtain ⟨rfl, rfl, rfl⟩ := hr
      clear h34 n1 n2 n3 hh
      obtain ⟨x, ok, hx⟩ : ∃ x ok, rd s.data.toList = (x, ok) := ⟨_, _, rfl⟩
      rw [hx]
      go_wp2_with fail
      refine (readDecimal_any s _ hs (hp.mono (unhide HW)) (q1.mono (unhide HW)) (q2.mono (unhide HW)) x ok hx).mono ?_
      rintro e w1 ⟨rfl, hb⟩
      replace HR := hide ((unhide HR).mono hb (unhide HR).lt); replace HW := hide ((unhide HW).trans (hb.mono (unhide HW).size)); clear hb
      clear hx
      go_wp2_with fail
      refine (intValue_any x _).mono ?_
      rintro e w1 ⟨rfl, hb⟩
      replace HR := hide ((unhide HR).mono hb (unhide HR).lt); replace HW := hide ((unhide HW).trans (hb.mono (unhide HW).size)); clear hb
      obtain ⟨⟨r0, r1, r2⟩, ⟨f0, f1, f2⟩⟩ := three' (unhide HR)
      have HZ := hide ((((unhide HW).setCell (p := ⟨w.heap.size, 0, none⟩) (Nat.le_refl _) (.int .i64 1)).setCell (p := ⟨w.heap.size, 1, none⟩) (Nat.le_refl _) (.int .i64 x)).setCell (p := ⟨w.heap.size, 2, none⟩) (Nat.le_refl _) (.string ⟨#[]⟩))
      go_wp2
      exact bodyPost_ret (v := .agg #[.int .i64 1, .int .i64 x, .string ⟨#[]⟩]) (by simp [results, Tryz.results118, go_sem, *]) rfl ⟨rfl, unhide HZ⟩
  · have h2' : ¬ (2 : Int) ≤ s.size := by omega
    rw [lv, if_neg n1, if_neg n2, if_neg n3, if_neg (fun h => h2 h.1)] at hr
    simp only [Prod.mk.injEq] at hr
    obtain ⟨rfl, rfl, rfl⟩ := hr
    clear n1 n2 n3
    obtain ⟨x, ok, hx⟩ : ∃ x ok, rd s.data.toList = (x, ok) := ⟨_, _, rfl⟩
    rw [hx]
    go_wp2_with fail
    refine (readDecimal_any s _ hs (hp.mono (unhide HW)) (q1.mono (unhide HW)) (q2.mono (unhide HW)) x ok hx).mono ?_
    rintro e w1 ⟨rfl, hb⟩
    replace HR := hide ((unhide HR).mono hb (unhide HR).lt); replace HW := hide ((unhide HW).trans (hb.mono (unhide HW).size)); clear hb
    clear hx
    go_wp2_with fail
    refine (intValue_any x _).mono ?_
    rintro e w1 ⟨rfl, hb⟩
    replace HR := hide ((unhide HR).mono hb (unhide HR).lt); replace HW := hide ((unhide HW).trans (hb.mono (unhide HW).size)); clear hb
    obtain ⟨⟨r0, r1, r2⟩, ⟨f0, f1, f2⟩⟩ := three' (unhide HR)
    have HZ := hide ((((unhide HW).setCell (p := ⟨w.heap.size, 0, none⟩) (Nat.le_refl _) (.int .i64 1)).setCell (p := ⟨w.heap.size, 1, none⟩) (Nat.le_refl _) (.int .i64 x)).setCell (p := ⟨w.heap.size, 2, none⟩) (Nat.le_refl _) (.string ⟨#[]⟩))
    go_wp2
    exact bodyPost_ret (v := .agg #[.int .i64 1, .int .i64 x, .string ⟨#[]⟩]) (by simp [results, Tryz.results118, go_sem, *]) rfl ⟨rfl, unhide HZ⟩
end Go.Proofs.YtjgngbmkpiihgaaGreatDoor
