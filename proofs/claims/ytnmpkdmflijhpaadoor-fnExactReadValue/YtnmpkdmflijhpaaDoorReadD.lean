/- The program's reading of a plain decimal. -/
import Derived.Test.YtnmpkdmflijhpaaDoorReadI
import Derived.Test.YtnmpkdmflijhpaaDoorShow0
namespace Go.Proofs.YtnmpkdmflijhpaaDoor
open Go Go.RowKit

/-- A package-level variable that holds an error that is not nil. -/
def ErrV (name : String) (w : World) : Prop := ∃ tp p, w.var? Tryd.prog name = some #[.iface tp p]
theorem var_mono {w w' : World} {P : Program} {name : String} {cs : Array Value} (h : w.var? P name = some cs) (hb : Below w.heap.size w w') : w'.var? P name = some cs := by
  unfold World.var? at h ⊢
  cases hg : P.globalNamed name with
  | none => rw [hg] at h; cases h
  | some g =>
    rw [hg] at h
    simp only [Option.bind_some] at h ⊢
    have hlt : g < w.heap.size := by
      apply Nat.lt_of_not_le; intro h0
      rw [Array.getElem?_eq_none h0] at h; cases h
    rw [hb.block g hlt]; exact h
theorem ErrV.mono {name : String} {w w' : World} (h : ErrV name w) (hb : Below w.heap.size w w') : ErrV name w' := by
  obtain ⟨tp, p, h⟩ := h
  exact ⟨tp, p, var_mono h hb⟩

set_option maxRecDepth 100000 in
set_option maxHeartbeats 4000000 in
theorem readDecimal_any (s : ByteArray) (w : World) (hs : s.size ≤ 1048576) (hp : Pow w) (h1 : ErrV "strconv.ErrSyntax" w) (h2 : ErrV "strconv.ErrRange" w) (x : Int) (ok : Bool) (hr : rd s.data.toList = (x, ok)) :
    Calls Tryd.prog 100 #[.string s] w fun e w' => e = .returned (.tuple #[.int .i64 x, .bool ok]) ∧ Below w.heap.size w w' := by
  have HP := hide hp; have HR := hide hr; clear hp hr
  cases hq : Lib.parseIntB 64 s.data.toList with
  | ok n =>
    have hb := Lib.parseIntB_bounds hq
    have hn : I64 n := by have : (2 : Nat) ^ (64 - 1) = 9223372036854775808 := rfl; unfold I64; omega
    have HN := hide hn; clear hb hn
    go_enter Tryd.func100, Tryd.ntmps100
    go_wp2_with fail
    refine (Tryd.strconv_ParseInt_10_at64_ok s (by omega) n hq w).mono ?_
    rintro e w1 ⟨rfl, hw1⟩
    have hb1 : Below w.heap.size w w1 := by
      rcases hw1 with rfl | ⟨t, rfl⟩
      · exact Below.refl _ _
      · exact Lib.bytesWorld_below _ _ _
    clear hw1
    have HW := hide hb1; clear hb1
    go_wp2_with fail
    refine (decimal_any n _ (unhide HN).1 (unhide HN).2 ((unhide HP).mono (unhide HW))).mono ?_
    rintro e w2 ⟨rfl, hb2⟩
    replace HW := hide ((unhide HW).trans (hb2.mono (unhide HW).size)); clear hb2
    by_cases heq : Lib.itoa n = s.data.toList
    · have hx : x = n ∧ ok = true := by
        have h3 := unhide HR
        rw [rd, readDec, hq] at h3
        simp only [if_pos heq, Prod.mk.injEq] at h3
        exact ⟨h3.1.symm, h3.2.symm⟩
      obtain ⟨rfl, rfl⟩ := hx
      have e5 : ((⟨(Lib.itoa x).toArray⟩ : ByteArray).toList == s.toList) = true := by rw [ByteArray.toList_eq, ByteArray.toList_eq, ← heq]; simp
      obtain ⟨T, hT⟩ : ∃ T : ByteArray, T = ⟨(Lib.itoa x).toArray⟩ := ⟨_, rfl⟩
      rw [← hT] at e5 ⊢
      clear hT heq hq
      go_wp2
      exact bodyPost_ret (v := .tuple #[.int .i64 x, .bool true]) (by simp [results, Tryd.results100, go_sem]) rfl ⟨rfl, unhide HW⟩
    · have hx : x = 0 ∧ ok = false := by
        have h3 := unhide HR
        rw [rd, readDec, hq] at h3
        simp only [if_neg heq, Prod.mk.injEq] at h3
        exact ⟨h3.1.symm, h3.2.symm⟩
      obtain ⟨rfl, rfl⟩ := hx
      have e5 : ((⟨(Lib.itoa n).toArray⟩ : ByteArray).toList == s.toList) = false := by rw [ByteArray.toList_eq, ByteArray.toList_eq, beq_eq_false_iff_ne]; simpa using heq
      obtain ⟨T, hT⟩ : ∃ T : ByteArray, T = ⟨(Lib.itoa n).toArray⟩ := ⟨_, rfl⟩
      rw [← hT] at e5 ⊢
      clear hT heq hq
      go_wp2
      exact bodyPost_ret (v := .tuple #[.int .i64 0, .bool false]) (by simp [results, Tryd.results100, go_sem]) rfl ⟨rfl, unhide HW⟩
  | «syntax» =>
    obtain ⟨tp, p, hv⟩ := h1
    have hx : x = 0 ∧ ok = false := by
      have h3 := unhide HR
      rw [rd, readDec, hq] at h3
      simp only [Prod.mk.injEq] at h3
      exact ⟨h3.1.symm, h3.2.symm⟩
    obtain ⟨rfl, rfl⟩ := hx
    go_enter Tryd.func100, Tryd.ntmps100
    go_wp2_with fail
    refine (Tryd.strconv_ParseInt_10_at64_syntax_var s (by omega) hq tp p w hv).mono ?_
    rintro e w1 ⟨N, rfl, -, -, hb1⟩
    have HW := hide hb1; clear hb1 hq
    go_wp2
    exact bodyPost_ret (v := .tuple #[.int .i64 0, .bool false]) (by simp [results, Tryd.results100, go_sem]) rfl ⟨rfl, unhide HW⟩
  | range =>
    obtain ⟨tp, p, hv⟩ := h2
    have hx : x = 0 ∧ ok = false := by
      have h3 := unhide HR
      rw [rd, readDec, hq] at h3
      simp only [Prod.mk.injEq] at h3
      exact ⟨h3.1.symm, h3.2.symm⟩
    obtain ⟨rfl, rfl⟩ := hx
    go_enter Tryd.func100, Tryd.ntmps100
    go_wp2_with fail
    refine (Tryd.strconv_ParseInt_10_at64_range_var s (by omega) hq tp p w hv).mono ?_
    rintro e w1 ⟨N, rfl, -, -, hb1⟩
    have HW := hide hb1; clear hb1 hq
    go_wp2
    exact bodyPost_ret (v := .tuple #[.int .i64 0, .bool false]) (by simp [results, Tryd.results100, go_sem]) rfl ⟨rfl, unhide HW⟩
end Go.Proofs.YtnmpkdmflijhpaaDoor
