/- The model's exact integers: digits in memory; a number's digits and its plain decimal. -/
import Derived.Test.YtnmpkdmflijhpaaGreatDoorOwn
import Derived.Test.YtnmpkdmflijhpaaGreatDoorNum
namespace Go.Proofs.YtnmpkdmflijhpaaGreatDoor
open Go Go.RowKit

/-- The slice v holds these digits. -/
def DigS (w : World) (v : Value) (l : List Nat) : Prop := ∃ a cap, v = .slice a l.length cap ∧ l.length ≤ cap ∧ (a = none → cap = 0) ∧ Ints w a l.length (fun k => ((l.getD k 0 : Nat) : Int))
theorem DigS.mono {w w' : World} {v : Value} {l : List Nat} (h : DigS w v l) (hb : Below w.heap.size w w') : DigS w' v l := by
  obtain ⟨a, cap, e, hc, hn, hi⟩ := h
  exact ⟨a, cap, e, hc, hn, hi.mono hb⟩
theorem digS_of_owns {w : World} {base : Nat} {e : TypeId} {v : Value} {us : List Nat} (h : w.ownsRow base e 1 v us.length (ui us)) : DigS w v us := by
  rcases h.2 with ⟨rfl, h0⟩ | ⟨g, cap, cur, rfl, hb, hg, hc, -, hs, htake⟩
  · exact ⟨none, 0, by rw [h0], by omega, fun _ => rfl, fun k hk => absurd hk (by omega)⟩
  · obtain ⟨a, cap', e1, hI⟩ := ints_of_owns h
    simp only [Value.slice.injEq] at e1
    obtain ⟨rfl, -, rfl⟩ := e1
    exact ⟨_, _, rfl, by omega, (fun h => by cases h), hI⟩
theorem owns_other {w : World} {base : Nat} {e : TypeId} {v : Value} {n : Nat} {xs : List Value} (h : w.ownsRow base e 1 v n xs) {b : Nat} (hb : b < base) (j : Nat) (u : Value) : (w.setCell ⟨b, j, none⟩ u).ownsRow base e 1 v n xs := by
  rcases h.2 with h' | ⟨g, cap, cur, e', hb', hg, hc, hx, hs, htake⟩
  · exact ⟨h.1, .inl h'⟩
  · exact ⟨h.1, .inr ⟨g, cap, cur, e', hb', (heap_setCell_other w ⟨b, j, none⟩ g u (by simp; omega)).trans hg, hc, hx, hs, htake⟩⟩
theorem tmod_abs (y : Int) : (y.tmod 10 < 0 → -(y.tmod 10) = ((y.natAbs % 10 : Nat) : Int)) ∧ (¬ y.tmod 10 < 0 → y.tmod 10 = ((y.natAbs % 10 : Nat) : Int)) := by
  have e : ∀ n : Nat, (n : Int).tmod 10 = ((n % 10 : Nat) : Int) := fun n => (Int.ofNat_tmod n 10).symm
  rcases Int.lt_or_le y 0 with h | h
  · obtain ⟨n, rfl⟩ : ∃ n : Nat, y = -(n : Int) := ⟨y.natAbs, by omega⟩
    rw [Int.neg_tmod, e, Int.natAbs_neg]; simp only [Int.natAbs_natCast]; omega
  · obtain ⟨n, rfl⟩ : ∃ n : Nat, y = (n : Int) := ⟨y.toNat, by omega⟩
    rw [e]; simp only [Int.natAbs_natCast]
    exact ⟨fun h => by omega, fun _ => trivial⟩
theorem tdiv_abs (y : Int) : (y.tdiv 10).natAbs = y.natAbs / 10 := by rw [Int.natAbs_tdiv]; rfl

set_option maxRecDepth 100000 in
set_option maxHeartbeats 2000000 in
theorem l2FromInt_any (x : Int) (w : World) (h0 : -9223372036854775808 ≤ x) (h1 : x ≤ 9223372036854775807) :
    Calls Tryz.prog 29 #[.int .i64 x] w fun e w' => ∃ v, e = .returned (.agg #[.bool (decide (x < 0)), v]) ∧ DigS w' v (digs x.natAbs) ∧ Below w.heap.size w w' := by
  have HX := hide (And.intro h0 h1); clear h0 h1
  go_enter Tryz.func29, Tryz.ntmps29
  go_wp2
  have H0 : Hid (((w.alloc (.cells #[.bool false, .slice none 0 0] 46)).alloc (.cells #[] 3)).ownsRow (w.alloc (.cells #[.bool false, .slice none 0 0] 46)).heap.size 3 1 (.slice (some ⟨(w.alloc (.cells #[.bool false, .slice none 0 0] 46)).heap.size, 0, none⟩) 0 0) 0 []) := owns_none _ _
  have HB : Hid (Below (w.heap.size + 1) (w.alloc (.cells #[.bool false, .slice none 0 0] 46)) ((w.alloc (.cells #[.bool false, .slice none 0 0] 46)).alloc (.cells #[] 3))) := (Below.refl _ _).alloc (by simp) _
  have H1 : Hid (Below w.heap.size w (w.alloc (.cells #[.bool false, .slice none 0 0] 46))) := (Below.refl _ _).alloc (Nat.le_refl _) _
  have HR := hide (Blk.new w 46 #[.bool false, .slice none 0 0])
  have hs : (w.alloc (.cells #[.bool false, .slice none 0 0] 46)).heap.size = w.heap.size + 1 := by simp
  rw [hs] at H0
  generalize (w.alloc (.cells #[.bool false, .slice none 0 0] 46)) = W at *
  go_loopw [0, 3] (fun xv v wr => ∃ (y : Int) (l : List Nat), xv = .int .i64 y ∧ -9223372036854775808 ≤ y ∧ y ≤ 9223372036854775807 ∧ l ++ digs y.natAbs = digs x.natAbs ∧ wr.ownsRow (w.heap.size + 1) 3 1 v l.length (ui l) ∧ Below (w.heap.size + 1) W wr) (fun xv _ _ => (intOf xv).natAbs)
  case atStart => exact ⟨x, [], rfl, (unhide HX).1, (unhide HX).2, rfl, unhide H0, unhide HB⟩
  case round =>
    clear H0 HB
    obtain ⟨y, l, rfl, y0, y1, hl, hown, hb⟩ := hrel
    have hlen : l.length + (digs y.natAbs).length ≤ 19 := by
      have e1 := congrArg List.length hl
      have e2 : (digs x.natAbs).length ≤ 19 := digs_length_le (by have := unhide HX; omega)
      simp at e1; omega
    have HY := hide (And.intro y0 y1); clear y0 y1
    have HL := hide hl; have HO := hide hown; have HB := hide hb; clear hl hown hb
    by_cases hy : y = 0
    · subst hy
      have hl := unhide HL
      simp only [Int.natAbs_zero, digs_zero, List.append_nil] at hl
      subst hl
      have hr := (unhide HR).mono (unhide HB) (Nat.lt_succ_self _)
      have HW := hide ((unhide H1).trans ((unhide HB).mono (by omega)))
      have r0 := hr.cell 0; have r1 := hr.cell 1; have f0 := hr.free 0; have f1 := hr.free 1
      simp only [List.getElem?_cons_succ, List.getElem?_cons_zero] at r0 r1
      clear hr HL HB HR H1
      obtain ⟨a3, c3, rfl, -⟩ := ints_of_owns (unhide HO)
      go_wp2
      refine bodyPost_ret (v := .agg #[.bool (decide (x < 0)), .slice a3 (digs x.natAbs).length c3]) (by simp [results, Tryz.results29, go_sem, *]) rfl ⟨_, rfl, ?_, ?_⟩
      · exact digS_of_owns (owns_other (owns_other (unhide HO) (Nat.lt_succ_self _) _ _) (Nat.lt_succ_self _) _ _)
      · exact ((unhide HW).setCell (by simp) _).setCell (by simp) _
    · obtain ⟨m1, m2⟩ := tmod_abs y
      have hd := tdiv_abs y
      have hg := digs_pos (n := y.natAbs) (by omega)
      have HQ : Hid (wrap64 (y.tdiv 10) = y.tdiv 10) := by have := unhide HY; rw [Hid]; unfold wrap64; omega
      by_cases hm : y.tmod 10 < 0
      · have hw : wrap64 (-(y.tmod 10)) = ((y.natAbs % 10 : Nat) : Int) := by have := m1 hm; unfold wrap64; omega
        have HD := hide hd; have HG := hide hg; have HE := hide hw; clear hd hg hw m1 m2
        obtain ⟨i0, hi, hz0, hz1, hz2⟩ := info_parts infoI
        go_wp2_with (at_builtin; refine wpList_append_own _ rfl _ _ 44 rfl (w.heap.size + 1) 3 i0 _ 1 8 Tryz.underlying44 hi hz0 hz1 hz2 rfl (by omega) u3 _ _ rfl ((unhide HO).alloc _) ⟨wr.heap.size, 0, none⟩ 1 1 [.int .i64 (wrap64 (-(y.tmod 10)))] rfl rfl (cell_one wr 3 _) (by simp [Value.oneCell']) (by unfold maxLen; omega) (by omega) (by have := (unhide HB).size; simp; omega) ?_)
        intro v' w' hown' hgrow' _
        have hB' := ((unhide HB).alloc (by have := (unhide HB).size; omega) (.cells #[.int .i64 (wrap64 (-(y.tmod 10)))] 3)).grown hgrow' (by have := (unhide HB).size; simp; omega) (fun q' e => owns_block (unhide HO) e)
        have HO3 : Hid (w'.ownsRow (w.heap.size + 1) 3 1 v' (l ++ [y.natAbs % 10]).length (ui (l ++ [y.natAbs % 10]))) := by
          rw [Hid]; rw [unhide HE] at hown'; simpa [ui] using hown'
        have HB3 := hide hB'
        clear hown' hgrow' hB' hi hz0 hz1 hz2
        go_wp2_with fail
        go_roundw
        case rel =>
          refine ⟨y.tdiv 10, l ++ [y.natAbs % 10], congrArg _ (unhide HQ), ?_, ?_, ?_, unhide HO3, unhide HB3⟩
          · have := unhide HY; have := unhide HD; omega
          · have := unhide HY; have := unhide HD; omega
          · rw [unhide HD, List.append_assoc, List.singleton_append, ← unhide HG]; exact unhide HL
        case measure => simp only [intOf]; rw [unhide HQ]; have := unhide HD; omega
      · have HD := hide hd; have HG := hide hg; have HE := hide (m2 hm); clear hd hg m1 m2
        obtain ⟨i0, hi, hz0, hz1, hz2⟩ := info_parts infoI
        go_wp2_with (at_builtin; refine wpList_append_own _ rfl _ _ 44 rfl (w.heap.size + 1) 3 i0 _ 1 8 Tryz.underlying44 hi hz0 hz1 hz2 rfl (by omega) u3 _ _ rfl ((unhide HO).alloc _) ⟨wr.heap.size, 0, none⟩ 1 1 [.int .i64 (y.tmod 10)] rfl rfl (cell_one wr 3 _) (by simp [Value.oneCell']) (by unfold maxLen; omega) (by omega) (by have := (unhide HB).size; simp; omega) ?_)
        intro v' w' hown' hgrow' _
        have hB' := ((unhide HB).alloc (by have := (unhide HB).size; omega) (.cells #[.int .i64 (y.tmod 10)] 3)).grown hgrow' (by have := (unhide HB).size; simp; omega) (fun q' e => owns_block (unhide HO) e)
        have HO3 : Hid (w'.ownsRow (w.heap.size + 1) 3 1 v' (l ++ [y.natAbs % 10]).length (ui (l ++ [y.natAbs % 10]))) := by
          rw [Hid]; rw [unhide HE] at hown'; simpa [ui] using hown'
        have HB3 := hide hB'
        clear hown' hgrow' hB' hi hz0 hz1 hz2
        go_wp2_with fail
        go_roundw
        case rel =>
          refine ⟨y.tdiv 10, l ++ [y.natAbs % 10], congrArg _ (unhide HQ), ?_, ?_, ?_, unhide HO3, unhide HB3⟩
          · have := unhide HY; have := unhide HD; omega
          · have := unhide HY; have := unhide HD; omega
          · rw [unhide HD, List.append_assoc, List.singleton_append, ← unhide HG]; exact unhide HL
        case measure => simp only [intOf]; rw [unhide HQ]; have := unhide HD; omega
end Go.Proofs.YtnmpkdmflijhpaaGreatDoor
