import Derived.Test.YtjgngbmkpiihgaaGreatDoorZRdI
import Derived.Test.YtjgngbmkpiihgaaGreatDoorZPrI
import Derived.Test.YtjgngbmkpiihgaaGreatDoorGMk
import Derived.Test.YtjgngbmkpiihgaaGreatDoorGVa
/- The law FnExactParseExpr. -/
namespace Go.Proofs.YtjgngbmkpiihgaaGreatDoor
open Go Go.RowKit

set_option maxRecDepth 100000 in
set_option maxHeartbeats 4000000 in
theorem lawParse_any (s : ByteArray) (w : World) (hw : Wrds w) (hp : Pow w) (q1 : ErrV "strconv.ErrSyntax" w) (q2 : ErrV "strconv.ErrRange" w) (hs0 : s.size ≤ 9223372036854775807) :
    Calls Tryz.prog 4 #[.string s] w fun r w' => r = .returned (.bool true) ∧ Below w.heap.size w w' := by
  by_cases hbig : 1048576 < s.size
  · have hbig' : (1048576 : Int) < (s.size : Int) := by omega
    clear hw hp q1 q2
    go_enter Tryz.func4, Tryz.ntmps4
    go_wp2_with fail
    go_ret
    exact ⟨rfl, Below.refl _ _⟩
  have hs : s.size ≤ 1048576 := by omega
  have hbig' : ¬ (1048576 : Int) < (s.size : Int) := by omega
  have HSp := hide (specParse_any s w hs)
  have HW := hide hw; have HP := hide hp; have HQ1 := hide q1; have HQ2 := hide q2
  clear hw hp q1 q2 hbig
  go_enter Tryz.func4, Tryz.ntmps4
  go_wp2_with fail
  refine (unhide HSp).mono ?_
  rintro e W1 ⟨code, en, vs, hA, hen, rfl, ho1, hb1⟩
  obtain ⟨aw, cs, rfl, hn1⟩ := ho1.nods
  have HA := hide hA; have HN1 := hide hn1; have HB := hide hb1
  have HIm := hide (fun W (h : Below W1.heap.size W1 W) => implParse_any s W hs ((unhide HW).mono (hb1.trans (h.mono hb1.size))) ((unhide HP).mono (hb1.trans (h.mono hb1.size))) ((unhide HQ1).mono (hb1.trans (h.mono hb1.size))) ((unhide HQ2).mono (hb1.trans (h.mono hb1.size))))
  have hce : (code == code) = true := by simp
  have hcn : (code != code) = false := by simp
  have hw1 : w.heap.size ≤ W1.heap.size := hb1.size
  clear hA ho1 hn1 hb1 HSp
  go_wp2_with fail
  refine (unhide HIm W1 (Below.refl _ _)).mono ?_
  rintro e W2 ⟨code', en', vi, hA', -, rfl, ho2, hb2⟩
  obtain ⟨rfl, rfl⟩ := (unhide HA).uniq hA'
  obtain ⟨ai, ci, rfl, hn2, hbk⟩ := nod_of_owns ho2
  obtain ⟨g, N, hgl, hN, hgh, hgk⟩ : ∃ g N, W1.heap.size ≤ g ∧ en.length * 5 ≤ N ∧ g < W2.heap.size + 1 ∧ (0 < en.length → ai = some ⟨g, 0, none⟩ ∧ Bk W2 g 41 N) := by
    by_cases h0 : 0 < en.length
    · obtain ⟨g, N, e1, e2, e3, e4⟩ := hbk h0
      exact ⟨g, N, e2, e3, by have := e4.lt; omega, fun _ => ⟨e1, e4⟩⟩
    · exact ⟨W1.heap.size, en.length * 5, Nat.le_refl _, Nat.le_refl _, by have := hb2.size; omega, fun h => absurd h h0⟩
  have HN2 := hide hn2; have HGk := hide hgk; have HB2 := hide hb2
  clear hA' ho2 hb2 hn2 hbk hgk
  go_wp2_with fail
  refine (eqNodeS_true ai aw (nf en) en.length ci cs W2 hen (unhide HN2) ((unhide HN1).mono (unhide HB2))).mono ?_
  rintro e W3 ⟨rfl, hb⟩
  replace HB2 := hide ((unhide HB2).trans (hb.mono (unhide HB2).size))
  have HMk := hide (markNodeS_any ai g en.length N ci W1.heap.size (g + 1) W3 (by omega) hN hgl (by omega) fun h => ⟨(unhide HGk h).1, (unhide HGk h).2.mono hb (unhide HGk h).2.lt⟩)
  have HGz : Hid (0 < en.length → ai = some ⟨g, 0, none⟩ ∧ g < W3.heap.size) := hide fun h => ⟨(unhide HGk h).1, Nat.lt_of_lt_of_le (unhide HGk h).2.lt hb.size⟩
  clear hb HN2 HGk
  go_wp2_with fail
  refine (unhide HMk).mono ?_
  rintro e W4 ⟨rfl, hpre, hmk⟩
  have HHl := hide (heldNodeS_any ai g en.length ci W4 (by omega) fun h => ⟨(unhide HGz h).1, Nat.lt_of_lt_of_le (unhide HGz h).2 hmk.out.size, hpre h⟩)
  replace HB2 := hide ((unhide HB2).trans (hmk.out.below (Nat.le_refl _) (unhide HB2).size))
  obtain ⟨q, hq⟩ : ∃ q, 1 + en.length * 5 = q := ⟨_, rfl⟩
  have hqb : q ≤ 6000000 := by omega
  rw [hq] at HHl ⊢
  have hq0 : ¬ (q : Int) < 0 := by omega
  have hqq : ((q : Int) != (q : Int)) = false := by simp
  clear hpre hmk hq HMk HGz
  go_wp2_with fail
  refine (unhide HHl).mono ?_
  rintro e W5 ⟨rfl, hb⟩
  replace HB2 := hide ((unhide HB2).trans (hb.mono (unhide HB2).size))
  clear hb HHl
  go_wp2_with fail
  refine (unhide HIm W5 (unhide HB2)).mono ?_
  rintro e W6 ⟨code', en', vi, hA', -, rfl, ho2, hb2⟩
  obtain ⟨rfl, rfl⟩ := (unhide HA).uniq hA'
  obtain ⟨aj, cj, rfl, hn2⟩ := ho2.nods
  have HN2 := hide hn2
  replace HB2 := hide ((unhide HB2).trans (hb2.mono (unhide HB2).size))
  clear hA' ho2 hb2 hn2
  go_wp2_with fail
  refine (eqNodeS_true aj aw (nf en) en.length cj cs W6 hen (unhide HN2) ((unhide HN1).mono (unhide HB2))).mono ?_
  rintro e W7 ⟨rfl, hb⟩
  replace HB2 := hide ((unhide HB2).trans (hb.mono (unhide HB2).size))
  clear hb
  go_wp2_with fail
  go_ret
  exact ⟨rfl, (unhide HB).trans ((unhide HB2).mono hw1)⟩
end Go.Proofs.YtjgngbmkpiihgaaGreatDoor
