import Derived.Test.YtjgngbmkpiihgaaGreatDoorZPrH
import Derived.Test.YtjgngbmkpiihgaaGreatDoorZLexS
import Derived.Test.YtjgngbmkpiihgaaGreatDoorGSb
/- The model's ParseExpr. -/
namespace Go.Proofs.YtjgngbmkpiihgaaGreatDoor
open Go Go.RowKit

set_option maxRecDepth 100000 in
set_option maxHeartbeats 4000000 in
theorem specParse_any (s : ByteArray) (w : World) (hs : s.size ≤ 1048576) :
    Calls Tryz.prog 12 #[.string s] w fun r w' => ∃ (code : Int) (en : List Nx) (v : Value), PrsA s code en ∧ en.length ≤ 1048576 ∧ r = .returned (.tuple #[v, .int .i64 code]) ∧ OwnN w' w.heap.size v en ∧ Below w.heap.size w w' := by
  by_cases hbig : 4000 < s.size
  · have hbig' : (4000 : Int) < (s.size : Int) := by omega
    have HA : Hid (PrsA s 1 []) := hide (.inl ⟨hbig, rfl, rfl⟩)
    have HO := hide (OwnN.none w)
    have HB := hide ((Below.refl w.heap.size w).alloc (Nat.le_refl _) (.cells #[] 41))
    go_enter Tryz.func12, Tryz.ntmps12
    go_wp2_with fail
    go_ret2
    exact ⟨1, [], _, unhide HA, by simp, rfl, unhide HO, unhide HB⟩
  have hbig' : ¬ (4000 : Int) < (s.size : Int) := by omega
  have HLx := hide (l3Lex_any s w hs)
  have HLe : Hid (s.size ≤ 4000) := hide (by omega)
  clear hbig
  go_enter Tryz.func12, Tryz.ntmps12
  go_wp2_with fail
  refine (unhide HLx).mono ?_
  rintro e W1 ⟨vt, z, rfl, hsc, hb1⟩
  have HB1 := hide hb1
  clear hb1 HLx
  unfold LexA at hsc
  cases hlx : lxF s s.size 0 [] with
  | inl i =>
    rw [hlx] at hsc
    obtain rfl := hsc
    have HA : Hid (PrsA s 2 []) := hide (.inr ⟨unhide HLe, .inl ⟨i, hlx, rfl, rfl⟩⟩)
    have hz : (0 : Int) ≤ (i : Int) := by omega
    have HO := hide ((OwnN.none W1).low (unhide HB1).size)
    have HB := hide ((unhide HB1).alloc (unhide HB1).size (.cells #[] 41))
    clear hlx
    go_wp2_with fail
    go_ret2
    exact ⟨2, [], _, unhide HA, by simp, rfl, unhide HO, unhide HB⟩
  | inr ts =>
    rw [hlx] at hsc
    obtain ⟨rfl, lp, hos, hmp, hln, hvt⟩ := hsc
    have HPr : Hid (∀ code e, TksA ts code e → PrsA s code e) := hide fun code e h => .inr ⟨unhide HLe, .inr ⟨ts, hlx, h⟩⟩
    obtain ⟨a, c, rfl, hcl, hst⟩ := hos.toks
    rw [← List.length_map (·.1), hmp] at hcl
    rw [hmp] at hst ⊢
    have hts : ∀ t, t ∈ ts → t.size ≤ 1048576 := fun t ht => by have := (hvt t ht).2; omega
    have HPh := hide (l3Phrase_any ts a c W1 hcl (by omega) (fun t ht => ⟨(hvt t ht).1, hts t ht⟩) hst)
    have HTs := hide hts
    have htl : ts.length ≤ 1048576 := by omega
    have hw1 : w.heap.size ≤ W1.heap.size := (unhide HB1).size
    clear hos hln hvt hst hlx hmp hts
    go_wp2_with fail
    refine (unhide HPh).mono ?_
    rintro e W2 ⟨v, b, rfl, hb, hy, hno⟩
    replace HB1 := hide ((unhide HB1).trans (hb.mono (unhide HB1).size))
    have hz12 : W1.heap.size ≤ W2.heap.size := hb.size
    clear hb HPh
    cases b
    · have HA := hide (unhide HPr 3 [] (.inl ⟨hno rfl, rfl, rfl⟩))
      have HO := hide ((OwnN.none W2).low (unhide HB1).size)
      have HB := hide ((unhide HB1).alloc (unhide HB1).size (.cells #[] 41))
      clear hy hno
      go_wp2_with fail
      go_ret2
      exact ⟨3, [], _, unhide HA, by simp, rfl, unhide HO, unhide HB⟩
    obtain ⟨en, hg, ho⟩ := hy rfl
    have HG := hide hg
    have HO2 := hide ho
    obtain ⟨an, cn, rfl, hnd⟩ := ho.nods
    have hlen := hg.1.len
    have HV := hide (l3ValidExpr_any an en.length cn (nf en) W2 (by omega) hnd (hg.1.fitL (unhide HTs)))
    clear hy hno hg ho hnd
    cases hvx : vxL en
    · have HA := hide (unhide HPr 4 [] (.inr ⟨en, unhide HG, .inl ⟨hvx, rfl, rfl⟩⟩))
      rw [show vxB (nf en) en.length = false from hvx] at HV
      clear hvx
      go_wp2_with fail
      refine (unhide HV).mono ?_
      rintro e W3 ⟨rfl, hb⟩
      replace HB1 := hide ((unhide HB1).trans (hb.mono (unhide HB1).size))
      have HO := hide ((OwnN.none W3).low (unhide HB1).size)
      have HB := hide ((unhide HB1).alloc (unhide HB1).size (.cells #[] 41))
      clear hb
      go_wp2_with fail
      go_ret2
      exact ⟨4, [], _, unhide HA, by simp, rfl, unhide HO, unhide HB⟩
    · have HA := hide (unhide HPr 0 en (.inr ⟨en, unhide HG, .inr ⟨hvx, rfl, rfl⟩⟩))
      rw [show vxB (nf en) en.length = true from hvx] at HV
      clear hvx
      go_wp2_with fail
      refine (unhide HV).mono ?_
      rintro e W3 ⟨rfl, hb⟩
      replace HO2 := hide (((unhide HO2).keep hb).low hw1)
      replace HB1 := hide ((unhide HB1).trans (hb.mono (unhide HB1).size))
      clear hb
      go_wp2_with fail
      go_ret2
      exact ⟨0, en, _, unhide HA, by omega, rfl, unhide HO2, unhide HB1⟩
end Go.Proofs.YtjgngbmkpiihgaaGreatDoor
