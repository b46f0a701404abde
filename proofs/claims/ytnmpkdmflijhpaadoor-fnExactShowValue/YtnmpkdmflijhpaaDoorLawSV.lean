/- The law FnExactShowValue. -/
import Derived.Test.YtnmpkdmflijhpaaDoorValLaw
import Derived.Test.YtnmpkdmflijhpaaDoorShow
namespace Go.Proofs.YtnmpkdmflijhpaaDoor
open Go Go.RowKit

theorem list_beq (s : ByteArray) : (s.toList == s.toList) = true := by simp

set_option maxRecDepth 100000 in
set_option maxHeartbeats 1000000 in
theorem lawShowV_any (kind num : Int) (s : ByteArray) (w : World) (hs : s.size ≤ 9223372036854775807) (h0 : -9223372036854775808 ≤ num) (h1 : num ≤ 9223372036854775807) (ht : Pow w) :
    Calls Tryd.prog 7 #[.agg #[.int .i64 kind, .int .i64 num, .string s]] w fun e w' => e = .returned (.bool true) ∧ Below w.heap.size w w' := by
  have B0 := Blk.new w 54 #[.int .i64 kind, .int .i64 num, .string s]
  have BW : Below w.heap.size w (w.alloc (.cells #[.int .i64 kind, .int .i64 num, .string s] 54)) := (Below.refl _ _).alloc (Nat.le_refl _) _
  have H0 := hide B0; have HW := hide BW; clear B0 BW
  have HX := hide (And.intro h0 h1); clear h0 h1
  by_cases hsum : s.size ≤ 1048576
  · go_enter Tryd.func7, Tryd.ntmps7
    go_wp2_with fail
    refine (szValue_any kind num s 1048576 _ hs (by omega) (by omega)).mono ?_
    rintro e w1 ⟨rfl, hb1⟩
    rw [if_neg (by omega)]
    replace H0 := hide ((unhide H0).mono hb1 (unhide H0).lt); replace HW := hide ((unhide HW).trans (hb1.mono (unhide HW).size)); clear hb1
    obtain ⟨z0, z1, z2⟩ := three (unhide H0)
    go_wp2_with fail
    refine (toValue_any kind num s _).mono ?_
    rintro e w2 ⟨rfl, hb2⟩
    replace H0 := hide ((unhide H0).mono hb2 (unhide H0).lt); replace HW := hide ((unhide HW).trans (hb2.mono (unhide HW).size)); clear hb2 z0 z1 z2
    go_wp2_with fail
    refine (specShow_any kind num s _ hs (unhide HX).1 (unhide HX).2).mono ?_
    rintro e w3 ⟨rfl, hb3⟩
    replace H0 := hide ((unhide H0).mono hb3 (unhide H0).lt); replace HW := hide ((unhide HW).trans (hb3.mono (unhide HW).size)); clear hb3
    obtain ⟨z0, z1, z2⟩ := three (unhide H0)
    go_wp2_with fail
    refine (toValue_any kind num s _).mono ?_
    rintro e w4 ⟨rfl, hb4⟩
    replace HW := hide ((unhide HW).trans (hb4.mono (unhide HW).size)); clear hb4 z0 z1 z2 H0
    go_wp2_with fail
    refine (implShow_any kind num s _ hs (unhide HX).1 (unhide HX).2 (ht.mono (unhide HW))).mono ?_
    rintro e w5 ⟨rfl, hb5⟩
    replace HW := hide ((unhide HW).trans (hb5.mono (unhide HW).size)); clear hb5
    have hq := list_beq (showB kind num s)
    generalize showB kind num s = z at *
    go_wp2
    go_ret
    exact ⟨rfl, unhide HW⟩
  · go_enter Tryd.func7, Tryd.ntmps7
    go_wp2_with fail
    refine (szValue_any kind num s 1048576 _ hs (by omega) (by omega)).mono ?_
    rintro e w1 ⟨rfl, hb1⟩
    rw [if_pos (by omega)]
    replace HW := hide ((unhide HW).trans (hb1.mono (unhide HW).size)); clear hb1
    go_wp2
    go_ret
    exact ⟨rfl, unhide HW⟩
end Go.Proofs.YtnmpkdmflijhpaaDoor
