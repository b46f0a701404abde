/- Values in package laws: size and copy; the law FnExactValidValue. -/
import Derived.Test.YtnmpkdmflijhpaaValLaw
namespace Go.Proofs.Ytnmpkdmflijhpaa
open Go Go.RowKit

set_option maxHeartbeats 1000000 in
theorem lawValidV_any (kind num : Int) (s : ByteArray) (w : World) (hs : s.size ≤ 9223372036854775807) :
    Calls Try.prog 3 #[.agg #[.int .i64 kind, .int .i64 num, .string s]] w fun e w' => e = .returned (.bool true) ∧ Below w.heap.size w w' := by
  have B0 := Blk.new w 23 #[.int .i64 kind, .int .i64 num, .string s]
  have BW : Below w.heap.size w (w.alloc (.cells #[.int .i64 kind, .int .i64 num, .string s] 23)) := (Below.refl _ _).alloc (Nat.le_refl _) _
  have H0 := hide B0; have HW := hide BW; clear B0 BW
  by_cases hsum : s.size ≤ 1048576
  · go_enter Try.func3, Try.ntmps3
    go_wp2_with fail
    refine (szValue_any kind num s 1048576 _ hs (by omega) (by omega)).mono ?_
    rintro e w1 ⟨rfl, hb1⟩
    rw [if_neg (by omega)]
    replace H0 := hide ((unhide H0).mono hb1 (unhide H0).lt); replace HW := hide ((unhide HW).trans (hb1.mono (unhide HW).size)); clear hb1
    obtain ⟨z0, z1, z2⟩ := three (unhide H0)
    go_wp2_with fail
    refine (toValue_any kind num s _).mono ?_
    rintro e w2 ⟨rfl, hb2⟩
    replace H0 := hide ((unhide H0).mono hb2 (unhide H0).lt); replace HW := hide ((unhide HW).trans (hb2.mono (unhide HW).size)); clear hb2 z0 z1 z2
    go_wp2_with fail
    refine (specValidV_any kind num s _ hs).mono ?_
    rintro e w3 ⟨rfl, hb3⟩
    replace H0 := hide ((unhide H0).mono hb3 (unhide H0).lt); replace HW := hide ((unhide HW).trans (hb3.mono (unhide HW).size)); clear hb3
    obtain ⟨z0, z1, z2⟩ := three (unhide H0)
    go_wp2_with fail
    refine (toValue_any kind num s _).mono ?_
    rintro e w4 ⟨rfl, hb4⟩
    replace HW := hide ((unhide HW).trans (hb4.mono (unhide HW).size)); clear hb4 z0 z1 z2 H0
    go_wp2_with fail
    refine (implValidV_any kind num s _ hs).mono ?_
    rintro e w5 ⟨rfl, hb5⟩
    replace HW := hide ((unhide HW).trans (hb5.mono (unhide HW).size)); clear hb5
    cases okVal kind num s <;> go_wp2
    all_goals
      go_ret
      exact ⟨rfl, unhide HW⟩
  · go_enter Try.func3, Try.ntmps3
    go_wp2_with fail
    refine (szValue_any kind num s 1048576 _ hs (by omega) (by omega)).mono ?_
    rintro e w1 ⟨rfl, hb1⟩
    rw [if_pos (by omega)]
    replace HW := hide ((unhide HW).trans (hb1.mono (unhide HW).size)); clear hb1
    go_wp2
    go_ret
    exact ⟨rfl, unhide HW⟩
end Go.Proofs.Ytnmpkdmflijhpaa
