/- The law FnExactValidLattice. -/
import Derived.Test.YtnmpkdmflijhpaaDoorLawC
import Derived.Deep.RegionHeld3
namespace Go.Proofs.YtnmpkdmflijhpaaDoor
open Go Go.RowKit

set_option maxRecDepth 100000 in
set_option maxHeartbeats 4000000 in
theorem lawValid_any (N bot top : Int) (a1 a2 a3 : Option Addr) (n1 n2 n3 c1 c2 c3 : Nat) (f : Nat → Bool) (g h : Nat → Int) (w : World) (h1 : n1 ≤ 9223372036854775807) (h2 : n2 ≤ 9223372036854775807) (h3 : n3 ≤ 9223372036854775807)
    (ha : Bools w a1 n1 f) (hb : Ints w a2 n2 g) (hc : Ints w a3 n3 h) (ht : Tab w) :
    Calls Tryd.prog 4 #[.agg #[.int .i64 N, .slice a1 n1 c1, .slice a2 n2 c2, .slice a3 n3 c3, .int .i64 bot, .int .i64 top]] w fun e w' => e = .returned (.bool true) ∧ Below w.heap.size w w' := by
  have B0 := Blk.new w 41 #[.int .i64 N, .slice a1 n1 c1, .slice a2 n2 c2, .slice a3 n3 c3, .int .i64 bot, .int .i64 top]
  have BW : Below w.heap.size w (w.alloc (.cells #[.int .i64 N, .slice a1 n1 c1, .slice a2 n2 c2, .slice a3 n3 c3, .int .i64 bot, .int .i64 top] 41)) := (Below.refl _ _).alloc (Nat.le_refl _) _
  have H0 := hide B0; have HW := hide BW; clear B0 BW
  by_cases hsum : n1 + n2 + n3 ≤ 1048576
  · have hsz : szL n1 n2 n3 = 1048576 - (n1 + n2 + n3 : Nat) := by simp [szL, hsum]
    have HSZ := hide hsz; clear hsz
    obtain ⟨V, hV⟩ : ∃ V : Bool, answer N bot top n1 n2 n3 f g h V := by
      by_cases hv : Valid N n1 n2 n3 f g h bot top
      · exact ⟨true, fun _ => hv, fun _ => rfl⟩
      · exact ⟨false, (fun h => by cases h), fun h => absurd h hv⟩
    have HV := hide hV; clear hV
    go_enter Tryd.func4, Tryd.ntmps4
    go_wp2_with fail
    refine (szLattice_big N bot top a1 a2 a3 n1 n2 n3 c1 c2 c3 _ h1 h2 h3).mono ?_
    rintro e w1 ⟨rfl, hb1⟩
    rw [unhide HSZ]
    replace H0 := hide ((unhide H0).mono hb1 (unhide H0).lt); replace HW := hide ((unhide HW).trans (hb1.mono (unhide HW).size)); clear hb1 HSZ
    obtain ⟨⟨z0, z1, z2, z3, z4, z5⟩, -⟩ := six (unhide H0)
    go_wp2_with fail
    refine (toLattice_any N bot top a1 a2 a3 n1 n2 n3 c1 c2 c3 f g h _ hsum (ha.mono (unhide HW)) (hb.mono (unhide HW)) (hc.mono (unhide HW))).mono ?_
    rintro e w2 ⟨g1, g2, g3, rfl, k1, k2, k3, -, -, -, hb2⟩
    replace H0 := hide ((unhide H0).mono hb2 (unhide H0).lt); replace HW := hide ((unhide HW).trans (hb2.mono (unhide HW).size)); clear hb2 z0 z1 z2 z3 z4 z5
    go_wp2_with fail
    refine (specValid_any N bot top _ _ _ n1 n2 n3 _ _ _ f g h _ k1.bools k2.ints k3.ints V (unhide HV)).mono ?_
    rintro e w3 ⟨rfl, hb3⟩
    replace H0 := hide ((unhide H0).mono hb3 (unhide H0).lt); replace HW := hide ((unhide HW).trans (hb3.mono (unhide HW).size)); clear hb3 k1 k2 k3
    obtain ⟨⟨z0, z1, z2, z3, z4, z5⟩, -⟩ := six (unhide H0)
    go_wp2_with fail
    refine (toLattice_any N bot top a1 a2 a3 n1 n2 n3 c1 c2 c3 f g h _ hsum (ha.mono (unhide HW)) (hb.mono (unhide HW)) (hc.mono (unhide HW))).mono ?_
    rintro e w4 ⟨g1, g2, g3, rfl, k1, k2, k3, -, -, -, hb4⟩
    replace H0 := hide ((unhide H0).mono hb4 (unhide H0).lt); replace HW := hide ((unhide HW).trans (hb4.mono (unhide HW).size)); clear hb4 z0 z1 z2 z3 z4 z5
    have bX := Blk.new w4 29 #[.int .i64 N, .slice (some ⟨g1, 0, none⟩) n1 n1, .slice (some ⟨g2, 0, none⟩) n2 n2, .slice (some ⟨g3, 0, none⟩) n3 n3, .int .i64 bot, .int .i64 top]
    have bw : Below w4.heap.size w4 (w4.alloc (.cells #[.int .i64 N, .slice (some ⟨g1, 0, none⟩) n1 n1, .slice (some ⟨g2, 0, none⟩) n2 n2, .slice (some ⟨g3, 0, none⟩) n3 n3, .int .i64 bot, .int .i64 top] 29)) := (Below.refl _ _).alloc (Nat.le_refl _) _
    have X0 := hide ((unhide H0).mono bw (unhide H0).lt); have XW := hide ((unhide HW).trans (bw.mono (unhide HW).size)); have XX := hide bX
    have K1 := hide (k1.mono bw k1.lt); have K2 := hide (k2.mono bw k2.lt); have K3 := hide (k3.mono bw k3.lt)
    clear bX bw k1 k2 k3
    go_wp2_with fail
    refine (implValid_any N bot top _ _ _ n1 n2 n3 _ _ _ f g h _ (unhide K1).bools (unhide K2).ints (unhide K3).ints (ht.mono (unhide XW)) V (unhide HV)).mono ?_
    rintro e w5 ⟨rfl, hb5⟩
    replace X0 := hide ((unhide X0).mono hb5 (unhide X0).lt); replace XW := hide ((unhide XW).trans (hb5.mono (unhide XW).size)); replace XX := hide ((unhide XX).mono hb5 (unhide XX).lt)
    replace K1 := hide ((unhide K1).mono hb5 (unhide K1).lt); replace K2 := hide ((unhide K2).mono hb5 (unhide K2).lt); replace K3 := hide ((unhide K3).mono hb5 (unhide K3).lt)
    clear hb5 H0 HW HV
    have S0 := hide (twelve (unhide X0) (unhide XX))
    cases V <;> go_wp2_with fail
    all_goals
      go_region_held3 (fun w' => w'.cell? ⟨w.heap.size, 0, none⟩ = some (.int .i64 N) ∧ w'.cell? ⟨w.heap.size, 1, none⟩ = some (.slice a1 n1 c1) ∧ w'.cell? ⟨w.heap.size, 2, none⟩ = some (.slice a2 n2 c2) ∧ w'.cell? ⟨w.heap.size, 3, none⟩ = some (.slice a3 n3 c3) ∧ w'.cell? ⟨w.heap.size, 4, none⟩ = some (.int .i64 bot) ∧ w'.cell? ⟨w.heap.size, 5, none⟩ = some (.int .i64 top) ∧ w'.cell? ⟨w4.heap.size, 0, none⟩ = some (.int .i64 N) ∧ w'.cell? ⟨w4.heap.size, 1, none⟩ = some (.slice (some ⟨g1, 0, none⟩) n1 n1) ∧ w'.cell? ⟨w4.heap.size, 2, none⟩ = some (.slice (some ⟨g2, 0, none⟩) n2 n2) ∧ w'.cell? ⟨w4.heap.size, 3, none⟩ = some (.slice (some ⟨g3, 0, none⟩) n3 n3) ∧ w'.cell? ⟨w4.heap.size, 4, none⟩ = some (.int .i64 bot) ∧ w'.cell? ⟨w4.heap.size, 5, none⟩ = some (.int .i64 top)) (first | exact unhide S0 | exact unhide S2 | exact unhide S3) (first | (go_at_call 20; refine (toLattice_any N bot top a1 a2 a3 n1 n2 n3 c1 c2 c3 f g h _ hsum (ha.mono (unhide XW).drew) (hb.mono (unhide XW).drew) (hc.mono (unhide XW).drew)).mono ?_; rintro e w6 ⟨j1, j2, j3, rfl, q1, q2, q3, -, -, -, hb6⟩; replace hb6 : Below w5.heap.size w5 w6 := below_of_drew hb6; have X6 := hide ((unhide X0).mono hb6 (unhide X0).lt); have XX6 := hide ((unhide XX).mono hb6 (unhide XX).lt); have S2 := hide (twelve (unhide X6) (unhide XX6)); have XW6 := hide ((unhide XW).trans (hb6.mono (unhide XW).size)); replace K1 := hide ((unhide K1).mono hb6 (unhide K1).lt); replace K2 := hide ((unhide K2).mono hb6 (unhide K2).lt); replace K3 := hide ((unhide K3).mono hb6 (unhide K3).lt); replace q1 := hide q1; replace q2 := hide q2; replace q3 := hide q3; clear hb6) | (go_at_call 13; refine (eqLattice_true N bot top _ _ _ _ _ _ n1 n2 n3 _ _ _ _ _ _ f g h _ (by omega) (by omega) (by omega) (unhide K1).bools (unhide K2).ints (unhide K3).ints (unhide q1).bools (unhide q2).ints (unhide q3).ints).mono ?_; rintro e w7 ⟨rfl, hb7⟩; have S3 := hide (twelve ((unhide X6).mono hb7 (unhide X6).lt) ((unhide XX6).mono hb7 (unhide XX6).lt)); have XW7 := hide ((unhide XW6).trans (hb7.mono (unhide XW6).size)); clear hb7))
      have HZ : Hid (Below w.heap.size w w7) := XW7
      clear XW7 XW6 S0 S2 S3 X0 XX XW K1 K2 K3 q1 q2 q3 X6 XX6
      go_wp2
      go_ret
      exact ⟨rfl, unhide HZ⟩
  · have hsz : szL n1 n2 n3 = -1 := by simp [szL, hsum]
    go_enter Tryd.func4, Tryd.ntmps4
    go_wp2_with fail
    refine (szLattice_big N bot top a1 a2 a3 n1 n2 n3 c1 c2 c3 _ h1 h2 h3).mono ?_
    rintro e w1 ⟨rfl, hb1⟩
    rw [hsz]
    replace HW := hide ((unhide HW).trans (hb1.mono (unhide HW).size)); clear hb1
    go_wp2
    go_ret
    exact ⟨rfl, unhide HW⟩
end Go.Proofs.YtnmpkdmflijhpaaDoor
