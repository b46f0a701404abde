/- The model's exact integers: whether one is an int64, and which. -/
import Derived.Test.YtnmpkdmflijhpaaGreatDoorBig7
namespace Go.Proofs.YtnmpkdmflijhpaaGreatDoor
open Go Go.RowKit

theorem digs_i64 {z : Int} (h0 : -9223372036854775808 ≤ z) (h1 : z ≤ 9223372036854775807) : (digs z.natAbs).length ≤ 19 := digs_length_le (by omega)
def fitsB (z : Int) : Bool := decide (-9223372036854775808 ≤ z ∧ z ≤ 9223372036854775807)

set_option maxRecDepth 100000 in
set_option maxHeartbeats 4000000 in
theorem l2Fits_any (v : Value) (z : Int) (w : World) (hv : BigV w v z) (bz : (digs z.natAbs).length ≤ 500) :
    Calls Tryz.prog 49 #[v] w fun e w' => e = .returned (.bool (fitsB z)) ∧ Below w.heap.size w w' := by
  have HV := hide hv
  obtain ⟨v1, rfl, hv1⟩ := hv
  obtain ⟨a, ca, rfl, -⟩ := hv1
  obtain ⟨sz, hsz⟩ : ∃ sz, decide (z < 0) = sz := ⟨_, rfl⟩
  obtain ⟨lz, hlz⟩ : ∃ lz, (digs z.natAbs).length = lz := ⟨_, rfl⟩
  rw [hsz, hlz] at HV ⊢
  have BZ := hide bz
  clear hsz hlz bz
  have H0 := hide (Blk.new w 46 #[.bool sz, .slice a lz ca])
  have HW : Hid (Below w.heap.size w (w.alloc (.cells #[.bool sz, .slice a lz ca] 46))) := (Below.refl _ _).alloc (Nat.le_refl _) _
  go_enter Tryz.func49, Tryz.ntmps49
  go_wp2_with fail
  refine (l2FromInt_any 9223372036854775807 _ (by omega) (by omega)).mono ?_
  rintro e w1 ⟨t1, rfl, ht1, hb1⟩
  replace H0 := hide ((unhide H0).mono hb1 (unhide H0).lt); replace HW := hide ((unhide HW).trans (hb1.mono (unhide HW).size)); clear hb1
  rw [show decide ((9223372036854775807 : Int) < 0) = false from rfl]
  have hT : BigV w1 (.agg #[.bool false, t1]) 9223372036854775807 := ⟨t1, rfl, ht1⟩
  obtain ⟨ta, tc, rfl, -⟩ := ht1
  obtain ⟨lt, hlt⟩ : ∃ lt, (digs (Int.natAbs 9223372036854775807)).length = lt := ⟨_, rfl⟩
  rw [hlt] at hT ⊢
  clear hlt
  have B1 := Blk.new w1 46 #[.bool false, .slice ta lt tc]
  have hbA : Below w1.heap.size w1 (w1.alloc (.cells #[.bool false, .slice ta lt tc] 46)) := (Below.refl _ _).alloc (Nat.le_refl _) _
  have HT := hide (hT.mono hbA)
  replace H0 := hide ((unhide H0).mono hbA (unhide H0).lt); replace HW := hide ((unhide HW).trans (hbA.mono (unhide HW).size))
  have H1 := hide B1
  clear hT B1 hbA
  go_wp2_with fail
  refine (l2FromInt_any (-9223372036854775808) _ (by omega) (by omega)).mono ?_
  rintro e w2 ⟨t2, rfl, ht2, hb2⟩
  replace H0 := hide ((unhide H0).mono hb2 (unhide H0).lt); replace H1 := hide ((unhide H1).mono hb2 (unhide H1).lt); replace HW := hide ((unhide HW).trans (hb2.mono (unhide HW).size)); replace HT := hide ((unhide HT).mono hb2); clear hb2
  rw [show decide ((-9223372036854775808 : Int) < 0) = true from rfl]
  have hU : BigV w2 (.agg #[.bool true, t2]) (-9223372036854775808) := ⟨t2, rfl, ht2⟩
  obtain ⟨ua, uc, rfl, -⟩ := ht2
  obtain ⟨lu, hlu⟩ : ∃ lu, (digs (Int.natAbs (-9223372036854775808))).length = lu := ⟨_, rfl⟩
  rw [hlu] at hU ⊢
  clear hlu
  have B2 := Blk.new w2 46 #[.bool true, .slice ua lu uc]
  have hbA : Below w2.heap.size w2 (w2.alloc (.cells #[.bool true, .slice ua lu uc] 46)) := (Below.refl _ _).alloc (Nat.le_refl _) _
  have HU := hide (hU.mono hbA)
  replace HT := hide ((unhide HT).mono hbA)
  replace H0 := hide ((unhide H0).mono hbA (unhide H0).lt); replace H1 := hide ((unhide H1).mono hbA (unhide H1).lt); replace HW := hide ((unhide HW).trans (hbA.mono (unhide HW).size))
  have H2 := hide B2
  replace HV := hide ((unhide HV).mono (unhide HW))
  clear hU B2 hbA
  obtain ⟨⟨z0, z1⟩, -⟩ := two (unhide H0)
  obtain ⟨⟨z2, z3⟩, -⟩ := two (unhide H1)
  obtain ⟨⟨z4, z5⟩, -⟩ := two (unhide H2)
  have LT := hide (digs_i64 (z := 9223372036854775807) (by omega) (by omega)); have LU := hide (digs_i64 (z := -9223372036854775808) (by omega) (by omega))
  go_wp2_with fail
  refine (l2BigLess_any _ _ 9223372036854775807 z _ (unhide HT) (unhide HV) (by have := unhide LT; omega) (unhide BZ)).mono ?_
  rintro e w3 ⟨rfl, hb3⟩
  replace H0 := hide ((unhide H0).mono hb3 (unhide H0).lt); replace H2 := hide ((unhide H2).mono hb3 (unhide H2).lt); replace HW := hide ((unhide HW).trans (hb3.mono (unhide HW).size)); replace HU := hide ((unhide HU).mono hb3); replace HV := hide ((unhide HV).mono hb3)
  clear hb3 z0 z1 z2 z3 z4 z5 H1 HT
  obtain ⟨⟨z0, z1⟩, -⟩ := two (unhide H0)
  obtain ⟨⟨z4, z5⟩, -⟩ := two (unhide H2)
  by_cases g1 : 9223372036854775807 < z
  · have HF : Hid (fitsB z = false) := by rw [Hid, fitsB, decide_eq_false_iff_not]; omega
    rw [decide_eq_true g1]
    clear g1
    go_wp2
    go_ret
    exact ⟨ret_bool (unhide HF).symm, unhide HW⟩
  · have G1 := hide g1
    rw [decide_eq_false g1]
    clear g1
    go_wp2_with fail
    refine (l2BigLess_any _ _ z (-9223372036854775808) _ (unhide HV) (unhide HU) (unhide BZ) (by have := unhide LU; omega)).mono ?_
    rintro e w4 ⟨rfl, hb4⟩
    replace HW := hide ((unhide HW).trans (hb4.mono (unhide HW).size))
    clear hb4
    have HF : Hid ((!decide (z < -9223372036854775808)) = fitsB z) := by
      rw [Hid, fitsB, ← decide_not, decide_eq_decide]; have := unhide G1; omega
    obtain ⟨c, hc⟩ : ∃ c, decide (z < -9223372036854775808) = c := ⟨_, rfl⟩
    rw [hc] at HF ⊢
    clear hc
    go_wp2
    go_ret
    exact ⟨ret_bool (unhide HF), unhide HW⟩

set_option maxRecDepth 100000 in
set_option maxHeartbeats 4000000 in
theorem toInt_in (neg : Bool) (n L ca : Nat) (a : Option Addr) (w : World) (hL : L = (digs n).length) (bL : L ≤ 500) (hn : n ≤ 9223372036854775808) (hp : neg = false → n ≤ 9223372036854775807) (hI : Ints w a L (fun k => (((digs n).getD k 0 : Nat) : Int))) (z : Int) (hz : z = if neg then -(n : Int) else n) :
    Calls Tryz.prog 50 #[.agg #[.bool neg, .slice a L ca]] w fun e w' => e = .returned (.int .i64 z) ∧ Below w.heap.size w w' := by
  have H0 := Blk.new w 46 #[.bool neg, .slice a L ca]
  have HW : Hid (Below w.heap.size w (w.alloc (.cells #[.bool neg, .slice a L ca] 46))) := (Below.refl _ _).alloc (Nat.le_refl _) _
  have hI2 := hI.mono (unhide HW)
  obtain ⟨⟨z0, z1⟩, -⟩ := two H0
  have HZ := hide hz; have HN := hide (And.intro hL (And.intro hn hp)); clear H0 hI hL hn hp hz
  go_enter Tryz.func50, Tryz.ntmps50
  go_wp2
  generalize w.alloc (.cells #[.bool neg, .slice a L ca] 46) = W at *
  go_loopw [3, 4] (fun x i wr => ∃ (k : Nat) (X : Int), k ≤ L ∧ i = .int .i64 ((k : Int) - 1) ∧ x = .int .i64 X ∧ X = (if neg then -((n / 10 ^ k : Nat) : Int) else ((n / 10 ^ k : Nat) : Int)) ∧ wr = W) (fun _ i _ => (intOf i + 1).toNat)
  case atStart =>
    refine ⟨L, 0, Nat.le_refl _, rfl, rfl, ?_, rfl⟩
    rw [(unhide HN).1, Nat.div_eq_of_lt (lt_digs n)]; cases neg <;> rfl
  case round =>
    obtain ⟨k, X, hk, rfl, rfl, hX, rfl⟩ := hrel
    cases k with
    | zero =>
      have HX := hide hX; clear hX
      go_wp2
      go_ret
      exact ⟨ret_int (by have := unhide HX; rw [unhide HZ, this]; simp), unhide HW⟩
    | succ k =>
      rw [show ((k + 1 : Nat) : Int) - 1 = (k : Int) by omega]
      obtain ⟨b1, o1, rfl, -, c1⟩ := hI2 k (by omega)
      dsimp only at c1
      rw [digs_at] at c1
      have s1 := div_step n k
      have hle : n / 10 ^ k ≤ n := Nat.div_le_self _ _
      obtain ⟨d, hd⟩ : ∃ d, n / 10 ^ k % 10 = d := ⟨_, rfl⟩
      have hd10 : d < 10 := by rw [← hd]; exact Nat.mod_lt _ (by decide)
      rw [hd] at c1 s1
      obtain ⟨dI, hdI⟩ : ∃ dI : Int, (d : Int) = dI := ⟨_, rfl⟩
      rw [hdI] at c1
      have hnn := (unhide HN).2
      have b0 : 0 ≤ dI := by omega
      have b9 : dI ≤ 9 := by omega
      have HH := hide (And.intro s1 hdI)
      cases neg with
      | true =>
        simp only [if_true] at hX
        have x0 : X * 10 ≤ 0 := by omega
        have x1 : -9223372036854775808 ≤ X * 10 := by omega
        have x2 : -9223372036854775808 ≤ X * 10 - dI := by omega
        have HX := hide hX; clear hX s1 hle hd hd10 hdI hnn
        go_wp2
        go_roundw
        case rel => exact ⟨k, X * 10 - dI, by omega, rfl, rfl, by have := unhide HX; have := unhide HH; (try simp only [if_true]); omega, trivial⟩
        case measure => simp [intOf]
      | false =>
        simp only [Bool.false_eq_true, if_false] at hX
        have x0 : 0 ≤ X * 10 := by omega
        have x1 : X * 10 ≤ 9223372036854775807 := by have := hnn.2 rfl; omega
        have x2 : X * 10 + dI ≤ 9223372036854775807 := by have := hnn.2 rfl; omega
        have HX := hide hX; clear hX s1 hle hd hd10 hdI hnn
        go_wp2
        go_roundw
        case rel => exact ⟨k, X * 10 + dI, by omega, rfl, rfl, by have := unhide HX; have := unhide HH; (try simp only [Bool.false_eq_true, if_false]); omega, trivial⟩
        case measure => simp [intOf]
theorem l2ToInt_any (v : Value) (z : Int) (w : World) (hv : BigV w v z) (h0 : -9223372036854775808 ≤ z) (h1 : z ≤ 9223372036854775807) :
    Calls Tryz.prog 50 #[v] w fun e w' => e = .returned (.int .i64 z) ∧ Below w.heap.size w w' := by
  obtain ⟨u, rfl, a, ca, rfl, -, -, hI⟩ := hv
  refine toInt_in _ z.natAbs _ ca a w rfl (by have := digs_i64 h0 h1; omega) (by omega) (fun h => ?_) hI z ?_
  · have : ¬ z < 0 := by simpa using h
    omega
  · by_cases h : z < 0
    · simp [h]; omega
    · simp [h]; omega
end Go.Proofs.YtnmpkdmflijhpaaGreatDoor
