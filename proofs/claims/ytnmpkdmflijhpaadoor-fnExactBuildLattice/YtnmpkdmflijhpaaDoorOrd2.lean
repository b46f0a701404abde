/- The program's validOrder. -/
import Derived.Test.YtnmpkdmflijhpaaDoorOrd
import Derived.Test.YtnmpkdmflijhpaaDoorIsLab
namespace Go.Proofs.YtnmpkdmflijhpaaDoor
open Go Go.RowKit

set_option maxHeartbeats 1000000 in
theorem validOrder_no (N : Int) (a : Option Addr) (m c : Nat) (w : World) (hm : m ≤ 9223372036854775807) (hno : ¬ (1 ≤ N ∧ N ≤ 32 ∧ m ≤ 256)) :
    Calls Tryd.prog 41 #[.agg #[.int .i64 N, .slice a m c]] w fun e w' => e = .returned (.bool false) ∧ Below w.heap.size w w' := by
  have hcase : N < 1 ∨ (1 ≤ N ∧ 32 < N) ∨ (1 ≤ N ∧ N ≤ 32 ∧ 256 < m) := by omega
  rcases hcase with h | ⟨h, h'⟩ | ⟨h, h', h''⟩
  all_goals
    go_enter Tryd.func41, Tryd.ntmps41
    go_wp2
    go_ret
    exact ⟨rfl, (Below.refl _ _).alloc (Nat.le_refl _) _⟩

theorem pair_new (w : World) (t : TypeId) (x y : Int) : (w.alloc (.cells #[.int .i64 x, .int .i64 y] t)).cell? ⟨w.heap.size, 0, none⟩ = some (.int .i64 x) ∧ (w.alloc (.cells #[.int .i64 x, .int .i64 y] t)).cell? ⟨w.heap.size, 1, none⟩ = some (.int .i64 y) := by
  have B := Blk.new w t #[.int .i64 x, .int .i64 y]
  exact ⟨B.cell 0, B.cell 1⟩

set_option maxHeartbeats 2000000 in
theorem validOrder_in (N : Int) (a : Option Addr) (m c : Nat) (f g : Nat → Int) (w : World) (h1 : 1 ≤ N) (h32 : N ≤ 32) (hm : m ≤ 256) (ha : Pairs w a m f g) (V : Bool) (hV : V = true ↔ ∀ k, k < m → 0 ≤ f k ∧ f k < N ∧ 0 ≤ g k ∧ g k < N) :
    Calls Tryd.prog 41 #[.agg #[.int .i64 N, .slice a m c]] w fun e w' => e = .returned (.bool V) ∧ Below w.heap.size w w' := by
  have HV := hide hV; clear hV
  go_enter Tryd.func41, Tryd.ntmps41
  go_wp2
  have hb : Below w.heap.size w (w.alloc (.cells #[.int .i64 N, .slice a m c] 34)) := (Below.refl _ _).alloc (Nat.le_refl _) _
  have HB := hide hb; clear hb
  have B0 := Blk.new w 34 #[.int .i64 N, .slice a m c]
  have PA := ha.mono (unhide HB)
  generalize (w.alloc (.cells #[.int .i64 N, .slice a m c] 34)) = W at *
  go_loopw [22] (fun i wr => ∃ k : Nat, k ≤ m ∧ i = .int .i64 k ∧ (∀ j, j < k → 0 ≤ f j ∧ f j < N ∧ 0 ≤ g j ∧ g j < N) ∧ Below W.heap.size W wr) (fun i _ => m - (intOf i).toNat)
  case atStart => exact ⟨0, Nat.zero_le _, rfl, fun j h => absurd h (Nat.not_lt_zero _), Below.refl _ _⟩
  case round =>
    obtain ⟨k, hk, rfl, heq, hB⟩ := hrel
    have HE := hide heq
    clear heq
    have P2 := PA.mono hB
    have c0 := (B0.mono hB B0.lt).cell 0
    simp only [List.getElem?_cons_zero] at c0
    have hs : w.heap.size < wr.heap.size := Nat.lt_of_lt_of_le B0.lt hB.size
    have HC := hide hB; clear hB
    by_cases hlt : k < m
    · obtain ⟨b, off, rfl, hl, hc, hd⟩ := P2 k hlt
      have hF : ¬ (0 ≤ f k ∧ f k < N ∧ 0 ≤ g k ∧ g k < N) → V = false := fun hn => bool_no (unhide HV) fun hall => hn (hall k hlt)
      have HF := hide hF; clear hF
      have HZ := hide ((unhide HB).trans (((unhide HC).trans (((Below.refl _ _).alloc (Nat.le_refl _) (.cells #[.int .i64 (f k), .int .i64 (g k)] 93)).mono (unhide HC).size)).mono (unhide HB).size))
      have HY := hide ((unhide HC).trans (((Below.refl _ _).alloc (Nat.le_refl _) (.cells #[.int .i64 (f k), .int .i64 (g k)] 93)).mono (unhide HC).size))
      obtain ⟨p0, p1⟩ := pair_new wr 93 (f k) (g k)
      have q0 := ((B0.mono (unhide HY) B0.lt).cell 0)
      simp only [List.getElem?_cons_zero] at q0
      by_cases x1 : f k < 0 ∨ N ≤ f k
      · go_wp2_with fail
        refine (isLabel_no (f k) N _ x1).mono ?_
        rintro e w' ⟨rfl, rfl⟩
        go_wp2
        go_ret
        exact ⟨ret_bool ((unhide HF) (by omega)).symm, unhide HZ⟩
      have y0 : 0 ≤ f k := by omega
      have y1 : f k < N := by omega
      by_cases x2 : g k < 0 ∨ N ≤ g k
      · go_wp2_with fail
        refine (isLabel_yes (f k) N _ y0 y1).mono ?_
        rintro e w' ⟨rfl, rfl⟩
        go_wp2_with fail
        refine (isLabel_no (g k) N _ x2).mono ?_
        rintro e w' ⟨rfl, rfl⟩
        go_wp2
        go_ret
        exact ⟨ret_bool ((unhide HF) (by omega)).symm, unhide HZ⟩
      have z0 : 0 ≤ g k := by omega
      have z1 : g k < N := by omega
      go_wp2_with fail
      refine (isLabel_yes (f k) N _ y0 y1).mono ?_
      rintro e w' ⟨rfl, rfl⟩
      go_wp2_with fail
      refine (isLabel_yes (g k) N _ z0 z1).mono ?_
      rintro e w' ⟨rfl, rfl⟩
      go_wp2
      go_roundw
      case rel => exact ⟨k + 1, by omega, by go_num, fun j hj => by
        by_cases e : j = k
        · subst e; omega
        · exact unhide HE j (by omega), unhide HY⟩
      case measure => simp [intOf]; omega
    · go_wp2
      go_ret
      exact ⟨ret_bool ((unhide HV).2 fun j hj => (unhide HE) j (by omega)).symm, (unhide HB).trans ((unhide HC).mono (unhide HB).size)⟩
end Go.Proofs.YtnmpkdmflijhpaaDoor
