/- Orders in package laws: size, copy, comparison, marks. -/
import Derived.Test.YtnmpkdmflijhpaaDoorOrd
import Derived.Test.YtnmpkdmflijhpaaDoorMark
namespace Go.Proofs.YtnmpkdmflijhpaaDoor
open Go Go.RowKit

theorem info_pair : (Tryd.prog.info? 93).map (fun i => (i.zero, i.size, i.bytes)) = some (some (.agg #[.int .i64 0, .int .i64 0]), 2, 16) := by kernel_rfl
theorem Blk.of_owns2 {w : World} {base e g n : Nat} {xs : List Value} (h : w.ownsRow base e 2 (.slice (some ⟨g, 0, none⟩) n n) n xs) : Blk w g e xs ∧ xs.length = n * 2 := by
  refine ⟨?_, h.1⟩
  rcases h.2 with ⟨h', _⟩ | ⟨g', cap', cur, h', _, hg, _, _, hs, htake⟩
  · simp at h'
  · simp only [Value.slice.injEq, Option.some.injEq, Addr.mk.injEq, and_true, true_and] at h'
    obtain ⟨rfl, rfl⟩ := h'
    rw [List.take_of_length_le (by simp; omega)] at htake
    rw [← htake]; simpa [Blk] using hg

set_option maxRecDepth 100000 in
set_option maxHeartbeats 1000000 in
theorem toPair_any (x y : Int) (w : World) :
    Calls Tryd.prog 78 #[.agg #[.int .i64 x, .int .i64 y]] w fun e w' => e = .returned (.agg #[.int .i64 x, .int .i64 y]) ∧ Below w.heap.size w w' := by
  go_enter Tryd.func78, Tryd.ntmps78
  go_wp2
  exact bodyPost_ret (v := .agg #[.int .i64 x, .int .i64 y]) (by simp [results, Tryd.results78, go_sem, *]) rfl ⟨rfl, (((Below.refl _ w).alloc (Nat.le_refl _) _).alloc (by simp) _).alloc (by simp; omega) _⟩

set_option maxRecDepth 100000 in
set_option maxHeartbeats 1000000 in
theorem toPairS_any (a : Option Addr) (f g : Nat → Int) (n c : Nat) (w : World) (ha : Pairs w a n f g) (hn : n ≤ 1048576) :
    Calls Tryd.prog 40 #[.slice a n c] w fun e w' => e = .returned (.slice (some ⟨w.heap.size, 0, none⟩) n n) ∧ Pairs w' (some ⟨w.heap.size, 0, none⟩) n f g ∧ (∃ xs, Blk w' w.heap.size 93 xs ∧ xs.length = n * 2) ∧ Below w.heap.size w w' := by
  obtain ⟨i0, hi, hz0, hz1, hz2⟩ := info_parts info_pair
  obtain ⟨B, hB⟩ : ∃ B, w.heap.size = B := ⟨_, rfl⟩
  have hbn : i0.bytes * n ≤ 281474976710656 := by rw [hz2]; omega
  go_enter Tryd.func40, Tryd.ntmps40
  go_wp2_with (at_make; refine wpList_make_full _ rfl (.tmp 6) (.tmp 6) 32 rfl w.heap.size 93 i0 (.agg #[.int .i64 0, .int .i64 0]) 2 Tryd.underlying32 hi hz0 hz1 .i64 .i64 _ _ n rfl rfl rfl rfl hbn (by unfold maxLen; omega) (Nat.le_refl _) ?_; intro w1 hown hgrow)
  have hb1 : Below B w w1 := by rw [← hB]; exact (Below.refl _ _).grown hgrow (Nat.le_refl _) (fun k h => by cases h)
  rw [hB] at hown
  obtain ⟨hX, hXl⟩ := Blk.of_owns2 hown
  have HX := hide hX; have HXL := hide hXl; have HB1 := hide hb1
  clear hgrow hbn hi hz0 hz1 hz2 hown hX hXl hb1
  try rw [hB]
  go_loopw [4] (fun i wr => ∃ (k : Nat) (xs : List Value), k ≤ n ∧ i = .int .i64 k ∧ Blk wr B 93 xs ∧ xs.length = n * 2 ∧ (∀ j, j < k → xs[j * 2]? = some (.int .i64 (f j)) ∧ xs[j * 2 + 1]? = some (.int .i64 (g j))) ∧ Below B w wr) (fun i _ => n - (intOf i).toNat)
  case atStart => exact ⟨0, _, Nat.zero_le _, rfl, unhide HX, unhide HXL, fun j h => absurd h (Nat.not_lt_zero _), unhide HB1⟩
  case round =>
    clear HX HXL HB1
    obtain ⟨k, xs, hk, rfl, hX, hXl, hx, hb⟩ := hrel
    have HX := hide hX; have HXL := hide hXl; have HXX := hide hx; have HB := hide hb
    by_cases hlt : k < n
    · obtain ⟨b1, o1, rfl, hl1, hc1, hc2⟩ := (ha.mono (hb.mono (by omega))) k hlt
      clear hX hXl hx hb
      go_wp2_with fail
      refine (toPair_any (f k) (g k) _).mono ?_
      rintro e w3 ⟨rfl, hb3⟩
      have X3 := (unhide HX).mono hb3 (unhide HX).lt
      have B3 := (unhide HB).trans (hb3.mono (by have := (unhide HX).lt; omega))
      have c0 := X3.cell (k * 2); have c1 := X3.cell (k * 2 + 1); have f0 := X3.free (k * 2); have f1 := X3.free (k * 2 + 1)
      rw [List.getElem?_eq_getElem (by have := unhide HXL; omega)] at c0 c1
      have HX3 := hide X3; have HB3 := hide B3
      clear X3 B3 hb3 hc1 hc2
      go_wp2
      go_roundw
      case rel =>
        refine ⟨k + 1, _, by omega, by go_num, ((unhide HX3).set (k * 2) (.int .i64 (f k))).set (k * 2 + 1) (.int .i64 (g k)), by simpa using unhide HXL, fun j hj => ?_, ((unhide HB3).setCell (Nat.le_refl _) _).setCell (Nat.le_refl _) _⟩
        have hxl := unhide HXL
        by_cases e : j = k
        · subst e
          simp [List.getElem?_set]; omega
        · have := unhide HXX j (by omega)
          simp only [List.getElem?_set]
          rw [if_neg (by omega), if_neg (by omega), if_neg (by omega), if_neg (by omega)]
          exact this
      case measure => simp [intOf]; omega
    · obtain rfl : n = k := by omega
      clear hX hXl hx hb
      go_wp2
      go_ret
      refine ⟨by rw [hB]; rfl, ?_, ?_, ?_⟩
      · intro j hj
        have := unhide HXX j hj
        exact ⟨B, 0, by rw [hB], (unhide HX).lt, by rw [Nat.zero_add, (unhide HX).cell]; exact this.1, by rw [Nat.zero_add, (unhide HX).cell]; exact this.2⟩
      · rw [hB]; exact ⟨xs, unhide HX, unhide HXL⟩
      · rw [hB]; exact unhide HB
end Go.Proofs.YtnmpkdmflijhpaaDoor
