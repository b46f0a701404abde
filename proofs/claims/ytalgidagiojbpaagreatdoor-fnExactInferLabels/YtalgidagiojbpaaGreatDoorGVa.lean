import Derived.Test.YtalgidagiojbpaaGreatDoorVal
import Derived.Test.YtalgidagiojbpaaGreatDoorBase
import Derived.Test.YtalgidagiojbpaaGreatDoorGNo
import Derived.Test.YtalgidagiojbpaaGreatDoorHand
import Derived.Test.YtalgidagiojbpaaGreatDoorBnd
import Derived.Test.YtalgidagiojbpaaGreatDoorBk
/- Values in package laws: size and copy. -/
namespace Go.Proofs.YtalgidagiojbpaaGreatDoor
open Go Go.RowKit

set_option maxHeartbeats 400000 in
theorem szValue_any (kind num : Int) (s : ByteArray) (left : Int) (w : World) (hs : s.size ≤ 9223372036854775807) (h0 : 0 ≤ left) (h1 : left ≤ 1048576) :
    Calls Tryz.prog 132 #[.agg #[.int .i64 kind, .int .i64 num, .string s], .int .i64 left] w fun e w' => e = .returned (.int .i64 (if left < s.size then -1 else left - s.size)) ∧ Below w.heap.size w w' := by
  by_cases h : left < s.size
  all_goals
    go_enter Tryz.func132, Tryz.ntmps132
    go_wp2
    go_ret
    exact ⟨rfl, (Below.refl _ _).alloc (Nat.le_refl _) _⟩

set_option maxHeartbeats 400000 in
theorem toValue_any (kind num : Int) (s : ByteArray) (w : World) :
    Calls Tryz.prog 144 #[.agg #[.int .i64 kind, .int .i64 num, .string s]] w fun e w' => e = .returned (.agg #[.int .i64 kind, .int .i64 num, .string s]) ∧ Below w.heap.size w w' := by
  go_enter Tryz.func144, Tryz.ntmps144
  go_wp2
  refine bodyPost_ret (v := .agg #[.int .i64 kind, .int .i64 num, .string s]) (by simp [results, Tryz.results144, go_sem, *]) rfl ⟨rfl, ?_⟩
  exact (((Below.refl _ w).alloc (Nat.le_refl _) _).alloc (by simp) _).alloc (by simp; omega) _
end Go.Proofs.YtalgidagiojbpaaGreatDoor

/- A value equals itself. -/
namespace Go.Proofs.YtalgidagiojbpaaGreatDoor
open Go Go.RowKit

set_option maxRecDepth 100000 in
set_option maxHeartbeats 1000000 in
theorem eqValue_refl (k n : Int) (t : ByteArray) (w : World) :
    Calls Tryz.prog 161 #[.agg #[.int .i64 k, .int .i64 n, .string t], .agg #[.int .i64 k, .int .i64 n, .string t]] w fun e w' => e = .returned (.bool true) ∧ Below w.heap.size w w' := by
  have hq : (t.toList == t.toList) = true := by simp
  have hB : ∀ o1 o2, Below w.heap.size w ((w.alloc o1).alloc o2) := fun o1 o2 => ((Below.refl _ w).alloc (Nat.le_refl _) o1).alloc (by simp) o2
  have HB := hide hB; clear hB
  go_enter Tryz.func161, Tryz.ntmps161
  go_wp2
  go_ret
  exact ⟨rfl, unhide HB _ _⟩
end Go.Proofs.YtalgidagiojbpaaGreatDoor

/- Lists of nodes in package laws: size, copy, comparison. -/
namespace Go.Proofs.YtalgidagiojbpaaGreatDoor
open Go Go.RowKit

theorem info_node : (Tryz.prog.info? 149).map (fun i => (i.zero, i.size, i.bytes)) = some (some (.agg #[.int .i64 0, .int .i64 0, .int .i64 0, .string ⟨#[]⟩, .string ⟨#[]⟩]), 5, 56) := by kernel_rfl
theorem Blk.of_owns5 {w : World} {base e g n : Nat} {xs : List Value} (h : w.ownsRow base e 5 (.slice (some ⟨g, 0, none⟩) n n) n xs) : Blk w g e xs ∧ xs.length = n * 5 := by
  refine ⟨?_, h.1⟩
  rcases h.2 with ⟨h', _⟩ | ⟨g', cap', cur, h', _, hg, _, _, hs, htake⟩
  · simp at h'
  · simp only [Value.slice.injEq, Option.some.injEq, Addr.mk.injEq, and_true, true_and] at h'
    obtain ⟨rfl, rfl⟩ := h'
    rw [List.take_of_length_le (by simp; omega)] at htake
    rw [← htake]; simpa [Blk] using hg

set_option maxRecDepth 100000 in
set_option maxHeartbeats 4000000 in
theorem szNode_any (n : Nx) (left : Int) (w : World) (hf : Fit n) (l0 : 0 ≤ left) (l1 : left ≤ 1048576) :
    Calls Tryz.prog 101 #[nv n, .int .i64 left] w fun r w' => ∃ q : Int, r = .returned (.int .i64 q) ∧ (0 ≤ q → q ≤ 1048576 ∧ n.v.s.size ≤ 1048576 ∧ n.nm.size ≤ 1048576) ∧ (q < 0 → q = -1) ∧ Below w.heap.size w w' := by
  obtain ⟨hs, hm, -, -⟩ := hf
  unfold nv
  have HK := hide (Blk.new w 157 #[.int .i64 n.op, .int .i64 n.v.k, .int .i64 n.v.n, .string n.v.s, .string n.nm])
  have HB := hide ((Below.refl w.heap.size w).alloc (Nat.le_refl _) (.cells #[.int .i64 n.op, .int .i64 n.v.k, .int .i64 n.v.n, .string n.v.s, .string n.nm] 157))
  go_enter Tryz.func101, Tryz.ntmps101
  go_wp2_with fail
  refine (szValue_any n.v.k n.v.n n.v.s left _ hs l0 l1).mono ?_
  rintro e w2 ⟨rfl, hb⟩
  replace HK := hide ((unhide HK).mono hb (unhide HK).lt); replace HB := hide ((unhide HB).trans (hb.mono (unhide HB).size))
  clear hb
  obtain ⟨y0, y1, y2, y3, y4⟩ := five (unhide HK)
  by_cases hq : left < n.v.s.size
  · rw [if_pos hq]
    go_wp2_with fail
    go_ret
    exact ⟨_, rfl, fun h => absurd h (by decide), fun _ => rfl, unhide HB⟩
  · rw [if_neg hq]
    have hq' : ¬ left - n.v.s.size < 0 := by omega
    obtain ⟨l2, hl2⟩ : ∃ l2 : Int, left - n.v.s.size = l2 := ⟨_, rfl⟩
    have HL : Hid (l2 ≤ 1048576 ∧ n.v.s.size ≤ 1048576 ∧ 0 ≤ l2) := hide (by omega)
    rw [hl2] at hq' ⊢
    clear hl2 hq
    have hl3 := (unhide HL).1
    by_cases hr : l2 < n.nm.size
    · have hr' : l2 - n.nm.size < 0 := by omega
      go_wp2_with fail
      go_ret
      exact ⟨_, rfl, fun h => absurd h (by decide), fun _ => rfl, unhide HB⟩
    · have hr' : ¬ l2 - n.nm.size < 0 := by omega
      go_wp2_with fail
      go_ret
      exact ⟨_, rfl, fun _ => by have := unhide HL; omega, fun h => by omega, unhide HB⟩

set_option maxRecDepth 100000 in
set_option maxHeartbeats 4000000 in
theorem szNodeS_any (a : Option Addr) (m c : Nat) (e : Nat → Nx) (l0 : Int) (w : World) (h0 : 0 ≤ l0) (h1 : l0 ≤ 1048576) (hm : m ≤ 9223372036854775807) (hf : ∀ k, k < m → Fit (e k)) (ha : Nods w a m e) :
    Calls Tryz.prog 76 #[.slice a m c, .int .i64 l0] w fun r w' => ∃ q : Int, r = .returned (.int .i64 q) ∧ (0 ≤ q → q ≤ 1048576 ∧ m ≤ 1048576 ∧ ∀ k, k < m → (e k).v.s.size ≤ 1048576 ∧ (e k).nm.size ≤ 1048576) ∧ (q < 0 → q = -1) ∧ Below w.heap.size w w' := by
  have HA := hide ha; have HF := hide hf
  clear ha hf
  have hw1 : wrap64 (l0 - (m : Int)) = l0 - (m : Int) := wrap64_small (by omega) (by omega)
  by_cases h : (m : Int) ≤ l0
  · have h' : ¬ l0 - (m : Int) < 0 := by omega
    obtain ⟨lq, hlq⟩ : ∃ lq : Int, l0 - (m : Int) = lq := ⟨_, rfl⟩
    have HLQ : Hid (0 ≤ lq ∧ lq ≤ 1048576) := hide (by omega)
    rw [hlq] at h' hw1
    go_enter Tryz.func76, Tryz.ntmps76
    go_wp2_with fail
    try rw [hlq]
    clear hlq hw1 h'
    go_loopw [1, 5] (fun l i wr => ∃ (k : Nat) (left : Int), k ≤ m ∧ l = .int .i64 left ∧ i = .int .i64 k ∧ 0 ≤ left ∧ left ≤ 1048576 ∧ (∀ j, j < k → (e j).v.s.size ≤ 1048576 ∧ (e j).nm.size ≤ 1048576) ∧ Below w.heap.size w wr) (fun _ i _ => m - (intOf i).toNat)
    case atStart => exact ⟨0, _, Nat.zero_le _, rfl, rfl, (unhide HLQ).1, (unhide HLQ).2, fun j hj => absurd hj (Nat.not_lt_zero _), Below.refl _ _⟩
    case round =>
      clear HLQ
      obtain ⟨k, left, hk, rfl, rfl, q0, q1, hall, hb⟩ := hrel
      have HALL := hide hall; have HB := hide hb
      have HV := hide ((unhide HA).mono hb)
      clear hall hb
      by_cases hlt : k < m
      · have hlt' : (k : Int) < m := by omega
        obtain ⟨b, o, rfl, -, c0, c1, c2, c3, c4⟩ := unhide HV k hlt
        go_wp2_with fail
        refine (szNode_any (e k) left _ (unhide HF k hlt) q0 q1).mono ?_
        rintro r w2 ⟨q, rfl, hq, hq', hb⟩
        replace HB := hide ((unhide HB).trans (hb.mono (unhide HB).size))
        clear hb c0 c1 c2 c3 c4
        by_cases hn : q < 0
        · obtain rfl := hq' hn
          clear hq hq' hn
          go_wp2_with fail
          go_ret
          exact ⟨_, rfl, fun h => absurd h (by decide), fun _ => rfl, unhide HB⟩
        · have HQ := hide (hq (by omega))
          have HN : Hid (∀ j, j < k + 1 → (e j).v.s.size ≤ 1048576 ∧ (e j).nm.size ≤ 1048576) := hide fun j hj => by
            by_cases ej : j = k
            · rw [ej]; exact (unhide HQ).2
            · exact unhide HALL j (by omega)
          clear hq hq'
          go_wp2_with fail
          go_roundw
          case rel => exact ⟨k + 1, q, by omega, rfl, by go_num, by omega, (unhide HQ).1, unhide HN, unhide HB⟩
          case measure => simp [intOf]; omega
      · obtain rfl : k = m := by omega
        go_wp2_with fail
        go_ret
        exact ⟨_, rfl, fun _ => ⟨q1, by omega, unhide HALL⟩, fun h => by omega, unhide HB⟩
  · have h' : l0 - (m : Int) < 0 := by omega
    go_enter Tryz.func76, Tryz.ntmps76
    go_wp2_with fail
    go_ret
    exact ⟨_, rfl, fun h => absurd h (by decide), fun _ => rfl, Below.refl _ _⟩

set_option maxRecDepth 100000 in
set_option maxHeartbeats 4000000 in
theorem toNode_any (n : Nx) (w : World) :
    Calls Tryz.prog 110 #[nv n] w fun r w' => r = .returned (nv n) ∧ Below w.heap.size w w' := by
  unfold nv
  have HK := hide (((Blk.new w 157 #[.int .i64 n.op, .int .i64 n.v.k, .int .i64 n.v.n, .string n.v.s, .string n.nm]).alloc (.cells #[.int .i64 0, .int .i64 0, .int .i64 0, .string ⟨#[]⟩, .string ⟨#[]⟩] 149)).alloc (.cells #[.int .i64 n.op, .int .i64 0, .int .i64 0, .string ⟨#[]⟩, .string ⟨#[]⟩] 149))
  have HR := hide ((Blk.new (w.alloc (.cells #[.int .i64 n.op, .int .i64 n.v.k, .int .i64 n.v.n, .string n.v.s, .string n.nm] 157)) 149 #[.int .i64 0, .int .i64 0, .int .i64 0, .string ⟨#[]⟩, .string ⟨#[]⟩]).alloc (.cells #[.int .i64 n.op, .int .i64 0, .int .i64 0, .string ⟨#[]⟩, .string ⟨#[]⟩] 149))
  have HO := hide (Blk.new ((w.alloc (.cells #[.int .i64 n.op, .int .i64 n.v.k, .int .i64 n.v.n, .string n.v.s, .string n.nm] 157)).alloc (.cells #[.int .i64 0, .int .i64 0, .int .i64 0, .string ⟨#[]⟩, .string ⟨#[]⟩] 149)) 149 #[.int .i64 n.op, .int .i64 0, .int .i64 0, .string ⟨#[]⟩, .string ⟨#[]⟩])
  have HB := hide ((((Below.refl w.heap.size w).alloc (Nat.le_refl _) (.cells #[.int .i64 n.op, .int .i64 n.v.k, .int .i64 n.v.n, .string n.v.s, .string n.nm] 157)).alloc (by simp) (.cells #[.int .i64 0, .int .i64 0, .int .i64 0, .string ⟨#[]⟩, .string ⟨#[]⟩] 149)).alloc (by simp; omega) (.cells #[.int .i64 n.op, .int .i64 0, .int .i64 0, .string ⟨#[]⟩, .string ⟨#[]⟩] 149))
  simp only [World.size_alloc] at HR HO
  go_enter Tryz.func110, Tryz.ntmps110
  go_wp2_with fail
  refine (toValue_any n.v.k n.v.n n.v.s _).mono ?_
  rintro x w2 ⟨rfl, hb⟩
  replace HK := hide ((unhide HK).mono hb (unhide HK).lt); replace HR := hide ((unhide HR).mono hb (unhide HR).lt); replace HO := hide ((unhide HO).mono hb (unhide HO).lt); replace HB := hide ((unhide HB).trans (hb.mono (unhide HB).size))
  clear hb
  obtain ⟨y0, y1, y2, y3, y4⟩ := five (unhide HK)
  obtain ⟨r0, r1, r2, r3, r4⟩ := five (unhide HR)
  obtain ⟨o0, o1, o2, o3, o4⟩ := five (unhide HO)
  have f0 := (unhide HR).free 0; have f1 := (unhide HR).free 1; have f2 := (unhide HR).free 2; have f3 := (unhide HR).free 3; have f4 := (unhide HR).free 4
  have g1 := (unhide HO).free 1; have g2 := (unhide HO).free 2; have g3 := (unhide HO).free 3; have g4 := (unhide HO).free 4
  go_wp2_with fail
  refine bodyPost_ret (v := .agg #[.int .i64 n.op, .int .i64 n.v.k, .int .i64 n.v.n, .string n.v.s, .string n.nm]) (by simp [results, Tryz.results110, go_sem, *]) rfl ⟨rfl, ?_⟩
  exact (((((((((unhide HB).setCell (by simp; omega) _).setCell (by simp; omega) _).setCell (by simp; omega) _).setCell (by simp; omega) _).setCell (by simp) _).setCell (by simp) _).setCell (by simp) _).setCell (by simp) _).setCell (by simp) _

set_option maxRecDepth 100000 in
set_option maxHeartbeats 4000000 in
theorem toNodeS_bk (a : Option Addr) (e : Nat → Nx) (n c : Nat) (w : World) (ha : Nods w a n e) (hn : n ≤ 1048576) :
    Calls Tryz.prog 88 #[.slice a n c] w fun r w' => r = .returned (.slice (some ⟨w.heap.size, 0, none⟩) n n) ∧ Nods w' (some ⟨w.heap.size, 0, none⟩) n e ∧ Bk w' w.heap.size 149 (n * 5) ∧ Below w.heap.size w w' := by
  obtain ⟨i0, hi, hz0, hz1, hz2⟩ := info_parts info_node
  obtain ⟨B, hB⟩ : ∃ B, w.heap.size = B := ⟨_, rfl⟩
  have hbn : i0.bytes * n ≤ 281474976710656 := by rw [hz2]; omega
  have HA := hide ha
  clear ha
  go_enter Tryz.func88, Tryz.ntmps88
  go_wp2_with (at_make; refine wpList_make_full _ rfl _ _ 96 rfl w.heap.size 149 i0 _ 5 Tryz.underlying96 hi hz0 hz1 .i64 .i64 _ _ n rfl rfl rfl rfl hbn (by unfold maxLen; omega) (Nat.le_refl _) ?_; intro w1 hown hgrow)
  have hb1 : Below B w w1 := by rw [← hB]; exact (Below.refl _ _).grown hgrow (Nat.le_refl _) (fun k h => by cases h)
  rw [hB] at hown
  obtain ⟨hX, hXl⟩ := Blk.of_owns5 hown
  have HX := hide hX; have HXL := hide hXl; have HB1 := hide hb1
  clear hgrow hbn hi hz0 hz1 hz2 hown hX hXl hb1
  go_wp2_with fail
  try rw [hB]
  go_loopw [4] (fun i wr => ∃ (k : Nat) (xs : List Value), k ≤ n ∧ i = .int .i64 k ∧ Blk wr B 149 xs ∧ xs.length = n * 5 ∧ (∀ j, j < k → xs[j * 5]? = some (.int .i64 (e j).op) ∧ xs[j * 5 + 1]? = some (.int .i64 (e j).v.k) ∧ xs[j * 5 + 2]? = some (.int .i64 (e j).v.n) ∧ xs[j * 5 + 3]? = some (.string (e j).v.s) ∧ xs[j * 5 + 4]? = some (.string (e j).nm)) ∧ Below B w wr) (fun i _ => n - (intOf i).toNat)
  case atStart => exact ⟨0, _, Nat.zero_le _, rfl, unhide HX, unhide HXL, fun j h => absurd h (Nat.not_lt_zero _), unhide HB1⟩
  case round =>
    clear HX HXL HB1
    obtain ⟨k, xs, hk, rfl, hX, hXl, hx, hb⟩ := hrel
    have HX := hide hX; have HXL := hide hXl; have HXX := hide hx; have HB := hide hb
    have HV := hide ((unhide HA).mono (hb.mono (by omega)))
    clear hX hXl hx hb
    by_cases hlt : k < n
    · have hlt' : (k : Int) < n := by omega
      obtain ⟨b1, o1, rfl, hl1, hc1, hc2, hc3, hc4, hc5⟩ := unhide HV k hlt
      go_wp2_with fail
      refine (toNode_any (e k) _).mono ?_
      rintro x w3 ⟨rfl, hb3⟩
      have X3 := (unhide HX).mono hb3 (unhide HX).lt
      have B3 := (unhide HB).trans (hb3.mono (by have := (unhide HX).lt; omega))
      have c0 := X3.cell (k * 5); have c1 := X3.cell (k * 5 + 1); have c2 := X3.cell (k * 5 + 2); have c3 := X3.cell (k * 5 + 3); have c4 := X3.cell (k * 5 + 4)
      have f0 := X3.free (k * 5); have f1 := X3.free (k * 5 + 1); have f2 := X3.free (k * 5 + 2); have f3 := X3.free (k * 5 + 3); have f4 := X3.free (k * 5 + 4)
      rw [List.getElem?_eq_getElem (by have := unhide HXL; omega)] at c0 c1 c2 c3 c4
      have HX3 := hide X3; have HB3 := hide B3
      clear X3 B3 hb3 hc1 hc2 hc3 hc4 hc5
      unfold nv
      go_wp2_with fail
      go_roundw
      case rel =>
        refine ⟨k + 1, _, by omega, by go_num, (((((unhide HX3).set (k * 5) (.int .i64 (e k).op)).set (k * 5 + 1) (.int .i64 (e k).v.k)).set (k * 5 + 2) (.int .i64 (e k).v.n)).set (k * 5 + 3) (.string (e k).v.s)).set (k * 5 + 4) (.string (e k).nm), by simpa using unhide HXL, fun j hj => ?_, (((((unhide HB3).setCell (Nat.le_refl _) _).setCell (Nat.le_refl _) _).setCell (Nat.le_refl _) _).setCell (Nat.le_refl _) _).setCell (Nat.le_refl _) _⟩
        have hxl := unhide HXL
        by_cases ej : j = k
        · subst ej
          simp [List.getElem?_set]; omega
        · have := unhide HXX j (by omega)
          simp only [List.getElem?_set]
          (repeat rw [if_neg (by omega)])
          exact this
      case measure => simp [intOf]; omega
    · obtain rfl : n = k := by omega
      go_wp2_with fail
      go_ret
      refine ⟨by rw [hB]; rfl, ?_, ?_, ?_⟩
      · intro j hj
        have := unhide HXX j hj
        exact ⟨B, 0, by rw [hB], (unhide HX).lt, by rw [Nat.zero_add, (unhide HX).cell]; exact this.1, by rw [Nat.zero_add, (unhide HX).cell]; exact this.2.1, by rw [Nat.zero_add, (unhide HX).cell]; exact this.2.2.1, by rw [Nat.zero_add, (unhide HX).cell]; exact this.2.2.2.1, by rw [Nat.zero_add, (unhide HX).cell]; exact this.2.2.2.2⟩
      · rw [hB]; exact ⟨_, unhide HX, unhide HXL⟩
      · rw [hB]; exact unhide HB
theorem toNodeS_any (a : Option Addr) (e : Nat → Nx) (n c : Nat) (w : World) (ha : Nods w a n e) (hn : n ≤ 1048576) :
    Calls Tryz.prog 88 #[.slice a n c] w fun r w' => r = .returned (.slice (some ⟨w.heap.size, 0, none⟩) n n) ∧ Nods w' (some ⟨w.heap.size, 0, none⟩) n e ∧ Below w.heap.size w w' :=
  (toNodeS_bk a e n c w ha hn).mono fun _ _ ⟨h1, h2, _, h4⟩ => ⟨h1, h2, h4⟩

set_option maxRecDepth 100000 in
set_option maxHeartbeats 4000000 in
theorem eqNode_refl (n : Nx) (w : World) :
    Calls Tryz.prog 127 #[nv n, nv n] w fun r w' => r = .returned (.bool true) ∧ Below w.heap.size w w' := by
  unfold nv
  have hq : (n.nm.toList == n.nm.toList) = true := by simp
  have HK := hide ((Blk.new w 149 #[.int .i64 n.op, .int .i64 n.v.k, .int .i64 n.v.n, .string n.v.s, .string n.nm]).alloc (.cells #[.int .i64 n.op, .int .i64 n.v.k, .int .i64 n.v.n, .string n.v.s, .string n.nm] 149))
  have HR := hide (Blk.new (w.alloc (.cells #[.int .i64 n.op, .int .i64 n.v.k, .int .i64 n.v.n, .string n.v.s, .string n.nm] 149)) 149 #[.int .i64 n.op, .int .i64 n.v.k, .int .i64 n.v.n, .string n.v.s, .string n.nm])
  have HB := hide (((Below.refl w.heap.size w).alloc (Nat.le_refl _) (.cells #[.int .i64 n.op, .int .i64 n.v.k, .int .i64 n.v.n, .string n.v.s, .string n.nm] 149)).alloc (by simp) (.cells #[.int .i64 n.op, .int .i64 n.v.k, .int .i64 n.v.n, .string n.v.s, .string n.nm] 149))
  simp only [World.size_alloc] at HR
  go_enter Tryz.func127, Tryz.ntmps127
  go_wp2_with fail
  refine (eqValue_refl n.v.k n.v.n n.v.s _).mono ?_
  rintro x w2 ⟨rfl, hb⟩
  replace HK := hide ((unhide HK).mono hb (unhide HK).lt); replace HR := hide ((unhide HR).mono hb (unhide HR).lt); replace HB := hide ((unhide HB).trans (hb.mono (unhide HB).size))
  clear hb
  obtain ⟨y0, y1, y2, y3, y4⟩ := five (unhide HK)
  obtain ⟨r0, r1, r2, r3, r4⟩ := five (unhide HR)
  go_wp2_with fail
  go_ret
  exact ⟨rfl, unhide HB⟩

set_option maxRecDepth 100000 in
set_option maxHeartbeats 4000000 in
theorem eqNodeS_true (a b : Option Addr) (e : Nat → Nx) (n ca cb : Nat) (w : World) (hn : n ≤ 1048576) (ha : Nods w a n e) (hb : Nods w b n e) :
    Calls Tryz.prog 97 #[.slice a n ca, .slice b n cb] w fun r w' => r = .returned (.bool true) ∧ Below w.heap.size w w' := by
  have HA := hide ha; have HB0 := hide hb
  clear ha hb
  go_enter Tryz.func97, Tryz.ntmps97
  go_wp2_with fail
  go_loopw [5] (fun i wr => ∃ k : Nat, k ≤ n ∧ i = .int .i64 k ∧ Below w.heap.size w wr) (fun i _ => n - (intOf i).toNat)
  case atStart => exact ⟨0, Nat.zero_le _, rfl, Below.refl _ _⟩
  case round =>
    obtain ⟨k, hk, rfl, hB⟩ := hrel
    have HB := hide hB
    by_cases hlt : k < n
    · obtain ⟨b1, o1, rfl, C1⟩ := ((unhide HA).mono hB) k hlt
      obtain ⟨b2, o2, rfl, C2⟩ := ((unhide HB0).mono hB) k hlt
      obtain ⟨u, hu⟩ : ∃ u, e k = u := ⟨_, rfl⟩
      rw [hu] at C1 C2
      have HC1 := hide C1; have HC2 := hide C2
      have k0 : (0 : Int) ≤ k := by omega
      have k1 : (k : Int) < n := by omega
      clear hB hu C1 C2
      go_wp2_with fail
      refine wp_region_held_drew (S := fun w' => NCel w' b1 (o1 + k * 5) u ∧ NCel w' b2 (o2 + k * 5) u) (by kernel_rfl) ⟨unhide HC1, unhide HC2⟩ (fun hHeld => ?_)
      refine takeY (i := 0) (v := .slice (some ⟨b1, o1, none⟩) n ca) 17 rfl rfl (by kernel_rfl) (by kernel_rfl) (by kernel_rfl) (fun _ _ _ _ h => h) (by rfl) (fun w hS => by simp [execOp, go_sem, *]) hHeld ?_
      simp only [List.setIfInBounds_toArray, List.set_cons_zero, List.set_cons_succ]
      refine takeY (i := 1) (v := .int .i64 k) 18 rfl rfl (by kernel_rfl) (by kernel_rfl) (by kernel_rfl) (fun _ _ _ _ h => h) (by rfl) (fun w hS => by simp [execOp, go_sem, *]) hHeld ?_
      simp only [List.setIfInBounds_toArray, List.set_cons_zero, List.set_cons_succ]
      refine takeY (i := 2) (v := .pointer (some ⟨b1, o1 + k * 5, none⟩)) 19 rfl rfl (by kernel_rfl) (by kernel_rfl) (by kernel_rfl) (fun _ _ _ _ h => h) (by rfl) (fun w hS => by simp [execOp, go_sem, *]) hHeld ?_
      simp only [List.setIfInBounds_toArray, List.set_cons_zero, List.set_cons_succ]
      refine takeY (i := 3) (v := .agg #[.int .i64 u.op, .int .i64 u.v.k, .int .i64 u.v.n, .string u.v.s, .string u.nm]) 20 rfl rfl (by kernel_rfl) (by kernel_rfl) (by kernel_rfl) (fun _ _ _ _ h => h) (by rfl) (fun w hS => by obtain ⟨⟨-, q0, q1, q2, q3, q4⟩, -⟩ := hS; simp [execOp, go_sem, q0, q1, q2, q3, q4]) hHeld ?_
      simp only [List.setIfInBounds_toArray, List.set_cons_zero, List.set_cons_succ]
      refine takeY (i := 4) (v := .slice (some ⟨b2, o2, none⟩) n cb) 21 rfl rfl (by kernel_rfl) (by kernel_rfl) (by kernel_rfl) (fun _ _ _ _ h => h) (by rfl) (fun w hS => by simp [execOp, go_sem, *]) hHeld ?_
      simp only [List.setIfInBounds_toArray, List.set_cons_zero, List.set_cons_succ]
      refine takeY (i := 5) (v := .int .i64 k) 22 rfl rfl (by kernel_rfl) (by kernel_rfl) (by kernel_rfl) (fun _ _ _ _ h => h) (by rfl) (fun w hS => by simp [execOp, go_sem, *]) hHeld ?_
      simp only [List.setIfInBounds_toArray, List.set_cons_zero, List.set_cons_succ]
      refine takeY (i := 6) (v := .pointer (some ⟨b2, o2 + k * 5, none⟩)) 23 rfl rfl (by kernel_rfl) (by kernel_rfl) (by kernel_rfl) (fun _ _ _ _ h => h) (by rfl) (fun w hS => by simp [execOp, go_sem, *]) hHeld ?_
      simp only [List.setIfInBounds_toArray, List.set_cons_zero, List.set_cons_succ]
      refine takeY (i := 7) (v := .agg #[.int .i64 u.op, .int .i64 u.v.k, .int .i64 u.v.n, .string u.v.s, .string u.nm]) 24 rfl rfl (by kernel_rfl) (by kernel_rfl) (by kernel_rfl) (fun _ _ _ _ h => h) (by rfl) (fun w hS => by obtain ⟨-, ⟨-, q0, q1, q2, q3, q4⟩⟩ := hS; simp [execOp, go_sem, q0, q1, q2, q3, q4]) hHeld ?_
      simp only [List.setIfInBounds_toArray, List.set_cons_zero, List.set_cons_succ]
      refine callY (i := 8) (f := 127) (args := #[nv u, nv u]) (R := fun v wz => v = .bool true ∧ Below wr.heap.size wr wz) 25 rfl rfl (by rfl) (by kernel_rfl) ?hrun1 ((eqNode_refl u _).mono fun e w6 ⟨he, hb⟩ => ⟨_, he, rfl, below_of_drew hb⟩) ?_
      case hrun1 => simp [execOp, go_sem, nv]
      rintro v w6 ⟨rfl, hb6⟩
      have HB6 := hide ((unhide HB).trans (hb6.mono (unhide HB).size))
      replace hHeld : NCel w6 b1 (o1 + k * 5) u ∧ NCel w6 b2 (o2 + k * 5) u := ⟨(unhide HC1).mono hb6, (unhide HC2).mono hb6⟩
      clear hb6
      refine ⟨hHeld, ?_⟩
      simp only [List.setIfInBounds_toArray, List.set_cons_zero, List.set_cons_succ]
      refine takeY (i := 9) (v := .bool false) 26 rfl rfl (by kernel_rfl) (by kernel_rfl) (by kernel_rfl) (fun _ _ _ _ h => h) (by rfl) (fun w hS => by simp [execOp, go_sem, *]) hHeld ?_
      simp only [List.setIfInBounds_toArray, List.set_cons_zero, List.set_cons_succ]
      refine wpAnyH_done (by kernel_rfl) ?_ _
      clear hHeld
      go_wp2_with fail
      go_roundw
      case rel => exact ⟨k + 1, by omega, by go_num, unhide HB6⟩
      case measure => simp [intOf]; omega
    · obtain rfl : n = k := by omega
      clear hB
      go_wp2_with fail
      go_ret
      exact ⟨rfl, unhide HB⟩
end Go.Proofs.YtalgidagiojbpaaGreatDoor
