/- Orders in package laws: comparison and marks. -/
import Derived.Test.YtnmpkdmflijhpaaDoorOrdL
import Derived.Test.YtnmpkdmflijhpaaDoorHand
import Derived.Test.YtnmpkdmflijhpaaDoorBnd
namespace Go.Proofs.YtnmpkdmflijhpaaDoor
open Go Go.RowKit

def FourP (w' : World) (b1 o1 b2 o2 : Nat) (x y : Int) : Prop := w'.cell? ⟨b1, o1, none⟩ = some (.int .i64 x) ∧ w'.cell? ⟨b1, o1 + 1, none⟩ = some (.int .i64 y) ∧ w'.cell? ⟨b2, o2, none⟩ = some (.int .i64 x) ∧ w'.cell? ⟨b2, o2 + 1, none⟩ = some (.int .i64 y)

set_option maxRecDepth 100000 in
set_option maxHeartbeats 1000000 in
theorem eqPairS_true (a b : Option Addr) (f g : Nat → Int) (n ca cb : Nat) (w : World) (hn : n ≤ 1048576) (ha : Pairs w a n f g) (hb : Pairs w b n f g) :
    Calls Tryd.prog 46 #[.slice a n ca, .slice b n cb] w fun e w' => e = .returned (.bool true) ∧ Below w.heap.size w w' := by
  go_enter Tryd.func46, Tryd.ntmps46
  go_wp2
  go_loopw [5] (fun i wr => ∃ k : Nat, k ≤ n ∧ i = .int .i64 k ∧ Below w.heap.size w wr) (fun i _ => n - (intOf i).toNat)
  case atStart => exact ⟨0, Nat.zero_le _, rfl, Below.refl _ _⟩
  case round =>
    obtain ⟨k, hk, rfl, hB⟩ := hrel
    have HB := hide hB
    by_cases hlt : k < n
    · obtain ⟨b1, o1, rfl, l1, c1, c2⟩ := (ha.mono hB) k hlt
      obtain ⟨b2, o2, rfl, l2, c3, c4⟩ := (hb.mono hB) k hlt
      obtain ⟨x, hx⟩ : ∃ x, f k = x := ⟨_, rfl⟩
      obtain ⟨y, hy⟩ : ∃ y, g k = y := ⟨_, rfl⟩
      rw [hx] at c1 c3; rw [hy] at c2 c4
      have S0 : FourP wr b1 (o1 + k * 2) b2 (o2 + k * 2) x y := ⟨c1, c2, c3, c4⟩
      have HS0 := hide S0
      have k0 : (0 : Int) ≤ k := by omega
      have k1 : (k : Int) < n := by omega
      clear hB hx hy c1 c2 c3 c4 S0
      go_wp2_with fail
      refine wp_region_held_drew (S := fun w' => FourP w' b1 (o1 + k * 2) b2 (o2 + k * 2) x y) (by kernel_rfl) (unhide HS0) (fun hHeld => ?_)
      refine takeY (i := 0) (v := .slice (some ⟨b1, o1, none⟩) n ca) 17 rfl rfl (by kernel_rfl) (by kernel_rfl) (by kernel_rfl) (fun _ _ _ _ h => h) (by rfl) (fun w hS => by obtain ⟨q0, q1, q2, q3⟩ := hS; simp [execOp, go_sem, *]) hHeld ?_
      simp only [List.setIfInBounds_toArray, List.set_cons_zero, List.set_cons_succ]
      refine takeY (i := 1) (v := .int .i64 k) 18 rfl rfl (by kernel_rfl) (by kernel_rfl) (by kernel_rfl) (fun _ _ _ _ h => h) (by rfl) (fun w hS => by obtain ⟨q0, q1, q2, q3⟩ := hS; simp [execOp, go_sem, *]) hHeld ?_
      simp only [List.setIfInBounds_toArray, List.set_cons_zero, List.set_cons_succ]
      refine takeY (i := 2) (v := .pointer (some ⟨b1, o1 + k * 2, none⟩)) 19 rfl rfl (by kernel_rfl) (by kernel_rfl) (by kernel_rfl) (fun _ _ _ _ h => h) (by rfl) (fun w hS => by obtain ⟨q0, q1, q2, q3⟩ := hS; simp [execOp, go_sem, *]) hHeld ?_
      simp only [List.setIfInBounds_toArray, List.set_cons_zero, List.set_cons_succ]
      refine takeY (i := 3) (v := .agg #[.int .i64 x, .int .i64 y]) 20 rfl rfl (by kernel_rfl) (by kernel_rfl) (by kernel_rfl) (fun _ _ _ _ h => h) (by rfl) (fun w hS => by obtain ⟨q0, q1, q2, q3⟩ := hS; simp [execOp, go_sem, *]) hHeld ?_
      simp only [List.setIfInBounds_toArray, List.set_cons_zero, List.set_cons_succ]
      refine takeY (i := 4) (v := .slice (some ⟨b2, o2, none⟩) n cb) 21 rfl rfl (by kernel_rfl) (by kernel_rfl) (by kernel_rfl) (fun _ _ _ _ h => h) (by rfl) (fun w hS => by obtain ⟨q0, q1, q2, q3⟩ := hS; simp [execOp, go_sem, *]) hHeld ?_
      simp only [List.setIfInBounds_toArray, List.set_cons_zero, List.set_cons_succ]
      refine takeY (i := 5) (v := .int .i64 k) 22 rfl rfl (by kernel_rfl) (by kernel_rfl) (by kernel_rfl) (fun _ _ _ _ h => h) (by rfl) (fun w hS => by obtain ⟨q0, q1, q2, q3⟩ := hS; simp [execOp, go_sem, *]) hHeld ?_
      simp only [List.setIfInBounds_toArray, List.set_cons_zero, List.set_cons_succ]
      refine takeY (i := 6) (v := .pointer (some ⟨b2, o2 + k * 2, none⟩)) 23 rfl rfl (by kernel_rfl) (by kernel_rfl) (by kernel_rfl) (fun _ _ _ _ h => h) (by rfl) (fun w hS => by obtain ⟨q0, q1, q2, q3⟩ := hS; simp [execOp, go_sem, *]) hHeld ?_
      simp only [List.setIfInBounds_toArray, List.set_cons_zero, List.set_cons_succ]
      refine takeY (i := 7) (v := .agg #[.int .i64 x, .int .i64 y]) 24 rfl rfl (by kernel_rfl) (by kernel_rfl) (by kernel_rfl) (fun _ _ _ _ h => h) (by rfl) (fun w hS => by obtain ⟨q0, q1, q2, q3⟩ := hS; simp [execOp, go_sem, *]) hHeld ?_
      simp only [List.setIfInBounds_toArray, List.set_cons_zero, List.set_cons_succ]
      refine callY (i := 8) (f := 88) (args := #[.agg #[.int .i64 x, .int .i64 y], .agg #[.int .i64 x, .int .i64 y]]) (R := fun v wz => v = .bool true ∧ Below wr.heap.size wr wz) 25 rfl rfl (by rfl) (by kernel_rfl) ?hrun1 ((eqPair_refl x y _).mono fun e w6 ⟨he, hb⟩ => ⟨_, he, rfl, below_of_drew hb⟩) ?_
      case hrun1 => simp [execOp, go_sem]
      rintro v w6 ⟨rfl, hb6⟩
      have S6 : FourP w6 b1 (o1 + k * 2) b2 (o2 + k * 2) x y := by
        obtain ⟨q0, q1, q2, q3⟩ := unhide HS0
        exact ⟨(hb6.cell (p := ⟨b1, o1 + k * 2, none⟩) l1).trans q0, (hb6.cell (p := ⟨b1, o1 + k * 2 + 1, none⟩) l1).trans q1, (hb6.cell (p := ⟨b2, o2 + k * 2, none⟩) l2).trans q2, (hb6.cell (p := ⟨b2, o2 + k * 2 + 1, none⟩) l2).trans q3⟩
      have HB6 := hide ((unhide HB).trans (hb6.mono (unhide HB).size))
      refine ⟨S6, ?_⟩
      simp only [List.setIfInBounds_toArray, List.set_cons_zero, List.set_cons_succ]
      replace hHeld := S6
      refine takeY (i := 9) (v := .bool false) 26 rfl rfl (by kernel_rfl) (by kernel_rfl) (by kernel_rfl) (fun _ _ _ _ h => h) (by rfl) (fun w hS => by obtain ⟨q0, q1, q2, q3⟩ := hS; simp [execOp, go_sem, *]) hHeld ?_
      simp only [List.setIfInBounds_toArray, List.set_cons_zero, List.set_cons_succ]
      refine wpAnyH_done (by kernel_rfl) ?_ _
      clear hHeld S6 hb6
      go_wp2
      go_roundw
      case rel => exact ⟨k + 1, by omega, by go_num, unhide HB6⟩
      case measure => simp [intOf]; omega
    · obtain rfl : n = k := by omega
      clear hB
      go_wp2
      go_ret
      exact ⟨rfl, unhide HB⟩

set_option maxRecDepth 100000 in
set_option maxHeartbeats 1000000 in
theorem eqOrder_true (N : Int) (a b : Option Addr) (f g : Nat → Int) (n ca cb : Nat) (w : World) (hn : n ≤ 1048576) (ha : Pairs w a n f g) (hb : Pairs w b n f g) :
    Calls Tryd.prog 14 #[.agg #[.int .i64 N, .slice a n ca], .agg #[.int .i64 N, .slice b n cb]] w fun e w' => e = .returned (.bool true) ∧ Below w.heap.size w w' := by
  have hB : ∀ o1 o2, Below w.heap.size w ((w.alloc o1).alloc o2) := fun o1 o2 => ((Below.refl _ w).alloc (Nat.le_refl _) o1).alloc (by simp) o2
  have HB := hide hB; clear hB
  go_enter Tryd.func14, Tryd.ntmps14
  go_wp2_with fail
  refine (eqPairS_true a b f g n ca cb _ hn (ha.mono (unhide HB _ _)) (hb.mono (unhide HB _ _))).mono ?_
  rintro e w1 ⟨rfl, hb1⟩
  have HZ := hide ((unhide HB (.cells #[.int .i64 N, .slice a n ca] 34) (.cells #[.int .i64 N, .slice b n cb] 34)).trans (hb1.mono (by simp; omega)))
  clear hb1
  go_wp2
  go_ret
  exact ⟨rfl, unhide HZ⟩

set_option maxRecDepth 100000 in
set_option maxHeartbeats 1000000 in
theorem markPairS_any (G n k : Nat) (xs : List Value) (w : World) (hn : n ≤ 1048576) (hk : k ≤ 1048576) (hG : Blk w G 93 xs) (hx : xs.length = n * 2) :
    Calls Tryd.prog 47 #[.slice (some ⟨G, 0, none⟩) n n, .int .i64 k] w fun e w' => e = .returned (.int .i64 ((k + n * 2 : Nat) : Int)) ∧ Chg G w w' := by
  go_enter Tryd.func47, Tryd.ntmps47
  go_wp2
  go_loopw [1, 5] (fun kv i wr => ∃ (j : Nat) (ys : List Value), j ≤ n ∧ i = .int .i64 j ∧ kv = .int .i64 ((k + j * 2 : Nat) : Int) ∧ Blk wr G 93 ys ∧ ys.length = n * 2 ∧ Chg G w wr) (fun _ i _ => n - (intOf i).toNat)
  case atStart => exact ⟨0, xs, Nat.zero_le _, rfl, by simp, hG, hx, Chg.refl _ _⟩
  case round =>
    obtain ⟨j, ys, hj, rfl, rfl, hB, hyl, hC⟩ := hrel
    have HB := hide hB; have HC := hide hC; have HYL := hide hyl
    by_cases hlt : j < n
    · have f0 := hB.free (j * 2); have f1 := hB.free (j * 2 + 1)
      obtain ⟨v0, c0⟩ : ∃ v, wr.cell? ⟨G, j * 2, none⟩ = some v := ⟨_, (hB.cell (j * 2)).trans (List.getElem?_eq_getElem (by omega))⟩
      obtain ⟨v1, c1⟩ : ∃ v, wr.cell? ⟨G, j * 2 + 1, none⟩ = some v := ⟨_, (hB.cell (j * 2 + 1)).trans (List.getElem?_eq_getElem (by omega))⟩
      obtain ⟨K, hK⟩ : ∃ K : Nat, k + j * 2 = K := ⟨_, rfl⟩
      have hKb : K ≤ 4194304 := by omega
      rw [hK]
      have HK := hide hK
      clear hB hC hK hyl
      go_wp2
      go_roundw
      case rel =>
        refine ⟨j + 1, _, by omega, by go_num, ?_, ((unhide HB).set (j * 2) _).set (j * 2 + 1) _, by simpa using unhide HYL, ((unhide HC).set (j * 2) _).set (j * 2 + 1) _⟩
        have := unhide HK; congr 1; omega
      case measure => simp [intOf]; omega
    · obtain rfl : n = j := by omega
      clear hB hC
      obtain ⟨K, hK⟩ : ∃ K : Nat, k + n * 2 = K := ⟨_, rfl⟩
      rw [hK]
      have HK := hide hK; clear hK
      go_wp2
      go_ret
      exact ⟨ret_int (by have := unhide HK; omega), unhide HC⟩

set_option maxRecDepth 100000 in
set_option maxHeartbeats 1000000 in
theorem markOrder_any (N : Int) (G n : Nat) (xs : List Value) (w : World) (hn : n ≤ 1048576) (hG : Blk w G 93 xs) (hx : xs.length = n * 2) (B : Nat) (hB : B ≤ G) :
    Calls Tryd.prog 15 #[.agg #[.int .i64 N, .slice (some ⟨G, 0, none⟩) n n], .int .i64 1] w fun e w' => ∃ k : Nat, e = .returned (.int .i64 (k : Int)) ∧ k ≤ 4194304 ∧ Below B w w' ∧ ∀ b, b < w.heap.size → b ≠ G → w'.heap[b]? = w.heap[b]? := by
  have hb : Below w.heap.size w (w.alloc (.cells #[.int .i64 N, .slice (some ⟨G, 0, none⟩) n n] 34)) := (Below.refl _ _).alloc (Nat.le_refl _) _
  have hs : B ≤ w.heap.size := by have := hG.lt; omega
  have HG := hide (hG.mono hb hG.lt); have HB := hide hb
  clear hG hb
  go_enter Tryd.func15, Tryd.ntmps15
  go_wp2_with fail
  refine (markPairS_any G n 1 xs _ hn (by omega) (unhide HG) hx).mono ?_
  rintro e w1 ⟨rfl, hC⟩
  obtain ⟨K, hK⟩ : ∃ K : Nat, 1 + n * 2 = K := ⟨_, rfl⟩
  rw [hK]
  have hKb : K ≤ 4194304 := by omega
  have HC := hide hC; clear hC hK
  go_wp2
  go_ret
  exact ⟨K, rfl, hKb, ((unhide HB).mono hs).trans ((unhide HC).below hB), fun b hb hne => ((unhide HC).block b hne).trans ((unhide HB).block b hb)⟩
end Go.Proofs.YtnmpkdmflijhpaaDoor
