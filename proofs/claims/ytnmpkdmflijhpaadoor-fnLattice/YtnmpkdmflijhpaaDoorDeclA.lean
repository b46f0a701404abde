/- The program's declaredAbove. -/
import Derived.Test.YtnmpkdmflijhpaaDoorFit
import Derived.Test.YtnmpkdmflijhpaaDoorOrd
import Derived.Test.YtnmpkdmflijhpaaDoorHand
import Derived.Test.YtnmpkdmflijhpaaDoorBnd
namespace Go.Proofs.YtnmpkdmflijhpaaDoor
open Go Go.RowKit

/-- The pairs so far, as a relation. -/
def pb (f g : Nat → Nat) (k a b : Nat) : Bool := (List.range k).any fun i => decide (f i = a) && decide (g i = b)
theorem pb_succ (f g : Nat → Nat) (k a b : Nat) : pb f g (k + 1) a b = (pb f g k a b || (decide (a = f k) && decide (b = g k))) := by
  simp only [pb, List.range_succ, List.any_append, List.any_cons, List.any_nil, Bool.or_false]
  congr 2 <;> rw [decide_eq_decide] <;> exact eq_comm
theorem pb_iff {f g : Nat → Nat} {k a b : Nat} : pb f g k a b = true ↔ ∃ i, i < k ∧ f i = a ∧ g i = b := by simp [pb]
theorem one_below (a : Nat) (w : World) (hs : a < 32) : Calls Tryd.prog 86 #[.int .i64 a] w fun e w' => ∃ v, e = .returned v ∧ (v = .agg #[.int .u32 ((2 ^ a : Nat) : Int)] ∧ Below w.heap.size w w') :=
  (one_any a w hs).mono fun e w' ⟨he, hw⟩ => ⟨_, he, rfl, by rw [hw]; exact (Below.refl _ _).alloc (Nat.le_refl _) _⟩
theorem union_below (s t : Nat) (w : World) (hs : s < 4294967296) (ht : t < 4294967296) : Calls Tryd.prog 85 #[.agg #[.int .u32 s], .agg #[.int .u32 t]] w fun e w' => ∃ v, e = .returned v ∧ (v = .agg #[.int .u32 ((s ||| t : Nat) : Int)] ∧ Below w.heap.size w w') :=
  (union_any s t w hs ht).mono fun e w' ⟨he, hw⟩ => ⟨_, he, rfl, by rw [hw]; exact (((Below.refl _ w).alloc (Nat.le_refl _) _).alloc (by simp) _).alloc (by simp; omega) _⟩
def TwoP (w' : World) (P : Nat) (lo hi : Int) : Prop := w'.cell? ⟨P, 0, none⟩ = some (.int .i64 lo) ∧ w'.cell? ⟨P, 1, none⟩ = some (.int .i64 hi)

set_option maxRecDepth 100000 in
set_option maxHeartbeats 2000000 in
theorem declaredAbove_any (n : Nat) (a : Option Addr) (m c : Nat) (f g : Nat → Nat) (w : World) (h32 : n ≤ 32) (hm : m ≤ 256) (ha : Pairs w a m (fun k => (f k : Int)) (fun k => (g k : Int))) (hf : ∀ k, k < m → f k < n) (hg : ∀ k, k < m → g k < n) :
    Calls Tryd.prog 43 #[.agg #[.int .i64 n, .slice a m c]] w fun e w' => ∃ u, e = .returned (.agg (us u).toArray) ∧ IsRel u (pb f g m) ∧ Below w.heap.size w w' := by
  go_enter Tryd.func43, Tryd.ntmps43
  go_wp2_with (refine wpList_store_sets rfl _ _ rfl (w.heap.size + 1 + 1) (fun _ => 0) (fun _ => 0) rfl rfl (blk3 _ _ _ _ _ rfl) ?_; intro w1 hb1 hg1 hs1; have hA := (blk1 _ _ _ _ _).grown hg1 (by simp; omega); have hR := (blk2 _ _ _ _ (fun _ => 0) rfl).grown hg1 (by simp); have hB := (below3 _ _ _ _).trans ((Below.refl w.heap.size _).grown hg1 (by simp; omega) (fun k e => by cases e; omega)); have x1 := hA.cell 1; simp only [List.getElem?_cons_succ, List.getElem?_cons_zero] at x1; replace hA := hide hA; replace hR := hide hR; replace hB := hide hB; replace hb1 := hide hb1; clear hg1 hs1)
  clear x1 hA
  go_loopw [10] (fun i wr => ∃ (k : Nat) (u : Nat → Nat), k ≤ m ∧ i = .int .i64 k ∧ IsRel u (pb f g k) ∧ Blk wr (w.heap.size + 1 + 1) 75 (us u) ∧ Blk wr (w.heap.size + 1) 75 (us fun _ => 0) ∧ Below w.heap.size w wr) (fun i _ => m - (intOf i).toNat)
  case atStart => exact ⟨0, fun _ => 0, Nat.zero_le _, rfl, fun a _ => ⟨by simp, fun b => by simp [pb]⟩, unhide hb1, unhide hR, unhide hB⟩
  case round =>
    clear hb1 hR hB
    obtain ⟨k, u, hk, rfl, hrel, hO, hR, hB⟩ := hrel
    have HREL := hide hrel; have HO := hide hO; have HR := hide hR; have HB := hide hB
    by_cases hlt : k < m
    · obtain ⟨b1, o1, rfl, hl1, hc1, hc2⟩ := (ha.mono hB) k hlt
      dsimp only at hc1 hc2
      have flt := hf k hlt; have glt := hg k hlt
      obtain ⟨x, hx⟩ : ∃ x, f k = x := ⟨_, rfl⟩
      obtain ⟨y, hy⟩ : ∃ y, g k = y := ⟨_, rfl⟩
      rw [hx] at hc1 flt; rw [hy] at hc2 glt
      have x32 : x < 32 := by omega
      have y32 : y < 32 := by omega
      have hgx := (hrel x x32).1
      have HS : Hid (IsRel (fun j => if j = x then u x ||| 2 ^ y else u j) (pb f g (k + 1))) := (hrel.add x32 y32).congr fun a b _ => by rw [pb_succ, hx, hy]
      have y2 := two_lt y32
      have hb3 : Below wr.heap.size wr (wr.alloc (.cells #[.int .i64 x, .int .i64 y] 93)) := (Below.refl _ _).alloc (Nat.le_refl _) _
      have P3 := Blk.new wr 93 #[.int .i64 x, .int .i64 y]
      have O3 := hO.mono hb3 hO.lt; have R3 := hR.mono hb3 hR.lt; have B3 := hB.trans (hb3.mono hB.size)
      have hPU : wr.heap.size ≠ w.heap.size + 1 + 1 := by have := hO.lt; omega
      have S0 : TwoP (wr.alloc (.cells #[.int .i64 x, .int .i64 y] 93)) wr.heap.size x y := ⟨P3.cell 0, P3.cell 1⟩
      have HS0 := hide S0; have HO3 := hide O3; have HR3 := hide R3; have HB3 := hide B3; have HP3 := hide P3
      have x0i : (0 : Int) ≤ x := by omega
      have x1i : (x : Int) < 32 := by omega
      clear hrel hO hR hB hx hy flt glt hb3 P3 O3 R3 B3 S0 HREL HO HR HB ha
      go_wp2_with fail
      generalize wr.alloc (.cells #[.int .i64 x, .int .i64 y] 93) = W at *
      generalize wr.heap.size = P at *
      refine wp_region_held_drew (S := fun w' => TwoP w' P x y) (by kernel_rfl) (unhide HS0) (fun hHeld => ?_)
      refine takeY (i := 0) (v := .pointer (some ⟨P, 0, none⟩)) 14 rfl rfl (by kernel_rfl) (by kernel_rfl) (by kernel_rfl) (fun _ _ _ _ h => h) (by rfl) (fun w hS => by obtain ⟨q0, q1⟩ := hS; simp [execOp, go_sem, *]) hHeld ?_
      simp only [List.setIfInBounds_toArray, List.set_cons_zero, List.set_cons_succ]
      refine takeY (i := 1) (v := .int .i64 x) 15 rfl rfl (by kernel_rfl) (by kernel_rfl) (by kernel_rfl) (fun _ _ _ _ h => h) (by rfl) (fun w hS => by obtain ⟨q0, q1⟩ := hS; simp [execOp, go_sem, *]) hHeld ?_
      simp only [List.setIfInBounds_toArray, List.set_cons_zero, List.set_cons_succ]
      refine takeY (i := 2) (v := .pointer (some ⟨P, 0, none⟩)) 16 rfl rfl (by kernel_rfl) (by kernel_rfl) (by kernel_rfl) (fun _ _ _ _ h => h) (by rfl) (fun w hS => by obtain ⟨q0, q1⟩ := hS; simp [execOp, go_sem, *]) hHeld ?_
      simp only [List.setIfInBounds_toArray, List.set_cons_zero, List.set_cons_succ]
      refine takeY (i := 3) (v := .int .i64 x) 17 rfl rfl (by kernel_rfl) (by kernel_rfl) (by kernel_rfl) (fun _ _ _ _ h => h) (by rfl) (fun w hS => by obtain ⟨q0, q1⟩ := hS; simp [execOp, go_sem, *]) hHeld ?_
      simp only [List.setIfInBounds_toArray, List.set_cons_zero, List.set_cons_succ]
      refine takeY (i := 4) (v := .pointer (some ⟨w.heap.size + 1 + 1, x, none⟩)) 18 rfl rfl (by kernel_rfl) (by kernel_rfl) (by kernel_rfl) (fun _ _ _ _ h => h) (by rfl) (fun w hS => by obtain ⟨q0, q1⟩ := hS; simp [execOp, go_sem, *]) hHeld ?_
      simp only [List.setIfInBounds_toArray, List.set_cons_zero, List.set_cons_succ]
      refine takeY (i := 6) (v := .pointer (some ⟨P, 1, none⟩)) 20 rfl rfl (by kernel_rfl) (by kernel_rfl) (by kernel_rfl) (fun _ _ _ _ h => h) (by rfl) (fun w hS => by obtain ⟨q0, q1⟩ := hS; simp [execOp, go_sem, *]) hHeld ?_
      simp only [List.setIfInBounds_toArray, List.set_cons_zero, List.set_cons_succ]
      refine takeY (i := 7) (v := .int .i64 y) 21 rfl rfl (by kernel_rfl) (by kernel_rfl) (by kernel_rfl) (fun _ _ _ _ h => h) (by rfl) (fun w hS => by obtain ⟨q0, q1⟩ := hS; simp [execOp, go_sem, *]) hHeld ?_
      simp only [List.setIfInBounds_toArray, List.set_cons_zero, List.set_cons_succ]
      have cW : W.cell? ⟨w.heap.size + 1 + 1, x, none⟩ = some (.int .u32 (u x : Int)) := by rw [(unhide HO3).cell x, us_get u x32]
      refine wpAnyH_ready (rs := [5, 8]) (by kernel_rfl) (by simp) (consRun (v := .agg #[.int .u32 (u x : Int)]) (w' := W.drew) 19 rfl rfl (by rfl) ?hrun0 hHeld ?pA (consCall (f := 86) (args := #[.int .i64 y]) (R := fun v wz => v = .agg #[.int .u32 ((2 ^ y : Nat) : Int)] ∧ Below W.heap.size W wz) 22 rfl rfl (by rfl) ?hrun1 ((one_below y _ y32).mono fun e w6 ⟨v, he, hv, hb⟩ => ⟨v, he, hv, below_of_drew hb⟩) ?pB AllReadyH.nil))
      case hrun0 => simp [execOp, go_sem, cW]
      case hrun1 => simp [execOp, go_sem]
      case pA =>
        simp only [List.setIfInBounds_toArray, List.set_cons_zero, List.set_cons_succ]
        refine callY (i := 8) (f := 86) (args := #[.int .i64 y]) (R := fun v wz => v = .agg #[.int .u32 ((2 ^ y : Nat) : Int)] ∧ Below W.heap.size W wz) 22 rfl rfl (by rfl) (by kernel_rfl) ?hrun1 ((one_below y _ y32).mono fun e w6 ⟨v, he, hv, hb⟩ => ⟨v, he, hv, below_of_drew hb⟩) ?_
        case hrun1 => simp [execOp, go_sem]
        rintro v w6 ⟨rfl, hb6⟩
        have P6 := (unhide HP3).mono hb6 (unhide HP3).lt; have O6 := (unhide HO3).mono hb6 (unhide HO3).lt; have R6 := (unhide HR3).mono hb6 (unhide HR3).lt; have B6 := (unhide HB3).trans (hb6.mono (unhide HB3).size)
        refine ⟨⟨P6.cell 0, P6.cell 1⟩, ?_⟩
        simp only [List.setIfInBounds_toArray, List.set_cons_zero, List.set_cons_succ]
        refine callY (i := 9) (f := 85) (args := #[.agg #[.int .u32 (u x : Int)], .agg #[.int .u32 ((2 ^ y : Nat) : Int)]]) (R := fun v wz => v = .agg #[.int .u32 ((u x ||| 2 ^ y : Nat) : Int)] ∧ Below w6.heap.size w6 wz) 23 rfl rfl (by rfl) (by kernel_rfl) ?hrun2 (union_below (u x) (2 ^ y) w6 hgx y2) ?_
        case hrun2 => simp [execOp, go_sem]
        rintro v w7 ⟨rfl, hb7⟩
        have P7 := P6.mono hb7 P6.lt; have O7 := O6.mono hb7 O6.lt; have R7 := R6.mono hb7 R6.lt; have B7 := B6.trans (hb7.mono B6.size)
        have c7 : w7.cell? ⟨w.heap.size + 1 + 1, x, none⟩ = some (.int .u32 (u x : Int)) := by rw [O7.cell x, us_get u x32]
        have f7 := O7.free x
        refine ⟨⟨P7.cell 0, P7.cell 1⟩, ?_⟩
        simp only [List.setIfInBounds_toArray, List.set_cons_zero, List.set_cons_succ]
        replace hHeld : TwoP w7 P x y := ⟨P7.cell 0, P7.cell 1⟩
        refine takeY (i := 10) (v := .pointer (some ⟨w.heap.size + 1 + 1, x, none⟩)) 24 rfl rfl (by kernel_rfl) (by kernel_rfl) (by kernel_rfl) (fun _ _ _ _ h => h) (by rfl) (fun w hS => by obtain ⟨q0, q1⟩ := hS; simp [execOp, go_sem, *]) hHeld ?_
        simp only [List.setIfInBounds_toArray, List.set_cons_zero, List.set_cons_succ]
        obtain ⟨vv, hvv⟩ : ∃ vv, (u x ||| 2 ^ y) = vv := ⟨_, rfl⟩
        rw [hvv] at HS ⊢
        refine storeY (i := 11) (w' := w7.setCell ⟨w.heap.size + 1 + 1, x, none⟩ (.int .u32 (vv : Int))) rfl (by rfl) (by kernel_rfl) rfl ?hrun3 rfl ⟨(P7.other _ hPU).cell 0, (P7.other _ hPU).cell 1⟩ ?_
        case hrun3 => simp [execOp, go_sem, c7, f7]
        refine wpAnyH_done (by kernel_rfl) ?_ _
        have HO8 := hide (O7.set x (.int .u32 (vv : Int))); have HR8 := hide (R7.other (a := ⟨w.heap.size + 1 + 1, x, none⟩) (.int .u32 (vv : Int)) (by simp)); have HB8 := hide (B7.setCell (p := ⟨w.heap.size + 1 + 1, x, none⟩) (by simp; omega) (.int .u32 (vv : Int)))
        clear P7 O7 R7 B7 c7 f7 hHeld
        generalize w7.setCell ⟨w.heap.size + 1 + 1, x, none⟩ (.int .u32 (vv : Int)) = w8 at *
        go_wp2
        go_roundw
        case rel => exact ⟨k + 1, _, by omega, by go_num, unhide HS, by rw [← us_set u _ x32]; exact unhide HO8, unhide HR8, unhide HB8⟩
        case measure => simp [intOf]; omega
      case pB =>
        rintro v w6 ⟨rfl, hb6⟩
        have P6 := (unhide HP3).mono hb6 (unhide HP3).lt; have O6 := (unhide HO3).mono hb6 (unhide HO3).lt; have R6 := (unhide HR3).mono hb6 (unhide HR3).lt; have B6 := (unhide HB3).trans (hb6.mono (unhide HB3).size)
        have c6 : w6.cell? ⟨w.heap.size + 1 + 1, x, none⟩ = some (.int .u32 (u x : Int)) := by rw [O6.cell x, us_get u x32]
        refine ⟨⟨P6.cell 0, P6.cell 1⟩, ?_⟩
        simp only [List.setIfInBounds_toArray, List.set_cons_zero, List.set_cons_succ]
        refine wpAnyH_ready (rs := [5]) (by kernel_rfl) (by simp) (consRun (v := .agg #[.int .u32 (u x : Int)]) (w' := w6) 19 rfl rfl (by rfl) ?hrun0 ⟨P6.cell 0, P6.cell 1⟩ ?pC AllReadyH.nil)
        case hrun0 => simp [execOp, go_sem, c6]
        simp only [List.setIfInBounds_toArray, List.set_cons_zero, List.set_cons_succ]
        refine callY (i := 9) (f := 85) (args := #[.agg #[.int .u32 (u x : Int)], .agg #[.int .u32 ((2 ^ y : Nat) : Int)]]) (R := fun v wz => v = .agg #[.int .u32 ((u x ||| 2 ^ y : Nat) : Int)] ∧ Below w6.heap.size w6 wz) 23 rfl rfl (by rfl) (by kernel_rfl) ?hrun2 (union_below (u x) (2 ^ y) w6 hgx y2) ?_
        case hrun2 => simp [execOp, go_sem]
        rintro v w7 ⟨rfl, hb7⟩
        have P7 := P6.mono hb7 P6.lt; have O7 := O6.mono hb7 O6.lt; have R7 := R6.mono hb7 R6.lt; have B7 := B6.trans (hb7.mono B6.size)
        have c7 : w7.cell? ⟨w.heap.size + 1 + 1, x, none⟩ = some (.int .u32 (u x : Int)) := by rw [O7.cell x, us_get u x32]
        have f7 := O7.free x
        refine ⟨⟨P7.cell 0, P7.cell 1⟩, ?_⟩
        simp only [List.setIfInBounds_toArray, List.set_cons_zero, List.set_cons_succ]
        replace hHeld : TwoP w7 P x y := ⟨P7.cell 0, P7.cell 1⟩
        refine takeY (i := 10) (v := .pointer (some ⟨w.heap.size + 1 + 1, x, none⟩)) 24 rfl rfl (by kernel_rfl) (by kernel_rfl) (by kernel_rfl) (fun _ _ _ _ h => h) (by rfl) (fun w hS => by obtain ⟨q0, q1⟩ := hS; simp [execOp, go_sem, *]) hHeld ?_
        simp only [List.setIfInBounds_toArray, List.set_cons_zero, List.set_cons_succ]
        obtain ⟨vv, hvv⟩ : ∃ vv, (u x ||| 2 ^ y) = vv := ⟨_, rfl⟩
        rw [hvv] at HS ⊢
        refine storeY (i := 11) (w' := w7.setCell ⟨w.heap.size + 1 + 1, x, none⟩ (.int .u32 (vv : Int))) rfl (by rfl) (by kernel_rfl) rfl ?hrun3 rfl ⟨(P7.other _ hPU).cell 0, (P7.other _ hPU).cell 1⟩ ?_
        case hrun3 => simp [execOp, go_sem, c7, f7]
        refine wpAnyH_done (by kernel_rfl) ?_ _
        have HO8 := hide (O7.set x (.int .u32 (vv : Int))); have HR8 := hide (R7.other (a := ⟨w.heap.size + 1 + 1, x, none⟩) (.int .u32 (vv : Int)) (by simp)); have HB8 := hide (B7.setCell (p := ⟨w.heap.size + 1 + 1, x, none⟩) (by simp; omega) (.int .u32 (vv : Int)))
        clear P7 O7 R7 B7 c7 f7 hHeld
        generalize w7.setCell ⟨w.heap.size + 1 + 1, x, none⟩ (.int .u32 (vv : Int)) = w8 at *
        go_wp2
        go_roundw
        case rel => exact ⟨k + 1, _, by omega, by go_num, unhide HS, by rw [← us_set u _ x32]; exact unhide HO8, unhide HR8, unhide HB8⟩
        case measure => simp [intOf]; omega
    · obtain rfl : k = m := by omega
      have HREL' := hide hrel
      clear hO hR hB hrel
      go_wp2_with (first | (refine wpList_load_sets rfl _ rfl (w.heap.size + 1 + 1) u rfl (unhide HO) ?_) | (refine wpList_store_sets rfl _ _ rfl (w.heap.size + 1) (fun _ => 0) u rfl rfl (unhide HR) ?_; intro w2 hb2 hg2 hs2; replace hb2 := hide hb2; replace hg2 := hide hg2))
      refine bodyPost_ret (results_cell_row rfl _ _ (w.heap.size + 1) 75 (us u).toArray (0, 0) _ rfl (unhide hb2) Tryd.underlying75 rfl (size_us u)) rfl ⟨u, rfl, unhide HREL', ?_⟩
      exact (unhide HB).trans ((Below.refl w.heap.size _).grown (unhide hg2) (unhide HB).size (fun k e => by cases e; omega))
end Go.Proofs.YtnmpkdmflijhpaaDoor
