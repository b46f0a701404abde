/- The program's BuildLattice. -/
import Derived.Test.YtnmpkdmflijhpaaDoorDeclA
import Derived.Test.YtnmpkdmflijhpaaDoorOrd2
import Derived.Test.YtnmpkdmflijhpaaDoorBld2
import Derived.Test.YtnmpkdmflijhpaaDoorClosed
namespace Go.Proofs.YtnmpkdmflijhpaaDoor
open Go Go.RowKit

theorem latOut_set {n B R j : Nat} {g d : Nat → Nat} {Rl : Nat → Nat → Bool} {e : Ending} {w' : World} (h : LatOut n g d Rl B e w') (hR : R < B) (v : Value) : LatOut n g d Rl B e (w'.setCell ⟨R, j, none⟩ v) := by
  rcases h with h | h | h | ⟨h1, G1, G2, G3, F1, F2, bot, top, he, b1, b2, b3, x1, x2, x3, h2⟩
  · exact .inl h
  · exact .inr (.inl h)
  · exact .inr (.inr (.inl h))
  · exact .inr (.inr (.inr ⟨h1, G1, G2, G3, F1, F2, bot, top, he, b1.other v (by simp; omega), b2.other v (by simp; omega), b3.other v (by simp; omega), x1, x2, x3, h2⟩))
theorem latOut_shape {n B : Nat} {g d : Nat → Nat} {Rl : Nat → Nat → Bool} {e : Ending} {w' : World} (h : LatOut n g d Rl B e w') : ∃ (l0 : Int) (a1 a2 a3 : Option Addr) (n1 n2 n3 c1 c2 c3 : Nat) (l4 l5 code : Int), e = .returned (.tuple #[.agg #[.int .i64 l0, .slice a1 n1 c1, .slice a2 n2 c2, .slice a3 n3 c3, .int .i64 l4, .int .i64 l5], .int .i64 code]) := by
  rcases h with ⟨-, he⟩ | ⟨-, -, he⟩ | ⟨-, -, -, he⟩ | ⟨-, G1, G2, G3, F1, F2, bot, top, he, -⟩
  · exact ⟨0, none, none, none, 0, 0, 0, 0, 0, 0, 0, 0, 2, he⟩
  · exact ⟨0, none, none, none, 0, 0, 0, 0, 0, 0, 0, 0, 3, he⟩
  · exact ⟨0, none, none, none, 0, 0, 0, 0, 0, 0, 0, 0, 4, he⟩
  · exact ⟨n, _, _, _, _, _, _, _, _, _, bot, top, 0, he⟩
theorem latOut_mono {n B B' : Nat} {g d : Nat → Nat} {Rl : Nat → Nat → Bool} {e : Ending} {w' : World} (h : LatOut n g d Rl B e w') (hB : B' ≤ B) : LatOut n g d Rl B' e w' := by
  rcases h with h | h | h | ⟨h1, G1, G2, G3, F1, F2, bot, top, he, b1, b2, b3, x1, x2, x3, h2⟩
  · exact .inl h
  · exact .inr (.inl h)
  · exact .inr (.inr (.inl h))
  · exact .inr (.inr (.inr ⟨h1, G1, G2, G3, F1, F2, bot, top, he, b1, b2, b3, by omega, by omega, by omega, h2⟩))
def TwoO (w' : World) (A : Nat) (v0 v1 : Value) : Prop := w'.cell? ⟨A, 0, none⟩ = some v0 ∧ w'.cell? ⟨A, 1, none⟩ = some v1

set_option maxRecDepth 100000 in
set_option maxHeartbeats 2000000 in
theorem implBuild_bad (N : Int) (a : Option Addr) (m c : Nat) (w : World) (hc : ∀ w', Below w.heap.size w w' → Calls Tryd.prog 41 #[.agg #[.int .i64 N, .slice a m c]] w' fun e w'' => e = .returned (.bool false) ∧ Below w'.heap.size w' w'') :
    Calls Tryd.prog 12 #[.agg #[.int .i64 N, .slice a m c]] w fun e w' => e = .returned (.tuple #[zeroL, .int .i64 1]) ∧ Below w.heap.size w w' := by
  have HR := hide (by simpa using Blk.new (w.alloc (.cells #[.int .i64 N, .slice a m c] 34)) 29 #[.int .i64 0, .slice none 0 0, .slice none 0 0, .slice none 0 0, .int .i64 0, .int .i64 0] : Blk ((w.alloc (.cells #[.int .i64 N, .slice a m c] 34)).alloc (.cells #[.int .i64 0, .slice none 0 0, .slice none 0 0, .slice none 0 0, .int .i64 0, .int .i64 0] 29)) (w.heap.size + 1) 29 [.int .i64 0, .slice none 0 0, .slice none 0 0, .slice none 0 0, .int .i64 0, .int .i64 0])
  have H0 := hide ((Blk.new w 34 #[.int .i64 N, .slice a m c]).alloc (.cells #[.int .i64 0, .slice none 0 0, .slice none 0 0, .slice none 0 0, .int .i64 0, .int .i64 0] 29))
  have HW : Hid (Below w.heap.size w ((w.alloc (.cells #[.int .i64 N, .slice a m c] 34)).alloc (.cells #[.int .i64 0, .slice none 0 0, .slice none 0 0, .slice none 0 0, .int .i64 0, .int .i64 0] 29))) := ((Below.refl _ w).alloc (Nat.le_refl _) _).alloc (by simp) _
  go_enter Tryd.func12, Tryd.ntmps12
  go_wp2_with fail
  refine (hc _ (unhide HW)).mono ?_
  rintro e w1 ⟨rfl, hb⟩
  replace HR := hide ((unhide HR).mono hb (unhide HR).lt); replace H0 := hide ((unhide H0).mono hb (unhide H0).lt); replace HW := hide ((unhide HW).trans (hb.mono (unhide HW).size))
  clear hb
  obtain ⟨⟨r0, r1, r2, r3, r4, r5⟩, ⟨f0, f1, f2, f3, f4, f5⟩⟩ := six' (unhide HR)
  have HZ := hide (below_set6 (unhide HW) (Nat.le_succ _) (.int .i64 0) (.slice none 0 0) (.slice none 0 0) (.slice none 0 0) (.int .i64 0) (.int .i64 0))
  go_wp2
  exact bodyPost_ret (v := .tuple #[zeroL, .int .i64 1]) (by simp [results, Tryd.results12, go_sem, zeroL, *]) rfl ⟨rfl, unhide HZ⟩

set_option maxRecDepth 100000 in
set_option maxHeartbeats 2000000 in
theorem implBuild_ok (n : Nat) (a : Option Addr) (m c : Nat) (f g : Nat → Nat) (w : World) (h1 : 1 ≤ n) (h32 : n ≤ 32) (hm : m ≤ 256) (ha : Pairs w a m (fun k => (f k : Int)) (fun k => (g k : Int))) (hf : ∀ k, k < m → f k < n) (hg : ∀ k, k < m → g k < n) (ht : Tab w) :
    Calls Tryd.prog 12 #[.agg #[.int .i64 n, .slice a m c]] w fun e w' => Below w.heap.size w w' ∧ ∃ u q d Rl, IsRel u (pb f g m) ∧ IsReach q (fun a b => a < n ∧ Reach u a b) ∧ IsRel q Rl ∧ IsRel d (fun b a => decide (a < n) && Rl a b) ∧ LatOut n q d Rl w.heap.size e w' := by
  have HR := hide (by simpa using Blk.new (w.alloc (.cells #[.int .i64 n, .slice a m c] 34)) 29 #[.int .i64 0, .slice none 0 0, .slice none 0 0, .slice none 0 0, .int .i64 0, .int .i64 0] : Blk ((w.alloc (.cells #[.int .i64 n, .slice a m c] 34)).alloc (.cells #[.int .i64 0, .slice none 0 0, .slice none 0 0, .slice none 0 0, .int .i64 0, .int .i64 0] 29)) (w.heap.size + 1) 29 [.int .i64 0, .slice none 0 0, .slice none 0 0, .slice none 0 0, .int .i64 0, .int .i64 0])
  have H0 := hide ((Blk.new w 34 #[.int .i64 n, .slice a m c]).alloc (.cells #[.int .i64 0, .slice none 0 0, .slice none 0 0, .slice none 0 0, .int .i64 0, .int .i64 0] 29))
  have HW : Hid (Below w.heap.size w ((w.alloc (.cells #[.int .i64 n, .slice a m c] 34)).alloc (.cells #[.int .i64 0, .slice none 0 0, .slice none 0 0, .slice none 0 0, .int .i64 0, .int .i64 0] 29))) := ((Below.refl _ w).alloc (Nat.le_refl _) _).alloc (by simp) _
  go_enter Tryd.func12, Tryd.ntmps12
  go_wp2_with fail
  refine (validOrder_in n a m c _ _ _ (by omega) (by omega) hm (ha.mono (unhide HW)) true ⟨fun _ k hk => by have := hf k hk; have := hg k hk; omega, fun _ => rfl⟩).mono ?_
  rintro e W ⟨rfl, hb⟩
  replace HR := hide ((unhide HR).mono hb (unhide HR).lt); replace H0 := hide ((unhide H0).mono hb (unhide H0).lt); replace HW := hide ((unhide HW).trans (hb.mono (unhide HW).size))
  clear hb
  have S0 : TwoO W w.heap.size (.int .i64 n) (.slice a m c) := ⟨(unhide H0).cell 0, (unhide H0).cell 1⟩
  have HS0 := hide S0; clear S0
  go_wp2_with fail
  refine wp_region_held_drew (S := fun w' => TwoO w' w.heap.size (.int .i64 n) (.slice a m c)) (by kernel_rfl) (unhide HS0) (fun hHeld => ?_)
  refine takeY (i := 0) (v := .pointer (some ⟨w.heap.size, 0, none⟩)) 8 rfl rfl (by kernel_rfl) (by kernel_rfl) (by kernel_rfl) (fun _ _ _ _ h => h) (by rfl) (fun w hS => by obtain ⟨q0, q1⟩ := hS; simp [execOp, go_sem, *]) hHeld ?_
  simp only [List.setIfInBounds_toArray, List.set_cons_zero, List.set_cons_succ]
  refine takeY (i := 1) (v := .int .i64 n) 9 rfl rfl (by kernel_rfl) (by kernel_rfl) (by kernel_rfl) (fun _ _ _ _ h => h) (by rfl) (fun w hS => by obtain ⟨q0, q1⟩ := hS; simp [execOp, go_sem, *]) hHeld ?_
  simp only [List.setIfInBounds_toArray, List.set_cons_zero, List.set_cons_succ]
  refine takeY (i := 2) (v := .agg #[.int .i64 n, .slice a m c]) 10 rfl rfl (by kernel_rfl) (by kernel_rfl) (by kernel_rfl) (fun _ _ _ _ h => h) (by rfl) (fun w hS => by obtain ⟨q0, q1⟩ := hS; simp [execOp, go_sem, *]) hHeld ?_
  simp only [List.setIfInBounds_toArray, List.set_cons_zero, List.set_cons_succ]
  refine takeY (i := 4) (v := .pointer (some ⟨w.heap.size, 0, none⟩)) 12 rfl rfl (by kernel_rfl) (by kernel_rfl) (by kernel_rfl) (fun _ _ _ _ h => h) (by rfl) (fun w hS => by obtain ⟨q0, q1⟩ := hS; simp [execOp, go_sem, *]) hHeld ?_
  simp only [List.setIfInBounds_toArray, List.set_cons_zero, List.set_cons_succ]
  refine takeY (i := 5) (v := .int .i64 n) 13 rfl rfl (by kernel_rfl) (by kernel_rfl) (by kernel_rfl) (fun _ _ _ _ h => h) (by rfl) (fun w hS => by obtain ⟨q0, q1⟩ := hS; simp [execOp, go_sem, *]) hHeld ?_
  simp only [List.setIfInBounds_toArray, List.set_cons_zero, List.set_cons_succ]

  refine callY (i := 3) (f := 43) (args := #[.agg #[.int .i64 n, .slice a m c]]) (R := fun v wz => ∃ u, v = .agg (us u).toArray ∧ IsRel u (pb f g m) ∧ Below W.heap.size W wz) 11 rfl rfl (by rfl) (by kernel_rfl) ?hrun1 ((declaredAbove_any n a m c f g _ h32 hm (ha.mono ((unhide HW).trans ((below_drewN' W 1).mono (unhide HW).size))) hf hg).mono fun e w6 ⟨u, he, hu, hb⟩ => ⟨_, he, u, rfl, hu, below_of_drew hb⟩) ?_
  case hrun1 => simp [execOp, go_sem]
  rintro v w5 ⟨u, rfl, hu, hb⟩
  replace HR := hide ((unhide HR).mono hb (unhide HR).lt); replace H0 := hide ((unhide H0).mono hb (unhide H0).lt); replace HW := hide ((unhide HW).trans (hb.mono (unhide HW).size))
  clear hb hHeld
  refine ⟨⟨(unhide H0).cell 0, (unhide H0).cell 1⟩, ?_⟩
  simp only [List.setIfInBounds_toArray, List.set_cons_zero, List.set_cons_succ]
  refine callY (i := 6) (f := 44) (args := #[.agg (us u).toArray, .int .i64 n]) (R := fun v wz => ∃ q, v = .agg (us q).toArray ∧ IsReach q (fun a b => a < n ∧ Reach u a b) ∧ Below w5.heap.size w5 wz) 14 rfl rfl (by rfl) (by kernel_rfl) ?hrun2 ((closed_any u n w5 h32 (fun a ha => (hu a ha).1) (ht.mono (unhide HW))).mono fun e w6 ⟨q, he, hq, hb⟩ => ⟨_, he, q, rfl, hq, hb⟩) ?_
  case hrun2 => simp [execOp, go_sem]
  rintro v w6 ⟨q, rfl, hq, hb⟩
  replace HR := hide ((unhide HR).mono hb (unhide HR).lt); replace H0 := hide ((unhide H0).mono hb (unhide H0).lt); replace HW := hide ((unhide HW).trans (hb.mono (unhide HW).size))
  clear hb
  refine ⟨⟨(unhide H0).cell 0, (unhide H0).cell 1⟩, ?_⟩
  simp only [List.setIfInBounds_toArray, List.set_cons_zero, List.set_cons_succ]
  have hqr : IsRel q (fun a b => (q a).testBit b) := fun a ha => ⟨(hq a ha).1, fun b => rfl⟩
  refine callY (i := 7) (f := 42) (args := #[.int .i64 n, .agg (us q).toArray]) (R := fun v wz => Below w6.heap.size w6 wz ∧ ∃ d, IsRel d (fun b a => decide (a < n) && (q a).testBit b) ∧ LatOut n q d (fun a b => (q a).testBit b) w6.heap.size (.returned v) wz) 15 rfl rfl (by rfl) (by kernel_rfl) ?hrun3 ((latticeOf_any n q (fun a b => (q a).testBit b) w6 h1 h32 hqr (ht.mono (unhide HW))).mono fun e w7 ⟨hb, d, hd, hL⟩ => ?_) ?_
  case hrun3 => simp [execOp, go_sem]
  · obtain ⟨l0, a1, a2, a3, n1, n2, n3, c1, c2, c3, l4, l5, code, rfl⟩ := latOut_shape hL
    exact ⟨_, rfl, hb, d, hd, hL⟩
  rintro v w7 ⟨hb, d, hd, hL⟩
  have hRB : w.heap.size + 1 < w6.heap.size := (unhide HR).lt
  replace HR := hide ((unhide HR).mono hb (unhide HR).lt); replace H0 := hide ((unhide H0).mono hb (unhide H0).lt); replace HW := hide ((unhide HW).trans (hb.mono (unhide HW).size))
  have hWs := (unhide HW).size
  have hB6 : w.heap.size ≤ w6.heap.size := by omega
  clear hb
  obtain ⟨l0, a1, a2, a3, n1, n2, n3, c1, c2, c3, l4, l5, code, hv⟩ := latOut_shape hL
  simp only [Ending.returned.injEq] at hv
  subst hv
  refine ⟨⟨(unhide H0).cell 0, (unhide H0).cell 1⟩, ?_⟩
  simp only [List.setIfInBounds_toArray, List.set_cons_zero, List.set_cons_succ]
  have hHeld : TwoO w7 w.heap.size (.int .i64 n) (.slice a m c) := ⟨(unhide H0).cell 0, (unhide H0).cell 1⟩
  refine takeY (i := 8) (v := .agg #[.int .i64 l0, .slice a1 n1 c1, .slice a2 n2 c2, .slice a3 n3 c3, .int .i64 l4, .int .i64 l5]) 16 rfl rfl (by kernel_rfl) (by kernel_rfl) (by kernel_rfl) (fun _ _ _ _ h => h) (by rfl) (fun w hS => by obtain ⟨q0, q1⟩ := hS; simp [execOp, go_sem, *]) hHeld ?_
  simp only [List.setIfInBounds_toArray, List.set_cons_zero, List.set_cons_succ]
  refine takeY (i := 9) (v := .int .i64 code) 17 rfl rfl (by kernel_rfl) (by kernel_rfl) (by kernel_rfl) (fun _ _ _ _ h => h) (by rfl) (fun w hS => by obtain ⟨q0, q1⟩ := hS; simp [execOp, go_sem, *]) hHeld ?_
  simp only [List.setIfInBounds_toArray, List.set_cons_zero, List.set_cons_succ]

  obtain ⟨⟨r0, r1, r2, r3, r4, r5⟩, ⟨f0, f1, f2, f3, f4, f5⟩⟩ := six' (unhide HR)
  have A9 := (((((((unhide H0).other (a := ⟨w.heap.size + 1, 0, none⟩) (.int .i64 l0) (by simp)).other (a := ⟨w.heap.size + 1, 1, none⟩) (.slice a1 n1 c1) (by simp)).other (a := ⟨w.heap.size + 1, 2, none⟩) (.slice a2 n2 c2) (by simp)).other (a := ⟨w.heap.size + 1, 3, none⟩) (.slice a3 n3 c3) (by simp)).other (a := ⟨w.heap.size + 1, 4, none⟩) (.int .i64 l4) (by simp)).other (a := ⟨w.heap.size + 1, 5, none⟩) (.int .i64 l5) (by simp))
  have R9 := (((((((unhide HR).set 0 (.int .i64 l0)).set 1 (.slice a1 n1 c1)).set 2 (.slice a2 n2 c2)).set 3 (.slice a3 n3 c3)).set 4 (.int .i64 l4)).set 5 (.int .i64 l5))
  refine storeY (i := 10) (w' := ((((((w7.setCell ⟨w.heap.size + 1, 0, none⟩ (.int .i64 l0)).setCell ⟨w.heap.size + 1, 1, none⟩ (.slice a1 n1 c1)).setCell ⟨w.heap.size + 1, 2, none⟩ (.slice a2 n2 c2)).setCell ⟨w.heap.size + 1, 3, none⟩ (.slice a3 n3 c3)).setCell ⟨w.heap.size + 1, 4, none⟩ (.int .i64 l4)).setCell ⟨w.heap.size + 1, 5, none⟩ (.int .i64 l5))) rfl (by rfl) (by kernel_rfl) rfl ?hrun4 rfl ⟨A9.cell 0, A9.cell 1⟩ ?_
  case hrun4 => simp [execOp, go_sem, r0, r1, r2, r3, r4, r5, f0, f1, f2, f3, f4, f5]
  have HL9 := hide (latOut_set (j := 5) (latOut_set (j := 4) (latOut_set (j := 3) (latOut_set (j := 2) (latOut_set (j := 1) (latOut_set (j := 0) hL hRB (.int .i64 l0)) hRB (.slice a1 n1 c1)) hRB (.slice a2 n2 c2)) hRB (.slice a3 n3 c3)) hRB (.int .i64 l4)) hRB (.int .i64 l5))
  have HZ := hide (below_set6 (unhide HW) (Nat.le_succ _) (.int .i64 l0) (.slice a1 n1 c1) (.slice a2 n2 c2) (.slice a3 n3 c3) (.int .i64 l4) (.int .i64 l5))
  obtain ⟨⟨s0, s1, s2, s3, s4, s5⟩, -⟩ := six' R9
  clear r0 r1 r2 r3 r4 r5 f0 f1 f2 f3 f4 f5 R9 hL hHeld
  have hHeld : TwoO _ w.heap.size (.int .i64 n) (.slice a m c) := ⟨A9.cell 0, A9.cell 1⟩
  clear A9
  generalize ((((((w7.setCell ⟨w.heap.size + 1, 0, none⟩ (.int .i64 l0)).setCell ⟨w.heap.size + 1, 1, none⟩ (.slice a1 n1 c1)).setCell ⟨w.heap.size + 1, 2, none⟩ (.slice a2 n2 c2)).setCell ⟨w.heap.size + 1, 3, none⟩ (.slice a3 n3 c3)).setCell ⟨w.heap.size + 1, 4, none⟩ (.int .i64 l4)).setCell ⟨w.heap.size + 1, 5, none⟩ (.int .i64 l5)) = W9 at *
  refine takeY (i := 11) (v := .int .i64 code) 3 rfl rfl (by kernel_rfl) (by kernel_rfl) (by kernel_rfl) (fun _ _ _ _ h => h) (by rfl) (fun w hS => by obtain ⟨q0, q1⟩ := hS; simp [execOp, go_sem, *]) hHeld ?_
  simp only [List.setIfInBounds_toArray, List.set_cons_zero, List.set_cons_succ]

  refine wpAnyH_done (by kernel_rfl) ?_ _
  go_wp2
  refine bodyPost_ret (v := .tuple #[.agg #[.int .i64 l0, .slice a1 n1 c1, .slice a2 n2 c2, .slice a3 n3 c3, .int .i64 l4, .int .i64 l5], .int .i64 code]) (by simp [results, Tryd.results12, go_sem, *]) rfl ⟨unhide HZ, u, q, d, _, hu, hq, hqr, hd, latOut_mono (unhide HL9) hB6⟩
end Go.Proofs.YtnmpkdmflijhpaaDoor
