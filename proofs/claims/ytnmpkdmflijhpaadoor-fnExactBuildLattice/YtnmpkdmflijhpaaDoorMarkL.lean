/- The marks of a lattice, and how they are found again. -/
import Derived.Test.YtnmpkdmflijhpaaDoorMark
import Derived.Test.YtnmpkdmflijhpaaDoorLatOf
namespace Go.Proofs.YtnmpkdmflijhpaaDoor
open Go Go.RowKit

theorem sixL {w : World} {b : Nat} {t : TypeId} {v0 v1 v2 v3 v4 v5 : Value} (h : Blk w b t [v0, v1, v2, v3, v4, v5]) :
    w.cell? ⟨b, 1, none⟩ = some v1 ∧ w.cell? ⟨b, 2, none⟩ = some v2 ∧ w.cell? ⟨b, 3, none⟩ = some v3 := ⟨h.cell 1, h.cell 2, h.cell 3⟩

set_option maxRecDepth 100000 in
set_option maxHeartbeats 1000000 in
theorem markLattice_ok (N bot top : Int) (G1 G2 G3 s : Nat) (F : Nat → Bool) (J M : Nat → Int) (w : World) (hs : s ≤ 1024) (b1 : Blk w G1 4 (bs s F)) (b2 : Blk w G2 3 (is s J)) (b3 : Blk w G3 3 (is s M)) (x1 : G1 ≠ G2) (x2 : G1 ≠ G3) (x3 : G2 ≠ G3) (B : Nat) (y1 : B ≤ G1) (y2 : B ≤ G2) (y3 : B ≤ G3) :
    Calls Tryd.prog 16 #[.agg #[.int .i64 N, .slice (some ⟨G1, 0, none⟩) s s, .slice (some ⟨G2, 0, none⟩) s s, .slice (some ⟨G3, 0, none⟩) s s, .int .i64 bot, .int .i64 top], .int .i64 1] w fun e w' =>
      e = .returned (.int .i64 ((1 + s + s + s : Nat) : Int)) ∧ Blk w' G1 4 (bs s (mB 1)) ∧ Blk w' G2 3 (is s (mI (1 + s))) ∧ Blk w' G3 3 (is s (mI (1 + s + s))) ∧ Below B w w' ∧ ∀ b, b < w.heap.size → b ≠ G1 → b ≠ G2 → b ≠ G3 → w'.heap[b]? = w.heap[b]? := by
  have hb : Below w.heap.size w (w.alloc (.cells #[.int .i64 N, .slice (some ⟨G1, 0, none⟩) s s, .slice (some ⟨G2, 0, none⟩) s s, .slice (some ⟨G3, 0, none⟩) s s, .int .i64 bot, .int .i64 top] 29)) := (Below.refl _ _).alloc (Nat.le_refl _) _
  have A0 := Blk.new w 29 #[.int .i64 N, .slice (some ⟨G1, 0, none⟩) s s, .slice (some ⟨G2, 0, none⟩) s s, .slice (some ⟨G3, 0, none⟩) s s, .int .i64 bot, .int .i64 top]
  have n1 : w.heap.size ≠ G1 := by have := b1.lt; omega
  have n2 : w.heap.size ≠ G2 := by have := b2.lt; omega
  have n3 : w.heap.size ≠ G3 := by have := b3.lt; omega
  have hBs : B ≤ w.heap.size := by have := b1.lt; omega
  have H1 := hide (b1.mono hb b1.lt); have H2 := hide (b2.mono hb b2.lt); have H3 := hide (b3.mono hb b3.lt); have HA := hide A0; have HB := hide (hb.mono hBs); have HO := hide (fun (b : Nat) (h : b < w.heap.size) (_ : b ≠ G1) (_ : b ≠ G2) (_ : b ≠ G3) => hb.block b h)
  clear b1 b2 b3 hb A0
  go_enter Tryd.func16, Tryd.ntmps16
  go_wp2_with fail
  refine (markBoolS_any G1 s 1 F _ (by omega) (by omega) (unhide H1)).mono ?_
  rintro e w1 ⟨rfl, k1, c1⟩
  have HK1 := hide k1; replace H2 := hide (c1.blk (unhide H2) x1.symm); replace H3 := hide (c1.blk (unhide H3) x2.symm); replace HA := hide (c1.blk (unhide HA) n1); replace HB := hide ((unhide HB).trans (c1.below y1)); replace HO := hide (fun b h p q r => (c1.block b p).trans (unhide HO b h p q r))
  clear k1 c1 H1
  obtain ⟨-, z2, z3⟩ := sixL (unhide HA)
  obtain ⟨K1, hK1⟩ : ∃ K : Nat, 1 + s = K := ⟨_, rfl⟩
  rw [hK1]
  have HQ1 := hide hK1
  have q1 : K1 ≤ 1048576 := by omega
  clear hK1
  go_wp2_with fail
  refine (markIntS_any G2 s K1 J _ (by omega) q1 (unhide H2)).mono ?_
  rintro e w2 ⟨rfl, k2, c2⟩
  have HK2 := hide k2; replace HK1 := hide (c2.blk (unhide HK1) x1); replace H3 := hide (c2.blk (unhide H3) x3.symm); replace HA := hide (c2.blk (unhide HA) n2); replace HB := hide ((unhide HB).trans (c2.below y2)); replace HO := hide (fun b h p q r => (c2.block b q).trans (unhide HO b h p q r))
  clear k2 c2 H2 z2 z3
  obtain ⟨-, z2, z3⟩ := sixL (unhide HA)
  obtain ⟨K2, hK2⟩ : ∃ K : Nat, K1 + s = K := ⟨_, rfl⟩
  rw [hK2]
  have HQ2 := hide hK2
  have q2 : K2 ≤ 1048576 := by have := unhide HQ1; omega
  clear hK2
  go_wp2_with fail
  refine (markIntS_any G3 s K2 M _ (by omega) q2 (unhide H3)).mono ?_
  rintro e w3 ⟨rfl, k3, c3⟩
  have HK3 := hide k3; replace HK1 := hide (c3.blk (unhide HK1) x2); replace HK2 := hide (c3.blk (unhide HK2) x3); replace HB := hide ((unhide HB).trans (c3.below y3)); replace HO := hide (fun b h p q r => (c3.block b r).trans (unhide HO b h p q r))
  clear k3 c3 H3 z2 z3
  obtain ⟨K3, hK3⟩ : ∃ K : Nat, K2 + s = K := ⟨_, rfl⟩
  rw [hK3]
  have HQ3 := hide hK3
  clear hK3
  go_wp2
  go_ret
  have e1 := unhide HQ1; have e2 := unhide HQ2; have e3 := unhide HQ3
  subst e1; subst e2; subst e3
  exact ⟨rfl, unhide HK1, unhide HK2, unhide HK3, unhide HB, unhide HO⟩

set_option maxRecDepth 100000 in
set_option maxHeartbeats 1000000 in
theorem heldLattice_ok (N bot top : Int) (G1 G2 G3 s : Nat) (w : World) (hs : s ≤ 1024) (b1 : Blk w G1 4 (bs s (mB 1))) (b2 : Blk w G2 3 (is s (mI (1 + s)))) (b3 : Blk w G3 3 (is s (mI (1 + s + s)))) :
    Calls Tryd.prog 17 #[.agg #[.int .i64 N, .slice (some ⟨G1, 0, none⟩) s s, .slice (some ⟨G2, 0, none⟩) s s, .slice (some ⟨G3, 0, none⟩) s s, .int .i64 bot, .int .i64 top], .int .i64 1] w fun e w' =>
      e = .returned (.int .i64 ((1 + s + s + s : Nat) : Int)) ∧ Below w.heap.size w w' := by
  have hb : Below w.heap.size w (w.alloc (.cells #[.int .i64 N, .slice (some ⟨G1, 0, none⟩) s s, .slice (some ⟨G2, 0, none⟩) s s, .slice (some ⟨G3, 0, none⟩) s s, .int .i64 bot, .int .i64 top] 29)) := (Below.refl _ _).alloc (Nat.le_refl _) _
  have H1 := hide (b1.mono hb b1.lt); have H2 := hide (b2.mono hb b2.lt); have H3 := hide (b3.mono hb b3.lt); have HB := hide hb
  clear b1 b2 b3 hb
  go_enter Tryd.func17, Tryd.ntmps17
  go_wp2_with fail
  refine (heldBoolS_any G1 s 1 _ (by omega) (by omega) (unhide H1)).mono ?_
  rintro e w1 ⟨rfl, rfl⟩
  obtain ⟨K1, hK1⟩ : ∃ K : Nat, 1 + s = K := ⟨_, rfl⟩
  rw [hK1] at H2 H3 ⊢
  have HQ1 := hide hK1
  have q1 : K1 ≤ 1048576 := by omega
  clear hK1 H1
  go_wp2_with fail
  refine (heldIntS_any G2 s K1 _ (by omega) q1 (unhide H2)).mono ?_
  rintro e w2 ⟨rfl, rfl⟩
  obtain ⟨K2, hK2⟩ : ∃ K : Nat, K1 + s = K := ⟨_, rfl⟩
  rw [hK2] at H3 ⊢
  have HQ2 := hide hK2
  have q2 : K2 ≤ 1048576 := by have := unhide HQ1; omega
  clear hK2 H2
  go_wp2_with fail
  refine (heldIntS_any G3 s K2 _ (by omega) q2 (unhide H3)).mono ?_
  rintro e w3 ⟨rfl, rfl⟩
  obtain ⟨K3, hK3⟩ : ∃ K : Nat, K2 + s = K := ⟨_, rfl⟩
  rw [hK3]
  have HQ3 := hide hK3
  clear hK3
  go_wp2
  go_ret
  have e1 := unhide HQ1; have e2 := unhide HQ2; have e3 := unhide HQ3
  subst e1; subst e2; subst e3
  exact ⟨rfl, unhide HB⟩

set_option maxRecDepth 100000 in
set_option maxHeartbeats 400000 in
theorem markBoolS_nil (w : World) : Calls Tryd.prog 48 #[.slice none 0 0, .int .i64 1] w fun e w' => e = .returned (.int .i64 1) ∧ w' = w := by
  go_enter Tryd.func48, Tryd.ntmps48
  go_wp2
  go_loop [1, 5] (fun kv i => kv = .int .i64 1 ∧ i = .int .i64 0) (fun _ _ => 0)
  case atStart => exact ⟨rfl, rfl⟩
  case round =>
    obtain ⟨rfl, rfl⟩ := hrel
    go_wp2
    go_ret
    exact ⟨rfl, rfl⟩

set_option maxRecDepth 100000 in
set_option maxHeartbeats 400000 in
theorem markIntS_nil (w : World) : Calls Tryd.prog 49 #[.slice none 0 0, .int .i64 1] w fun e w' => e = .returned (.int .i64 1) ∧ w' = w := by
  go_enter Tryd.func49, Tryd.ntmps49
  go_wp2
  go_loop [1, 5] (fun kv i => kv = .int .i64 1 ∧ i = .int .i64 0) (fun _ _ => 0)
  case atStart => exact ⟨rfl, rfl⟩
  case round =>
    obtain ⟨rfl, rfl⟩ := hrel
    go_wp2
    go_ret
    exact ⟨rfl, rfl⟩

set_option maxRecDepth 100000 in
set_option maxHeartbeats 400000 in
theorem heldBoolS_nil (w : World) : Calls Tryd.prog 50 #[.slice none 0 0, .int .i64 1] w fun e w' => e = .returned (.int .i64 1) ∧ w' = w := by
  go_enter Tryd.func50, Tryd.ntmps50
  go_wp2
  go_loop [1, 5] (fun kv i => kv = .int .i64 1 ∧ i = .int .i64 0) (fun _ _ => 0)
  case atStart => exact ⟨rfl, rfl⟩
  case round =>
    obtain ⟨rfl, rfl⟩ := hrel
    go_wp2
    go_ret
    exact ⟨rfl, rfl⟩

set_option maxRecDepth 100000 in
set_option maxHeartbeats 400000 in
theorem heldIntS_nil (w : World) : Calls Tryd.prog 51 #[.slice none 0 0, .int .i64 1] w fun e w' => e = .returned (.int .i64 1) ∧ w' = w := by
  go_enter Tryd.func51, Tryd.ntmps51
  go_wp2
  go_loop [1, 5] (fun kv i => kv = .int .i64 1 ∧ i = .int .i64 0) (fun _ _ => 0)
  case atStart => exact ⟨rfl, rfl⟩
  case round =>
    obtain ⟨rfl, rfl⟩ := hrel
    go_wp2
    go_ret
    exact ⟨rfl, rfl⟩

set_option maxRecDepth 100000 in
set_option maxHeartbeats 1000000 in
theorem markLattice_zero (w : World) :
    Calls Tryd.prog 16 #[zeroL, .int .i64 1] w fun e w' => e = .returned (.int .i64 1) ∧ Below w.heap.size w w' := by
  unfold zeroL
  have hb : Below w.heap.size w (w.alloc (.cells #[.int .i64 0, .slice none 0 0, .slice none 0 0, .slice none 0 0, .int .i64 0, .int .i64 0] 29)) := (Below.refl _ _).alloc (Nat.le_refl _) _
  have HB := hide hb; clear hb
  go_enter Tryd.func16, Tryd.ntmps16
  go_wp2_with fail
  refine (markBoolS_nil _).mono ?_
  rintro e w1 ⟨rfl, rfl⟩
  go_wp2_with fail
  refine (markIntS_nil _).mono ?_
  rintro e w1 ⟨rfl, rfl⟩
  go_wp2_with fail
  refine (markIntS_nil _).mono ?_
  rintro e w1 ⟨rfl, rfl⟩
  go_wp2
  go_ret
  exact ⟨rfl, unhide HB⟩

set_option maxRecDepth 100000 in
set_option maxHeartbeats 1000000 in
theorem heldLattice_zero (w : World) :
    Calls Tryd.prog 17 #[zeroL, .int .i64 1] w fun e w' => e = .returned (.int .i64 1) ∧ Below w.heap.size w w' := by
  unfold zeroL
  have hb : Below w.heap.size w (w.alloc (.cells #[.int .i64 0, .slice none 0 0, .slice none 0 0, .slice none 0 0, .int .i64 0, .int .i64 0] 29)) := (Below.refl _ _).alloc (Nat.le_refl _) _
  have HB := hide hb; clear hb
  go_enter Tryd.func17, Tryd.ntmps17
  go_wp2_with fail
  refine (heldBoolS_nil _).mono ?_
  rintro e w1 ⟨rfl, rfl⟩
  go_wp2_with fail
  refine (heldIntS_nil _).mono ?_
  rintro e w1 ⟨rfl, rfl⟩
  go_wp2_with fail
  refine (heldIntS_nil _).mono ?_
  rintro e w1 ⟨rfl, rfl⟩
  go_wp2
  go_ret
  exact ⟨rfl, unhide HB⟩
end Go.Proofs.YtnmpkdmflijhpaaDoor
