/- impl.latticeOf: the lattice that closed up-sets give, or what is lacking. -/
import Derived.Test.YtnmpkdmflijhpaaDoorTake
import Derived.Test.YtnmpkdmflijhpaaDoorTurned
import Derived.Test.YtnmpkdmflijhpaaDoorWays
namespace Go.Proofs.YtnmpkdmflijhpaaDoor
open Go Go.RowKit

def zeroL : Value := .agg #[.int .i64 0, .slice none 0 0, .slice none 0 0, .slice none 0 0, .int .i64 0, .int .i64 0]
def zero6 : List Value := [.int .i64 0, .slice none 0 0, .slice none 0 0, .slice none 0 0, .int .i64 0, .int .i64 0]
/-- What latticeOf comes to. -/
def LatOut (n : Nat) (g d : Nat → Nat) (R : Nat → Nat → Bool) (B : Nat) (e : Ending) (w' : World) : Prop :=
  ((∃ a, a < n ∧ ¬ commonN (g a) (d a) = 2 ^ a) ∧ e = .returned (.tuple #[zeroL, .int .i64 2])) ∨
  ((∀ a, a < n → commonN (g a) (d a) = 2 ^ a) ∧ (∃ a b, a < n ∧ b < n ∧ Entry g a b (-1)) ∧ e = .returned (.tuple #[zeroL, .int .i64 3])) ∨
  ((∀ a, a < n → commonN (g a) (d a) = 2 ^ a) ∧ (∃ a b, a < n ∧ b < n ∧ Entry d a b (-1)) ∧ (∃ F : Nat → Int, ∀ a, a < n → ∀ b, b < n → 0 ≤ F (a * n + b) ∧ Entry g a b (F (a * n + b))) ∧ e = .returned (.tuple #[zeroL, .int .i64 4])) ∨
  ((∀ a, a < n → commonN (g a) (d a) = 2 ^ a) ∧ ∃ G1 G2 G3 F1 F2 bot top, e = .returned (.tuple #[.agg #[.int .i64 n, .slice (some ⟨G1, 0, none⟩) (n * n) (n * n), .slice (some ⟨G2, 0, none⟩) (n * n) (n * n), .slice (some ⟨G3, 0, none⟩) (n * n) (n * n), .int .i64 bot, .int .i64 top], .int .i64 0]) ∧
    Blk w' G1 4 (bs (n * n) (tabB n R)) ∧ Blk w' G2 3 (is (n * n) F1) ∧ Blk w' G3 3 (is (n * n) F2) ∧ B ≤ G1 ∧ B ≤ G2 ∧ B ≤ G3 ∧ G1 ≠ G2 ∧ G1 ≠ G3 ∧ G2 ≠ G3 ∧
    (∀ a, a < n → ∀ b, b < n → 0 ≤ F1 (a * n + b) ∧ Entry g a b (F1 (a * n + b))) ∧ (∀ a, a < n → ∀ b, b < n → 0 ≤ F2 (a * n + b) ∧ Entry d a b (F2 (a * n + b))) ∧ Least g (2 ^ n - 1) bot ∧ Least d (2 ^ n - 1) top)

theorem zeros_us (c : Array Value) (h : c.toList = us fun _ => 0) (w : World) : Blk (w.alloc (.cells c 75)) w.heap.size 75 (us fun _ => 0) := h ▸ Blk.new w 75 c

theorem six {w : World} {b : Nat} {t : TypeId} {v0 v1 v2 v3 v4 v5 : Value} (h : Blk w b t [v0, v1, v2, v3, v4, v5]) :
    (w.cell? ⟨b, 0, none⟩ = some v0 ∧ w.cell? ⟨b, 1, none⟩ = some v1 ∧ w.cell? ⟨b, 2, none⟩ = some v2 ∧ w.cell? ⟨b, 3, none⟩ = some v3 ∧ w.cell? ⟨b, 4, none⟩ = some v4 ∧ w.cell? ⟨b, 5, none⟩ = some v5) ∧
    (w.frozen? ⟨b, 0, none⟩ = false ∧ w.frozen? ⟨b, 1, none⟩ = false ∧ w.frozen? ⟨b, 2, none⟩ = false ∧ w.frozen? ⟨b, 3, none⟩ = false ∧ w.frozen? ⟨b, 4, none⟩ = false ∧ w.frozen? ⟨b, 5, none⟩ = false) :=
  ⟨⟨h.cell 0, h.cell 1, h.cell 2, h.cell 3, h.cell 4, h.cell 5⟩, h.free 0, h.free 1, h.free 2, h.free 3, h.free 4, h.free 5⟩

theorem all_lt {n : Nat} (hn : n ≤ 32) : 2 ^ n - 1 < 4294967296 := by
  have : 2 ^ n ≤ 2 ^ 32 := Nat.pow_le_pow_right (by omega) hn
  omega
/-- What the last statement of latticeOf reads. -/
def Hold (w' : World) (B D A : Nat) (g d : Nat → Nat) (s : Nat) : Prop := Blk w' B 75 (us g) ∧ Blk w' D 75 (us d) ∧ Tab w' ∧ w'.rangeAt B 0 (us g) ∧ w'.rangeAt D 0 (us d) ∧ w'.cell? ⟨A, 0, none⟩ = some (.int .u32 (s : Int)) ∧ A < w'.heap.size
theorem Hold.mono {w w' : World} {B D A s : Nat} {g d : Nat → Nat} (h : Hold w B D A g d s) (hb : Below w.heap.size w w') : Hold w' B D A g d s :=
  have h0 := h.1.mono hb h.1.lt
  have h1 := h.2.1.mono hb h.2.1.lt
  ⟨h0, h1, h.2.2.1.mono hb, h0.range, h1.range, (hb.cell (p := ⟨A, 0, none⟩) h.2.2.2.2.2.2).trans h.2.2.2.2.2.1, Nat.lt_of_lt_of_le h.2.2.2.2.2.2 hb.size⟩
theorem Hold.set {w : World} {B D A s O j : Nat} {g d : Nat → Nat} {v : Value} (h : Hold w B D A g d s) (hB : B ≠ O) (hD : D ≠ O) (hA : A ≠ O) (h0 : 0 ≠ O) : Hold (w.setCell ⟨O, j, none⟩ v) B D A g d s :=
  have e0 := h.1.other (a := ⟨O, j, none⟩) v hB
  have e1 := h.2.1.other (a := ⟨O, j, none⟩) v hD
  ⟨e0, e1, h.2.2.1.at0 (heap_setCell_other _ _ _ _ h0), e0.range, e1.range, (World.cell?_of_block (heap_setCell_other _ _ _ _ hA)).trans h.2.2.2.2.2.1, by simpa using h.2.2.2.2.2.2⟩

set_option maxRecDepth 100000 in
set_option maxHeartbeats 1000000 in
theorem latticeOf_any (n : Nat) (g : Nat → Nat) (R : Nat → Nat → Bool) (w : World) (h1 : 1 ≤ n) (hn : n ≤ 32) (hg : IsRel g R) (ht : Tab w) :
    Calls Tryd.prog 42 #[.int .i64 n, .agg (us g).toArray] w fun e w' => Below w.heap.size w w' ∧ ∃ d, IsRel d (fun b a => decide (a < n) && R a b) ∧ LatOut n g d R w.heap.size e w' := by
  have hgL : ∀ a, a < 32 → g a < 4294967296 := fun a ha => (hg a ha).1
  have B0 := (Blk.new w 75 (us g).toArray).alloc (.cells #[.int .i64 0, .slice none 0 0, .slice none 0 0, .slice none 0 0, .int .i64 0, .int .i64 0] 29)
  have B1 := Blk.new (w.alloc (.cells (us g).toArray 75)) 29 #[.int .i64 0, .slice none 0 0, .slice none 0 0, .slice none 0 0, .int .i64 0, .int .i64 0]
  have BW : Below w.heap.size w ((w.alloc (.cells (us g).toArray 75)).alloc (.cells #[.int .i64 0, .slice none 0 0, .slice none 0 0, .slice none 0 0, .int .i64 0, .int .i64 0] 29)) := ((Below.refl _ _).alloc (Nat.le_refl _) _).alloc (by simp) _
  have BT := ht.mono BW
  simp only [World.size_alloc] at B1
  have H0 := hide B0; have H1 := hide B1; have HW := hide BW; have HT := hide BT; clear B0 B1 BW BT
  go_enter Tryd.func42, Tryd.ntmps42
  go_wp2_with (refine wpList_load_sets rfl _ rfl w.heap.size g rfl (unhide H0) ?_)
  refine (turned_any g R n _ hn hg (unhide HT)).mono ?_
  rintro e w1 ⟨d, rfl, hd, hb1⟩
  have hdL : ∀ a, a < 32 → d a < 4294967296 := fun a ha => (hd a ha).1
  replace H0 := hide ((unhide H0).mono hb1 (unhide H0).lt); replace H1 := hide ((unhide H1).mono hb1 (unhide H1).lt); replace HW := hide ((unhide HW).trans (hb1.mono (unhide HW).size)); replace HT := hide ((unhide HT).mono hb1)
  clear hb1
  go_wp2_with (first | (refine wpList_store_sets rfl _ _ rfl w1.heap.size (fun _ => 0) d rfl rfl (zeros_us _ rfl _) ?_; intro w2 hD hgr hsz; have hbb : Below w1.heap.size w1 w2 := ((Below.refl _ w1).alloc (Nat.le_refl _) _).grown hgr (by simp) (fun k e => by cases e; exact Nat.le_refl _); have X0 := hide ((unhide H0).mono hbb (unhide H0).lt); have X1 := hide ((unhide H1).mono hbb (unhide H1).lt); have XW := hide ((unhide HW).trans (hbb.mono (unhide HW).size)); have XT := hide ((unhide HT).mono hbb); have XD := hide hD; clear hD hgr hsz hbb) | (refine wpList_load_sets rfl _ rfl w.heap.size g rfl (unhide X0) ?_) | (refine wpList_load_sets rfl _ rfl w1.heap.size d rfl (unhide XD) ?_))
  by_cases htw : ∃ a, a < n ∧ ¬ commonN (g a) (d a) = 2 ^ a
  · refine (twoWays_any n g d _ hn hgL hdL true ⟨fun _ => htw, fun _ => rfl⟩).mono ?_
    rintro e w3 ⟨rfl, hb3⟩
    have HTW := hide htw; clear htw
    have Y0 := hide ((unhide X0).mono hb3 (unhide X0).lt); have Y1 := hide ((unhide X1).mono hb3 (unhide X1).lt); have YW := hide ((unhide XW).trans (hb3.mono (unhide XW).size)); have YT := hide ((unhide XT).mono hb3); have YD := hide ((unhide XD).mono hb3 (unhide XD).lt)
    clear hb3 X0 X1 XW XT XD
    obtain ⟨⟨r0, r1, r2, r3, r4, r5⟩, q0, q1, q2, q3, q4, q5⟩ := six (unhide Y1)
    go_wp2
    refine bodyPost_ret (v := .tuple #[zeroL, .int .i64 2]) (by simp [results, Tryd.results42, go_sem, zeroL, *]) rfl ⟨?_, d, hd, .inl ⟨unhide HTW, rfl⟩⟩
    iterate 6 refine Below.setCell ?_ (by simp <;> omega) _
    exact unhide YW

  refine (twoWays_any n g d _ hn hgL hdL false ⟨(fun h => by cases h), fun h => absurd h htw⟩).mono ?_
  rintro e w3 ⟨rfl, hb3⟩
  have HTW : Hid (∀ a, a < n → commonN (g a) (d a) = 2 ^ a) := fun a ha => Classical.byContradiction fun h => htw ⟨a, ha, h⟩
  clear htw
  have Y0 := hide ((unhide X0).mono hb3 (unhide X0).lt); have Y1 := hide ((unhide X1).mono hb3 (unhide X1).lt); have YW := hide ((unhide XW).trans (hb3.mono (unhide XW).size)); have YT := hide ((unhide XT).mono hb3); have YD := hide ((unhide XD).mono hb3 (unhide XD).lt)
  clear hb3 X0 X1 XW XT XD
  go_wp2_with (refine wpList_load_sets rfl _ rfl w.heap.size g rfl (unhide Y0) ?_)
  refine (bounds_any n g _ h1 hn hgL (unhide YT)).mono ?_
  rintro e w4 ⟨hb4, (⟨G2, F1, rfl, hG2, hG2b, hF1⟩ | ⟨rfl, hx⟩)⟩
  rotate_left
  · have HX := hide hx; clear hx
    have Z0 := hide ((unhide Y0).mono hb4 (unhide Y0).lt); have Z1 := hide ((unhide Y1).mono hb4 (unhide Y1).lt); have ZW := hide ((unhide YW).trans (hb4.mono (unhide YW).size)); have ZT := hide ((unhide YT).mono hb4); have ZD := hide ((unhide YD).mono hb4 (unhide YD).lt)
    clear hb4 Y0 Y1 YW YT YD
    obtain ⟨⟨r0, r1, r2, r3, r4, r5⟩, q0, q1, q2, q3, q4, q5⟩ := six (unhide Z1)
    go_wp2
    refine bodyPost_ret (v := .tuple #[zeroL, .int .i64 3]) (by simp [results, Tryd.results42, go_sem, zeroL, *]) rfl ⟨?_, d, hd, .inr (.inl ⟨unhide HTW, unhide HX, rfl⟩)⟩
    iterate 6 refine Below.setCell ?_ (by simp <;> omega) _
    exact unhide ZW

  have Z0 := hide ((unhide Y0).mono hb4 (unhide Y0).lt); have Z1 := hide ((unhide Y1).mono hb4 (unhide Y1).lt); have ZW := hide ((unhide YW).trans (hb4.mono (unhide YW).size)); have ZT := hide ((unhide YT).mono hb4); have ZD := hide ((unhide YD).mono hb4 (unhide YD).lt)
  have g2 := Nat.le_trans (unhide YW).size hG2b
  clear hb4 Y0 Y1 YW YT YD hG2b
  have HG2 := hide hG2; have HF1 := hide hF1; clear hG2 hF1
  go_wp2_with (refine wpList_load_sets rfl _ rfl w1.heap.size d rfl (unhide ZD) ?_)
  refine (bounds_any n d _ h1 hn hdL (unhide ZT)).mono ?_
  rintro e w5 ⟨hb5, (⟨G3, F2, rfl, hG3, hG3b, hF2⟩ | ⟨rfl, hx⟩)⟩
  rotate_left
  · have HX := hide hx; clear hx
    have U0 := hide ((unhide Z0).mono hb5 (unhide Z0).lt); have U1 := hide ((unhide Z1).mono hb5 (unhide Z1).lt); have UW := hide ((unhide ZW).trans (hb5.mono (unhide ZW).size)); have UT := hide ((unhide ZT).mono hb5); have UD := hide ((unhide ZD).mono hb5 (unhide ZD).lt)
    clear hb5 Z0 Z1 ZW ZT ZD
    obtain ⟨⟨r0, r1, r2, r3, r4, r5⟩, q0, q1, q2, q3, q4, q5⟩ := six (unhide U1)
    go_wp2
    refine bodyPost_ret (v := .tuple #[zeroL, .int .i64 4]) (by simp [results, Tryd.results42, go_sem, zeroL, *]) rfl ⟨?_, d, hd, .inr (.inr (.inl ⟨unhide HTW, unhide HX, ⟨F1, unhide HF1⟩, rfl⟩))⟩
    iterate 6 refine Below.setCell ?_ (by simp <;> omega) _
    exact unhide UW

  have U0 := hide ((unhide Z0).mono hb5 (unhide Z0).lt); have U1 := hide ((unhide Z1).mono hb5 (unhide Z1).lt); have UW := hide ((unhide ZW).trans (hb5.mono (unhide ZW).size)); have UT := hide ((unhide ZT).mono hb5); have UD := hide ((unhide ZD).mono hb5 (unhide ZD).lt)
  have g3 := Nat.le_trans (unhide ZW).size hG3b
  have g23 : G2 < G3 := Nat.lt_of_lt_of_le (unhide HG2).lt hG3b
  replace HG2 := hide ((unhide HG2).mono hb5 (unhide HG2).lt)
  clear hb5 Z0 Z1 ZW ZT ZD hG3b
  have HG3 := hide hG3; have HF2 := hide hF2; clear hG3 hF2
  go_wp2_with (go_at_call 82; refine (all_any n _ hn).mono ?_; rintro e w6 ⟨rfl, hb6⟩; have V0 := hide ((unhide U0).mono hb6 (unhide U0).lt); have V1 := hide ((unhide U1).mono hb6 (unhide U1).lt); have VW := hide ((unhide UW).trans (hb6.mono (unhide UW).size)); have VT := hide ((unhide UT).mono hb6); have VD := hide ((unhide UD).mono hb6 (unhide UD).lt); have VG2 := hide ((unhide HG2).mono hb6 (unhide HG2).lt); have VG3 := hide ((unhide HG3).mono hb6 (unhide HG3).lt); clear hb6)
  have bA := Blk.new w6 73 #[.int .u32 ((2 ^ n - 1 : Nat) : Int)]
  have bW : Below w6.heap.size w6 (w6.alloc (.cells #[.int .u32 ((2 ^ n - 1 : Nat) : Int)] 73)) := (Below.refl _ _).alloc (Nat.le_refl _) _
  have S0 : Hid (Hold (w6.alloc (.cells #[.int .u32 ((2 ^ n - 1 : Nat) : Int)] 73)) w.heap.size w1.heap.size w6.heap.size g d (2 ^ n - 1)) :=
    have h0 := (unhide V0).mono bW (unhide V0).lt
    have h1 := (unhide VD).mono bW (unhide VD).lt
    ⟨h0, h1, (unhide VT).mono bW, h0.range, h1.range, bA.cell 0, bA.lt⟩
  have hall := all_lt hn
  obtain ⟨m, hm⟩ : ∃ m, 2 ^ n - 1 = m := ⟨_, rfl⟩
  rw [hm] at hall S0 ⊢
  rw [hm] at bW
  have HM := hide hm
  clear hm bA
  obtain ⟨W7, hW7⟩ : ∃ W7, w6.alloc (.cells #[.int .u32 (m : Int)] 73) = W7 := ⟨_, rfl⟩
  rw [hW7] at S0 bW ⊢
  clear hW7
  have Z1 := hide ((unhide V1).mono bW (unhide V1).lt); have ZW := hide ((unhide VW).trans (bW.mono (unhide VW).size))
  have ZG2 := hide ((unhide VG2).mono bW (unhide VG2).lt); have ZG3 := hide ((unhide VG3).mono bW (unhide VG3).lt)
  have n1 : ¬ w.heap.size = w.heap.size + 1 := by omega
  have n2 : w1.heap.size ≠ w.heap.size + 1 := fun e => by have h := unhide VD; rw [e] at h; have h' := h.symm.trans (unhide V1); simp at h'
  have n3 : w6.heap.size ≠ w.heap.size + 1 := by have := (unhide V1).lt; omega
  have n4 : ¬ 0 = w.heap.size + 1 := by first | omega | (have := (unhide HT).pos; omega) | (have := ht.pos; omega)
  have n5 : G2 ≠ w.heap.size + 1 := fun e => by have h := unhide VG2; rw [e] at h; have h' := h.symm.trans (unhide V1); simp at h'
  have n6 : G3 ≠ w.heap.size + 1 := fun e => by have h := unhide VG3; rw [e] at h; have h' := h.symm.trans (unhide V1); simp at h'
  have s7 : w.heap.size ≤ W7.heap.size := (unhide ZW).size
  have l2 := (unhide ZG2).lt; have l3 := (unhide ZG3).lt; have l1 := (unhide Z1).lt
  clear H0 H1 HW HT U0 U1 UW UT UD HG2 HG3 V0 V1 VW VT VD VG2 VG3 bW
  refine wp_region_held_drew (S := fun w' => Hold w' w.heap.size w1.heap.size w6.heap.size g d m) (by kernel_rfl) (unhide S0) (fun hHeld => ?_)
  refine take (i := 0) (v := .int .i64 n) 39 rfl rfl (by kernel_rfl) (by kernel_rfl) (by kernel_rfl) (fun _ _ _ _ h => h) (by exact yields_move (by rfl) (.tmp 0) _ rfl rfl) hHeld ?_
  simp only [List.setIfInBounds_toArray, List.set_cons_zero, List.set_cons_succ]
  refine take (i := 2) (v := .int .i64 n) 41 rfl rfl (by kernel_rfl) (by kernel_rfl) (by kernel_rfl) (fun _ _ _ _ h => h) (by exact yields_move (by rfl) (.tmp 0) _ rfl rfl) hHeld ?_
  simp only [List.setIfInBounds_toArray, List.set_cons_zero, List.set_cons_succ]
  refine take (i := 4) (v := .slice (some ⟨G2, 0, none⟩) (n * n) (n * n)) 43 rfl rfl (by kernel_rfl) (by kernel_rfl) (by kernel_rfl) (fun _ _ _ _ h => h) (by exact yields_move (by rfl) (.tmp 7) _ rfl rfl) hHeld ?_
  simp only [List.setIfInBounds_toArray, List.set_cons_zero, List.set_cons_succ]
  refine take (i := 5) (v := .slice (some ⟨G3, 0, none⟩) (n * n) (n * n)) 44 rfl rfl (by kernel_rfl) (by kernel_rfl) (by kernel_rfl) (fun _ _ _ _ h => h) (by exact yields_move (by rfl) (.tmp 9) _ rfl rfl) hHeld ?_
  simp only [List.setIfInBounds_toArray, List.set_cons_zero, List.set_cons_succ]
  refine take (i := 1) (v := .agg (us g).toArray) 40 rfl rfl (by kernel_rfl) (by kernel_rfl) (by kernel_rfl) (fun _ _ _ _ h => h) (by exact yields_sets (by rfl) (.tmp 3) rfl w.heap.size g rfl (fun _ h => h.1)) hHeld ?_
  simp only [List.setIfInBounds_toArray, List.set_cons_zero, List.set_cons_succ]
  refine take (i := 6) (v := .agg (us g).toArray) 45 rfl rfl (by kernel_rfl) (by kernel_rfl) (by kernel_rfl) (fun _ _ _ _ h => h) (by exact yields_sets (by rfl) (.tmp 3) rfl w.heap.size g rfl (fun _ h => h.1)) hHeld ?_
  simp only [List.setIfInBounds_toArray, List.set_cons_zero, List.set_cons_succ]
  refine take (i := 9) (v := .agg (us d).toArray) 48 rfl rfl (by kernel_rfl) (by kernel_rfl) (by kernel_rfl) (fun _ _ _ _ h => h) (by exact yields_sets (by rfl) (.tmp 6) rfl w1.heap.size d rfl (fun _ h => h.2.1)) hHeld ?_
  simp only [List.setIfInBounds_toArray, List.set_cons_zero, List.set_cons_succ]
  refine take (i := 7) (v := .agg #[.int .u32 (m : Int)]) 46 rfl rfl (by kernel_rfl) (by kernel_rfl) (by kernel_rfl) (fun _ _ _ _ h => h) (by exact yields_set (by rfl) (.tmp 10) rfl w6.heap.size 0 _ rfl (fun _ h => h.2.2.2.2.2.1)) hHeld ?_
  simp only [List.setIfInBounds_toArray, List.set_cons_zero, List.set_cons_succ]
  refine take (i := 10) (v := .agg #[.int .u32 (m : Int)]) 49 rfl rfl (by kernel_rfl) (by kernel_rfl) (by kernel_rfl) (fun _ _ _ _ h => h) (by exact yields_set (by rfl) (.tmp 10) rfl w6.heap.size 0 _ rfl (fun _ h => h.2.2.2.2.2.1)) hHeld ?_
  simp only [List.setIfInBounds_toArray, List.set_cons_zero, List.set_cons_succ]
  refine callH (i := 3) (f := 83) (args := #[.agg (us g).toArray, .int .i64 n]) (R := fun v w8 => ∃ G1, v = .slice (some ⟨G1, 0, none⟩) (n * n) (n * n) ∧ Blk w8 G1 4 (bs (n * n) (tabB n R)) ∧ W7.heap.size ≤ G1 ∧ Below W7.heap.size W7 w8) 42 rfl rfl (by rfl) (by kernel_rfl) ?hrun1 ((table_any n g R _ h1 hn hg).mono fun e w8 ⟨G1, he, hG1, hG1b, hb8⟩ => ⟨_, he, G1, rfl, hG1, hG1b, below_of_drew hb8⟩) ?_
  case hrun1 => simp [execOp, go_sem]
  rintro v w8 ⟨G1, rfl, hG1, hG1b, hb8⟩
  have S1 : Hold w8 w.heap.size w1.heap.size w6.heap.size g d m := (unhide S0).mono hb8
  refine ⟨S1, ?_⟩
  simp only [List.setIfInBounds_toArray, List.set_cons_zero, List.set_cons_succ]
  refine callH (i := 8) (f := 84) (args := #[.agg (us g).toArray, .agg #[.int .u32 (m : Int)]]) (R := fun v w' => ∃ r, v = .int .i64 r ∧ Least g m r ∧ Below w8.heap.size w8 w') 47 rfl rfl (by rfl) (by kernel_rfl) ?hrun2 ((leastOf_any g m _ hgL hall S1.2.2.1).mono fun e w' ⟨r, he, hr, hb⟩ => ⟨_, he, r, rfl, hr, hb⟩) ?_
  case hrun2 => simp [execOp, go_sem]
  rintro v w9 ⟨bot, rfl, hbot, hb9⟩
  have S2 := S1.mono hb9
  refine ⟨S2, ?_⟩
  simp only [List.setIfInBounds_toArray, List.set_cons_zero, List.set_cons_succ]
  refine callH (i := 11) (f := 84) (args := #[.agg (us d).toArray, .agg #[.int .u32 (m : Int)]]) (R := fun v w' => ∃ r, v = .int .i64 r ∧ Least d m r ∧ Below w9.heap.size w9 w') 50 rfl rfl (by rfl) (by kernel_rfl) ?hrun3 ((leastOf_any d m _ hdL hall S2.2.2.1).mono fun e w' ⟨r, he, hr, hb⟩ => ⟨_, he, r, rfl, hr, hb⟩) ?_
  case hrun3 => simp [execOp, go_sem]
  rintro v w10 ⟨top, rfl, htop, hb10⟩
  have S3 := S2.mono hb10
  refine ⟨S3, ?_⟩
  simp only [List.setIfInBounds_toArray, List.set_cons_zero, List.set_cons_succ]
  have hb79 : Below W7.heap.size W7 w10 := (hb8.trans (hb9.mono hb8.size)).trans (hb10.mono (Nat.le_trans hb8.size hb9.size))
  have X1 := (unhide Z1).mono hb79 l1
  obtain ⟨⟨r0, r1, r2, r3, r4, r5⟩, q0, q1, q2, q3, q4, q5⟩ := six X1
  refine take (i := 12) (v := .agg #[.int .i64 n, .slice (some ⟨G1, 0, none⟩) (n * n) (n * n), .slice (some ⟨G2, 0, none⟩) (n * n) (n * n), .slice (some ⟨G3, 0, none⟩) (n * n) (n * n), .int .i64 bot, .int .i64 top]) 51 rfl rfl (by kernel_rfl) (by kernel_rfl) (by kernel_rfl) (fun _ _ _ _ h => h) (.inl ⟨by rfl, fun w' _ => ?build⟩) S3 ?_
  case build => simp [execOp, go_sem]
  simp only [List.setIfInBounds_toArray, List.set_cons_zero, List.set_cons_succ]
  refine runH (i := 13) rfl (by rfl) (by kernel_rfl) rfl (v := .skip) (w' := (((((w10.setCell ⟨w.heap.size + 1, 0, none⟩ (.int .i64 n)).setCell ⟨w.heap.size + 1, 1, none⟩ (.slice (some ⟨G1, 0, none⟩) (n * n) (n * n))).setCell ⟨w.heap.size + 1, 2, none⟩ (.slice (some ⟨G2, 0, none⟩) (n * n) (n * n))).setCell ⟨w.heap.size + 1, 3, none⟩ (.slice (some ⟨G3, 0, none⟩) (n * n) (n * n))).setCell ⟨w.heap.size + 1, 4, none⟩ (.int .i64 bot)).setCell ⟨w.heap.size + 1, 5, none⟩ (.int .i64 top)) ?hrun4 rfl ((((((S3.set n1 n2 n3 n4).set n1 n2 n3 n4).set n1 n2 n3 n4).set n1 n2 n3 n4).set n1 n2 n3 n4).set n1 n2 n3 n4) ?_
  case hrun4 => simp [execOp, go_sem, *]
  have S4 := (((((S3.set (j := 0) (v := .int .i64 (n : Int)) n1 n2 n3 n4).set (j := 1) (v := .slice (some ⟨G1, 0, none⟩) (n * n) (n * n)) n1 n2 n3 n4).set (j := 2) (v := .slice (some ⟨G2, 0, none⟩) (n * n) (n * n)) n1 n2 n3 n4).set (j := 3) (v := .slice (some ⟨G3, 0, none⟩) (n * n) (n * n)) n1 n2 n3 n4).set (j := 4) (v := .int .i64 bot) n1 n2 n3 n4).set (j := 5) (v := .int .i64 top) n1 n2 n3 n4
  refine take (i := 14) (v := .int .i64 0) 5 rfl rfl (by kernel_rfl) (by kernel_rfl) (by kernel_rfl) (fun _ _ _ _ h => h) (.inl ⟨by rfl, fun w' _ => ?asg⟩) S4 ?_
  case asg => simp [execOp, go_sem]
  simp only [List.setIfInBounds_toArray, List.set_cons_zero, List.set_cons_succ]
  refine wpAnyH_done (by kernel_rfl) ?_ _
  have XG2 := hide ((unhide ZG2).mono hb79 l2); have XG3 := hide ((unhide ZG3).mono hb79 l3)
  have XG1 := hide ((hG1.mono hb9 hG1.lt).mono hb10 (hG1.mono hb9 hG1.lt).lt)
  have XW := hide ((unhide ZW).trans (hb79.mono s7))
  have HBOT := hide hbot; have HTOP := hide htop
  have n7 : G1 ≠ w.heap.size + 1 := by omega
  have n8 : G1 ≠ G2 := by omega
  have n9 : G1 ≠ G3 := by omega
  clear S1 S2 S3 S4 X1 hb8 hb9 hb10 hb79 hG1 hbot htop hHeld
  go_wp2
  refine bodyPost_ret (v := .tuple #[.agg #[.int .i64 n, .slice (some ⟨G1, 0, none⟩) (n * n) (n * n), .slice (some ⟨G2, 0, none⟩) (n * n) (n * n), .slice (some ⟨G3, 0, none⟩) (n * n) (n * n), .int .i64 bot, .int .i64 top], .int .i64 0]) (by simp [results, Tryd.results42, go_sem, *]) rfl ⟨?_, d, hd, .inr (.inr (.inr ⟨unhide HTW, G1, G2, G3, F1, F2, bot, top, rfl, ?_, ?_, ?_, by omega, g2, g3, n8, n9, by omega, unhide HF1, unhide HF2, by rw [unhide HM]; exact unhide HBOT, by rw [unhide HM]; exact unhide HTOP⟩))⟩
  · iterate 6 refine Below.setCell ?_ (by simp <;> omega) _
    exact unhide XW
  · iterate 6 refine Blk.other ?_ _ (by simp <;> omega)
    exact unhide XG1
  · iterate 6 refine Blk.other ?_ _ (by simp <;> omega)
    exact unhide XG2
  · iterate 6 refine Blk.other ?_ _ (by simp <;> omega)
    exact unhide XG3
end Go.Proofs.YtnmpkdmflijhpaaDoor
