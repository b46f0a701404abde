/- The helpers of package laws on lattices: size, copy, comparison. -/
import Derived.Test.YtnmpkdmflijhpaaDoorCopy
namespace Go.Proofs.YtnmpkdmflijhpaaDoor
open Go Go.RowKit

def szL (l1 l2 l3 : Nat) : Int := if l1 + l2 + l3 ≤ 1048576 then 1048576 - (l1 + l2 + l3 : Nat) else -1

set_option maxHeartbeats 400000 in
theorem szLattice_any (N bot top : Int) (a1 a2 a3 : Option Addr) (n1 n2 n3 c1 c2 c3 : Nat) (w : World) (h1 : n1 ≤ 140737488355328) (h2 : n2 ≤ 140737488355328) (h3 : n3 ≤ 140737488355328) :
    Calls Tryd.prog 18 #[.agg #[.int .i64 N, .slice a1 n1 c1, .slice a2 n2 c2, .slice a3 n3 c3, .int .i64 bot, .int .i64 top], .int .i64 1048576] w fun e w' => e = .returned (.int .i64 (szL n1 n2 n3)) ∧ Below w.heap.size w w' := by
  have hcase : (n1 + n2 + n3 ≤ 1048576) ∨ (n1 + n2 ≤ 1048576 ∧ 1048576 < n1 + n2 + n3) ∨ (n1 ≤ 1048576 ∧ 1048576 < n1 + n2) ∨ 1048576 < n1 := by omega
  rcases hcase with k | ⟨k, k'⟩ | ⟨k, k'⟩ | k
  all_goals
    go_enter Tryd.func18, Tryd.ntmps18
    go_wp2
    go_ret
    exact ⟨ret_int (by unfold szL; split <;> omega), (Below.refl _ _).alloc (Nat.le_refl _) _⟩

/- A copy of a lattice: three new slices, the same numbers. -/
set_option maxHeartbeats 1000000 in
theorem toLattice_any (N bot top : Int) (a1 a2 a3 : Option Addr) (n1 n2 n3 c1 c2 c3 : Nat) (f : Nat → Bool) (g h : Nat → Int) (w : World) (hn : n1 + n2 + n3 ≤ 1048576)
    (ha : Bools w a1 n1 f) (hb : Ints w a2 n2 g) (hc : Ints w a3 n3 h) :
    Calls Tryd.prog 20 #[.agg #[.int .i64 N, .slice a1 n1 c1, .slice a2 n2 c2, .slice a3 n3 c3, .int .i64 bot, .int .i64 top]] w fun e w' =>
      ∃ g1 g2 g3, e = .returned (.agg #[.int .i64 N, .slice (some ⟨g1, 0, none⟩) n1 n1, .slice (some ⟨g2, 0, none⟩) n2 n2, .slice (some ⟨g3, 0, none⟩) n3 n3, .int .i64 bot, .int .i64 top]) ∧
        Blk w' g1 4 (bs n1 f) ∧ Blk w' g2 3 (is n2 g) ∧ Blk w' g3 3 (is n3 h) ∧
        w.heap.size ≤ g1 ∧ g1 < g2 ∧ g2 < g3 ∧ Below w.heap.size w w' := by
  go_enter Tryd.func20, Tryd.ntmps20
  have bw : ∀ o1 o2 o3, Below w.heap.size w (((w.alloc o1).alloc o2).alloc o3) := fun o1 o2 o3 => (((Below.refl _ w).alloc (Nat.le_refl _) o1).alloc (by simp) o2).alloc (by simp; omega) o3
  have bA : ∀ (c1 c2 c3 : Array Value) t1 t2 t3, Blk (((w.alloc (.cells c1 t1)).alloc (.cells c2 t2)).alloc (.cells c3 t3)) w.heap.size t1 c1.toList := fun c1 c2 c3 t1 t2 t3 => ((Blk.new w t1 c1).alloc _).alloc _
  have bR : ∀ (c1 c2 c3 : Array Value) t1 t2 t3, Blk (((w.alloc (.cells c1 t1)).alloc (.cells c2 t2)).alloc (.cells c3 t3)) (w.heap.size + 1) t2 c2.toList := fun c1 c2 c3 t1 t2 t3 => by simpa using (Blk.new (w.alloc (.cells c1 t1)) t2 c2).alloc (.cells c3 t3)
  have bO : ∀ (c1 c2 c3 : Array Value) t1 t2 t3, Blk (((w.alloc (.cells c1 t1)).alloc (.cells c2 t2)).alloc (.cells c3 t3)) (w.heap.size + 1 + 1) t3 c3.toList := fun c1 c2 c3 t1 t2 t3 => by simpa using Blk.new ((w.alloc (.cells c1 t1)).alloc (.cells c2 t2)) t3 c3
  have BW := hide bw; have BA := hide bA; have BO := hide bO; have BR := hide bR; clear bw bA bO bR
  go_wp2_with fail
  refine (toBoolS_any a1 f n1 c1 _ (ha.mono (unhide BW _ _ _)) (by omega)).mono ?_
  rintro e w1 ⟨rfl, ho1, hb1⟩
  have hA1 := (unhide BA _ _ _ _ _ _).mono hb1 (by simp; omega)
  have hO1 := (unhide BO _ _ _ _ _ _).mono hb1 (by simp)
  have hR1 := (unhide BR _ _ _ _ _ _).mono hb1 (by simp)
  have hw1 : Below w.heap.size w w1 := (unhide BW _ _ _).trans (hb1.mono (by simp; omega))
  clear hb1
  simp only [World.size_alloc] at ho1
  have x1 := hO1.cell 1; have x2 := hO1.free 1; have x3 := hA1.cell 2
  simp only [List.getElem?_cons_succ, List.getElem?_cons_zero] at x1 x3
  have HO1 := hide ho1; have HB1 := hide hw1; have HA1 := hide hA1; have HP1 := hide hO1; have HR1 := hide hR1; clear ho1 hw1 hA1 hO1 hR1
  go_wp2_with fail
  have hw2 := (unhide HB1).setCell (p := ⟨w.heap.size + 1 + 1, 1, none⟩) (by simp; omega) (.slice (some ⟨w.heap.size + 1 + 1 + 1, 0, none⟩) n1 n1)
  have hA2 := (unhide HA1).other (a := ⟨w.heap.size + 1 + 1, 1, none⟩) (.slice (some ⟨w.heap.size + 1 + 1 + 1, 0, none⟩) n1 n1) (by simp; omega)
  have hR2 := (unhide HR1).other (a := ⟨w.heap.size + 1 + 1, 1, none⟩) (.slice (some ⟨w.heap.size + 1 + 1 + 1, 0, none⟩) n1 n1) (by simp)
  have hO2 := (unhide HP1).set 1 (.slice (some ⟨w.heap.size + 1 + 1 + 1, 0, none⟩) n1 n1)
  have h12 := (unhide HO1).other (a := ⟨w.heap.size + 1 + 1, 1, none⟩) (.slice (some ⟨w.heap.size + 1 + 1 + 1, 0, none⟩) n1 n1) (by simp)
  refine (toIntS_any a2 g n2 c2 _ (hb.mono hw2) (by omega)).mono ?_
  rintro e w2 ⟨rfl, ho2, hb2⟩
  replace hA2 := hA2.mono hb2 hA2.lt; replace hO2 := hO2.mono hb2 hO2.lt; replace hR2 := hR2.mono hb2 hR2.lt; replace h12 := h12.mono hb2 h12.lt
  replace hw2 := hw2.trans (hb2.mono hw2.size)
  clear hb2 x1 x2 x3
  simp only [World.size_setCell] at ho2
  have x1 := hO2.cell 2; have x2 := hO2.free 2; have x3 := hA2.cell 3
  simp only [List.getElem?_cons_succ, List.getElem?_cons_zero, List.set_cons_succ, List.set_cons_zero] at x1 x3
  have hs1 := (unhide HO1).lt
  have HO2 := hide ho2; have HB2 := hide hw2; have HA2 := hide hA2; have HP2 := hide hO2; have HR2 := hide hR2; have H12 := hide h12; clear ho2 hw2 hA2 hO2 hR2 h12
  go_wp2_with fail
  have hw3 := (unhide HB2).setCell (p := ⟨w.heap.size + 1 + 1, 2, none⟩) (by simp; omega) (.slice (some ⟨w1.heap.size, 0, none⟩) n2 n2)
  have hA3 := (unhide HA2).other (a := ⟨w.heap.size + 1 + 1, 2, none⟩) (.slice (some ⟨w1.heap.size, 0, none⟩) n2 n2) (by simp; omega)
  have hR3 := (unhide HR2).other (a := ⟨w.heap.size + 1 + 1, 2, none⟩) (.slice (some ⟨w1.heap.size, 0, none⟩) n2 n2) (by simp)
  have hO3 := (unhide HP2).set 2 (.slice (some ⟨w1.heap.size, 0, none⟩) n2 n2)
  have h13 := (unhide H12).other (a := ⟨w.heap.size + 1 + 1, 2, none⟩) (.slice (some ⟨w1.heap.size, 0, none⟩) n2 n2) (by simp)
  have h23 := (unhide HO2).other (a := ⟨w.heap.size + 1 + 1, 2, none⟩) (.slice (some ⟨w1.heap.size, 0, none⟩) n2 n2) (by simp; omega)
  refine (toIntS_any a3 h n3 c3 _ (hc.mono hw3) (by omega)).mono ?_
  rintro e w3 ⟨rfl, ho3, hb3⟩
  replace hA3 := hA3.mono hb3 hA3.lt; replace hO3 := hO3.mono hb3 hO3.lt; replace hR3 := hR3.mono hb3 hR3.lt; replace h13 := h13.mono hb3 h13.lt; replace h23 := h23.mono hb3 h23.lt
  replace hw3 := hw3.trans (hb3.mono hw3.size)
  clear hb3 x1 x2 x3
  simp only [World.size_setCell] at ho3
  have x0 := hO3.cell 0; have x1 := hO3.cell 1; have x2 := hO3.cell 2; have x3 := hO3.cell 3; have x4 := hO3.cell 4; have x5 := hO3.cell 5
  have y3 := hO3.free 3; have y4 := hO3.free 4; have y5 := hO3.free 5
  have z4 := hA3.cell 4; have z5 := hA3.cell 5
  have r0 := hR3.cell 0; have r1 := hR3.cell 1; have r2 := hR3.cell 2; have r3 := hR3.cell 3; have r4 := hR3.cell 4; have r5 := hR3.cell 5
  have q0 := hR3.free 0; have q1 := hR3.free 1; have q2 := hR3.free 2; have q3 := hR3.free 3; have q4 := hR3.free 4; have q5 := hR3.free 5
  simp only [List.getElem?_cons_succ, List.getElem?_cons_zero, List.set_cons_succ, List.set_cons_zero] at x0 x1 x2 x3 x4 x5 z4 z5 r0 r1 r2 r3 r4 r5
  have hs2 := (unhide HO2).lt
  have HO3 := hide ho3; have HB3 := hide hw3; have H13 := hide h13; have H23 := hide h23; clear ho3 hw3 hA3 hO3 hR3 h13 h23 HA2 HP2 HR2 HA1 HP1 HR1 BW BA BO BR
  go_wp2
  refine bodyPost_ret (v := .agg #[.int .i64 N, .slice (some ⟨w.heap.size + 1 + 1 + 1, 0, none⟩) n1 n1, .slice (some ⟨w1.heap.size, 0, none⟩) n2 n2, .slice (some ⟨w2.heap.size, 0, none⟩) n3 n3, .int .i64 bot, .int .i64 top]) (by simp [results, Tryd.results20, go_sem, *]) rfl ⟨_, _, _, rfl, ?_, ?_, ?_, by omega, by omega, by omega, ?_⟩
  · iterate 9 refine Blk.other ?_ _ (by simp <;> omega)
    exact unhide H13
  · iterate 9 refine Blk.other ?_ _ (by simp <;> omega)
    exact unhide H23
  · iterate 9 refine Blk.other ?_ _ (by simp <;> omega)
    exact unhide HO3
  · iterate 9 refine Below.setCell ?_ (by simp <;> omega) _
    exact unhide HB3

/- Two lattices that hold the same are found equal. -/
set_option maxHeartbeats 1000000 in
theorem eqLattice_true (N bot top : Int) (a1 a2 a3 b1 b2 b3 : Option Addr) (n1 n2 n3 c1 c2 c3 d1 d2 d3 : Nat) (f : Nat → Bool) (g h : Nat → Int) (w : World)
    (hn1 : n1 ≤ 1048576) (hn2 : n2 ≤ 1048576) (hn3 : n3 ≤ 1048576)
    (ha : Bools w a1 n1 f) (hb : Ints w a2 n2 g) (hc : Ints w a3 n3 h) (ha' : Bools w b1 n1 f) (hb' : Ints w b2 n2 g) (hc' : Ints w b3 n3 h) :
    Calls Tryd.prog 13 #[.agg #[.int .i64 N, .slice a1 n1 c1, .slice a2 n2 c2, .slice a3 n3 c3, .int .i64 bot, .int .i64 top], .agg #[.int .i64 N, .slice b1 n1 d1, .slice b2 n2 d2, .slice b3 n3 d3, .int .i64 bot, .int .i64 top]] w fun e w' =>
      e = .returned (.bool true) ∧ Below w.heap.size w w' := by
  go_enter Tryd.func13, Tryd.ntmps13
  have bw : ∀ o1 o2, Below w.heap.size w ((w.alloc o1).alloc o2) := fun o1 o2 => ((Below.refl _ w).alloc (Nat.le_refl _) o1).alloc (by simp) o2
  have bA : ∀ (c1 c2 : Array Value) t1 t2, Blk ((w.alloc (.cells c1 t1)).alloc (.cells c2 t2)) w.heap.size t1 c1.toList := fun c1 c2 t1 t2 => (Blk.new w t1 c1).alloc _
  have bR : ∀ (c1 c2 : Array Value) t1 t2, Blk ((w.alloc (.cells c1 t1)).alloc (.cells c2 t2)) (w.heap.size + 1) t2 c2.toList := fun c1 c2 t1 t2 => by simpa using Blk.new (w.alloc (.cells c1 t1)) t2 c2
  have BW := hide bw; have BA := hide bA; have BR := hide bR; clear bw bA bR
  go_wp2_with fail
  refine (eqBoolS_same a1 b1 f f n1 c1 d1 _ (ha.mono (unhide BW _ _)) (ha'.mono (unhide BW _ _)) (by omega)).mono ?_
  rintro e w1 ⟨rfl, hb1⟩
  rw [show sameB n1 f f = true from sameB_true fun _ _ => rfl]
  have hA1 := (unhide BA _ _ _ _).mono hb1 (by simp; omega)
  have hR1 := (unhide BR _ _ _ _).mono hb1 (by simp)
  have hw1 : Below w.heap.size w w1 := (unhide BW _ _).trans (hb1.mono (by simp; omega))
  clear hb1
  have x2 := hA1.cell 2; have y2 := hR1.cell 2
  simp only [List.getElem?_cons_succ, List.getElem?_cons_zero] at x2 y2
  have HA1 := hide hA1; have HR1 := hide hR1; have HB1 := hide hw1; clear hA1 hR1 hw1 BW BA BR
  go_wp2_with fail
  refine (eqIntS_same a2 b2 g g n2 c2 d2 _ (hb.mono (unhide HB1)) (hb'.mono (unhide HB1)) (by omega)).mono ?_
  rintro e w2 ⟨rfl, hb2⟩
  rw [show sameI n2 g g = true from sameI_true fun _ _ => rfl]
  have hA1 := (unhide HA1).mono hb2 (unhide HA1).lt
  have hR1 := (unhide HR1).mono hb2 (unhide HR1).lt
  have hw1 : Below w.heap.size w w2 := (unhide HB1).trans (hb2.mono (unhide HB1).size)
  clear hb2 x2 y2
  have x2 := hA1.cell 3; have y2 := hR1.cell 3
  simp only [List.getElem?_cons_succ, List.getElem?_cons_zero] at x2 y2
  have HA2 := hide hA1; have HR2 := hide hR1; have HB2 := hide hw1; clear hA1 hR1 hw1 HA1 HR1
  go_wp2_with fail
  refine (eqIntS_same a3 b3 h h n3 c3 d3 _ (hc.mono (unhide HB2)) (hc'.mono (unhide HB2)) (by omega)).mono ?_
  rintro e w3 ⟨rfl, hb2⟩
  rw [show sameI n3 h h = true from sameI_true fun _ _ => rfl]
  have hA1 := (unhide HA2).mono hb2 (unhide HA2).lt
  have hR1 := (unhide HR2).mono hb2 (unhide HR2).lt
  have hw1 : Below w.heap.size w w3 := (unhide HB2).trans (hb2.mono (unhide HB2).size)
  clear hb2 x2 y2
  have x4 := hA1.cell 4; have y4 := hR1.cell 4; have x5 := hA1.cell 5; have y5 := hR1.cell 5
  simp only [List.getElem?_cons_succ, List.getElem?_cons_zero] at x4 y4 x5 y5
  have HB3 := hide hw1; clear hA1 hR1 hw1 HA2 HR2
  go_wp2
  go_ret
  exact ⟨rfl, unhide HB3⟩
end Go.Proofs.YtnmpkdmflijhpaaDoor
