/- Orders in package laws: size, copy, comparison, marks: the whole. -/
import Derived.Test.YtnmpkdmflijhpaaDoorPairL
namespace Go.Proofs.YtnmpkdmflijhpaaDoor
open Go Go.RowKit

theorem pairO {w : World} {b : Nat} {t : TypeId} {v0 v1 : Value} (h : Blk w b t [v0, v1]) :
    (w.cell? ⟨b, 0, none⟩ = some v0 ∧ w.cell? ⟨b, 1, none⟩ = some v1) ∧ (w.frozen? ⟨b, 0, none⟩ = false ∧ w.frozen? ⟨b, 1, none⟩ = false) := ⟨⟨h.cell 0, h.cell 1⟩, ⟨h.free 0, h.free 1⟩⟩

theorem Pairs.other {w : World} {G m : Nat} {f g : Nat → Int} (h : Pairs w (some ⟨G, 0, none⟩) m f g) {R : Nat} (hR : G ≠ R) (j : Nat) (v : Value) : Pairs (w.setCell ⟨R, j, none⟩ v) (some ⟨G, 0, none⟩) m f g := fun k hk => by
  obtain ⟨b, off, e, h1, h2, h3⟩ := h k hk
  simp only [Option.some.injEq, Addr.mk.injEq, and_true] at e
  obtain ⟨rfl, rfl⟩ := e
  have hx := heap_setCell_other w ⟨R, j, none⟩ G v hR
  exact ⟨G, 0, rfl, by simpa using h1, (World.cell?_of_block (a := ⟨G, 0 + k * 2, none⟩) hx).trans h2, (World.cell?_of_block (a := ⟨G, 0 + k * 2 + 1, none⟩) hx).trans h3⟩

set_option maxHeartbeats 400000 in
theorem szOrder_any (N : Int) (a : Option Addr) (m c : Nat) (w : World) (hm : m ≤ 9223372036854775807) :
    Calls Tryd.prog 9 #[.agg #[.int .i64 N, .slice a m c], .int .i64 1048576] w fun e w' => e = .returned (.int .i64 (if m ≤ 1048576 then 1048576 - (m : Int) else -1)) ∧ Below w.heap.size w w' := by
  by_cases h : m ≤ 1048576
  · have h' : ¬ (1048576 : Int) - m < 0 := by omega
    rw [if_pos h]
    go_enter Tryd.func9, Tryd.ntmps9
    go_wp2
    go_ret
    exact ⟨rfl, (Below.refl _ _).alloc (Nat.le_refl _) _⟩
  · have h' : (1048576 : Int) - m < 0 := by omega
    rw [if_neg h]
    go_enter Tryd.func9, Tryd.ntmps9
    go_wp2
    go_ret
    exact ⟨rfl, (Below.refl _ _).alloc (Nat.le_refl _) _⟩

set_option maxRecDepth 100000 in
set_option maxHeartbeats 1000000 in
theorem toOrder_any (N : Int) (a : Option Addr) (m c : Nat) (f g : Nat → Int) (w : World) (hm : m ≤ 1048576) (ha : Pairs w a m f g) :
    Calls Tryd.prog 11 #[.agg #[.int .i64 N, .slice a m c]] w fun e w' => ∃ G, e = .returned (.agg #[.int .i64 N, .slice (some ⟨G, 0, none⟩) m m]) ∧ Pairs w' (some ⟨G, 0, none⟩) m f g ∧ (∃ xs, Blk w' G 93 xs ∧ xs.length = m * 2) ∧ w.heap.size ≤ G ∧ Below w.heap.size w w' := by
  obtain ⟨W, hW⟩ : ∃ W, (((w.alloc (.cells #[.int .i64 N, .slice a m c] 24)).alloc (.cells #[.int .i64 0, .slice none 0 0] 34)).alloc (.cells #[.int .i64 N, .slice none 0 0] 34)) = W := ⟨_, rfl⟩
  have bR : Blk W (w.heap.size + 1) 34 [.int .i64 0, .slice none 0 0] := by rw [← hW]; simpa using (Blk.new (w.alloc (.cells #[.int .i64 N, .slice a m c] 24)) 34 #[.int .i64 0, .slice none 0 0]).alloc (.cells #[.int .i64 N, .slice none 0 0] 34)
  have bO : Blk W (w.heap.size + 1 + 1) 34 [.int .i64 N, .slice none 0 0] := by rw [← hW]; simpa using Blk.new ((w.alloc (.cells #[.int .i64 N, .slice a m c] 24)).alloc (.cells #[.int .i64 0, .slice none 0 0] 34)) 34 #[.int .i64 N, .slice none 0 0]
  have bA : Blk W w.heap.size 24 [.int .i64 N, .slice a m c] := by rw [← hW]; exact ((Blk.new w 24 #[.int .i64 N, .slice a m c]).alloc _).alloc _
  obtain ⟨⟨q0, q1⟩, -⟩ := pairO bA
  have hb : Below w.heap.size w W := by rw [← hW]; exact (((Below.refl _ w).alloc (Nat.le_refl _) _).alloc (by simp) _).alloc (by simp; omega) _
  have hs : W.heap.size = w.heap.size + 1 + 1 + 1 := by rw [← hW]; simp
  have HA := hide (ha.mono hb)
  have HR := hide bR; have HO := hide bO; have HB := hide hb; have HS := hide hs
  clear bR bO hb hs ha bA
  go_enter Tryd.func11, Tryd.ntmps11
  go_wp2_with fail
  try rw [hW]
  clear hW
  refine (toPairS_any a f g m c _ (unhide HA) hm).mono ?_
  rintro e w1 ⟨rfl, hP, ⟨xs, hX, hXl⟩, hb1⟩
  have R1 := (unhide HR).mono hb1 (unhide HR).lt; have O1 := (unhide HO).mono hb1 (unhide HO).lt
  have B1 := (unhide HB).trans (hb1.mono (unhide HB).size)
  have hs := unhide HS
  obtain ⟨G, hG⟩ : ∃ G, W.heap.size = G := ⟨_, rfl⟩
  rw [hG] at hP hX hs ⊢
  obtain ⟨⟨r0, r1⟩, ⟨f0, f1⟩⟩ := pairO R1
  obtain ⟨⟨o0, o1⟩, ⟨g0, g1⟩⟩ := pairO O1
  have HX := hide hX; have HP := hide hP; have HB1 := hide B1; have HXL := hide hXl
  have hGs : w.heap.size + 1 + 1 < G := by omega
  clear hb1 hG hX hP R1 O1 B1 hXl HA HR HO HB HS hs q0 q1
  go_wp2
  refine bodyPost_ret (v := .agg #[.int .i64 N, .slice (some ⟨G, 0, none⟩) m m]) (by simp [results, Tryd.results11, go_sem, *]) rfl ⟨G, rfl, ?_, ⟨xs, ?_, unhide HXL⟩, by omega, ?_⟩
  · exact (((unhide HP).other (by omega) _ _).other (by omega) _ _).other (by omega) _ _
  · exact (((unhide HX).other _ (by simp; omega)).other _ (by simp; omega)).other _ (by simp; omega)
  · exact (((unhide HB1).setCell (by simp; omega) _).setCell (by simp) _).setCell (by simp) _

set_option maxRecDepth 100000 in
set_option maxHeartbeats 1000000 in
theorem eqPair_refl (x y : Int) (w : World) :
    Calls Tryd.prog 88 #[.agg #[.int .i64 x, .int .i64 y], .agg #[.int .i64 x, .int .i64 y]] w fun e w' => e = .returned (.bool true) ∧ Below w.heap.size w w' := by
  have hB : ∀ o1 o2, Below w.heap.size w ((w.alloc o1).alloc o2) := fun o1 o2 => ((Below.refl _ w).alloc (Nat.le_refl _) o1).alloc (by simp) o2
  have HB := hide hB; clear hB
  go_enter Tryd.func88, Tryd.ntmps88
  go_wp2
  go_ret
  exact ⟨rfl, unhide HB _ _⟩
end Go.Proofs.YtnmpkdmflijhpaaDoor
