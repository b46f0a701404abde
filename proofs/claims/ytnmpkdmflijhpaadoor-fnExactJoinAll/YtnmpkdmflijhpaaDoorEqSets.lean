/- Thirty-two sets compared at once; impl.sameBounds. -/
import Derived.Test.YtnmpkdmflijhpaaDoorArr
import Derived.Test.YtnmpkdmflijhpaaDoorWays
namespace Go.Proofs.YtnmpkdmflijhpaaDoor
open Go Go.RowKit

theorem info_set : (Tryd.prog.info? 73).map (fun i => (i.zero, i.size, i.bytes)) = some (some (.agg #[.int .u32 0]), 1, 4) := by kernel_rfl
theorem cells_set : Tryd.prog.cellsOf 73 = 1 := by kernel_rfl
def sameN (g g' : Nat → Nat) : Bool := (List.range 32).all fun i => g i == g' i
theorem sameN_iff {g g' : Nat → Nat} : sameN g g' = true ↔ ∀ i, i < 32 → g i = g' i := by simp [sameN]
theorem us_part (g : Nat → Nat) {i : Nat} (hi : i < 32) : List.take 1 (List.drop i (us g)) = [.int .u32 (g i : Int)] := by
  have h := us_get g hi
  rw [List.getElem?_eq_some_iff] at h
  obtain ⟨h1, h2⟩ := h
  rw [List.drop_eq_getElem_cons h1, List.take_succ_cons, List.take_zero, h2]
theorem run_part (g : Nat → Nat) {i : Nat} (hi : i < 32) (w : World) : (Go.part 73 (us g).toArray i).run Tryd.prog w = .ok (.agg #[.int .u32 (g i : Int)]) w := by
  have := us_part g hi
  simp [Go.part, go_sem, this]
theorem eq_items (d : Nat) (g g' : Nat → Nat) (w : World) : ∀ is : List Nat, (∀ i ∈ is, i < 32) → (Op.eqItems (d + 2) 73 1 (us g).toArray (us g').toArray is).run Tryd.prog w = .ok (is.all fun i => g i == g' i) w
  | [], _ => by simp [Op.eqItems]
  | i :: is, h => by
    have hi := h i (List.mem_cons_self ..)
    simp only [Op.eqItems, Sem.run_bind, Nat.mul_one, run_part g hi, run_part g' hi, Result.andThen_ok, eq_set]
    cases e : (g i == g' i)
    · have : ((g i : Int) == (g' i : Int)) = false := by simp at e ⊢; exact_mod_cast e
      simp [this, e]
    · have : ((g i : Int) == (g' i : Int)) = true := by simp at e ⊢; exact_mod_cast e
      simp only [this, List.all_cons, e, Bool.true_and]
      simpa using eq_items d g g' w is (fun j hj => h j (List.mem_cons_of_mem _ hj))
theorem eq_sets (d : Nat) (g g' : Nat → Nat) (w : World) : (Op.equalIn (d + 3) 75 (.agg (us g).toArray) (.agg (us g').toArray)).run Tryd.prog w = .ok (sameN g g') w := by
  obtain ⟨i0, hi, -⟩ := info_parts info_set
  rw [run_equalIn_array w (d + 2) _ _ Tryd.underlying75 hi, cells_set]
  exact eq_items d g g' w _ (fun i h => List.mem_range.1 h)

/-- Whether two lattices have the same bounds. -/
def sameV (bot bot' top top' : Int) (m : Nat) (f f' g g' : Nat → Int) : Bool := bot == bot' && top == top' && sameI m f f' && sameI m g g'
set_option maxHeartbeats 2000000 in
theorem sameBounds_any (N N' bot top bot' top' : Int) (a1 a2 a3 b1 b2 b3 : Option Addr) (n1 n1' m c1 c2 c3 d1 d2 d3 : Nat) (f f' g g' : Nat → Int) (w : World) (hm : m ≤ 1048576)
    (hb : Ints w a2 m f) (hc : Ints w a3 m g) (hb' : Ints w b2 m f') (hc' : Ints w b3 m g') :
    Calls Tryd.prog 59 #[.agg #[.int .i64 N, .slice a1 n1 c1, .slice a2 m c2, .slice a3 m c3, .int .i64 bot, .int .i64 top], .agg #[.int .i64 N', .slice b1 n1' d1, .slice b2 m d2, .slice b3 m d3, .int .i64 bot', .int .i64 top']] w fun e w' =>
      e = .returned (.bool (sameV bot bot' top top' m f f' g g')) ∧ Below w.heap.size w w' := by
  have bw : ∀ o1 o2, Below w.heap.size w ((w.alloc o1).alloc o2) := fun o1 o2 => ((Below.refl _ w).alloc (Nat.le_refl _) o1).alloc (by simp) o2
  have bA : ∀ (c1 c2 : Array Value) t1 t2, Blk ((w.alloc (.cells c1 t1)).alloc (.cells c2 t2)) w.heap.size t1 c1.toList := fun c1 c2 t1 t2 => (Blk.new w t1 c1).alloc _
  have bR : ∀ (c1 c2 : Array Value) t1 t2, Blk ((w.alloc (.cells c1 t1)).alloc (.cells c2 t2)) (w.heap.size + 1) t2 c2.toList := fun c1 c2 t1 t2 => by simpa using Blk.new (w.alloc (.cells c1 t1)) t2 c2
  have BW := hide bw; have BA := hide bA; have BR := hide bR; clear bw bA bR
  cases e1 : (bot == bot')
  · have HR : Hid (sameV bot bot' top top' m f f' g g' = false) := by simp [Hid, sameV, e1]
    go_enter Tryd.func59, Tryd.ntmps59
    go_wp2
    go_ret
    exact ⟨ret_bool (unhide HR).symm, unhide BW _ _⟩
  cases e2 : (top == top')
  · have HR : Hid (sameV bot bot' top top' m f f' g g' = false) := by simp [Hid, sameV, e2]
    go_enter Tryd.func59, Tryd.ntmps59
    go_wp2
    go_ret
    exact ⟨ret_bool (unhide HR).symm, unhide BW _ _⟩
  cases e3 : sameI m f f'
  · have HR : Hid (sameV bot bot' top top' m f f' g g' = false) := by simp [Hid, sameV, e3]
    go_enter Tryd.func59, Tryd.ntmps59
    go_wp2_with fail
    refine (equal_any a2 b2 f f' m c2 d2 _ (hb.mono (unhide BW _ _)) (hb'.mono (unhide BW _ _)) (by omega)).mono ?_
    rintro e w1 ⟨rfl, hb1⟩
    rw [e3]
    have HW := hide ((unhide BW _ _).trans (hb1.mono (by simp; omega))); clear hb1
    go_wp2
    go_ret
    exact ⟨ret_bool (unhide HR).symm, unhide HW⟩
  have HR : Hid (sameV bot bot' top top' m f f' g g' = sameI m g g') := by simp [Hid, sameV, e1, e2, e3]
  go_enter Tryd.func59, Tryd.ntmps59
  go_wp2_with fail
  refine (equal_any a2 b2 f f' m c2 d2 _ (hb.mono (unhide BW _ _)) (hb'.mono (unhide BW _ _)) (by omega)).mono ?_
  rintro e w1 ⟨rfl, hb1⟩
  rw [e3]
  have hA1 := (unhide BA _ _ _ _).mono hb1 (by simp; omega)
  have hR1 := (unhide BR _ _ _ _).mono hb1 (by simp)
  have x3 := hA1.cell 3; have y3 := hR1.cell 3
  simp only [List.getElem?_cons_succ, List.getElem?_cons_zero] at x3 y3
  have HW := hide ((unhide BW _ _).trans (hb1.mono (by simp; omega))); clear hb1 hA1 hR1
  go_wp2_with fail
  refine (equal_any a3 b3 g g' m c3 d3 _ (hc.mono (unhide HW)) (hc'.mono (unhide HW)) (by omega)).mono ?_
  rintro e w2 ⟨rfl, hb2⟩
  have HW2 := hide ((unhide HW).trans (hb2.mono (unhide HW).size)); clear hb2
  go_wp2
  go_ret
  exact ⟨ret_bool (unhide HR).symm, unhide HW2⟩
end Go.Proofs.YtnmpkdmflijhpaaDoor
