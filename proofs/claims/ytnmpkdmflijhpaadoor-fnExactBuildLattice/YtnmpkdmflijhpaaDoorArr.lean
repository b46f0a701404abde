/- Thirty-two sets by value: a whole array read and written at once. -/
import Derived.Test.YtnmpkdmflijhpaaDoorBits
import Derived.Deep.WholeRow
import Derived.Laws.ResultCell
namespace Go.Proofs.YtnmpkdmflijhpaaDoor
open Go Go.RowKit

/-- Thirty-two sets, as they lie in memory. -/
def us (g : Nat → Nat) : List Value := (List.range 32).map fun k => .int .u32 (g k : Int)
theorem us_length (g : Nat → Nat) : (us g).length = 32 := by simp [us]
theorem us_get (g : Nat → Nat) {k : Nat} (h : k < 32) : (us g)[k]? = some (.int .u32 (g k : Int)) := by simp [us, h]
theorem us_set (g : Nat → Nat) {k : Nat} (v : Nat) (h : k < 32) : (us g).set k (.int .u32 (v : Int)) = us (fun j => if j = k then v else g j) := by
  apply List.ext_getElem?
  intro j
  by_cases hj : j < 32
  · rw [us_get _ hj]
    by_cases e : j = k
    · subst e; rw [List.getElem?_set_self (by rw [us_length]; exact h)]; simp
    · rw [List.getElem?_set_ne (fun h => e h.symm), us_get _ hj]; simp [e]
  · rw [List.getElem?_eq_none (by simp [us_length]; omega), List.getElem?_eq_none (by rw [us_length]; omega)]


theorem us_one (g : Nat → Nat) : (us g).toArray.all (·.oneCell') = true := by
  rw [Array.all_eq_true_iff_forall_mem]
  intro v hv
  simp only [us, List.mem_toArray, List.mem_map] at hv
  obtain ⟨k, -, rfl⟩ := hv
  rfl
theorem size_sets : (Tryd.prog.info? 75).map (·.size) = some 32 := by kernel_rfl
theorem size_us (g : Nat → Nat) : (Tryd.prog.info? 75).map (·.size) = some (us g).toArray.size := by rw [size_sets]; simp [us]

section
variable {ops : Array Oper} {rest : List Oper} {o : Oper} {a : Act} {w : World} {Q : Exit → Act → World → Prop}
/-- Thirty-two sets read at once. -/
theorem wpList_load_sets (hgd : o.guard = none) (x : Operand) (ho : o.op = .load 75 x) (b : Nat) (g : Nat → Nat) (hx : a.eval x = .pointer (some ⟨b, 0, none⟩)) (hb : Blk w b 75 (us g))
    (h : wpList Tryd.prog ops Q rest (a.put o.dst (.agg (us g).toArray)) w) : wpList Tryd.prog ops Q (o :: rest) a w :=
  wpList_load_row hgd 75 x ho b hx 75 (us g).toArray (0, 0) _ hb Tryd.underlying75 rfl (size_us g) h
/-- Thirty-two sets written at once, into a variable of their own. -/
theorem wpList_store_sets (hgd : o.guard = none) (x y : Operand) (ho : o.op = .store 75 x y) (b : Nat) (g g' : Nat → Nat) (hx : a.eval x = .pointer (some ⟨b, 0, none⟩)) (hy : a.eval y = .agg (us g').toArray) (hb : Blk w b 75 (us g))
    (h : ∀ w', Blk w' b 75 (us g') → w.grownBy w' (some b) → w'.heap.size = w.heap.size → wpList Tryd.prog ops Q rest (a.put o.dst undef) w') : wpList Tryd.prog ops Q (o :: rest) a w :=
  wpList_plain hgd fun _ hK => wp_store_row 75 x y ho b (us g').toArray hx hy _ _ hb (size_us g') (by simp [us]) (us_one g')
    (hK _ _ (h _ (setRow_heap w b _ _ _ _ hb) ⟨rfl, rfl, rfl, by simp, fun k _ hk => setRow_other w b k _ (fun e => hk (by rw [e]))⟩ (by simp)))
end
end Go.Proofs.YtnmpkdmflijhpaaDoor
