/- A block of so many cells that may be written. -/
import Derived.Test.YtalgidagiojbpaaGreatDoorQBase
namespace Go.Proofs.YtalgidagiojbpaaGreatDoor
open Go Go.RowKit
def Bk (w : World) (g : Nat) (t : TypeId) (n : Nat) : Prop := ∃ cs, Blk w g t cs /\ cs.length = n
theorem Bk.lt {w : World} {g : Nat} {t : TypeId} {n : Nat} (h : Bk w g t n) : g < w.heap.size := h.elim fun _ h => h.1.lt
theorem Bk.mono {w w' : World} {B g : Nat} {t : TypeId} {n : Nat} (h : Bk w g t n) (hb : Below B w w') (hg : g < B) : Bk w' g t n := h.elim fun cs h => ⟨cs, h.1.mono hb hg, h.2⟩
theorem Bk.keep {w w' : World} {g : Nat} {t : TypeId} {n : Nat} (h : Bk w g t n) (hk : w'.heap[g]? = w.heap[g]?) : Bk w' g t n := h.elim fun cs h => ⟨cs, hk.trans h.1, h.2⟩
theorem Bk.other {w : World} {g : Nat} {t : TypeId} {n : Nat} (h : Bk w g t n) {R : Nat} (hR : g ≠ R) (j : Nat) (v : Value) : Bk (w.setCell ⟨R, j, none⟩ v) g t n := h.elim fun cs h => ⟨cs, h.1.other v hR, h.2⟩
theorem Bk.set {w : World} {g : Nat} {t : TypeId} {n : Nat} (h : Bk w g t n) (j : Nat) (v : Value) : Bk (w.setCell ⟨g, j, none⟩ v) g t n := h.elim fun cs h => ⟨cs.set j v, h.1.set j v, by rw [List.length_set]; exact h.2⟩
theorem Bk.cell {w : World} {g : Nat} {t : TypeId} {n : Nat} (h : Bk w g t n) {j : Nat} (hj : j < n) : ∃ v, w.cell? ⟨g, j, none⟩ = some v := h.elim fun cs h => ⟨_, (h.1.cell j).trans (List.getElem?_eq_getElem (by rw [h.2]; exact hj))⟩
theorem Bk.free {w : World} {g : Nat} {t : TypeId} {n : Nat} (h : Bk w g t n) (j : Nat) : w.frozen? ⟨g, j, none⟩ = false := h.elim fun _ h => h.1.free j
end Go.Proofs.YtalgidagiojbpaaGreatDoor
