/- The program's stack of phrases in memory. -/
import Derived.Test.YtonmaniehocbbaaDoorIpE3
import Derived.Test.YtonmaniehocbbaaDoorSpE6
namespace Go.Proofs.YtonmaniehocbbaaDoor
open Go Go.RowKit

def phV (l : List Ph) : List Value := l.flatMap fun p => [.string p.t, .int .i64 p.lv, .int .i64 p.d]
theorem phV_len (l : List Ph) : (phV l).length = l.length * 3 := by
  induction l with
  | nil => rfl
  | cons p r ih => simp only [phV, List.flatMap_cons, List.length_append, List.length_cons, List.length_nil] at *; omega
theorem phV_append (l r : List Ph) : phV (l ++ r) = phV l ++ phV r := by simp [phV]
theorem phV_get (l : List Ph) (k : Nat) (h : k < l.length) : (phV l)[k * 3]? = some (.string l[k].t) ∧ (phV l)[k * 3 + 1]? = some (.int .i64 l[k].lv) ∧ (phV l)[k * 3 + 2]? = some (.int .i64 l[k].d) := by
  induction l generalizing k with
  | nil => cases h
  | cons p r ih =>
    cases k with
    | zero => exact ⟨rfl, rfl, rfl⟩
    | succ k =>
      have := ih k (by simpa using h)
      rw [show (k + 1) * 3 = k * 3 + 1 + 1 + 1 by omega]
      simpa [phV] using this
theorem phV_take (l : List Ph) (k : Nat) : (phV l).take (k * 3) = phV (l.take k) := by
  induction l generalizing k with
  | nil => simp [phV]
  | cons p r ih =>
    cases k with
    | zero => simp [phV]
    | succ k =>
      rw [show (k + 1) * 3 = k * 3 + 1 + 1 + 1 by omega]
      have := ih k
      simp only [phV, List.flatMap_cons, List.take_succ_cons] at *
      simp [this]
theorem info_ph : (Tryd.prog.info? 57).map (fun i => (i.zero, i.size, i.bytes)) = some (some (.agg #[.string ⟨#[]⟩, .int .i64 0, .int .i64 0]), 3, 32) := by kernel_rfl

/-- The slice v holds these phrases, in memory of its own. -/
def StkV (w : World) (B : Nat) (v : Value) (l : List Ph) : Prop := w.ownsRow B 57 3 v l.length (phV l)
theorem StkV.shape {w : World} {B : Nat} {v : Value} {l : List Ph} (h : StkV w B v l) : ∃ a cap, v = .slice a l.length cap ∧ l.length ≤ cap ∧ (a = none → l = [] ∧ cap = 0) ∧ (∀ g o f, a = some ⟨g, o, f⟩ → o = 0 ∧ f = none ∧ B ≤ g ∧ g < w.heap.size) := by
  rcases h.2 with ⟨rfl, h0⟩ | ⟨g, cap, cur, rfl, hb, hg, hc, -, hs, htake⟩
  · exact ⟨none, 0, by rw [h0], by omega, fun _ => ⟨List.length_eq_zero_iff.1 h0, rfl⟩, fun _ _ _ h => by cases h⟩
  · exact ⟨_, cap, rfl, hc, fun h => (by cases h), fun g' o f h => by cases h; exact ⟨rfl, rfl, hb, (Array.getElem?_eq_some_iff.1 hg).1⟩⟩
theorem StkV.cell {w : World} {B : Nat} {g cap : Nat} {l : List Ph} (h : StkV w B (.slice (some ⟨g, 0, none⟩) l.length cap) l) (j : Nat) (hj : j < l.length * 3) : w.cell? ⟨g, j, none⟩ = (phV l)[j]? := World.ownsRow.cellAt (show w.ownsRow B 57 3 _ _ _ from h) j hj
/-- What stands at and behind place r, as a slice of its own. -/
theorem StkV.from {w : World} {B : Nat} {a : Option Addr} {cap : Nat} {l : List Ph} (h : StkV w B (.slice a l.length cap) l) (r : Nat) (hr : r ≤ l.length) :
    Phs w (if cap = r then a else a.map (·.add (r * 3))) (l.drop r) := by
  intro k hk
  rw [List.length_drop] at hk
  obtain ⟨a', cap', e, hc, hn, hs⟩ := h.shape
  simp only [Value.slice.injEq, true_and] at e
  obtain ⟨rfl, rfl⟩ := e
  cases a with
  | none => obtain ⟨rfl, -⟩ := hn rfl; simp at hk
  | some ad =>
    obtain ⟨g, o, f⟩ := ad
    obtain ⟨rfl, rfl, -, hlt⟩ := hs g o f rfl
    rw [if_neg (by omega)]
    refine ⟨g, r * 3, by simp [Addr.add]; omega, ?_⟩
    have hg := phV_get l (r + k) (by omega)
    rw [List.getElem_drop]
    exact ⟨hlt, by rw [← Nat.add_mul, h.cell _ (by omega)]; exact hg.1, by rw [← Nat.add_mul, h.cell _ (by omega)]; exact hg.2.1, by rw [← Nat.add_mul, h.cell _ (by omega)]; exact hg.2.2⟩
/-- The first r of them, in the same memory. -/
theorem StkV.upto {w : World} {B : Nat} {a : Option Addr} {cap : Nat} {l : List Ph} (h : StkV w B (.slice a l.length cap) l) (r : Nat) (hr : r ≤ l.length) : StkV w B (.slice a r cap) (l.take r) := by
  have hl : (l.take r).length = r := by rw [List.length_take]; omega
  unfold StkV
  rw [hl]
  refine ⟨by rw [phV_len, hl], ?_⟩
  rcases h.2 with ⟨e, h0⟩ | ⟨g, cap', cur, e, hb, hg, hc, hx, hs, htake⟩
  · simp only [Value.slice.injEq] at e
    obtain ⟨rfl, -, rfl⟩ := e
    exact .inl ⟨by rw [show r = 0 by omega], by omega⟩
  · simp only [Value.slice.injEq, true_and] at e
    obtain ⟨rfl, rfl⟩ := e
    refine .inr ⟨g, cap, cur, rfl, hb, hg, by omega, hx, hs, ?_⟩
    rw [← phV_take, ← htake, List.take_take, Nat.min_eq_left (by omega)]
theorem StkV.mono {w w' : World} {B : Nat} {v : Value} {l : List Ph} (h : StkV w B v l) (hb : Below w.heap.size w w') : StkV w' B v l := by
  refine ⟨h.1, ?_⟩
  rcases h.2 with h' | ⟨g, cap, cur, e, hB, hg, hc, hx, hs, htake⟩
  · exact .inl h'
  · exact .inr ⟨g, cap, cur, e, hB, (hb.block g (Array.getElem?_eq_some_iff.1 hg).1).trans hg, hc, hx, hs, htake⟩
theorem StkV.other {w : World} {B : Nat} {v : Value} {l : List Ph} (h : StkV w B v l) {b : Nat} (hb : v.ownBlock ≠ some b) (j : Nat) (u : Value) : StkV (w.setCell ⟨b, j, none⟩ u) B v l := by
  refine ⟨h.1, ?_⟩
  rcases h.2 with h' | ⟨g, cap, cur, e, hB, hg, hc, hx, hs, htake⟩
  · exact .inl h'
  · refine .inr ⟨g, cap, cur, e, hB, (heap_setCell_other w ⟨b, j, none⟩ g u ?_).trans hg, hc, hx, hs, htake⟩
    rintro rfl
    exact hb (by rw [e]; rfl)
theorem take_reverse_drop {α : Type} (l : List α) (k : Nat) (h : k ≤ l.length) : l.reverse.drop (l.length - k) = (l.take k).reverse := by
  rw [List.drop_reverse]; congr 1; congr 1; omega
theorem take_reverse_take {α : Type} (l : List α) (k : Nat) (h : k ≤ l.length) : l.reverse.take (l.length - k) = (l.drop k).reverse := by
  rw [List.take_reverse]; congr 1; congr 1; omega
end Go.Proofs.YtonmaniehocbbaaDoor
