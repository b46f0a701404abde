/- Rows that a call builds by append. -/
import Derived.Test.YtjgngbmkpiihgaaGreatDoorBase
namespace Go.Proofs.YtjgngbmkpiihgaaGreatDoor
open Go Go.RowKit

def ui (l : List Nat) : List Value := l.map fun u => .int .i64 ((u : Nat) : Int)
theorem ui_len (l : List Nat) : (ui l).length = l.length := by simp [ui]
theorem ints_of_owns {w : World} {base : Nat} {e : TypeId} {v : Value} {n : Nat} {us : List Nat} (h : w.ownsRow base e 1 v n (ui us)) :
    ∃ a cap, v = .slice a n cap ∧ Ints w a n (fun k => ((us.getD k 0 : Nat) : Int)) := by
  have hlen : us.length = n := by have := h.1; simpa [ui] using this
  rcases h.2 with ⟨rfl, rfl⟩ | ⟨g, cap, cur, rfl, hb, hg, hc, -, hs, htake⟩
  · exact ⟨none, 0, rfl, fun k hk => absurd hk (Nat.not_lt_zero _)⟩
  · refine ⟨_, cap, rfl, fun k hk => ⟨g, 0, rfl, (Array.getElem?_eq_some_iff.1 hg).1, ?_⟩⟩
    have := h.cellAt k (by omega)
    rw [Nat.zero_add, this]
    simp [ui, List.getD, List.getElem?_eq_getElem (show k < us.length by omega)]

theorem quiet_plus {P : Program} {f : FuncId} {args : Array Value} {w : World} {t n : Nat} {v : Value} (h : Calls P f args (w.drewN (t + n)) fun e w' => e = .returned v ∧ w' = w.drewN (t + n)) :
    Calls P f args (w.drewN (t + n)) fun e w'' => e = .returned v ∧ ∃ m, w'' = w.drewN (t + m) := h.mono fun _ _ ⟨he, hm⟩ => ⟨he, n, hm⟩
theorem owns_block {w : World} {base : Nat} {e : TypeId} {size : Nat} {v : Value} {n : Nat} {xs : List Value} (h : w.ownsRow base e size v n xs) {q : Nat} (hq : v.ownBlock = some q) : base ≤ q := by
  rcases h.2 with ⟨rfl, -⟩ | ⟨g, cap, cur, rfl, hb, -⟩
  · simp [Value.ownBlock] at hq
  · simp only [Value.ownBlock, Option.some.injEq] at hq; omega
theorem owns_none (w : World) (t : TypeId) : (w.alloc (.cells #[] t)).ownsRow w.heap.size t 1 (.slice (some ⟨w.heap.size, 0, none⟩) 0 0) 0 [] :=
  ⟨rfl, .inr ⟨w.heap.size, 0, #[], rfl, Nat.le_refl _, heap_alloc_new w (.cells #[] t), Nat.le_refl _, Nat.zero_le _, rfl, rfl⟩⟩
theorem infoI : (Tryz.prog.info? 3).map (fun i => (i.zero, i.size, i.bytes)) = some (some (.int .i64 0), 1, 8) := by kernel_rfl
theorem cell_one (w : World) (t : TypeId) (v : Value) : ∀ (j : Nat) (u : Value), [v][j]? = some u → (w.alloc (.cells #[v] t)).cell? ((⟨w.heap.size, 0, none⟩ : Addr).add j) = some u := fun j u h => by
  match j, h with
  | 0, h => simp at h; subst h; exact (Blk.new w t #[v]).cell 0
theorem owns_one (w : World) (t : TypeId) (v : Value) : (w.alloc (.cells #[v] t)).ownsRow w.heap.size t 1 (.slice (some ⟨w.heap.size, 0, none⟩) 1 1) 1 [v] :=
  ⟨rfl, .inr ⟨w.heap.size, 1, #[v], rfl, Nat.le_refl _, heap_alloc_new w (.cells #[v] t), Nat.le_refl _, by unfold maxLen; omega, rfl, rfl⟩⟩
end Go.Proofs.YtjgngbmkpiihgaaGreatDoor
