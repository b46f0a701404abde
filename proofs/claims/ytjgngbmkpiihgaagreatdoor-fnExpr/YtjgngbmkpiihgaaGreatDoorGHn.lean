import Derived.Test.YtjgngbmkpiihgaaGreatDoorGOw
import Derived.Deep.RegionHeld3
import Derived.Deep.AppendLies
/- A region that draws its order, taken by hand: what yields, what is not wanted, a call, a store. -/
namespace Go.Proofs.YtjgngbmkpiihgaaGreatDoor
open Go Go.RowKit

section
variable {md : Region.Mode} {ops : Array Oper} {Q : Exit → Act → World → Prop} {S : World → Prop} {o : Oper} {a : Act}
theorem put_dst {a : Act} {o : Oper} {d : Tmp} {v : Value} (h : o.dst = some d) : a.put o.dst v = { tmps := a.tmps.setIfInBounds d v, defers := a.defers } := by rw [h]; rfl
theorem takeY {i : Nat} {v : Value} {fuel : Nat} {listed : Array Bool} {w : World} (d : Tmp) (hi : ops[i]? = some o) (hd : o.dst = some d) (hs : Region.noSelect ops = true) (hf : Region.free md ops listed i = true) (hr : (Region.ready md ops listed).contains i = true)
    (hQ : ∀ c (b : Act) (t : Array Value) w, Q (.panic c) { tmps := t, defers := b.defers } w → Q (.panic c) b w) (hw : Region.wanted o (yielded ops a.tmps) = true) (hy : ∀ w, S w → (execOp a.eval o).run Tryz.prog w = .ok (.value v) w) (hS : S w) (h : wpAnyH Tryz.prog md ops Q S fuel (listed.setIfInBounds i true) { tmps := a.tmps.setIfInBounds d v, defers := a.defers } w) : wpAnyH Tryz.prog md ops Q S (fuel + 1) listed a w :=
  wpAnyH_take hi hs hf hr (fun c a w h => hQ c a _ w (by rw [put_dst hd] at h; exact h)) (.inl ⟨hw, hy⟩) hS (by rw [put_dst hd]; exact h)
theorem takeN {i : Nat} {fuel : Nat} {listed : Array Bool} {w : World} (d : Tmp) (hi : ops[i]? = some o) (hd : o.dst = some d) (hs : Region.noSelect ops = true) (hf : Region.free md ops listed i = true) (hr : (Region.ready md ops listed).contains i = true)
    (hQ : ∀ c (b : Act) (t : Array Value) w, Q (.panic c) { tmps := t, defers := b.defers } w → Q (.panic c) b w) (hw : Region.wanted o (yielded ops a.tmps) = false) (hS : S w) (h : wpAnyH Tryz.prog md ops Q S fuel (listed.setIfInBounds i true) { tmps := a.tmps.setIfInBounds d undef, defers := a.defers } w) : wpAnyH Tryz.prog md ops Q S (fuel + 1) listed a w :=
  wpAnyH_take hi hs hf hr (fun c a w h => hQ c a _ w (by rw [put_dst hd] at h; exact h)) (.inr ⟨hw, rfl⟩) hS (by rw [put_dst hd]; exact h)
/-- The one operation that may come up is a call. -/
theorem callY {i : Nat} {fuel : Nat} {listed : Array Bool} {w : World} {f : FuncId} {args : Array Value} {R : Value → World → Prop} (d : Tmp) (hi : ops[i]? = some o) (hd : o.dst = some d) (hw : Region.wanted o (yielded ops a.tmps) = true) (hr : Region.ready md ops listed = [i])
    (hrun : (execOp a.eval o).run Tryz.prog w = .ok (.enter f args) w) (hc : Calls Tryz.prog f args w fun e w' => ∃ v, e = .returned v ∧ R v w')
    (h : ∀ v w', R v w' → S w' ∧ wpAnyH Tryz.prog md ops Q S fuel (listed.setIfInBounds i true) { tmps := a.tmps.setIfInBounds d v, defers := a.defers } w') : wpAnyH Tryz.prog md ops Q S (fuel + 1) listed a w := by
  refine wpAnyH_ready hr (by simp) (AllReadyH.cons hi (fun K hK => ?_) AllReadyH.nil)
  rw [if_pos hw]
  unfold Oper.wp
  rw [hrun, Oper.upon_enter]
  refine hc.mono ?_
  rintro e w' ⟨v, rfl, hR⟩
  obtain ⟨h1, h2⟩ := h v w' hR
  show K (a.put o.dst v) w'
  rw [put_dst hd]
  exact hK.out _ _ h1 (fun _ => h2)
/-- The one operation that may come up runs, and leaves no value. -/
theorem storeY {i : Nat} {fuel : Nat} {listed : Array Bool} {w w' : World} {v : Next} (hi : ops[i]? = some o) (hw : Region.wanted o (yielded ops a.tmps) = true) (hr : Region.ready md ops listed = [i])
    (hd : o.dst = none) (hrun : (execOp a.eval o).run Tryz.prog w = .ok v w') (hv : v = .skip) (hS : S w') (h : wpAnyH Tryz.prog md ops Q S fuel (listed.setIfInBounds i true) a w') : wpAnyH Tryz.prog md ops Q S (fuel + 1) listed a w := by
  subst hv
  refine wpAnyH_ready hr (by simp) (AllReadyH.cons hi (fun K hK => ?_) AllReadyH.nil)
  rw [if_pos hw]
  unfold Oper.wp
  rw [hrun, Oper.upon_skip, hd]
  exact hK.out _ _ hS (fun _ => h)
end
section
variable {md : Region.Mode} {ops : Array Oper} {Q : Exit → Act → World → Prop} {S : World → Prop} {o : Oper} {a : Act} {fuel : Nat} {listed : Array Bool} {i : Nat} {rs : List Nat} {w w' : World}
/-- One of the operations that may come up is a call. -/
theorem consCall {f : FuncId} {args : Array Value} {R : Value → World → Prop} (d : Tmp) (hi : ops[i]? = some o) (hd : o.dst = some d) (hw : Region.wanted o (yielded ops a.tmps) = true)
    (hrun : (execOp a.eval o).run Tryz.prog w = .ok (.enter f args) w) (hc : Calls Tryz.prog f args w fun e w' => ∃ v, e = .returned v ∧ R v w')
    (h : ∀ v w', R v w' → S w' ∧ wpAnyH Tryz.prog md ops Q S fuel (listed.setIfInBounds i true) { tmps := a.tmps.setIfInBounds d v, defers := a.defers } w') (hs : AllReadyH Tryz.prog md ops Q S fuel listed a w rs) : AllReadyH Tryz.prog md ops Q S fuel listed a w (i :: rs) := by
  refine AllReadyH.cons hi (fun K hK => ?_) hs
  rw [if_pos hw]
  unfold Oper.wp
  rw [hrun, Oper.upon_enter]
  refine hc.mono ?_
  rintro e w' ⟨v, rfl, hR⟩
  obtain ⟨h1, h2⟩ := h v w' hR
  show K (a.put o.dst v) w'
  rw [put_dst hd]
  exact hK.out _ _ h1 (fun _ => h2)
/-- One of the operations that may come up runs, and leaves a value. -/
theorem consRun {v : Value} (d : Tmp) (hi : ops[i]? = some o) (hd : o.dst = some d) (hw : Region.wanted o (yielded ops a.tmps) = true)
    (hrun : (execOp a.eval o).run Tryz.prog w = .ok (.value v) w') (hS : S w') (h : wpAnyH Tryz.prog md ops Q S fuel (listed.setIfInBounds i true) { tmps := a.tmps.setIfInBounds d v, defers := a.defers } w') (hs : AllReadyH Tryz.prog md ops Q S fuel listed a w rs) : AllReadyH Tryz.prog md ops Q S fuel listed a w (i :: rs) := by
  refine AllReadyH.cons hi (fun K hK => ?_) hs
  rw [if_pos hw]
  unfold Oper.wp
  rw [hrun]
  show K (a.put o.dst v) w'
  rw [put_dst hd]
  exact hK.out _ _ hS (fun _ => h)
end
end Go.Proofs.YtjgngbmkpiihgaaGreatDoor

/- A frame behind a draw. -/
namespace Go.Proofs.YtjgngbmkpiihgaaGreatDoor
open Go Go.RowKit

theorem below_of_drew {B : Nat} {w w' : World} (h : Below B w.drew w') : Below B w w' := ⟨h.os, h.tape, h.output, h.size, h.block⟩
end Go.Proofs.YtjgngbmkpiihgaaGreatDoor

/- An append in a region that draws its order, taken by hand. -/
namespace Go.Proofs.YtjgngbmkpiihgaaGreatDoor
open Go Go.RowKit

section
variable {md : Region.Mode} {ops : Array Oper} {Q : Exit → Act → World → Prop} {S : World → Prop} {o : Oper} {a : Act}
/-- The one operation that may come up is an append. -/
theorem appY {i : Nat} {fuel : Nat} {listed : Array Bool} {w : World} (d : Tmp) (hi : ops[i]? = some o) (hd : o.dst = some d) (hgd : o.guard = none) (hr : Region.ready md ops listed = [i]) (s x : Operand) (t : TypeId)
    (ho : o.op = .call { callee := .builtin .append, args := #[s, x], argTypes := #[t, t] })
    (base : Nat) (e : TypeId) (i0 : TypeInfo) (z : Value) (size bytes : Nat) (ht : Tryz.prog.underlying t = some (.slice e)) (hi0 : Tryz.prog.info? e = some i0) (hz : i0.zero = some z)
    (hsize : i0.size = size) (hby : i0.bytes = bytes) (hzs : z.cells.size = size) (hsz : 0 < size)
    (v : Value) (n : Nat) (xs : List Value) (hs : a.eval s = v) (hown : w.ownsRow base e size v n xs)
    (ad : Addr) (m c : Nat) (news : List Value) (hx : a.eval x = .slice (some ad) m c) (hl : news.length = m * size) (hnews : ∀ j u, news[j]? = some u → w.cell? (ad.add j) = some u) (h1 : ∀ u ∈ news, u.oneCell' = true)
    (hm : 0 < m) (h63 : n + m ≤ maxLen) (hbytes : (n + m) * bytes ≤ 140737488355328) (hbase : base ≤ w.heap.size) (H : Nat) (hH : w.heap.size = H)
    (h : ∀ g cap w', w'.ownsRow base e size (.slice (some ⟨g, 0, none⟩) (n + m) cap) (n + m) (xs ++ news) → w.grownBy w' v.ownBlock → (v.ownBlock = some g ∨ g = H) → g < w'.heap.size → S w' ∧ wpAnyH Tryz.prog md ops Q S fuel (listed.setIfInBounds i true) { tmps := a.tmps.setIfInBounds d (.slice (some ⟨g, 0, none⟩) (n + m) cap), defers := a.defers } w') : wpAnyH Tryz.prog md ops Q S (fuel + 1) listed a w :=
  wpAnyH_ready hr (by simp) (AllReadyH.cons hi (fun K hK => step_append_lies w hgd s x t ho base e i0 z size bytes ht hi0 hz hsize hby hzs hsz v n xs hs hown ad m c news hx hl hnews h1 hm h63 hbytes hbase H hH (fun g cap w' a1 a2 a3 a4 => by
    rw [put_dst hd]
    obtain ⟨k1, k2⟩ := h g cap w' a1 a2 a3 a4
    exact hK.out _ _ k1 (fun _ => k2))) AllReadyH.nil)
end
end Go.Proofs.YtjgngbmkpiihgaaGreatDoor
