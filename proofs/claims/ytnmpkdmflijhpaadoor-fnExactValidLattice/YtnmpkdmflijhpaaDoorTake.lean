/- A region that draws its order and reads several long arrays: its readings taken first, one by one. -/
import Derived.Test.YtnmpkdmflijhpaaDoorBounds
namespace Go.Proofs.YtnmpkdmflijhpaaDoor
open Go Go.RowKit

section
variable {md : Region.Mode} {ops : Array Oper} {Q : Exit → Act → World → Prop} {S : World → Prop} {o : Oper} {a : Act}
theorem yields_sets (hw : Region.wanted o (yielded ops a.tmps) = true) (x : Operand) (ho : o.op = .load 75 x) (b : Nat) (g : Nat → Nat) (hx : a.eval x = .pointer (some ⟨b, 0, none⟩)) (hS : ∀ w, S w → Blk w b 75 (us g)) : YieldsIf Tryd.prog ops S o (.agg (us g).toArray) a :=
  .inl ⟨hw, fun w h => by simp only [execOp, ho, hx, Sem.run_bind, Sem.run_pure, run_sets (hS w h), Result.andThen_ok]⟩
theorem yields_move (hw : Region.wanted o (yielded ops a.tmps) = true) (x : Operand) (v : Value) (ho : o.op = .move x) (hx : a.eval x = v) : YieldsIf Tryd.prog ops S o v a :=
  .inl ⟨hw, fun w _ => by rw [BigFrame.run_move x ho, hx]⟩
theorem yields_set (hw : Region.wanted o (yielded ops a.tmps) = true) (x : Operand) (ho : o.op = .load 73 x) (b off : Nat) (v : Value) (hx : a.eval x = .pointer (some ⟨b, off, none⟩)) (hS : ∀ w, S w → w.cell? ⟨b, off, none⟩ = some v) : YieldsIf Tryd.prog ops S o (.agg #[v]) a :=
  .inl ⟨hw, fun w h => by have h' := hS w h; simp only [execOp, ho, hx]; simp [go_sem, h']⟩
theorem put_some {a : Act} {o : Oper} {d : Tmp} {v : Value} (h : o.dst = some d) : a.put o.dst v = { tmps := a.tmps.setIfInBounds d v, defers := a.defers } := by rw [h]; rfl
theorem take {i : Nat} {v : Value} {fuel : Nat} {listed : Array Bool} {w : World} (d : Tmp) (hi : ops[i]? = some o) (hd : o.dst = some d) (hs : Region.noSelect ops = true) (hf : Region.free md ops listed i = true) (hr : (Region.ready md ops listed).contains i = true)
    (hQ : ∀ c (b : Act) (t : Array Value) w, Q (.panic c) { tmps := t, defers := b.defers } w → Q (.panic c) b w) (hy : YieldsIf Tryd.prog ops S o v a) (hS : S w) (h : wpAnyH Tryd.prog md ops Q S fuel (listed.setIfInBounds i true) { tmps := a.tmps.setIfInBounds d v, defers := a.defers } w) : wpAnyH Tryd.prog md ops Q S (fuel + 1) listed a w :=
  wpAnyH_take hi hs hf hr (fun c a w h => hQ c a _ w (by rw [put_some hd] at h; exact h)) hy hS (by rw [put_some hd]; exact h)
/-- The one operation that may come up is a call. -/
theorem callH {i : Nat} {fuel : Nat} {listed : Array Bool} {w : World} {f : FuncId} {args : Array Value} {R : Value → World → Prop} (d : Tmp) (hi : ops[i]? = some o) (hd : o.dst = some d) (hw : Region.wanted o (yielded ops a.tmps) = true) (hr : Region.ready md ops listed = [i])
    (hrun : (execOp a.eval o).run Tryd.prog w = .ok (.enter f args) w) (hc : Calls Tryd.prog f args w fun e w' => ∃ v, e = .returned v ∧ R v w')
    (h : ∀ v w', R v w' → S w' ∧ wpAnyH Tryd.prog md ops Q S fuel (listed.setIfInBounds i true) { tmps := a.tmps.setIfInBounds d v, defers := a.defers } w') : wpAnyH Tryd.prog md ops Q S (fuel + 1) listed a w := by
  refine wpAnyH_ready hr (by simp) (AllReadyH.cons hi (fun K hK => ?_) AllReadyH.nil)
  rw [if_pos hw]
  unfold Oper.wp
  rw [hrun, Oper.upon_enter]
  refine hc.mono ?_
  rintro e w' ⟨v, rfl, hR⟩
  obtain ⟨h1, h2⟩ := h v w' hR
  show K (a.put o.dst v) w'
  rw [put_some hd]
  exact hK.out _ _ h1 (fun _ => h2)
/-- The one operation that may come up runs. -/
theorem runH {i : Nat} {fuel : Nat} {listed : Array Bool} {w w' : World} {v : Next} (hi : ops[i]? = some o) (hw : Region.wanted o (yielded ops a.tmps) = true) (hr : Region.ready md ops listed = [i])
    (hd : o.dst = none) (hrun : (execOp a.eval o).run Tryd.prog w = .ok v w') (hv : v = .skip) (hS : S w') (h : wpAnyH Tryd.prog md ops Q S fuel (listed.setIfInBounds i true) a w') : wpAnyH Tryd.prog md ops Q S (fuel + 1) listed a w := by
  subst hv
  refine wpAnyH_ready hr (by simp) (AllReadyH.cons hi (fun K hK => ?_) AllReadyH.nil)
  rw [if_pos hw]
  unfold Oper.wp
  rw [hrun, Oper.upon_skip, hd]
  exact hK.out _ _ hS (fun _ => h)
end
end Go.Proofs.YtnmpkdmflijhpaaDoor
