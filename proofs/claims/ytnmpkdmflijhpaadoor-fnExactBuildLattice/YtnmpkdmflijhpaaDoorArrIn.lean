/- Thirty-two sets by value in a fenced walk; the marks that loops over functions leave behind. -/
import Derived.Test.YtnmpkdmflijhpaaDoorArr
import Derived.Test.YtnmpkdmflijhpaaDoorRange
namespace Go.Proofs.YtnmpkdmflijhpaaDoor
open Go Go.RowKit Go.Shelf

section
variable {n : Nat} {ops : Array Oper} {rest : List Oper} {o : Oper} {a : Act} {w : World} {Q : Exit → Act → World → Prop}
theorem wpListIn_load_sets (hgd : o.guard = none) (x : Operand) (ho : o.op = .load 75 x) (b : Nat) (g : Nat → Nat) (hx : a.eval x = .pointer (some ⟨b, 0, none⟩)) (hb : Blk w b 75 (us g))
    (h : wpListIn Fence.wide n Tryd.prog ops Q rest (a.put o.dst (.agg (us g).toArray)) w) : wpListIn Fence.wide n Tryd.prog ops Q (o :: rest) a w :=
  wpListIn_plain hgd fun _ hK => ⟨fun _ _ => trivial, by
    simp only [Fence.wide, Oper.semAt, execOp, ho, hx, Instr.loadAt, Instr.sureAddr, Sem.run_bind, Sem.run_pure, Result.andThen_ok, run_loadVar_row w b 75 75 (us g).toArray (0, 0) _ hb Tryd.underlying75 rfl (size_us g)]
    exact hK _ _ h⟩
theorem wpListIn_store_sets (hgd : o.guard = none) (x y : Operand) (ho : o.op = .store 75 x y) (b : Nat) (g g' : Nat → Nat) (hx : a.eval x = .pointer (some ⟨b, 0, none⟩)) (hy : a.eval y = .agg (us g').toArray) (hb : Blk w b 75 (us g))
    (h : ∀ w', Blk w' b 75 (us g') → w.grownBy w' (some b) → w'.heap.size = w.heap.size → wpListIn Fence.wide n Tryd.prog ops Q rest (a.put o.dst undef) w') : wpListIn Fence.wide n Tryd.prog ops Q (o :: rest) a w :=
  wpListIn_plain hgd fun _ hK => ⟨fun _ _ => trivial, by
    simp only [Fence.wide, Oper.semAt, execOp, ho, hx, hy, Instr.storeAt, Instr.sureAddr, Sem.run_bind, Sem.run_pure, Result.andThen_ok, run_storeVar_row w b 75 75 _ (us g').toArray hb (size_us g') (by simp [us]) (us_one g')]
    exact hK _ _ (h _ (setRow_heap w b _ _ _ _ hb) ⟨rfl, rfl, rfl, by simp, fun k _ hk => setRow_other w b k _ (fun e => hk (by rw [e]))⟩ (by simp))⟩
end

def marks (Ds : List Nat) : List Deferred := Ds.map fun D => { target := .collected D, args := #[] }
/-- The blocks for deferred calls that loops have left: new ones, empty, each of its own. -/
def Shut (B : Nat) (W : World) (Ds : List Nat) : Prop := Ds.Nodup ∧ ∀ D ∈ Ds, B ≤ D ∧ W.heap[D]? = some (.deferred (some []))
theorem Shut.nil (B : Nat) (W : World) : Shut B W [] := ⟨List.nodup_nil, fun _ h => by cases h⟩
theorem Shut.keep {B : Nat} {W W' : World} {Ds : List Nat} (h : Shut B W Ds) (k : KeepsOthers W W') : Shut B W' Ds := ⟨h.1, fun D hD => ⟨(h.2 D hD).1, k.same D _ (h.2 D hD).2 rfl⟩⟩
theorem Shut.below {B N : Nat} {W W' : World} {Ds : List Nat} (h : Shut B W Ds) (hb : Below N W W') (hN : ∀ D ∈ Ds, D < N) : Shut B W' Ds := ⟨h.1, fun D hD => ⟨(h.2 D hD).1, (hb.block D (hN D hD)).trans (h.2 D hD).2⟩⟩
theorem Shut.lt {B : Nat} {W : World} {Ds : List Nat} (h : Shut B W Ds) : ∀ D ∈ Ds, D < W.heap.size := fun D hD => (Array.getElem?_eq_some_iff.1 (h.2 D hD).2).1
theorem Shut.cons {B D : Nat} {W : World} {Ds : List Nat} (h : Shut B W Ds) (hD : B ≤ D) (hd : W.heap[D]? = some (.deferred (some []))) (hn : D ∉ Ds) : Shut B W (D :: Ds) :=
  ⟨List.nodup_cons.2 ⟨hn, h.1⟩, fun E hE => by
    rcases List.mem_cons.1 hE with rfl | hE
    · exact ⟨hD, hd⟩
    · exact h.2 E hE⟩
/-- A function leaves with such marks. -/
theorem leaves_marks {P : Program} {fn : Func} {tmps : Array Value} {R : Ending → World → Prop} {n B : Nat} : ∀ (Ds : List Nat) (W : World), Shut B W Ds →
    (∀ W', KeepX (fun _ => False) W W' → Below B W W' → ∃ v, (results fn tmps).run P W' = .ok v W' ∧ R (.returned v) W') → LeavesInM Fence.wide n P fn tmps R (marks Ds) .returning W
  | [], W, _, h => h W (KeepX.refl _ _) (Below.refl _ _)
  | D :: Ds, W, hs, h => by
    have hd := hs.2 D (List.mem_cons_self ..)
    refine ⟨by simp, .inl ⟨D, _, rfl, run_takeDeferred hd.2, leaves_marks Ds _ ⟨(List.nodup_cons.1 hs.1).2, fun E hE => ?_⟩ fun W' hk hb => h W' ((KeepX.put hd.2 rfl).trans hk) ((below_put _ D _ hd.1).trans hb)⟩⟩
    have hE' := hs.2 E (List.mem_cons_of_mem _ hE)
    exact ⟨hE'.1, (World.putObj_heap_other (k := E) (r := D) (fun e => (List.nodup_cons.1 hs.1).1 (by rw [← e]; exact hE))).trans hE'.2⟩
/-- One store into the sets at O behind four new blocks. -/
theorem put_step {W' : World} {O x : Nat} {g'' : Nat → Nat} (h : Blk W' O 75 (us g'')) (hx : x < 32) (u : Nat) (o1 o2 o3 o4 : Obj) :
    KeepsOthers W' (((((W'.alloc o1).alloc o2).alloc o3).alloc o4).setCell ⟨O, x, none⟩ (.int .u32 (u : Int))).drew ∧ KeepX (fun j => j = O) W' (((((W'.alloc o1).alloc o2).alloc o3).alloc o4).setCell ⟨O, x, none⟩ (.int .u32 (u : Int))).drew ∧
      Blk (((((W'.alloc o1).alloc o2).alloc o3).alloc o4).setCell ⟨O, x, none⟩ (.int .u32 (u : Int))).drew O 75 (us fun j => if j = x then u else g'' j) ∧
      (∀ B, B ≤ O → O < W'.heap.size → Below B W' (((((W'.alloc o1).alloc o2).alloc o3).alloc o4).setCell ⟨O, x, none⟩ (.int .u32 (u : Int))).drew) := by
  have hb := below4 W' o1 o2 o3 o4
  refine ⟨(keepsO hb).trans ((KeepsOthers.setCell _ _ _).trans (KeepsOthers.drew _)), ((KeepX.of_below hb).trans (KeepX.set (X := fun j => j = O) (a := ⟨O, x, none⟩) (.int .u32 (u : Int)) rfl)).trans ⟨Nat.le_refl _, fun _ _ _ _ _ h => h⟩, ?_, fun B hB hO => ((hb.mono (by omega)).setCell (p := ⟨O, x, none⟩) hB _).drew⟩
  rw [← us_set g'' u hx]
  exact (h.mono hb h.lt).set x _
end Go.Proofs.YtnmpkdmflijhpaaDoor
