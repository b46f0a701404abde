import Derived.RangeFuncNested
import Derived.RangeFuncBound
import Derived.RangeFuncCalls
import Derived.RangeFuncLeaves
import Derived.Shelf.Abstract
import Derived.Shelf.RegionOpen
import Derived.WalkKit
import Derived.OwnWalkIn
import Derived.TacticsInMore
import Derived.LoopNIn
import Derived.LoopIn
import Derived.Test.YtjgngbmkpiihgaaGreatDoorGOw
import Derived.Test.YtjgngbmkpiihgaaGreatDoorGHn
import Derived.OrdersIn
/- A range over a function whose iterator keeps a state of its own in cells. The iterator may turn whatever it has laid itself; the caller's invariant speaks of what lay before the loop; the body names (X) the old blocks that it writes. -/
namespace Go.Proofs.YtjgngbmkpiihgaaGreatDoor
open Go Go.RowKit Go.Shelf

/-- What J says hangs on the blocks below B alone. -/
def Loc {β : Type} (B : Nat) (J : β → World → Prop) : Prop := ∀ s W W', J s W → Below B W W' → J s W'
/-- Of the rows of cells none has turned but those of X. -/
structure KeepX (X : Nat → Prop) (W W' : World) : Prop where
  size : W.heap.size ≤ W'.heap.size
  same : ∀ k cs t fr, ¬ X k → W.heap[k]? = some (.cells cs t fr) → W'.heap[k]? = some (.cells cs t fr)
theorem KeepX.refl (X : Nat → Prop) (W : World) : KeepX X W W := ⟨Nat.le_refl _, fun _ _ _ _ _ h => h⟩
theorem KeepX.trans {X : Nat → Prop} {A B C : World} (h : KeepX X A B) (k : KeepX X B C) : KeepX X A C := ⟨Nat.le_trans h.size k.size, fun i cs t fr hx hi => k.same i cs t fr hx (h.same i cs t fr hx hi)⟩
theorem KeepX.put {X : Nat → Prop} {W : World} {l : Nat} {o o' : Obj} (hl : W.heap[l]? = some o) (ho : o.isCells = false) : KeepX X W (W.putObj l o') :=
  ⟨by simp, fun k cs t fr _ hk => by
    by_cases e : k = l
    · subst e; rw [hl] at hk; cases hk; simp [Obj.isCells] at ho
    · exact (World.putObj_heap_other e).trans hk⟩
theorem KeepX.of_below {X : Nat → Prop} {W W' : World} (h : Below W.heap.size W W') : KeepX X W W' :=
  ⟨h.size, fun k _ _ _ _ hk => (h.block k (Array.getElem?_eq_some_iff.1 hk).1).trans hk⟩
theorem KeepX.set {X : Nat → Prop} {W : World} {a : Addr} (v : Value) (hx : X a.block) : KeepX X W (W.setCell a v) :=
  ⟨by simp, fun k _ _ _ hk h => (heap_setCell_other W a k v (fun e => hk (e ▸ hx))).trans h⟩
theorem KeepX.blk {X : Nat → Prop} {W W' : World} {g : Nat} {t : TypeId} {cs : List Value} (h : KeepX X W W') (hb : Blk W g t cs) (hg : ¬ X g) : Blk W' g t cs := h.same g _ t _ hg hb

theorem keepsO {W W' : World} (h : Below W.heap.size W W') : KeepsOthers W W' := ⟨h.size, fun k _ hk _ => (h.block k (Array.getElem?_eq_some_iff.1 hk).1).trans hk⟩
theorem Blk.put {W : World} {g : Nat} {t : TypeId} {cs : List Value} (h : Blk W g t cs) {l : Nat} {o : Obj} (o' : Obj) (hl : W.heap[l]? = some o) (ho : o.isCells = false) : Blk (W.putObj l o') g t cs := (KeepX.put (X := fun _ => False) hl ho).same g _ t _ (fun h => h) h

/-- The contract of an iterator over labels: whatever loop, whatever invariant of the caller's. T: what it may give; S: all that has come; Sp: what has come where a round has said no more. -/
def Gives (P : Program) (gf : Nat) (lb : Array Value) (T : Nat → Prop) (S Sp : List Nat → Prop) (X : Nat → Prop) (w0 : World) : Prop :=
  ∀ (n l : Nat) (J Jx : List Nat → World → Prop) (W : World), Below w0.heap.size w0 W → Loc W.heap.size J → Loc W.heap.size Jx → (∀ k, X k → k < W.heap.size) →
    (∀ (m : Nat) (pre : List Nat) (x : Nat) (W1 : World), J pre W1 → T x → YieldAt Fence.wide m P l #[.int .i64 (x : Int)] W1 fun e W' =>
      (e = .returned (.bool true) ∧ J (pre ++ [x]) W' ∧ KeepX X W1 W') ∨ (e = .returned (.bool false) ∧ Jx (pre ++ [x]) W')) →
    J [] W →
    CallsIn Fence.wide n P gf (#[.func (.yield l) #[] #[]] ++ lb) W fun e W' => (∃ v, e = .returned v) ∧ ((∃ xs, S xs ∧ J xs W') ∨ (∃ pre, Sp pre ∧ Jx pre W'))

theorem noDepth {n : Nat} : Fence.wide.depth.isSome = true → 1 ≤ n := fun h => by simp [Fence.wide] at h
/-- A plain contract, where a fenced walk comes to the call. -/
theorem callW {P : Program} {f : FuncId} {args : Array Value} {w : World} {R : Ending → World → Prop} {n : Nat} (h : Calls P f args w R) : Fence.wide.fn f ∧ (Fence.wide.depth.isSome = true → 1 ≤ n) ∧ CallsIn Fence.wide (n - 1) P f args w R :=
  ⟨trivial, noDepth, callsIn_wide.2 h⟩
theorem callR {P : Program} {f : FuncId} {args : Array Value} {w : World} {R : Ending → World → Prop} {n l : Nat} (h : Calls P f args w R) : (Fence.wide.inRound l).fn f ∧ ((Fence.wide.inRound l).depth.isSome = true → 1 ≤ n) ∧ CallsIn (Fence.wide.inRound l) (n - 1) P f args w R :=
  ⟨trivial, noDepth, CallsIn.inRound l (callsIn_wide.2 h)⟩

/-- How a round's body may be left. -/
def bodyEnd (X : Nat → Prop) (I Ix : List Nat → World → Prop) (xs : List Nat) (W : World) : Exit → Act → World → Prop
  | .normal, _, W' => KeepsOthers W W' ∧ KeepX X W W' ∧ I xs W'
  | .ret, _, W' => KeepsOthers W W' ∧ Ix xs W'
  | _, _, _ => False

theorem below_put {B : Nat} (W : World) (l : Nat) (o : Obj) (h : B ≤ l) : Below B W (W.putObj l o) :=
  ⟨rfl, rfl, rfl, by simp, fun _ hk => World.putObj_heap_other (by omega)⟩

theorem range_law {P : Program} {g : Operand} {ps : Array Tmp} {assign body : Code} {Q : Exit → Act → World → Prop} {a : Act} {w : World} {n : Nat} {gf : Nat} {lb : Array Value}
    (hg : a.eval g = .func (.func gf) #[] lb) (eg : ∀ args w, (callFunc gf args).run P w = .ok (.enter gf args) w)
    {T : Nat → Prop} {S Sp : List Nat → Prop} {X : Nat → Prop} {w0 : World} (hseq : Gives P gf lb T S Sp X w0) (hb0 : Below w0.heap.size w0 w) (hX : ∀ k, X k → k < w.heap.size) (hps : ps.size = 1)
    (I Ix : List Nat → World → Prop) (hI : Loc w.heap.size I) (hIx : Loc w.heap.size Ix) (h0 : I [] w) (a₁ : Nat → Act)
    (hassign : ∀ (m l x : Nat) (W : World) (K : Act → World → Prop), K (a₁ x) W →
      assign.wpIn (Fence.wide.inRound l) m P (Exit.then K (fun _ _ _ => False)) { tmps := (ps.zip #[.int .i64 (x : Int)]).foldl (fun t (p, v) => t.setIfInBounds p v) a.tmps, defers := [] } W)
    (hbody : ∀ (m l : Nat) (pre : List Nat) (x : Nat) (W : World), I pre W → T x → body.wpIn (Fence.wide.inRound l) m P (bodyEnd X I Ix (pre ++ [x]) W) (a₁ x) W)
    (hdone : ∀ (D : Nat) (xs : List Nat) (W : World), w.heap.size ≤ D → S xs → I xs W → W.heap[D]? = some (.deferred (some [])) → Q .normal { a with defers := { target := .collected D, args := #[] } :: a.defers } W)
    (hstop : ∀ (D : Nat) (pre : List Nat) (W : World), w.heap.size ≤ D → Sp pre → Ix pre W → W.heap[D]? = some (.deferred (some [])) → Q .ret { a with defers := { target := .collected D, args := #[] } :: a.defers } W) :
    (Code.rangeFunc g ps assign body).wpIn Fence.wide n P Q a w := by
  refine wpIn_rangeFunc fun fn _ => ?_
  -- the block for deferred calls at D, the loop's record at D + 1
  obtain ⟨D, hD⟩ : ∃ D, w.heap.size = D := ⟨_, rfl⟩
  obtain ⟨mk, hmk⟩ : ∃ mk : LoopState → Option Code → Loop, mk = fun s p => { state := s, pending := p, fn, tmps := a.tmps, params := ps, assign, body, defers := D } := ⟨_, rfl⟩
  obtain ⟨W1, hW1⟩ : ∃ W1, (w.alloc (.deferred (some []))).alloc (.loop (mk .ready none)) = W1 := ⟨_, rfl⟩
  have s1 : W1.heap.size = D + 1 + 1 := by rw [← hW1]; simp [hD]
  have bw : Below D w W1 := by rw [← hW1, ← hD]; exact ((Below.refl _ w).alloc (Nat.le_refl _) _).alloc (by simp) _
  have hl1 : W1.heap[D + 1]? = some (.loop (mk .ready none)) := by
    have := World.alloc_heap_new (w.alloc (.deferred (some []))) (.loop (mk .ready none))
    rw [World.size_alloc, hD, hW1] at this; exact this
  have hd1 : W1.heap[D]? = some (.deferred (some [])) := by
    have := World.alloc_heap_new w (.deferred (some []))
    rw [← hW1, ← hD]; exact (Below.heap_alloc _ _ _ (by simp)).trans this
  have enter := run_enterLoop_outer (P := P) (w := w) fn a.tmps ps assign body
  rw [hD] at enter
  refine ⟨D + 1, [{ target := .collected D, args := #[] }], W1, { target := .fn (.func gf) lb, args := #[.func (.yield (D + 1)) #[] #[]] }, W1, gf, #[.func (.yield (D + 1)) #[] #[]] ++ lb, W1, ?_, ?_, ?_, ?_, fun h => by simp [Fence.wide] at h, ?_⟩
  · rw [← hW1, hmk]; exact enter
  · simp only [resolve, hg]; simp [go_sem]
  · intro _ _; trivial
  · simp [invoke, go_sem, eg]
  have hIput : ∀ xs W l o, D ≤ l → I xs W → I xs (W.putObj l o) := fun xs W l o h hi => hI xs W _ hi (by rw [hD]; exact below_put W l o h)
  have hXput : ∀ xs W l o, D ≤ l → Ix xs W → Ix xs (W.putObj l o) := fun xs W l o h hi => hIx xs W _ hi (by rw [hD]; exact below_put W l o h)
  refine (hseq (n - 1) (D + 1) (fun pre W => I pre W ∧ W.heap[D + 1]? = some (.loop (mk .ready none)) ∧ W.heap[D]? = some (.deferred (some [])))
    (fun pre W => Ix pre W ∧ W.heap[D + 1]? = some (.loop (mk .done (some .ret))) ∧ W.heap[D]? = some (.deferred (some []))) W1 (hb0.trans ((hD ▸ bw : Below w.heap.size w W1).mono hb0.size)) ?_ ?_ (fun k hk => by have := hX k hk; omega) ?_ ⟨hI _ _ _ h0 (hD ▸ bw), hl1, hd1⟩).mono ?_
  · rintro xs W W' ⟨h, hl, hd⟩ hb
    rw [s1] at hb
    exact ⟨hI xs W W' h (hb.mono (by omega)), (hb.block _ (by omega)).trans hl, (hb.block _ (by omega)).trans hd⟩
  · rintro xs W W' ⟨h, hl, hd⟩ hb
    rw [s1] at hb
    exact ⟨hIx xs W W' h (hb.mono (by omega)), (hb.block _ (by omega)).trans hl, (hb.block _ (by omega)).trans hd⟩
  · -- one round
    rintro m pre x W ⟨hi, hl, hd⟩ hT
    have hlt : D + 1 < W.heap.size := (Array.getElem?_eq_some_iff.1 hl).1
    have hy := run_yield (P := P) (args := #[.int .i64 (x : Int)]) hl (by rw [hmk]; simp [hps])
    rw [hmk] at hy
    refine ⟨fn, _, assign, body, hy, roundIn_of_wpIn trivial (hassign m _ x W _ ⟨_, run_beginRound hl (by rw [hmk]), ?_⟩)⟩
    refine wpIn_mono (hbody m _ pre x _ (hIput _ _ _ _ (by omega) hi) hT) ?_
    have hl2 := World.putObj_heap_same (w := W) (o := .loop { mk .ready none with state := .busy }) hlt
    have hd2 : (W.putObj (D + 1) (.loop { mk .ready none with state := .busy })).heap[D]? = some (.deferred (some [])) := (World.putObj_heap_other (by omega)).trans hd
    have hx2 : KeepX X W (W.putObj (D + 1) (.loop { mk .ready none with state := .busy })) := KeepX.put hl rfl
    intro e a3 W3 hp
    cases e with
    | normal =>
      obtain ⟨ko, kx, hi3⟩ := hp
      have hl3 := ko.same _ _ hl2 rfl
      have hd3 := ko.same _ _ hd2 rfl
      have hr := run_endRound (P := P) none hl3
      rw [hmk] at hr
      refine ⟨_, _, hr, .inl ⟨rfl, ⟨hIput _ _ _ _ (by omega) hi3, ?_, (World.putObj_heap_other (by omega)).trans hd3⟩, (hx2.trans kx).trans (KeepX.put hl3 rfl)⟩⟩
      rw [hmk]; exact World.putObj_heap_same (Array.getElem?_eq_some_iff.1 hl3).1
    | ret =>
      obtain ⟨ko, hi3⟩ := hp
      have hl3 := ko.same _ _ hl2 rfl
      have hd3 := ko.same _ _ hd2 rfl
      have hr := run_endRound (P := P) (some .ret) hl3
      rw [hmk] at hr
      refine ⟨_, _, hr, .inr ⟨rfl, hXput _ _ _ _ (by omega) hi3, ?_, (World.putObj_heap_other (by omega)).trans hd3⟩⟩
      rw [hmk]; exact World.putObj_heap_same (Array.getElem?_eq_some_iff.1 hl3).1
    | exit id => exact hp.elim
    | goto t => exact hp.elim
    | panic c => exact hp.elim
    | outgrown => exact hp.elim
  · -- behind the iterator
    rintro e W2 ⟨⟨v, rfl⟩, (⟨xs, hS, hi, hl, hd⟩ | ⟨pre, hSp, hi, hl, hd⟩)⟩
    · have hr := run_endLoop (P := P) hl (by rw [hmk]; simp)
      rw [hmk] at hr
      exact ⟨none, _, hr, hdone D xs _ (by omega) hS (hIput _ _ _ _ (by omega) hi) ((World.putObj_heap_other (by omega)).trans hd)⟩
    · have hr := run_endLoop (P := P) hl (by rw [hmk]; simp)
      rw [hmk] at hr
      exact ⟨some .ret, _, hr, wpIn_ret (hstop D pre _ (by omega) hSp (hXput _ _ _ _ (by omega) hi) ((World.putObj_heap_other (by omega)).trans hd))⟩
end Go.Proofs.YtjgngbmkpiihgaaGreatDoor

/- A range over a function that lays nothing of its own and gives several values a round; the loop runs to its end. -/
namespace Go.Proofs.YtjgngbmkpiihgaaGreatDoor
open Go Go.RowKit Go.Shelf

/-- Nothing has turned below lo, and no row of cells anywhere. -/
def KeepC (lo : Nat) (W W' : World) : Prop := Below lo W W' ∧ ∀ (k : Nat) (cs : Array Value) (t : TypeId) (fr : Nat × Nat), W.heap[k]? = some (Obj.cells cs t fr) → W'.heap[k]? = some (Obj.cells cs t fr)
theorem KeepC.put {lo : Nat} {W : World} {l : Nat} {o : Obj} (o' : Obj) (hl : W.heap[l]? = some o) (ho : o.isCells = false) (h : lo ≤ l) : KeepC lo W (W.putObj l o') :=
  ⟨below_put W l o' h, fun k cs t fr hk => (KeepX.put (X := fun _ => False) hl ho).same k cs t fr (fun h => h) hk⟩
/-- The contract of an iterator that lays nothing. C: what it reads. -/
def GivesE (P : Program) (enc : Nat → Array Value) (gf : Nat) (lb : Array Value) (T : List Nat → Nat → Prop) (S : List Nat → Prop) (C : World → Prop) : Prop :=
  ∀ (n l : Nat) (J : List Nat → World → Prop) (W : World), (∀ pre W1, J pre W1 → C W1) → J [] W →
    (∀ (m : Nat) (pre : List Nat) (x : Nat) (W1 : World), J pre W1 → T pre x → YieldAt Fence.wide m P l (enc x) W1 fun e W' => e = .returned (.bool true) ∧ J (pre ++ [x]) W') →
    CallsIn Fence.wide n P gf (#[.func (.yield l) #[] #[]] ++ lb) W fun e W' => (∃ v, e = .returned v) ∧ ∃ xs, S xs ∧ J xs W'
/-- How a round's body is left. -/
def bodyEndE (I : List Nat → World → Prop) (xs : List Nat) (W : World) : Exit → Act → World → Prop
  | .normal, _, W' => KeepsOthers W W' ∧ I xs W'
  | _, _, _ => False
theorem range_lawE {P : Program} {g : Operand} {ps : Array Tmp} {assign body : Code} {Q : Exit → Act → World → Prop} {a : Act} {w : World} {n : Nat} {gf : Nat} {lb : Array Value} {enc : Nat → Array Value}
    (hg : a.eval g = .func (.func gf) #[] lb) (eg : ∀ args w, (callFunc gf args).run P w = .ok (.enter gf args) w)
    {T : List Nat → Nat → Prop} {S : List Nat → Prop} {C : World → Prop} (hseq : GivesE P enc gf lb T S C) (hps : ∀ x, ps.size = (enc x).size)
    (I : List Nat → World → Prop) (hC : ∀ pre W, I pre W → C W) (hI : ∀ pre W W', I pre W → KeepC w.heap.size W W' → I pre W') (h0 : ∀ W, Below w.heap.size w W → I [] W) (a₁ : Nat → Act)
    (hassign : ∀ (m l x : Nat) (W : World) (K : Act → World → Prop), K (a₁ x) W →
      assign.wpIn (Fence.wide.inRound l) m P (Exit.then K (fun _ _ _ => False)) { tmps := (ps.zip (enc x)).foldl (fun t (p, v) => t.setIfInBounds p v) a.tmps, defers := [] } W)
    (hbody : ∀ (m l : Nat) (pre : List Nat) (x : Nat) (W : World), I pre W → T pre x → body.wpIn (Fence.wide.inRound l) m P (bodyEndE I (pre ++ [x]) W) (a₁ x) W)
    (hdone : ∀ (D : Nat) (xs : List Nat) (W : World), w.heap.size ≤ D → S xs → I xs W → W.heap[D]? = some (.deferred (some [])) → Q .normal { a with defers := { target := .collected D, args := #[] } :: a.defers } W) :
    (Code.rangeFunc g ps assign body).wpIn Fence.wide n P Q a w := by
  refine wpIn_rangeFunc fun fn _ => ?_
  -- the block for deferred calls at D, the loop's record at D + 1
  obtain ⟨D, hD⟩ : ∃ D, w.heap.size = D := ⟨_, rfl⟩
  obtain ⟨mk, hmk⟩ : ∃ mk : LoopState → Option Code → Loop, mk = fun s p => { state := s, pending := p, fn, tmps := a.tmps, params := ps, assign, body, defers := D } := ⟨_, rfl⟩
  obtain ⟨W1, hW1⟩ : ∃ W1, (w.alloc (.deferred (some []))).alloc (.loop (mk .ready none)) = W1 := ⟨_, rfl⟩
  have s1 : W1.heap.size = D + 1 + 1 := by rw [← hW1]; simp [hD]
  have bw : Below D w W1 := by rw [← hW1, ← hD]; exact ((Below.refl _ w).alloc (Nat.le_refl _) _).alloc (by simp) _
  have hl1 : W1.heap[D + 1]? = some (.loop (mk .ready none)) := by
    have := World.alloc_heap_new (w.alloc (.deferred (some []))) (.loop (mk .ready none))
    rw [World.size_alloc, hD, hW1] at this; exact this
  have hd1 : W1.heap[D]? = some (.deferred (some [])) := by
    have := World.alloc_heap_new w (.deferred (some []))
    rw [← hW1, ← hD]; exact (Below.heap_alloc _ _ _ (by simp)).trans this
  have enter := run_enterLoop_outer (P := P) (w := w) fn a.tmps ps assign body
  rw [hD] at enter
  refine ⟨D + 1, [{ target := .collected D, args := #[] }], W1, { target := .fn (.func gf) lb, args := #[.func (.yield (D + 1)) #[] #[]] }, W1, gf, #[.func (.yield (D + 1)) #[] #[]] ++ lb, W1, ?_, ?_, ?_, ?_, fun h => by simp [Fence.wide] at h, ?_⟩
  · rw [← hW1, hmk]; exact enter
  · simp only [resolve, hg]; simp [go_sem]
  · intro _ _; trivial
  · simp [invoke, go_sem, eg]
  have hIput : ∀ xs W l o o', D ≤ l → W.heap[l]? = some o → o.isCells = false → I xs W → I xs (W.putObj l o') := fun xs W l o o' h h2 h3 h4 => hI xs W _ h4 (by rw [hD]; exact KeepC.put o' h2 h3 h)
  refine (hseq (n - 1) (D + 1) (fun pre W => I pre W ∧ W.heap[D + 1]? = some (.loop (mk .ready none)) ∧ W.heap[D]? = some (.deferred (some []))) W1 (fun pre W h => hC pre W h.1) ⟨h0 W1 (by rw [hD]; exact bw), hl1, hd1⟩ ?_).mono ?_
  · -- one round
    rintro m pre x W ⟨hi', hl, hd⟩ hT
    have hlt : D + 1 < W.heap.size := (Array.getElem?_eq_some_iff.1 hl).1
    have hy := run_yield (P := P) (args := enc x) hl (by rw [hmk]; simp [hps x])
    rw [hmk] at hy
    refine ⟨fn, _, assign, body, hy, roundIn_of_wpIn trivial (hassign m _ x W _ ⟨_, run_beginRound hl (by rw [hmk]), ?_⟩)⟩
    refine wpIn_mono (hbody m _ pre x _ (hIput _ _ _ _ _ (by omega) hl rfl hi') hT) ?_
    have hl2 := World.putObj_heap_same (w := W) (o := .loop { mk .ready none with state := .busy }) hlt
    have hd2 : (W.putObj (D + 1) (.loop { mk .ready none with state := .busy })).heap[D]? = some (.deferred (some [])) := (World.putObj_heap_other (by omega)).trans hd
    intro e a3 W3 hp
    cases e with
    | normal =>
      obtain ⟨ko, hi3⟩ := hp
      have hl3 := ko.same _ _ hl2 rfl
      have hd3 := ko.same _ _ hd2 rfl
      have hr := run_endRound (P := P) none hl3
      rw [hmk] at hr
      refine ⟨_, _, hr, rfl, hIput _ _ _ _ _ (by omega) hl3 rfl hi3, ?_, (World.putObj_heap_other (by omega)).trans hd3⟩
      rw [hmk]; exact World.putObj_heap_same (Array.getElem?_eq_some_iff.1 hl3).1
    | ret => exact hp.elim
    | exit id => exact hp.elim
    | goto t => exact hp.elim
    | panic c => exact hp.elim
    | outgrown => exact hp.elim
  · -- behind the iterator
    rintro e W2 ⟨⟨v, rfl⟩, xs, hS, hi', hl, hd⟩
    have hr := run_endLoop (P := P) hl (by rw [hmk]; simp)
    rw [hmk] at hr
    exact ⟨none, _, hr, hdone D xs _ (by omega) hS (hIput _ _ _ _ _ (by omega) hl rfl hi') ((World.putObj_heap_other (by omega)).trans hd)⟩
end Go.Proofs.YtjgngbmkpiihgaaGreatDoor

/- A range over a function whose body lays rows of its own and turns them in later rounds. What the iterator may turn lies from the loop's start (lo) up to the end of its prelude (hi); what the body may turn is X, and whatever lies from hi on. -/
namespace Go.Proofs.YtjgngbmkpiihgaaGreatDoor
open Go Go.RowKit Go.Shelf

/-- Nothing has turned outside the blocks from lo up to hi. -/
structure Out (lo hi : Nat) (W W' : World) : Prop where
  os : W'.os = W.os
  tape : W'.tape = W.tape
  output : W'.output = W.output
  size : W.heap.size ≤ W'.heap.size
  block : ∀ b, b < W.heap.size → ¬ (lo ≤ b ∧ b < hi) → W'.heap[b]? = W.heap[b]?
theorem Out.mono {lo lo' hi : Nat} {W W' : World} (h : Out lo hi W W') (hl : lo' ≤ lo) : Out lo' hi W W' := ⟨h.os, h.tape, h.output, h.size, fun b hb hn => h.block b hb (fun c => hn ⟨by omega, c.2⟩)⟩
theorem Out.refl (lo hi : Nat) (W : World) : Out lo hi W W := ⟨rfl, rfl, rfl, Nat.le_refl _, fun _ _ _ => rfl⟩
theorem Out.trans {lo hi : Nat} {A B C : World} (h : Out lo hi A B) (k : Out lo hi B C) : Out lo hi A C := ⟨k.os.trans h.os, k.tape.trans h.tape, k.output.trans h.output, Nat.le_trans h.size k.size, fun b hb hn => (k.block b (by have := h.size; omega) hn).trans (h.block b hb hn)⟩
theorem Out.set {lo hi : Nat} {W : World} {a : Addr} (v : Value) (h1 : lo ≤ a.block) (h2 : a.block < hi) : Out lo hi W (W.setCell a v) := ⟨rfl, rfl, rfl, by simp, fun b _ hn => heap_setCell_other W a b v (fun e => hn ⟨by omega, by omega⟩)⟩
theorem Out.put {lo hi : Nat} (W : World) {l : Nat} (o : Obj) (h1 : lo ≤ l) (h2 : l < hi) : Out lo hi W (W.putObj l o) := ⟨rfl, rfl, rfl, by simp, fun b _ hn => World.putObj_heap_other (fun e => hn ⟨by omega, by omega⟩)⟩
theorem Out.below {lo hi B : Nat} {W W' : World} (h : Out lo hi W W') (hB : B ≤ lo) (hs : B ≤ W.heap.size) : Below B W W' := ⟨h.os, h.tape, h.output, h.size, fun b hb => h.block b (by omega) (fun c => by omega)⟩
theorem Out.blk {lo hi : Nat} {W W' : World} {g : Nat} {t : TypeId} {cs : List Value} (h : Out lo hi W W') (hb : Blk W g t cs) (hg : ¬ (lo ≤ g ∧ g < hi)) : Blk W' g t cs := (h.block g hb.lt hg).trans hb
theorem Out.owns {lo hi : Nat} {W W' : World} {base n size : Nat} {e : TypeId} {v : Value} {xs : List Value} (h : Out lo hi W W') (ho : W.ownsRow base e size v n xs) (hq : ∀ q, v.ownBlock = some q → ¬ (lo ≤ q ∧ q < hi)) : W'.ownsRow base e size v n xs := by
  refine ⟨ho.1, ?_⟩
  rcases ho.2 with h2 | ⟨g, cap, cur, h1, hb, hg, r⟩
  · exact .inl h2
  · exact .inr ⟨g, cap, cur, h1, hb, (h.block g (Array.getElem?_eq_some_iff.1 hg).1 (hq g (by rw [h1]; rfl))).trans hg, r⟩
/-- Of the rows of cells below hi none has turned but those of X. -/
structure KeepB (X : Nat → Prop) (hi : Nat) (W W' : World) : Prop where
  size : W.heap.size ≤ W'.heap.size
  same : ∀ k cs t fr, k < hi → ¬ X k → W.heap[k]? = some (.cells cs t fr) → W'.heap[k]? = some (.cells cs t fr)
theorem KeepB.refl (X : Nat → Prop) (hi : Nat) (W : World) : KeepB X hi W W := ⟨Nat.le_refl _, fun _ _ _ _ _ _ h => h⟩
theorem KeepB.trans {X : Nat → Prop} {hi : Nat} {A B C : World} (h : KeepB X hi A B) (k : KeepB X hi B C) : KeepB X hi A C := ⟨Nat.le_trans h.size k.size, fun i cs t fr hl hx hi => k.same i cs t fr hl hx (h.same i cs t fr hl hx hi)⟩
theorem KeepB.put {X : Nat → Prop} {hi : Nat} {W : World} {l : Nat} {o o' : Obj} (hl : W.heap[l]? = some o) (ho : o.isCells = false) : KeepB X hi W (W.putObj l o') :=
  ⟨by simp, fun k cs t fr _ _ hk => by
    by_cases e : k = l
    · subst e; rw [hl] at hk; cases hk; simp [Obj.isCells] at ho
    · exact (World.putObj_heap_other e).trans hk⟩
theorem KeepB.of_below {X : Nat → Prop} {hi B : Nat} {W W' : World} (h : Below B W W') (hB : hi ≤ B) : KeepB X hi W W' := ⟨h.size, fun k _ _ _ hl _ hk => (h.block k (by omega)).trans hk⟩
theorem KeepB.set {X : Nat → Prop} {hi : Nat} {W : World} {a : Addr} (v : Value) (hx : X a.block) : KeepB X hi W (W.setCell a v) := ⟨by simp, fun k _ _ _ _ hk h => (heap_setCell_other W a k v (fun e => hk (e ▸ hx))).trans h⟩
theorem KeepB.grown {X : Nat → Prop} {hi : Nat} {W W' : World} {row : Option Nat} (h : W.grownBy W' row) (hr : ∀ q, row = some q → hi ≤ q ∨ X q) : KeepB X hi W W' :=
  ⟨h.size, fun k _ _ _ hl hx hk => (h.block k (Array.getElem?_eq_some_iff.1 hk).1 (fun e => by
    rcases hr k e.symm with h1 | h1
    · omega
    · exact hx h1)).trans hk⟩
theorem KeepB.blk {X : Nat → Prop} {hi : Nat} {W W' : World} {g : Nat} {t : TypeId} {cs : List Value} (h : KeepB X hi W W') (hb : Blk W g t cs) (hg : g < hi) (hx : ¬ X g) : Blk W' g t cs := h.same g _ t _ hg hx hb
theorem KeepB.owns {X : Nat → Prop} {hi : Nat} {W W' : World} {base n size : Nat} {e : TypeId} {v : Value} {xs : List Value} (h : KeepB X hi W W') (ho : W.ownsRow base e size v n xs) (hq : ∀ q, v.ownBlock = some q → q < hi ∧ ¬ X q) : W'.ownsRow base e size v n xs := by
  refine ⟨ho.1, ?_⟩
  rcases ho.2 with h2 | ⟨g, cap, cur, h1, hb, hg, r⟩
  · exact .inl h2
  · exact .inr ⟨g, cap, cur, h1, hb, h.same g cur e _ (hq g (by rw [h1]; rfl)).1 (hq g (by rw [h1]; rfl)).2 hg, r⟩

/-- The contract of an iterator over places: whatever loop that runs to its end, whatever invariant of the caller's. T: what may come behind what; S: all that has come. -/
def GivesH (P : Program) (gf : Nat) (lb : Array Value) (T : List Nat → Nat → Prop) (S : List Nat → Prop) (X : Nat → Prop) (w0 : World) : Prop :=
  ∀ (n l : Nat) (J : Nat → List Nat → World → Prop) (W : World), Below w0.heap.size w0 W → (∀ hi pre W1 W2, J hi pre W1 → Out W.heap.size hi W1 W2 → J hi pre W2) → (∀ W2, Below W.heap.size W W2 → J W2.heap.size [] W2) → (∀ k, X k → k < W.heap.size) →
    (∀ (m hi : Nat) (pre : List Nat) (x : Nat) (W1 : World), J hi pre W1 → T pre x → YieldAt Fence.wide m P l #[.int .i64 (x : Int)] W1 fun e W' => e = .returned (.bool true) ∧ J hi (pre ++ [x]) W' ∧ KeepB X hi W1 W') →
    CallsIn Fence.wide n P gf (#[.func (.yield l) #[] #[]] ++ lb) W fun e W' => (∃ v, e = .returned v) ∧ ∃ hi xs, S xs ∧ J hi xs W'

/-- How a round's body is left. -/
def bodyEndH (X : Nat → Prop) (hi : Nat) (I : List Nat → World → Prop) (xs : List Nat) (W : World) : Exit → Act → World → Prop
  | .normal, _, W' => KeepsOthers W W' ∧ KeepB X hi W W' ∧ I xs W'
  | _, _, _ => False

theorem range_lawH {P : Program} {g : Operand} {ps : Array Tmp} {assign body : Code} {Q : Exit → Act → World → Prop} {a : Act} {w : World} {n : Nat} {gf : Nat} {lb : Array Value}
    (hg : a.eval g = .func (.func gf) #[] lb) (eg : ∀ args w, (callFunc gf args).run P w = .ok (.enter gf args) w)
    {T : List Nat → Nat → Prop} {S : List Nat → Prop} {X : Nat → Prop} {w0 : World} (hseq : GivesH P gf lb T S X w0) (hb0 : Below w0.heap.size w0 w) (hX : ∀ k, X k → k < w.heap.size) (hps : ps.size = 1)
    (I : Nat → List Nat → World → Prop) (hI : ∀ hi pre W W', I hi pre W → Out w.heap.size hi W W' → I hi pre W') (h0 : ∀ W, Below w.heap.size w W → I W.heap.size [] W) (a₁ : Nat → Act)
    (hassign : ∀ (m l x : Nat) (W : World) (K : Act → World → Prop), K (a₁ x) W →
      assign.wpIn (Fence.wide.inRound l) m P (Exit.then K (fun _ _ _ => False)) { tmps := (ps.zip #[.int .i64 (x : Int)]).foldl (fun t (p, v) => t.setIfInBounds p v) a.tmps, defers := [] } W)
    (hbody : ∀ (m l hi : Nat) (pre : List Nat) (x : Nat) (W : World), w.heap.size < hi → I hi pre W → T pre x → body.wpIn (Fence.wide.inRound l) m P (bodyEndH X hi (I hi) (pre ++ [x]) W) (a₁ x) W)
    (hdone : ∀ (D hi : Nat) (xs : List Nat) (W : World), w.heap.size ≤ D → D < hi → S xs → I hi xs W → W.heap[D]? = some (.deferred (some [])) → Q .normal { a with defers := { target := .collected D, args := #[] } :: a.defers } W) :
    (Code.rangeFunc g ps assign body).wpIn Fence.wide n P Q a w := by
  refine wpIn_rangeFunc fun fn _ => ?_
  -- the block for deferred calls at D, the loop's record at D + 1
  obtain ⟨D, hD⟩ : ∃ D, w.heap.size = D := ⟨_, rfl⟩
  obtain ⟨mk, hmk⟩ : ∃ mk : LoopState → Option Code → Loop, mk = fun s p => { state := s, pending := p, fn, tmps := a.tmps, params := ps, assign, body, defers := D } := ⟨_, rfl⟩
  obtain ⟨W1, hW1⟩ : ∃ W1, (w.alloc (.deferred (some []))).alloc (.loop (mk .ready none)) = W1 := ⟨_, rfl⟩
  have s1 : W1.heap.size = D + 1 + 1 := by rw [← hW1]; simp [hD]
  have bw : Below D w W1 := by rw [← hW1, ← hD]; exact ((Below.refl _ w).alloc (Nat.le_refl _) _).alloc (by simp) _
  have hl1 : W1.heap[D + 1]? = some (.loop (mk .ready none)) := by
    have := World.alloc_heap_new (w.alloc (.deferred (some []))) (.loop (mk .ready none))
    rw [World.size_alloc, hD, hW1] at this; exact this
  have hd1 : W1.heap[D]? = some (.deferred (some [])) := by
    have := World.alloc_heap_new w (.deferred (some []))
    rw [← hW1, ← hD]; exact (Below.heap_alloc _ _ _ (by simp)).trans this
  have enter := run_enterLoop_outer (P := P) (w := w) fn a.tmps ps assign body
  rw [hD] at enter
  refine ⟨D + 1, [{ target := .collected D, args := #[] }], W1, { target := .fn (.func gf) lb, args := #[.func (.yield (D + 1)) #[] #[]] }, W1, gf, #[.func (.yield (D + 1)) #[] #[]] ++ lb, W1, ?_, ?_, ?_, ?_, fun h => by simp [Fence.wide] at h, ?_⟩
  · rw [← hW1, hmk]; exact enter
  · simp only [resolve, hg]; simp [go_sem]
  · intro _ _; trivial
  · simp [invoke, go_sem, eg]
  have hIput : ∀ hi xs W l o, D ≤ l → l < hi → I hi xs W → I hi xs (W.putObj l o) := fun hi xs W l o h h2 hi' => hI hi xs W _ hi' (by rw [hD]; exact Out.put W o h h2)
  refine (hseq (n - 1) (D + 1) (fun hi pre W => I hi pre W ∧ D + 1 < hi ∧ W.heap[D + 1]? = some (.loop (mk .ready none)) ∧ W.heap[D]? = some (.deferred (some []))) W1 (hb0.trans ((hD ▸ bw : Below w.heap.size w W1).mono hb0.size)) ?_ ?_ (fun k hk => by have := hX k hk; omega) ?_).mono ?_
  · rintro hi xs W W' ⟨h, hh, hl, hd⟩ hb
    rw [s1] at hb
    exact ⟨hI hi xs W W' h (hb.mono (by omega)), hh, (hb.block _ (Array.getElem?_eq_some_iff.1 hl).1 (by omega)).trans hl, (hb.block _ (Array.getElem?_eq_some_iff.1 hd).1 (by omega)).trans hd⟩
  · intro W2 hb
    have hz := hb.size
    rw [s1] at hb hz
    refine ⟨h0 W2 ?_, by omega, (hb.block _ (by omega)).trans hl1, (hb.block _ (by omega)).trans hd1⟩
    rw [hD]
    exact bw.trans (hb.mono (by omega))
  · -- one round
    rintro m hi pre x W ⟨hi', hh, hl, hd⟩ hT
    have hlt : D + 1 < W.heap.size := (Array.getElem?_eq_some_iff.1 hl).1
    have hy := run_yield (P := P) (args := #[.int .i64 (x : Int)]) hl (by rw [hmk]; simp [hps])
    rw [hmk] at hy
    refine ⟨fn, _, assign, body, hy, roundIn_of_wpIn trivial (hassign m _ x W _ ⟨_, run_beginRound hl (by rw [hmk]), ?_⟩)⟩
    refine wpIn_mono (hbody m _ hi pre x _ (by omega) (hIput _ _ _ _ _ (by omega) (by omega) hi') hT) ?_
    have hl2 := World.putObj_heap_same (w := W) (o := .loop { mk .ready none with state := .busy }) hlt
    have hd2 : (W.putObj (D + 1) (.loop { mk .ready none with state := .busy })).heap[D]? = some (.deferred (some [])) := (World.putObj_heap_other (by omega)).trans hd
    have hx2 : KeepB X hi W (W.putObj (D + 1) (.loop { mk .ready none with state := .busy })) := KeepB.put hl rfl
    intro e a3 W3 hp
    cases e with
    | normal =>
      obtain ⟨ko, kx, hi3⟩ := hp
      have hl3 := ko.same _ _ hl2 rfl
      have hd3 := ko.same _ _ hd2 rfl
      have hr := run_endRound (P := P) none hl3
      rw [hmk] at hr
      refine ⟨_, _, hr, rfl, ⟨hIput _ _ _ _ _ (by omega) (by omega) hi3, hh, ?_, (World.putObj_heap_other (by omega)).trans hd3⟩, (hx2.trans kx).trans (KeepB.put hl3 rfl)⟩
      rw [hmk]; exact World.putObj_heap_same (Array.getElem?_eq_some_iff.1 hl3).1
    | ret => exact hp.elim
    | exit id => exact hp.elim
    | goto t => exact hp.elim
    | panic c => exact hp.elim
    | outgrown => exact hp.elim
  · -- behind the iterator
    rintro e W2 ⟨⟨v, rfl⟩, hi, xs, hS, hi', hh, hl, hd⟩
    have hr := run_endLoop (P := P) hl (by rw [hmk]; simp)
    rw [hmk] at hr
    exact ⟨none, _, hr, hdone D hi xs _ (by omega) (by omega) hS (hIput _ _ _ _ _ (by omega) (by omega) hi') ((World.putObj_heap_other (by omega)).trans hd)⟩
end Go.Proofs.YtjgngbmkpiihgaaGreatDoor

/- A region that draws its order, inside a round of a loop over an iterator: by the laws for one that stands outside. -/
namespace Go.Proofs.YtjgngbmkpiihgaaGreatDoor
open Go Go.RowKit Go.Shelf

section
variable {P : Program} {ops : Array Oper} {Q : Exit → Act → World → Prop} {o : Oper} {a : Act} {w : World} {K K' : Act → World → Prop} {n l : Nat}
theorem upon_in {r : Result Next} (h : o.upon P a K Q r) : o.uponIn (Fence.wide.inRound l) n P a K Q r := by
  cases r with
  | ok x w' =>
    cases x with
    | value v => exact h
    | skip => exact h
    | defer d => exact h
    | enter f args => exact ⟨noDepth, CallsIn.inRound l (callsIn_wide.2 h)⟩
    | row row args => exact ⟨noDepth, fun c cs _ => let ⟨v, w', r, s⟩ := h c cs; ⟨v, w', r, stepsIn_wide.2 s⟩⟩
    | _ => exact h.elim
  | halt x w' => cases x <;> exact h
theorem oper_in (hd : ∀ c, o.op ≠ .defer c) (h : o.wp P a w K Q) : o.wpIn (Fence.wide.inRound l) n P a w K Q := ⟨fun _ _ => trivial, by
  unfold Oper.wp at h
  rw [Oper.semAt_eq _ _ _ hd]
  exact upon_in h⟩
theorem op_in {i : Nat} (hL : ¬ LetsOut Q) (hd : ∀ o : Oper, ops[i]? = some o → ∀ c : Call, o.op ≠ .defer c) (hK : ∀ a w, K a w → K' a w) (h : wpOp P ops Q i K a w) : wpOpIn (Fence.wide.inRound l) n P ops Q i K' a w := by
  refine wpOpIn_mono hK ?_
  unfold wpOp at h
  unfold wpOpIn
  cases ho : ops[i]? with
  | none => rw [ho] at h; exact h
  | some o =>
    rw [ho] at h
    simp only at h ⊢
    split
    · rename_i hw
      rw [if_pos hw] at h
      exact oper_in (hd o ho) (h.resolve_right fun c => hL c.2)
    · rename_i hw
      rw [if_neg hw] at h
      exact ⟨fun _ _ => trivial, h⟩
theorem ops_in (hL : ¬ LetsOut Q) (hd : ∀ (i : Nat) (o : Oper), ops[i]? = some o → ∀ c : Call, o.op ≠ .defer c) : ∀ (is : List Nat) (a : Act) (w : World), wpOps P ops Q is a w → wpOpsIn (Fence.wide.inRound l) n P ops Q is a w
  | [], _, _, h => h
  | i :: rest, a, w, h => by
    rw [wpOps_cons] at h
    rw [wpOpsIn_cons]
    exact op_in hL (hd i) (fun a w => ops_in hL hd rest a w) h
theorem region_round {S : World → Prop} {id : Nat} (hL : ¬ LetsOut Q) (hm : P.follows .mixedOrders = true) (hd : (ops.toList.all fun o => match o.op with | .defer _ => false | _ => true) = true) (hS : S w.drew) (h : S w.drew → wpAnyH P .any ops Q S ops.size (Array.replicate ops.size false) a w.drew) : (Code.region id ops true).wpIn (Fence.wide.inRound l) n P Q a w :=
  wpIn_region_draw fun t => by
    simp only [Region.schedule, hm, Bool.true_or, if_true]
    refine ops_in hL (fun i o ho c hc => ?_) _ _ _ (wpAny_sound ops.size t _ a _ (wpAny_of_held _ _ _ _ (h hS)))
    have := List.all_eq_true.1 hd o (Array.mem_toList_iff.2 (Array.mem_of_getElem? ho))
    rw [hc] at this
    cases this
end
end Go.Proofs.YtjgngbmkpiihgaaGreatDoor
