import Derived.Test.YtjgngbmkpiihgaaGreatDoorGFm
import Derived.Test.YtjgngbmkpiihgaaGreatDoorGHn
import Derived.Test.YtjgngbmkpiihgaaGreatDoorGOw
/- Lists of nodes in memory of their own; two of them joined, of the model. -/
namespace Go.Proofs.YtjgngbmkpiihgaaGreatDoor
open Go Go.RowKit

def nC (n : Nx) : List Value := [.int .i64 n.op, .int .i64 n.v.k, .int .i64 n.v.n, .string n.v.s, .string n.nm]
def nodV (l : List Nx) : List Value := l.flatMap nC
theorem nodV_len (l : List Nx) : (nodV l).length = l.length * 5 := by
  induction l with
  | nil => rfl
  | cons p r ih => simp only [nodV, List.flatMap_cons, List.length_append, nC, List.length_cons, List.length_nil] at *; omega
theorem nodV_app (l r : List Nx) : nodV (l ++ r) = nodV l ++ nodV r := by simp [nodV]
theorem nodV_get {l : List Nx} {k p : Nat} (hk : k < l.length) (hp : p < 5) : (nodV l)[k * 5 + p]? = (nC l[k])[p]? := by
  induction l generalizing k with
  | nil => cases hk
  | cons x r ih =>
    cases k with
    | zero =>
      rw [show nodV (x :: r) = nC x ++ nodV r from rfl, Nat.zero_mul, Nat.zero_add, List.getElem?_append_left (by simp [nC]; omega)]
      rfl
    | succ k =>
      rw [show nodV (x :: r) = nC x ++ nodV r from rfl, List.getElem?_append_right (by simp [nC]; omega)]
      have := ih (k := k) (by simpa using hk)
      rw [show (k + 1) * 5 + p - (nC x).length = k * 5 + p by simp [nC]; omega]
      simpa using this
def OwnN (w : World) (base : Nat) (v : Value) (l : List Nx) : Prop := w.ownsRow base 41 5 v l.length (nodV l)
theorem OwnN.keep {w w' : World} {base : Nat} {v : Value} {l : List Nx} (h : OwnN w base v l) (hb : Below w.heap.size w w') : OwnN w' base v l :=
  World.ownsRow.kept (row := none) h ⟨hb.os, hb.tape, hb.output, hb.size, fun k hk _ => hb.block k hk⟩ (Classical.em _)
theorem OwnN.low {w : World} {base base' : Nat} {v : Value} {l : List Nx} (h : OwnN w base v l) (hb : base' ≤ base) : OwnN w base' v l := by
  refine ⟨h.1, ?_⟩
  rcases h.2 with h2 | ⟨g, cap, cur, h1, hg, r⟩
  · exact .inl h2
  · exact .inr ⟨g, cap, cur, h1, Nat.le_trans hb hg, r⟩
theorem OwnN.none (w : World) : OwnN (w.alloc (.cells #[] 41)) w.heap.size (.slice (some ⟨w.heap.size, 0, .none⟩) 0 0) [] :=
  ⟨rfl, .inr ⟨w.heap.size, 0, #[], rfl, Nat.le_refl _, heap_alloc_new w (.cells #[] 41), Nat.le_refl _, Nat.zero_le _, rfl, rfl⟩⟩
theorem OwnN.nods {w : World} {base : Nat} {v : Value} {l : List Nx} (h : OwnN w base v l) : ∃ a c, v = .slice a l.length c ∧ NodL w a l := by
  rcases h.2 with ⟨e, h0⟩ | ⟨g, cap, cur, e, hg, hq, h4, h5, h6, h7⟩
  · exact ⟨.none, 0, by rw [e, h0], fun k hk => by omega⟩
  · have hb : Blk w g 41 cur.toList := by
      show w.heap[g]? = _
      rw [hq]
    refine ⟨some ⟨g, 0, .none⟩, cap, e, fun k hk => ⟨g, 0, rfl, ?_⟩⟩
    have hc : ∀ p, p < 5 → w.cell? ⟨g, k * 5 + p, .none⟩ = (nC l[k])[p]? := fun p hp => by
      rw [hb.cell, ← nodV_get hk hp, ← h7, List.getElem?_take_of_lt (by omega)]
    rw [Nat.zero_add, nf_get l k hk]
    exact ⟨hb.lt, hc 0 (by omega), hc 1 (by omega), hc 2 (by omega), hc 3 (by omega), hc 4 (by omega)⟩
theorem info_nd : (Tryz.prog.info? 41).map (fun i => (i.zero, i.size, i.bytes)) = some (some (.agg #[.int .i64 0, .int .i64 0, .int .i64 0, .string ⟨#[]⟩, .string ⟨#[]⟩]), 5, 56) := by kernel_rfl
/-- One node more. -/
theorem append_node {ops : Array Oper} {rest : List Oper} {o : Oper} {a : Act} {Q : Exit → Act → World → Prop} {w : World} (hgd : o.guard = .none) (s x : Operand)
    (ho : o.op = .call { callee := .builtin .append, args := #[s, x], argTypes := #[23, 23] }) {base : Nat} {v : Value} {l : List Nx} (hs : a.eval s = v) (hown : OwnN w base v l)
    {g : Nat} {n : Nx} (hx : a.eval x = .slice (some ⟨g, 0, .none⟩) 1 1) (hc : Blk w g 41 (nC n)) (hl : l.length + 1 ≤ 2097152) (hbase : base ≤ w.heap.size)
    (h : ∀ v' w', OwnN w' base v' (l ++ [n]) → Below base w w' → wpList Tryz.prog ops Q rest (a.put o.dst v') w') : wpList Tryz.prog ops Q (o :: rest) a w := by
  obtain ⟨i0, hi, hz0, hz1, hz2⟩ := info_parts info_nd
  refine wpList_append_own w hgd s x 23 ho base 41 i0 _ 5 56 Tryz.underlying23 hi hz0 hz1 hz2 rfl (by omega) _ _ _ hs hown ⟨g, 0, .none⟩ 1 1 (nC n) hx rfl (fun j v hj => by rw [show (⟨g, 0, .none⟩ : Addr).add j = ⟨g, j, .none⟩ by simp [Addr.add]; try exact fun h => h.symm]; exact (hc.cell j).trans hj) (by simp [nC, Value.oneCell']) (by unfold maxLen; omega) (by omega) hbase ?_
  intro v' W9 ho hgr _
  refine h v' W9 ?_ ((Below.refl base w).grown hgr hbase (fun q e => owns_block hown e))
  unfold OwnN
  rw [nodV_app, List.length_append]
  simpa [nodV] using ho

set_option maxRecDepth 100000 in
set_option maxHeartbeats 4000000 in
theorem l3Join_any (a b : Option Addr) (ca cb : Nat) (la lb : List Nx) (w : World) (hl : la.length + lb.length ≤ 1048576) (ha : NodL w a la) (hb : NodL w b lb) :
    Calls Tryz.prog 18 #[.slice a la.length ca, .slice b lb.length cb] w fun r w' => ∃ v, r = .returned v ∧ OwnN w' w.heap.size v (la ++ lb) ∧ Below w.heap.size w w' := by
  have HB0 := hide ((Below.refl w.heap.size w).alloc (Nat.le_refl _) (.cells #[] 41))
  have HO0 := hide (OwnN.none w)
  have HA := hide ha; have HC := hide hb
  clear ha hb
  obtain ⟨W0, hW0⟩ : ∃ W0, w.alloc (.cells #[] 41) = W0 := ⟨_, rfl⟩
  rw [hW0] at HB0 HO0
  go_enter Tryz.func18, Tryz.ntmps18
  go_wp2_with fail
  try rw [hW0]
  clear hW0
  go_loopw [5, 6] (fun v i wr => ∃ k : Nat, k ≤ la.length ∧ i = .int .i64 k ∧ OwnN wr w.heap.size v (la.take k) ∧ Below w.heap.size w wr) (fun _ i _ => la.length - (intOf i).toNat)
  case atStart => exact ⟨0, Nat.zero_le _, rfl, unhide HO0, unhide HB0⟩
  case round =>
    clear HO0 HB0
    obtain ⟨k, hk, rfl, ho, hb⟩ := hrel
    have HO := hide ho; have HB := hide hb
    have HV := hide ((unhide HA).mono hb); have HW := hide ((unhide HC).mono hb)
    clear ho hb
    by_cases hlt : k < la.length
    · have hlt' : (k : Int) < la.length := by omega
      have HT : Hid (la.take (k + 1) = la.take k ++ [la[k]]) := hide (List.take_succ_eq_append_getElem hlt)
      obtain ⟨bb, oo, rfl, -, c0, c1, c2, c3, c4⟩ := unhide HV k hlt
      rw [nf_get la k hlt] at c0 c1 c2 c3 c4
      generalize la[k] = n at *
      have HN : Hid (Blk _ _ 41 (nC n)) := hide (Blk.new wr 41 (nC n).toArray)
      have HS := hide ((Below.refl wr.heap.size wr).alloc (Nat.le_refl _) (.cells (nC n).toArray 41))
      go_wp2_with (at_builtin; refine append_node rfl _ _ rfl rfl ((unhide HO).keep (unhide HS)) rfl (unhide HN) (by rw [List.length_take]; omega) (Nat.le_trans (unhide HB).size (unhide HS).size) ?_)
      intro v' W9 ho hb9
      have HO9 := hide ho
      rw [← unhide HT] at HO9
      have HB9 := hide ((unhide HB).trans (((unhide HS).mono (unhide HB).size).trans hb9))
      clear ho hb9 c0 c1 c2 c3 c4
      go_wp2_with fail
      go_roundw
      case rel => exact ⟨k + 1, by omega, by go_num, unhide HO9, unhide HB9⟩
      case measure => simp [intOf]; omega
    · obtain rfl : k = la.length := by omega
      have hlt' : ¬ (la.length : Int) < la.length := by omega
      rw [List.take_length] at HO
      go_wp2_with fail
      go_loopw [5, 7] (fun v i wr => ∃ k : Nat, k ≤ lb.length ∧ i = .int .i64 k ∧ OwnN wr w.heap.size v (la ++ lb.take k) ∧ Below w.heap.size w wr) (fun _ i _ => lb.length - (intOf i).toNat)
      case atStart => exact ⟨0, Nat.zero_le _, rfl, by rw [List.take_zero, List.append_nil]; exact unhide HO, unhide HB⟩
      case round =>
        clear HO HB HV HW hlt hlt' hk
        obtain ⟨k, hk, rfl, ho, hb⟩ := hrel
        have HO := hide ho; have HB := hide hb
        have HW := hide ((unhide HC).mono hb)
        clear ho hb
        by_cases hlt : k < lb.length
        · have hlt' : (k : Int) < lb.length := by omega
          have HT : Hid (la ++ lb.take (k + 1) = la ++ (lb.take k ++ [lb[k]])) := hide (by rw [List.take_succ_eq_append_getElem hlt])
          obtain ⟨bb, oo, rfl, -, c0, c1, c2, c3, c4⟩ := unhide HW k hlt
          rw [nf_get lb k hlt] at c0 c1 c2 c3 c4
          generalize lb[k] = n at *
          rename World => wr
          have HN : Hid (Blk _ _ 41 (nC n)) := hide (Blk.new wr 41 (nC n).toArray)
          have HS := hide ((Below.refl wr.heap.size wr).alloc (Nat.le_refl _) (.cells (nC n).toArray 41))
          go_wp2_with (at_builtin; refine append_node rfl _ _ rfl rfl ((unhide HO).keep (unhide HS)) rfl (unhide HN) (by rw [List.length_append, List.length_take]; omega) (Nat.le_trans (unhide HB).size (unhide HS).size) ?_)
          intro v' W9 ho hb9
          have HO9 := hide ho
          rw [← unhide HT] at HO9
          have HB9 := hide ((unhide HB).trans (((unhide HS).mono (unhide HB).size).trans hb9))
          clear ho hb9 c0 c1 c2 c3 c4
          go_wp2_with fail
          go_roundw
          case rel => exact ⟨k + 1, by omega, by go_num, unhide HO9, unhide HB9⟩
          case measure => simp [intOf]; omega
        · obtain rfl : k = lb.length := by omega
          have hlt' : ¬ (lb.length : Int) < lb.length := by omega
          rw [List.take_length] at HO
          go_wp2_with fail
          go_ret
          exact ⟨_, rfl, unhide HO, unhide HB⟩
end Go.Proofs.YtjgngbmkpiihgaaGreatDoor

/- Lists of nodes in memory of their own: one node; a part of a node turned. -/
namespace Go.Proofs.YtjgngbmkpiihgaaGreatDoor
open Go Go.RowKit

theorem OwnN.lone (w : World) (n : Nx) : OwnN (w.alloc (.cells #[.int .i64 n.op, .int .i64 n.v.k, .int .i64 n.v.n, .string n.v.s, .string n.nm] 41)) w.heap.size (.slice (some ⟨w.heap.size, 0, .none⟩) 1 1) [n] :=
  ⟨rfl, .inr ⟨w.heap.size, 1, _, rfl, Nat.le_refl _, heap_alloc_new w (.cells #[.int .i64 n.op, .int .i64 n.v.k, .int .i64 n.v.n, .string n.v.s, .string n.nm] 41), Nat.le_refl _, by unfold maxLen; omega, rfl, rfl⟩⟩
theorem nodV_set {l : List Nx} {k p : Nat} (hk : k < l.length) (hp : p < 5) {n : Nx} {x : Value} (hn : nC n = (nC l[k]).set p x) : nodV (l.set k n) = (nodV l).set (k * 5 + p) x := by
  induction l generalizing k with
  | nil => cases hk
  | cons y r ih =>
    cases k with
    | zero =>
      rw [List.set_cons_zero, show nodV (n :: r) = nC n ++ nodV r from rfl, show nodV (y :: r) = nC y ++ nodV r from rfl, List.set_append_left _ _ (by simp [nC]; omega), hn]
      simp
    | succ k =>
      have := ih (k := k) (by simpa using hk) (by simpa using hn)
      rw [List.set_cons_succ, show nodV (y :: r.set k n) = nC y ++ nodV (r.set k n) from rfl, show nodV (y :: r) = nC y ++ nodV r from rfl, this, List.set_append_right _ _ (by simp [nC]; omega)]
      rw [show (k + 1) * 5 + p - (nC y).length = k * 5 + p by simp [nC]; omega]
theorem OwnN.put {w : World} {base : Nat} {v : Value} {l : List Nx} (h : OwnN w base v l) (h0 : 0 < l.length) : ∃ g c, v = .slice (some ⟨g, 0, .none⟩) l.length c ∧ base ≤ g ∧ g < w.heap.size ∧ (∀ j, j < l.length * 5 → (∃ u, w.cell? ⟨g, j, .none⟩ = some u) ∧ w.frozen? ⟨g, j, .none⟩ = false) ∧
    (∀ k, k < l.length → w.cell? ⟨g, k * 5, .none⟩ = some (.int .i64 (nf l k).op) ∧ w.cell? ⟨g, k * 5 + 4, .none⟩ = some (.string (nf l k).nm)) ∧
    ∀ (k p : Nat) (hk : k < l.length) (_ : p < 5) (n : Nx) (x : Value), nC n = (nC l[k]).set p x → OwnN (w.setCell ⟨g, k * 5 + p, .none⟩ x) base v (l.set k n) := by
  rcases h.2 with ⟨e, h'⟩ | ⟨g, cap, cur, e, hg, hq, h4, h5, h6, h7⟩
  · omega
  · have hb : Blk w g 41 cur.toList := by
      show w.heap[g]? = _
      rw [hq]
    have hc : ∀ k p, (hk : k < l.length) → p < 5 → w.cell? ⟨g, k * 5 + p, .none⟩ = (nC l[k])[p]? := fun k p hk hp => by
      rw [hb.cell, ← nodV_get hk hp, ← h7, List.getElem?_take_of_lt (by omega)]
    refine ⟨g, cap, e, hg, hb.lt, fun j hj => ⟨?_, hb.free j⟩, fun k hk => ?_, fun k p hk hp n x hn => ?_⟩
    · have : j < cur.toList.length := by rw [Array.length_toList, h6]; omega
      exact ⟨cur.toList[j], by rw [hb.cell, List.getElem?_eq_getElem this]⟩
    · rw [nf_get l k hk]
      exact ⟨hc k 0 hk (by omega), hc k 4 hk (by omega)⟩
    · have hs := hb.set (k * 5 + p) x
      refine ⟨by rw [nodV_len], .inr ⟨g, cap, (cur.toList.set (k * 5 + p) x).toArray, by rw [List.length_set]; exact e, hg, hs, by rw [List.length_set]; exact h4, h5, by simp [h6], ?_⟩⟩
      rw [nodV_set hk hp hn, ← h7, List.length_set, List.take_set]
theorem OwnN.put1 {w : World} {base g c : Nat} {l : List Nx} (h : OwnN w base (.slice (some ⟨g, 0, .none⟩) l.length c) l) {k p : Nat} (hk : k < l.length) (hp : p < 5) {n : Nx} {x : Value} (hn : nC n = (nC l[k]).set p x) : OwnN (w.setCell ⟨g, k * 5 + p, .none⟩ x) base (.slice (some ⟨g, 0, .none⟩) (l.set k n).length c) (l.set k n) := by
  obtain ⟨g', c', e, -, -, -, -, hput⟩ := h.put (by omega)
  cases e
  rw [List.length_set]
  exact hput k p hk hp n x hn
/-- The value of a node turned. -/
theorem OwnN.put3 {w : World} {base g c : Nat} {l : List Nx} (h : OwnN w base (.slice (some ⟨g, 0, .none⟩) l.length c) l) {k : Nat} (hk : k < l.length) (a b : Int) (s : ByteArray) :
    OwnN (((w.setCell ⟨g, k * 5 + 1, .none⟩ (.int .i64 a)).setCell ⟨g, k * 5 + 2, .none⟩ (.int .i64 b)).setCell ⟨g, k * 5 + 3, .none⟩ (.string s)) base (.slice (some ⟨g, 0, .none⟩) l.length c) (l.set k ⟨l[k].op, ⟨a, b, s⟩, l[k].nm⟩) := by
  have h1 := h.put1 hk (p := 1) (by omega) (n := ⟨l[k].op, ⟨a, l[k].v.n, l[k].v.s⟩, l[k].nm⟩) (x := .int .i64 a) rfl
  have h2 := h1.put1 (k := k) (p := 2) (by rw [List.length_set]; exact hk) (by omega) (n := ⟨l[k].op, ⟨a, b, l[k].v.s⟩, l[k].nm⟩) (x := .int .i64 b) (by rw [List.getElem_set_self]; rfl)
  have h3 := h2.put1 (k := k) (p := 3) (by rw [List.length_set, List.length_set]; exact hk) (by omega) (n := ⟨l[k].op, ⟨a, b, s⟩, l[k].nm⟩) (x := .string s) (by rw [List.getElem_set_self]; rfl)
  rw [List.set_set, List.set_set, List.length_set] at h3
  exact h3
end Go.Proofs.YtjgngbmkpiihgaaGreatDoor
