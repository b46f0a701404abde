import Derived.Test.YtalgidagiojbpaaGreatDoorQGH
import Derived.Test.YtalgidagiojbpaaGreatDoorQGG
import Derived.OpenShut
import Derived.Lib.SmallJoins
/- Opening forms; the program's table of the types' words, as the rows list it. -/
namespace Go.Proofs.YtalgidagiojbpaaGreatDoor
open Go Go.RowKit Go.ChangeShapes Go.WideShapes Go.ChangeAt
section
variable {H : Type} {enc : TypeId × Value -> H} {P : Program} {w : World} {base : Nat} {held : Bool}
/-- A slice of rows of cells, opened. -/
theorem got_rows {X : Type} {Q : List Value -> X -> Prop} (z : X) {t e : TypeId} {n c : Nat} {v : Value} {y : DataW H × List MemPlace} (ht : P.underlying t = some (.slice e)) (hc : P.cellsOf e = c) (h1c : 1 <= c) (h : DataW.trod enc P w base (fun _ => true) held n t [v] = some y) (hlt : ∀ x ∈ y.2, x.block < w.heap.size)
 (each : ∀ (cs : List Value) (k : Nat) (q : DataW H × List MemPlace), cs.length = c -> DataW.trod enc P w base (fun _ => true) held k e cs = some q -> (∀ x ∈ q.2, x.block < w.heap.size) -> ∃ u, Q cs u) :
 ∃ (a : Option Addr) (l : List X) (cap : Nat), v = .slice a l.length cap /\ l.length <= 9223372036854775807 /\ l.length <= cap /\ ∀ i (hi : i < l.length), ∃ b o cs, a = some ⟨b, o, none⟩ /\ b < w.heap.size /\ cs.length = c /\ (∀ j, j < c -> w.cell? ⟨b, o + i * c + j, none⟩ = cs[j]?) /\ Q cs l[i] := by
 rcases Deep.open_slice ht h with ⟨h0, -⟩ | ⟨a, len, cap, m, k, D, Pl, h0, -, hl, hm, hmm, rfl, hx⟩
 . exact ⟨none, [], 0, by simpa using h0, Nat.zero_le _, Nat.le_refl _, fun i hi => absurd hi (Nat.not_lt_zero _)⟩
 . simp only [if_true] at hmm
   subst hmm
   have ea : ∀ i, i < m -> ∃ p : List Value × X, p.1.length = c /\ (∀ j, j < c -> w.cell? (a.add (i * c + j)) = p.1[j]?) /\ Q p.1 p.2 := by
    intro i hi
    obtain ⟨cs', g1, g2⟩ := hx i hi
    rw [hc] at g1
    obtain ⟨_, hlen, hcell⟩ := World.cells?_some g1
    obtain ⟨u, hu⟩ := each cs' k (D i, Pl i) hlen g2 (fun x hx' => hlt x (List.mem_append_right _ (List.mem_flatMap.2 ⟨i, List.mem_range.2 hi, hx'⟩)))
    refine ⟨(cs', u), hlen, fun j hj => ?_, hu⟩
    have := hcell j hj
    rw [Deep.add_add] at this
    exact this
   obtain ⟨U, hU⟩ : ∃ U : Nat -> List Value × X, ∀ i, i < m -> (U i).1.length = c /\ (∀ j, j < c -> w.cell? (a.add (i * c + j)) = (U i).1[j]?) /\ Q (U i).1 (U i).2 := by
    classical
    exact ⟨fun i => if h : i < m then (ea i h).choose else ([], z), fun i hi => by simp only [dif_pos hi]; exact (ea i hi).choose_spec⟩
   have hlen : ((List.range len).map fun i => (U i).2).length = len := by simp
   refine ⟨some a, (List.range len).map fun i => (U i).2, m, by rw [hlen]; simpa using h0, by rw [hlen]; have : maxLen = 9223372036854775807 := rfl; omega, by rw [hlen]; exact hl, fun i hi => ?_⟩
   rw [hlen] at hi
   obtain ⟨x0, x1, x2⟩ := hU i (by omega)
   obtain ⟨b, off, spot⟩ := a
   have hs : spot = none := by
    obtain ⟨g0, g1, -⟩ := hU 0 (by omega)
    have g2 := g1 0 (by omega)
    rw [List.getElem?_eq_getElem (by omega)] at g2
    simpa [Addr.add] using World.cell?_spot g2
   subst hs
   refine ⟨b, off, (U i).1, rfl, hlt (.cell b (off + i * c)) ?_, x0, fun j hj => ?_, ?_⟩
   . rw [hc]
     refine List.mem_append_left _ (MemPlace.mem_row.2 ⟨i * c, ?_, by simp⟩)
     have : i * c + c <= m * c := by rw [<- Nat.succ_mul]; exact Nat.mul_le_mul_right c (by omega)
     omega
   . have := x1 j hj
     rw [add_none0, <- Nat.add_assoc] at this
     exact this
   . simpa using x2
theorem got_strs {t e : TypeId} {n : Nat} {v : Value} {y : DataW H × List MemPlace} (ht : P.underlying t = some (.slice e)) (he : P.underlying e = some .string) (hc : P.cellsOf e = 1) (h : DataW.trod enc P w base (fun _ => true) held n t [v] = some y) (hlt : ∀ x ∈ y.2, x.block < w.heap.size) :
 ∃ a l cap, v = .slice a l.length cap /\ l.length <= 9223372036854775807 /\ Strs w a l /\ ∀ x, x ∈ l -> x.size <= 9223372036854775807 := by
 obtain ⟨a, l, cap, h1, h2, -, h3⟩ := got_rows (Q := fun cs x => cs = [.string x] /\ x.size <= 9223372036854775807) (⟨#[]⟩ : ByteArray) ht hc (Nat.le_refl _) h hlt (fun cs k q hl hq _ => by
  match cs, hl with
  | [v0], _ => obtain ⟨s, rfl, hs⟩ := got_str he hq; exact ⟨s, rfl, hs⟩)
 refine ⟨a, l, cap, h1, h2, fun k hk => ?_, fun x hx => ?_⟩
 . obtain ⟨b, o, cs, rfl, hb, -, hcell, rfl, -⟩ := h3 k hk
   have := hcell 0 (by omega)
   exact ⟨b, o, rfl, hb, by simpa using this⟩
 . obtain ⟨k, hk, rfl⟩ := List.mem_iff_getElem.1 hx
   obtain ⟨b, o, cs, -, -, -, -, -, hs⟩ := h3 k hk
   exact hs
theorem got_intL {t e : TypeId} {n : Nat} {v : Value} {y : DataW H × List MemPlace} (ht : P.underlying t = some (.slice e)) (he : P.underlying e = some (.int .i64)) (hc : P.cellsOf e = 1) (h : DataW.trod enc P w base (fun _ => true) held n t [v] = some y) (hlt : ∀ x ∈ y.2, x.block < w.heap.size) :
 ∃ a l cap, v = .slice a l.length cap /\ l.length <= 9223372036854775807 /\ IntL w a l := by
 obtain ⟨a, l, cap, h1, h2, -, h3⟩ := got_rows (Q := fun cs x => cs = [.int .i64 x]) (0 : Int) ht hc (Nat.le_refl _) h hlt (fun cs k q hl hq _ => by
  match cs, hl with
  | [v0], _ => obtain ⟨s, rfl, -, -⟩ := got_i64 he hq; exact ⟨s, rfl⟩)
 refine ⟨a, l, cap, h1, h2, fun k hk => ?_⟩
 obtain ⟨b, o, cs, rfl, hb, -, hcell, rfl⟩ := h3 k hk
 have := hcell 0 (by omega)
 refine ⟨b, o, rfl, hb, ?_⟩
 dsimp only
 rw [List.getD_eq_getElem?_getD, List.getElem?_eq_getElem hk]
 simpa using this
theorem got_prs {t e : TypeId} {f0 f1 : Field} {n : Nat} {v : Value} {y : DataW H × List MemPlace} (ht : P.underlying t = some (.slice e)) (he : P.underlying e = some (.struct #[f0, f1])) (hc : P.cellsOf e = 2) (o0 : f0.offset = 0) (o1 : f1.offset = 1) (i0 : P.underlying f0.type = some (.int .i64)) (i1 : P.underlying f1.type = some (.int .i64)) (c0 : P.cellsOf f0.type = 1) (c1 : P.cellsOf f1.type = 1)
 (h : DataW.trod enc P w base (fun _ => true) held n t [v] = some y) (hlt : ∀ x ∈ y.2, x.block < w.heap.size) : ∃ a l cap, v = .slice a l.length cap /\ l.length <= 9223372036854775807 /\ Prs w a l := by
 obtain ⟨a, l, cap, h1, h2, -, h3⟩ := got_rows (Q := fun cs (x : Int × Int) => cs = [.int .i64 x.1, .int .i64 x.2]) (0, 0) ht hc (by omega) h hlt (fun cs k q hl hq _ => by
  obtain ⟨y0, y1, n', rfl, -, g0, g1⟩ := trod_struct2 he hq
  match cs, hl with
  | [v0, v1], _ =>
   rw [o0, c0] at g0
   rw [o1, c1] at g1
   obtain ⟨s0, rfl, -, -⟩ := got_i64 i0 (by simpa using g0)
   obtain ⟨s1, rfl, -, -⟩ := got_i64 i1 (by simpa using g1)
   exact ⟨(s0, s1), rfl⟩)
 refine ⟨a, l, cap, h1, h2, fun k hk => ?_⟩
 obtain ⟨b, o, cs, rfl, hb, -, hcell, rfl⟩ := h3 k hk
 have q0 := hcell 0 (by omega)
 have q1 := hcell 1 (by omega)
 exact ⟨b, o, rfl, hb, q0, q1⟩
theorem got_rls {t e : TypeId} {f0 f1 : Field} {n : Nat} {v : Value} {y : DataW H × List MemPlace} (ht : P.underlying t = some (.slice e)) (he : P.underlying e = some (.struct #[f0, f1])) (hc : P.cellsOf e = 2) (o0 : f0.offset = 0) (o1 : f1.offset = 1) (i0 : P.underlying f0.type = some .string) (i1 : P.underlying f1.type = some (.int .i64)) (c0 : P.cellsOf f0.type = 1) (c1 : P.cellsOf f1.type = 1)
 (h : DataW.trod enc P w base (fun _ => true) held n t [v] = some y) (hlt : ∀ x ∈ y.2, x.block < w.heap.size) : ∃ a l cap, v = .slice a l.length cap /\ l.length <= 9223372036854775807 /\ Rls w a l /\ ∀ x, x ∈ l -> x.nm.size <= 9223372036854775807 := by
 obtain ⟨a, l, cap, h1, h2, -, h3⟩ := got_rows (Q := fun cs (x : Rl) => cs = [.string x.nm, .int .i64 x.lb] /\ x.nm.size <= 9223372036854775807) noRl ht hc (by omega) h hlt (fun cs k q hl hq _ => by
  obtain ⟨y0, y1, n', rfl, -, g0, g1⟩ := trod_struct2 he hq
  match cs, hl with
  | [v0, v1], _ =>
   rw [o0, c0] at g0
   rw [o1, c1] at g1
   obtain ⟨s0, rfl, hs⟩ := got_str i0 (by simpa using g0)
   obtain ⟨s1, rfl, -, -⟩ := got_i64 i1 (by simpa using g1)
   exact ⟨⟨s0, s1⟩, rfl, hs⟩)
 refine ⟨a, l, cap, h1, h2, fun k hk => ?_, fun x hx => ?_⟩
 . obtain ⟨b, o, cs, rfl, hb, -, hcell, rfl, -⟩ := h3 k hk
   have q0 := hcell 0 (by omega)
   have q1 := hcell 1 (by omega)
   exact ⟨b, o, rfl, hb, q0, q1⟩
 . obtain ⟨k, hk, rfl⟩ := List.mem_iff_getElem.1 hx
   obtain ⟨b, o, cs, -, -, -, -, -, hs⟩ := h3 k hk
   exact hs
/-- Nodes as a function, as a list. -/
theorem nodL_of {a : Option Addr} {m : Nat} {f : Nat -> Nx} (h : Nods w a m f) : ∃ l : List Nx, l.length = m /\ NodL w a l /\ ∀ k, k < m -> nf l k = f k := by
 have hl : ((List.range m).map f).length = m := by simp
 have hn : ∀ k, k < m -> nf ((List.range m).map f) k = f k := fun k hk => by rw [nf_get _ k (by rw [hl]; exact hk)]; simp
 refine ⟨(List.range m).map f, hl, ?_, hn⟩
 unfold NodL
 rw [hl]
 intro k hk
 obtain ⟨b, o, e, hc⟩ := h k hk
 exact ⟨b, o, e, by rw [hn k hk]; exact hc⟩
end
theorem cellsForm : Tryz.prog.cellsOf 27 = 4 := by kernel_rfl
theorem cellsField : Tryz.prog.cellsOf 89 = 9 := by kernel_rfl
theorem cellsPairL : Tryz.prog.cellsOf 107 = 2 := by kernel_rfl
theorem cellsRoleL : Tryz.prog.cellsOf 85 = 2 := by kernel_rfl
def noFA : FA := ⟨none, 0, none, 0, none, 0, none, 0, none, 0⟩
def noFl : Fl := ⟨⟨#[]⟩, 0, 0, [], [], [], [], ⟨#[]⟩, []⟩
section
variable {H : Type} {enc : TypeId × Value -> H} {w : World} {base : Nat} {held : Bool}
set_option maxRecDepth 100000 in
theorem got_nodL {n : Nat} {v : Value} {y : DataW H × List MemPlace} (h : DataW.trod enc Tryz.prog w base (fun _ => true) held n 87 [v] = some y) (hlt : ∀ x ∈ y.2, x.block < w.heap.size) :
 ∃ a l cap, v = .slice a l.length cap /\ l.length <= 9223372036854775807 /\ NodL w a l /\ ∀ k, k < l.length -> Fit (nf l k) := by
 obtain ⟨a, m, c, f, e4, l4, k4, s4⟩ := got_nodes Tryz.underlying87 Tryz.underlying157 cellsNode rfl rfl rfl Tryz.underlying155 cellsVal rfl rfl rfl Tryz.underlying3 Tryz.underlying9 cellsInt0 cellsStr Tryz.underlying3 Tryz.underlying2 Tryz.underlying9 cellsInt0 cellsI640 cellsStr h hlt
 obtain ⟨l, hl, hN, hf⟩ := nodL_of k4
 exact ⟨a, l, c, by rw [hl]; exact e4, by rw [hl]; exact l4, hN, fun k hk => by rw [hl] at hk; rw [hf k hk]; exact s4 k hk⟩
set_option maxRecDepth 100000 in
set_option maxHeartbeats 2000000 in
theorem got_flds {n : Nat} {v : Value} {y : DataW H × List MemPlace} (h : DataW.trod enc Tryz.prog w base (fun _ => true) held n 25 [v] = some y) (hlt : ∀ x ∈ y.2, x.block < w.heap.size) :
 ∃ a l AF cap, v = .slice a l.length cap /\ l.length <= 9223372036854775807 /\ Flds w a l AF /\ ∀ x, x ∈ l -> FitF x := by
 obtain ⟨a, l, cap, h1, h2, -, h3⟩ := got_rows (Q := fun cs (u : Fl × FA) => cs = fCs u.1 u.2 /\ FSl w u.1 u.2 /\ FitF u.1) (noFl, noFA) Tryz.underlying25 cellsField (by omega) h hlt (fun cs k q hl hq hp => by
  obtain ⟨xs, k', hk, rfl, _, hxl, hf⟩ := DataW.trod_struct Tryz.underlying89 hq
  match xs, hxl, cs, hl with
  | [y0, y1, y2, y3, y4, y5, y6, y7, y8], _, [v0, v1, v2, v3, v4, v5, v6, v7, v8], _ =>
   have g0 := hf 0 _ rfl
   have g1 := hf 1 _ rfl
   have g2 := hf 2 _ rfl
   have g3 := hf 3 _ rfl
   have g4 := hf 4 _ rfl
   have g5 := hf 5 _ rfl
   have g6 := hf 6 _ rfl
   have g7 := hf 7 _ rfl
   have g8 := hf 8 _ rfl
   have cI : Tryz.prog.cellsOf 29 = 1 := by kernel_rfl
   have cN : Tryz.prog.cellsOf 87 = 1 := by kernel_rfl
   simp [cellsStr, cellsInt0, cI, cN] at g0 g1 g2 g3 g4 g5 g6 g7 g8
   obtain ⟨nm, rfl, hnm⟩ := got_str Tryz.underlying9 g0
   obtain ⟨ty, rfl, -, -⟩ := got_i64 Tryz.underlying3 g1
   obtain ⟨lb, rfl, -, -⟩ := got_i64 Tryz.underlying3 g2
   obtain ⟨ab, bys, abc, rfl, lb3, kb3⟩ := got_intL Tryz.underlying29 Tryz.underlying3 cellsInt0 g3 (fun x hx => hp x (by simp [hx]))
   obtain ⟨ai, is', aic, rfl, li, ki, fi⟩ := got_nodL g4 (fun x hx => hp x (by simp [hx]))
   obtain ⟨ah, wh, ahc, rfl, lh, kh, fh⟩ := got_nodL g5 (fun x hx => hp x (by simp [hx]))
   obtain ⟨av, va, avc, rfl, lv, kv, fv⟩ := got_nodL g6 (fun x hx => hp x (by simp [hx]))
   obtain ⟨sy, rfl, hsy⟩ := got_str Tryz.underlying9 g7
   obtain ⟨au, mu, auc, rfl, lu, ku, fu⟩ := got_nodL g8 (fun x hx => hp x (by simp [hx]))
   exact ⟨(⟨nm, ty, lb, bys, is', wh, va, sy, mu⟩, ⟨ab, abc, ai, aic, ah, ahc, av, avc, au, auc⟩), rfl, ⟨kb3, ki, kh, kv, ku⟩, ⟨hnm, hsy, lb3, li, lh, lv, lu, fi, fh, fv, fu⟩⟩)
 have hml : (l.map (·.1)).length = l.length := by simp
 refine ⟨a, l.map (·.1), fun k => (l.getD k (noFl, noFA)).2, cap, by rw [hml]; exact h1, by rw [hml]; exact h2, fun k hk => ?_, fun x hx => ?_⟩
 . rw [hml] at hk
   obtain ⟨b, o, cs, rfl, hb, -, hcell, rfl, hs, -⟩ := h3 k hk
   have e2 : (l.getD k (noFl, noFA)).2 = l[k].2 := by rw [List.getD_eq_getElem?_getD, List.getElem?_eq_getElem hk]; rfl
   have e1 : (l.map (·.1))[k]'(by rw [hml]; exact hk) = l[k].1 := by simp
   rw [e1]
   dsimp only
   rw [e2]
   exact ⟨b, o, rfl, ⟨hb, hcell 0 (by omega), hcell 1 (by omega), hcell 2 (by omega), hcell 3 (by omega), hcell 4 (by omega), hcell 5 (by omega), hcell 6 (by omega), hcell 7 (by omega), hcell 8 (by omega)⟩, hs⟩
 . obtain ⟨u, hu, rfl⟩ := List.mem_map.1 hx
   obtain ⟨k, hk, rfl⟩ := List.mem_iff_getElem.1 hu
   obtain ⟨b, o, cs, -, -, -, -, -, -, hs⟩ := h3 k hk
   exact hs
end
def tyT : List ByteArray := [⟨#[]⟩, ⟨#[105, 110, 116]⟩, ⟨#[98, 111, 111, 108]⟩, ⟨#[116, 101, 120, 116]⟩]
theorem gTy : Tryz.prog.globalNamed "loop.example/s0011/impl.typeWords" = some 0 := by kernel_rfl
theorem gTyType : (Tryz.prog.globals[0]?).map (·.type) = some 211 := by kernel_rfl
theorem cellsTy : Tryz.prog.cellsOf 211 = 4 := by kernel_rfl
theorem ty_eq : (Rows.laid_loop_example_s0011_impl_typeWords : DataW Unit) = .agg ((tyT.map (·.data.toList)).map fun z => .lit (.string z)) := by rfl
theorem ty_of_head {W : World} {rest : List (String × DataW Unit)} (h : laidMet Tryz.prog (("loop.example/s0011/impl.typeWords", Rows.laid_loop_example_s0011_impl_typeWords) :: rest) W) : TyW W := by
 rw [ty_eq] at h
 obtain ⟨ps, ⟨g', t', cs, fuel, p, q, hg', ht', hvar, hd, _, _⟩, _⟩ := h
 obtain rfl := Option.some.inj (gTy.symm.trans hg')
 obtain rfl := Option.some.inj (gTyType.symm.trans ht')
 have hc := cells_of_strs Tryz.underlying211 Tryz.underlying9 cellsStr cellsTy hd
 have hcell : ∀ k, k < 4 -> W.cell? ⟨0, k, none⟩ = some (.string (tyT.getD k ⟨#[]⟩)) := fun k hk => by
  have := World.var?_cell gTy hvar k
  rw [this]
  have e : cs[k]? = cs.toList[k]? := by simp
  rw [e, hc]
  have hl : tyT.length = 4 := rfl
  simp only [List.map_map, List.getElem?_map]
  rw [List.getElem?_eq_getElem (by omega)]
  simp [List.getD, List.getElem?_eq_getElem (show k < tyT.length by omega)]
 refine ⟨?_, fun k h1 h3 => ?_⟩
 . apply Nat.lt_of_not_le
   intro h0
   have hz := hcell 0 (by omega)
   have e : W.heap[(0 : Nat)]? = none := Array.getElem?_eq_none h0
   simp [World.cell?, e] at hz
 . rw [hcell k (by omega)]
   obtain rfl | rfl | rfl : k = 1 ∨ k = 2 ∨ k = 3 := by omega
   . rfl
   . rfl
   . rfl
end Go.Proofs.YtalgidagiojbpaaGreatDoor
