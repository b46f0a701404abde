import Derived.Test.YtalgidagiojbpaaGreatDoorRows
import Derived.OpenShut
import Derived.Carry
import Derived.Deep.DeepHandedRow
import Derived.Deep.Grids
import Derived.Lib.LaidTab
import Derived.Lib.SmallJoins
import Derived.Test.YtalgidagiojbpaaGreatDoorQGSh
import Derived.Test.YtalgidagiojbpaaGreatDoorCards
import Derived.Test.YtalgidagiojbpaaGreatDoorTie
import Derived.Stop.LaidErr
import Derived.Lib.TrailingZeros
import Derived.Test.YtalgidagiojbpaaGreatDoorQGVa
import Derived.Test.YtalgidagiojbpaaGreatDoorQGB1
import Derived.Deep.Slices
/- Opening an argument of package laws' type Value. -/
namespace Go.Proofs.YtalgidagiojbpaaGreatDoor
open Go Go.RowKit Go.ChangeShapes Go.WideShapes Go.ChangeAt
section
variable {H : Type} {enc : TypeId × Value -> H} {P : Program} {w : World} {base : Nat} {spare : Nat -> Bool} {held : Bool}
theorem got_i64 {t : TypeId} {n : Nat} {v : Value} {y : DataW H × List MemPlace} (ht : P.underlying t = some (.int .i64)) (h : DataW.trod enc P w base spare held n t [v] = some y) : ∃ x, v = .int .i64 x /\ -9223372036854775808 <= x /\ x <= 9223372036854775807 := by
 obtain ⟨x, h1, h2⟩ := DataW.trod_int ht h
 have h3 := h2.2
 simp [Lit.wf, IntKind.min, IntKind.max, IntKind.signed, IntKind.bits] at h3
 exact ⟨x, by simpa using h1, by omega, by omega⟩
theorem got_str {t : TypeId} {n : Nat} {v : Value} {y : DataW H × List MemPlace} (ht : P.underlying t = some .string) (h : DataW.trod enc P w base spare held n t [v] = some y) : ∃ s : ByteArray, v = .string s /\ s.size <= 9223372036854775807 := by
 obtain ⟨s, h1, _, h2⟩ := DataW.trod_string ht h
 exact ⟨s, by simpa using h1, h2⟩
end
theorem knobsV : ownKnob Tryz.prog.godebug = none := by kernel_rfl
theorem laidOutV : laidOutB Tryz.prog = true := by kernel_rfl
theorem cellsVal : Tryz.prog.cellsOf 155 = 3 := by kernel_rfl
end Go.Proofs.YtalgidagiojbpaaGreatDoor
/- The library's tables, as the rows list them. -/
namespace Go.Proofs.YtalgidagiojbpaaGreatDoor
open Go Go.RowKit Go.ChangeShapes Go.WideShapes Go.ChangeAt
theorem gPow : Tryz.prog.globalNamed "internal/strconv.uint64pow10" = some 4 := by kernel_rfl
theorem gPowType : (Tryz.prog.globals[4]?).map (·.type) = some 244 := by kernel_rfl
theorem cellsPow : Tryz.prog.cellsOf 244 = 20 := by kernel_rfl
theorem cellsU64 : Tryz.prog.cellsOf 236 = 1 := by kernel_rfl
theorem pow_eq : (Rows.laid_internal_strconv_uint64pow10 : DataW Unit) = Lib.tabData .u64 Lib.pow10Tab := by rfl
theorem pow_of {W : World} {rest : List (String × DataW Unit)} (h : laidMet Tryz.prog (("math/bits.deBruijn32tab", Rows.laid_math_bits_deBruijn32tab) :: ("math/bits.deBruijn64tab", Rows.laid_math_bits_deBruijn64tab) :: ("internal/strconv.uint64pow10", Rows.laid_internal_strconv_uint64pow10) :: rest) W) : Pow W := by
 have h2 := h.tail.tail
 rw [pow_eq] at h2
 exact Lib.tabIs_of_head gPow gPowType Tryz.underlying244 Tryz.underlying236 cellsU64 cellsPow h2
/-- A table of the library's, laid. -/
def laidT (k : IntKind) (zs : List Int) : Obj -> Obj := fun
 | .cells _ t frozen => .cells (zs.map (fun z => Value.int k z)).toArray t frozen
 | o => o
end Go.Proofs.YtalgidagiojbpaaGreatDoor
/- Opening lists of nodes; the program's table of words, as the rows list it. -/
namespace Go.Proofs.YtalgidagiojbpaaGreatDoor
open Go Go.RowKit Go.ChangeShapes Go.WideShapes Go.ChangeAt
theorem cellsInt0 : Tryz.prog.cellsOf 3 = 1 := by kernel_rfl
theorem cellsI640 : Tryz.prog.cellsOf 2 = 1 := by kernel_rfl
theorem cellsStr : Tryz.prog.cellsOf 9 = 1 := by kernel_rfl
theorem cellsNode : Tryz.prog.cellsOf 157 = 5 := by kernel_rfl
theorem add_none0 (b off j : Nat) : (⟨b, off, none⟩ : Addr).add j = ⟨b, off + j, none⟩ := by simp [Addr.add]
section
variable {H : Type} {enc : TypeId × Value -> H} {P : Program} {w : World} {base : Nat} {held : Bool}
def zeroNx : Nx := ⟨0, blankX, ⟨#[]⟩⟩
/-- A slice of nodes, opened. -/
theorem got_nodes {t e : TypeId} {f0 f1 f2 g0 g1 g2 : Field} {n : Nat} {v : Value} {y : DataW H × List MemPlace} (ht : P.underlying t = some (.slice e)) (he : P.underlying e = some (.struct #[f0, f1, f2])) (ce : P.cellsOf e = 5) (o0 : f0.offset = 0) (o1 : f1.offset = 1) (o2 : f2.offset = 4)
 (hv : P.underlying f1.type = some (.struct #[g0, g1, g2])) (cv : P.cellsOf f1.type = 3) (q0 : g0.offset = 0) (q1 : g1.offset = 1) (q2 : g2.offset = 2)
 (i0 : P.underlying f0.type = some (.int .i64)) (i2 : P.underlying f2.type = some .string) (c0 : P.cellsOf f0.type = 1) (c2 : P.cellsOf f2.type = 1)
 (j0 : P.underlying g0.type = some (.int .i64)) (j1 : P.underlying g1.type = some (.int .i64)) (j2 : P.underlying g2.type = some .string) (d0 : P.cellsOf g0.type = 1) (d1 : P.cellsOf g1.type = 1) (d2 : P.cellsOf g2.type = 1) (h : DataW.trod enc P w base (fun _ => true) held n t [v] = some y)
 (hlt : ∀ x ∈ y.2, x.block < w.heap.size) : ∃ a len cap f, v = .slice a len cap /\ len <= 9223372036854775807 /\ Nods w a len f /\ (∀ i, i < len -> Fit (f i)) := by
 rcases Deep.open_slice ht h with ⟨h0, -⟩ | ⟨a, len, cap, m, k, D, Pl, h0, -, hl, hm, hmm, rfl, hx⟩
 . exact ⟨none, 0, 0, fun _ => zeroNx, by simpa using h0, by omega, fun k hk => absurd hk (Nat.not_lt_zero _), fun k hk => absurd hk (Nat.not_lt_zero _)⟩
 . simp only [if_true] at hmm
   subst hmm
   have each : ∀ i, i < m -> ∃ u : Nx, w.cell? (a.add (i * 5)) = some (.int .i64 u.op) /\ w.cell? (a.add (i * 5 + 1)) = some (.int .i64 u.v.k) /\ w.cell? (a.add (i * 5 + 2)) = some (.int .i64 u.v.n) /\ w.cell? (a.add (i * 5 + 3)) = some (.string u.v.s) /\ w.cell? (a.add (i * 5 + 4)) = some (.string u.nm) /\ Fit u := by
    intro i hi
    obtain ⟨cs', h1, h2⟩ := hx i hi
    rw [ce] at h1
    obtain ⟨_, hlen, hcell⟩ := World.cells?_some h1
    obtain ⟨xs, k', hk, hxy, _, hxl, hf⟩ := DataW.trod_struct he h2
    match xs, hxl, cs', hlen with
    | [y0, y1, y2], _, [v0, v1, v2, v3, v4], _ =>
     have g0' := hf 0 f0 rfl
     have g1' := hf 1 f1 rfl
     have g2' := hf 2 f2 rfl
     simp [o0, o1, o2, c0, c2, cv] at g0' g1' g2'
     have e0 := hcell 0 (by omega)
     have e1 := hcell 1 (by omega)
     have e2 := hcell 2 (by omega)
     have e3 := hcell 3 (by omega)
     have e4 := hcell 4 (by omega)
     rw [Deep.add_add] at e0 e1 e2 e3 e4
     obtain ⟨xs', k'', hk', hxy', _, hxl', hf'⟩ := DataW.trod_struct hv g1'
     match xs', hxl' with
     | [z0, z1, z2], _ =>
      have r0 := hf' 0 g0 rfl
      have r1 := hf' 1 g1 rfl
      have r2 := hf' 2 g2 rfl
      simp [q0, q1, q2, d0, d1, d2] at r0 r1 r2
      obtain ⟨op, rfl, -, -⟩ := got_i64 i0 g0'
      obtain ⟨kind, rfl, -, -⟩ := got_i64 j0 r0
      obtain ⟨num, rfl, n0, n1⟩ := got_i64 j1 r1
      obtain ⟨s, rfl, hs⟩ := got_str j2 r2
      obtain ⟨nm, rfl, hn⟩ := got_str i2 g2'
      exact ⟨⟨op, ⟨kind, num, s⟩, nm⟩, by simpa using e0, by simpa using e1, by simpa using e2, by simpa using e3, by simpa using e4, hs, hn, n0, n1⟩
   obtain ⟨f, hf⟩ : ∃ f : Nat -> Nx, ∀ i, i < m -> w.cell? (a.add (i * 5)) = some (.int .i64 (f i).op) /\ w.cell? (a.add (i * 5 + 1)) = some (.int .i64 (f i).v.k) /\ w.cell? (a.add (i * 5 + 2)) = some (.int .i64 (f i).v.n) /\ w.cell? (a.add (i * 5 + 3)) = some (.string (f i).v.s) /\ w.cell? (a.add (i * 5 + 4)) = some (.string (f i).nm) /\ Fit (f i) := by
    classical
    exact ⟨fun i => if h : i < m then (each i h).choose else zeroNx, fun i hi => by simp only [dif_pos hi]; exact (each i hi).choose_spec⟩
   refine ⟨some a, len, m, f, by simpa using h0, by have : maxLen = 9223372036854775807 := rfl; omega, fun i hi => ?_, fun i hi => (hf i (by omega)).2.2.2.2.2⟩
   obtain ⟨x0, x1, x2, x3, x4, -⟩ := hf i (by omega)
   obtain ⟨b, off, spot⟩ := a
   have hs : spot = none := by simpa [Addr.add] using World.cell?_spot (hf 0 (by omega)).1
   subst hs
   rw [add_none0] at x0 x1 x2 x3 x4
   refine ⟨b, off, rfl, hlt (.cell b (off + i * 5)) ?_, x0, x1, x2, x3, x4⟩
   rw [ce]
   exact List.mem_append_left _ (MemPlace.mem_row.2 ⟨i * 5, by omega, by simp⟩)
/-- An array of strings that reads as these holds these, cell for cell. -/
theorem cells_of_strs {enc : TypeId × Value -> H} {sp : Nat -> Bool} {fuel : Nat} {t e : TypeId} {n : Nat} {cs : List Value} {zs : List (List UInt8)} {p : List MemPlace}
 (ht : P.underlying t = some (.array n e)) (he : P.underlying e = some .string) (hce : P.cellsOf e = 1) (hct : P.cellsOf t = n)
 (h : DataW.trod enc P w base sp held fuel t cs = some (.agg (zs.map fun z => .lit (.string z)), p)) : cs = zs.map fun z => Value.string ⟨z.toArray⟩ := by
 cases fuel with
 | zero => simp [DataW.trod] at h
 | succ fuel =>
  simp only [DataW.trod, ht, hce, hct, Nat.mul_one] at h
  split at h
  . rename_i hl
    obtain ⟨xs, hm, hx⟩ := Option.map_eq_some_iff.1 h
    have hxs : xs.map (·.1) = zs.map fun z => (DataW.lit (.string z) : DataW H) := by
     have := congrArg Prod.fst hx
     simpa using this
    have hxl : xs.length = n := by simpa using Lib.mapM_length hm
    have hzl : zs.length = n := by
     have := congrArg List.length hxs
     simp at this
     omega
    apply List.ext_getElem?
    intro i
    by_cases hi : i < n
    . obtain ⟨b, hb, hf⟩ := Lib.mapM_at hm i i (by simp [hi])
      obtain ⟨s, hc, rfl, _⟩ := DataW.trod_string he hf
      have h1 : cs[i]? = some (.string s) := by
       have := congrArg (·[0]?) hc
       simpa [List.getElem?_take, List.getElem?_drop] using this
      have h2 : (xs.map (·.1))[i]? = some (DataW.lit (.string s.data.toList) : DataW H) := by simp [hb]
      rw [hxs] at h2
      simp only [List.getElem?_map, Option.map_eq_some_iff, DataW.lit.injEq, Lit.string.injEq] at h2
      obtain ⟨z', hz', rfl⟩ := h2
      simp [h1, hz']
    . rw [List.getElem?_eq_none (by omega), List.getElem?_eq_none (by simp; omega)]
  . cases h
end
theorem gWrd : Tryz.prog.globalNamed "loop.example/s0011/impl.operatorWords" = some 3 := by kernel_rfl
theorem gWrdType : (Tryz.prog.globals[3]?).map (·.type) = some 241 := by kernel_rfl
theorem cellsWrd : Tryz.prog.cellsOf 241 = 26 := by kernel_rfl
theorem wrd_eq : (Rows.laid_loop_example_s0011_impl_operatorWords : DataW Unit) = .agg ((wrdT.map (·.data.toList)).map fun z => .lit (.string z)) := by rfl
theorem wrd_of_head {W : World} {rest : List (String × DataW Unit)} (h : laidMet Tryz.prog (("loop.example/s0011/impl.operatorWords", Rows.laid_loop_example_s0011_impl_operatorWords) :: rest) W) : Wrds W := by
 rw [wrd_eq] at h
 obtain ⟨ps, ⟨g', t', cs, fuel, p, q, hg', ht', hvar, hd, _, _⟩, _⟩ := h
 obtain rfl := Option.some.inj (gWrd.symm.trans hg')
 obtain rfl := Option.some.inj (gWrdType.symm.trans ht')
 have hc := cells_of_strs Tryz.underlying241 Tryz.underlying9 cellsStr cellsWrd hd
 have hcell : ∀ k, k < 26 -> W.cell? ⟨3, k, none⟩ = some (.string (wrdT.getD k ⟨#[]⟩)) := fun k hk => by
  have := World.var?_cell gWrd hvar k
  rw [this]
  have e : cs[k]? = cs.toList[k]? := by simp
  rw [e, hc]
  have hl : wrdT.length = 26 := rfl
  simp only [List.map_map, List.getElem?_map]
  rw [List.getElem?_eq_getElem (by omega)]
  simp [List.getD, List.getElem?_eq_getElem (show k < wrdT.length by omega)]
 refine ⟨?_, hcell⟩
 apply Nat.lt_of_not_le
 intro h0
 have hz := hcell 0 (by omega)
 have e : W.heap[(3 : Nat)]? = none := Array.getElem?_eq_none h0
 simp [World.cell?, e] at hz
/-- A table of texts, laid. -/
def laidS (zs : List ByteArray) : Obj -> Obj := fun
 | .cells _ t frozen => .cells (zs.map Value.string).toArray t frozen
 | o => o
end Go.Proofs.YtalgidagiojbpaaGreatDoor
