import Derived.Test.YtjgngbmkpiihgaaGreatDoorRows
import Derived.OpenShut
import Derived.Carry
import Derived.Deep.DeepHandedRow
import Derived.Deep.Grids
import Derived.Lib.LaidTab
import Derived.Lib.SmallJoins
import Derived.Test.YtjgngbmkpiihgaaGreatDoorGSh
import Derived.Test.YtjgngbmkpiihgaaGreatDoorCards
import Derived.Test.YtjgngbmkpiihgaaGreatDoorTie
import Derived.Stop.LaidErr
import Derived.Lib.TrailingZeros
import Derived.Test.YtjgngbmkpiihgaaGreatDoorGRb
import Derived.ChangeMaps5
import Derived.Test.YtjgngbmkpiihgaaGreatDoorGIp
import Derived.Deep.Slices
/- (loose) Opening an argument of package laws' type Value. -/
namespace Go.Proofs.YtjgngbmkpiihgaaGreatDoor
open Go Go.RowKit Go.ChangeShapes Go.WideShapes Go.ChangeAt

section
variable {H : Type} {enc : TypeId × Value → H} {P : Program} {w : World} {base : Nat} {spare : Nat → Bool} {held : Bool}
theorem got_i64 {t : TypeId} {n : Nat} {v : Value} {y : DataW H × List MemPlace} (ht : P.underlying t = some (.int .i64)) (h : DataW.trod enc P w base spare held n t [v] = some y) : ∃ x, v = .int .i64 x ∧ -9223372036854775808 ≤ x ∧ x ≤ 9223372036854775807 := by
  obtain ⟨x, h1, h2⟩ := DataW.trod_int ht h
  have h3 := h2.2
  simp [Lit.wf, IntKind.min, IntKind.max, IntKind.signed, IntKind.bits] at h3
  exact ⟨x, by simpa using h1, by omega, by omega⟩
theorem got_str {t : TypeId} {n : Nat} {v : Value} {y : DataW H × List MemPlace} (ht : P.underlying t = some .string) (h : DataW.trod enc P w base spare held n t [v] = some y) : ∃ s : ByteArray, v = .string s ∧ s.size ≤ 9223372036854775807 := by
  obtain ⟨s, h1, _, h2⟩ := DataW.trod_string ht h
  exact ⟨s, by simpa using h1, h2⟩
end
theorem knobsV : ownKnob Tryz.prog.godebug = none := by kernel_rfl
theorem laidOutV : laidOutB Tryz.prog = true := by kernel_rfl
end Go.Proofs.YtjgngbmkpiihgaaGreatDoor

/- The library's tables, as the rows list them. -/
namespace Go.Proofs.YtjgngbmkpiihgaaGreatDoor
open Go Go.RowKit Go.ChangeShapes Go.WideShapes Go.ChangeAt

theorem gPow : Tryz.prog.globalNamed "internal/strconv.uint64pow10" = some 2 := by kernel_rfl
theorem gPowType : (Tryz.prog.globals[2]?).map (·.type) = some 165 := by kernel_rfl
theorem cellsPow : Tryz.prog.cellsOf 165 = 20 := by kernel_rfl
theorem cellsU64 : Tryz.prog.cellsOf 149 = 1 := by kernel_rfl
theorem pow_eq : (Rows.laid_internal_strconv_uint64pow10 : DataW Unit) = Lib.tabData .u64 Lib.pow10Tab := by rfl
theorem pow_of {W : World} {rest : List (String × DataW Unit)} (h : laidMet Tryz.prog (("math/bits.deBruijn32tab", Rows.laid_math_bits_deBruijn32tab) :: ("math/bits.deBruijn64tab", Rows.laid_math_bits_deBruijn64tab) :: ("internal/strconv.uint64pow10", Rows.laid_internal_strconv_uint64pow10) :: rest) W) : Pow W := by
  have h2 := h.tail.tail
  rw [pow_eq] at h2
  exact Lib.tabIs_of_head gPow gPowType Tryz.underlying165 Tryz.underlying149 cellsU64 cellsPow h2
/-- A table of the library's, laid. -/
def laidT (k : IntKind) (zs : List Int) : Obj → Obj := fun
  | .cells _ t frozen => .cells (zs.map (fun z => Value.int k z)).toArray t frozen
  | o => o
end Go.Proofs.YtjgngbmkpiihgaaGreatDoor

/- The library's errors, as the rows list them. -/
namespace Go.Proofs.YtjgngbmkpiihgaaGreatDoor
open Go Go.RowKit Go.ChangeShapes Go.WideShapes Go.ChangeAt

theorem star : "*" ++ "errors.errorString" = "*errors.errorString" := by decide
theorem rowES (u : TypeId) (h : Tryz.prog.typeName? 3 u = some "*errors.errorString") : u = 175 :=
  typeName_ptr_named (nm := "errors.errorString") (by rw [star]; kernel_rfl) (by kernel_rfl) (by decide) u (by rw [star]; exact h)
theorem gES : Tryz.prog.globalNamed "strconv.ErrSyntax" = some 3 := by kernel_rfl
theorem gER : Tryz.prog.globalNamed "strconv.ErrRange" = some 4 := by kernel_rfl
theorem gESType : (Tryz.prog.globals[3]?).map (·.type) = some 136 := by kernel_rfl
theorem gERType : (Tryz.prog.globals[4]?).map (·.type) = some 136 := by kernel_rfl
theorem cellsES : Tryz.prog.cellsOf 177 = 1 := by kernel_rfl
theorem cellsStr : Tryz.prog.cellsOf 9 = 1 := by kernel_rfl
theorem errR_of {W : World} {a b c : String × DataW Unit} {rest : List (String × DataW Unit)} (h : laidMet Tryz.prog (a :: b :: c :: ("strconv.ErrRange", Rows.laid_strconv_ErrRange) :: rest) W) : ErrV "strconv.ErrRange" W := by
  obtain ⟨p, s, hv, -⟩ := laid_sentinel h.tail.tail.tail gER gERType Tryz.underlying136 rowES Tryz.underlying175 Tryz.underlying177 rfl rfl Tryz.underlying9 cellsES cellsStr
  exact ⟨_, _, hv⟩
theorem errS_of {W : World} {a b c d : String × DataW Unit} {rest : List (String × DataW Unit)} (h : laidMet Tryz.prog (a :: b :: c :: d :: ("strconv.ErrSyntax", Rows.laid_strconv_ErrSyntax) :: rest) W) : ErrV "strconv.ErrSyntax" W := by
  obtain ⟨p, s, hv, -⟩ := laid_sentinel h.tail.tail.tail.tail gES gESType Tryz.underlying136 rowES Tryz.underlying175 Tryz.underlying177 rfl rfl Tryz.underlying9 cellsES cellsStr
  exact ⟨_, _, hv⟩
/-- An error of the library's, laid. -/
def laidE (b : Nat) : Obj → Obj := fun
  | .cells _ t frozen => .cells #[.iface 175 (.pointer (some ⟨b, 0, none⟩))] t frozen
  | o => o
end Go.Proofs.YtjgngbmkpiihgaaGreatDoor

/- The table of words, as the row lays it. -/
namespace Go.Proofs.YtjgngbmkpiihgaaGreatDoor
open Go Go.RowKit Go.ChangeShapes Go.WideShapes Go.ChangeAt

section
variable {H : Type} {enc : TypeId × Value → H} {P : Program} {w : World} {base : Nat} {held : Bool}
/-- An array of strings that reads as these holds these, cell for cell. -/
theorem cells_of_strs {enc : TypeId × Value → H} {sp : Nat → Bool} {fuel : Nat} {t e : TypeId} {n : Nat} {cs : List Value} {zs : List (List UInt8)} {p : List MemPlace}
    (ht : P.underlying t = some (.array n e)) (he : P.underlying e = some .string) (hce : P.cellsOf e = 1) (hct : P.cellsOf t = n)
    (h : DataW.trod enc P w base sp held fuel t cs = some (.agg (zs.map fun z => .lit (.string z)), p)) : cs = zs.map fun z => Value.string ⟨z.toArray⟩ := by
  cases fuel with
  | zero => simp [DataW.trod] at h
  | succ fuel =>
    simp only [DataW.trod, ht, hce, hct, Nat.mul_one] at h
    split at h
    · rename_i hl
      obtain ⟨xs, hm, hx⟩ := Option.map_eq_some_iff.1 h
      have hxs : xs.map (·.1) = zs.map fun z => (DataW.lit (.string z) : DataW H) := by
        have := congrArg Prod.fst hx
        simpa using this
      have hxl : xs.length = n := by simpa using Lib.mapM_length hm
      have hzl : zs.length = n := by
        have := congrArg List.length hxs
        simp at this
        omega
      apply List.ext_getElem?
      intro i
      by_cases hi : i < n
      · obtain ⟨b, hb, hf⟩ := Lib.mapM_at hm i i (by simp [hi])
        obtain ⟨s, hc, rfl, _⟩ := DataW.trod_string he hf
        have h1 : cs[i]? = some (.string s) := by
          have := congrArg (·[0]?) hc
          simpa [List.getElem?_take, List.getElem?_drop] using this
        have h2 : (xs.map (·.1))[i]? = some (DataW.lit (.string s.data.toList) : DataW H) := by simp [hb]
        rw [hxs] at h2
        simp only [List.getElem?_map, Option.map_eq_some_iff, DataW.lit.injEq, Lit.string.injEq] at h2
        obtain ⟨z', hz', rfl⟩ := h2
        simp [h1, hz']
      · rw [List.getElem?_eq_none (by omega), List.getElem?_eq_none (by simp; omega)]
    · cases h
end

theorem gWrd : Tryz.prog.globalNamed "loop.example/s0011/impl.operatorWords" = some 0 := by kernel_rfl
theorem gWrdType : (Tryz.prog.globals[0]?).map (·.type) = some 114 := by kernel_rfl
theorem cellsWrd : Tryz.prog.cellsOf 114 = 26 := by kernel_rfl
theorem wrd_eq : (Rows.laid_loop_example_s0011_impl_operatorWords : DataW Unit) = .agg ((wrdT.map (·.data.toList)).map fun z => .lit (.string z)) := by rfl
theorem wrd_of_head {W : World} {rest : List (String × DataW Unit)} (h : laidMet Tryz.prog (("loop.example/s0011/impl.operatorWords", Rows.laid_loop_example_s0011_impl_operatorWords) :: rest) W) : Wrds W := by
  rw [wrd_eq] at h
  obtain ⟨ps, ⟨g', t', cs, fuel, p, q, hg', ht', hvar, hd, _, _⟩, _⟩ := h
  obtain rfl := Option.some.inj (gWrd.symm.trans hg')
  obtain rfl := Option.some.inj (gWrdType.symm.trans ht')
  have hc := cells_of_strs Tryz.underlying114 Tryz.underlying9 cellsStr cellsWrd hd
  have hcell : ∀ k, k < 26 → W.cell? ⟨0, k, none⟩ = some (.string (wrdT.getD k ⟨#[]⟩)) := fun k hk => by
    have := World.var?_cell gWrd hvar k
    rw [this]
    have e : cs[k]? = cs.toList[k]? := by simp
    rw [e, hc]
    have hl : wrdT.length = 26 := rfl
    simp only [List.map_map, List.getElem?_map]
    rw [List.getElem?_eq_getElem (by omega)]
    simp [List.getD, List.getElem?_eq_getElem (show k < wrdT.length by omega)]
  refine ⟨?_, hcell⟩
  apply Nat.lt_of_not_le
  intro h0
  have hz := hcell 0 (by omega)
  have e : W.heap[(0 : Nat)]? = none := Array.getElem?_eq_none h0
  simp [World.cell?, e] at hz
/-- A table of texts, laid. -/
def laidS (zs : List ByteArray) : Obj → Obj := fun
  | .cells _ t frozen => .cells (zs.map Value.string).toArray t frozen
  | o => o
end Go.Proofs.YtjgngbmkpiihgaaGreatDoor
