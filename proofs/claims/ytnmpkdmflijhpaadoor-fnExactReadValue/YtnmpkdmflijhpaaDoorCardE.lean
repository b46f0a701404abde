/- The library's errors, as the rows list them. -/
import Derived.Test.YtnmpkdmflijhpaaDoorReadD
import Derived.Test.YtnmpkdmflijhpaaDoorCardT
import Derived.ChangeMaps5
namespace Go.Proofs.YtnmpkdmflijhpaaDoor
open Go Go.RowKit Go.ChangeShapes Go.WideShapes Go.ChangeAt

theorem star : "*" ++ "errors.errorString" = "*errors.errorString" := by decide
theorem rowES (u : TypeId) (h : Tryd.prog.typeName? 3 u = some "*errors.errorString") : u = 166 :=
  typeName_ptr_named (nm := "errors.errorString") (by rw [star]; kernel_rfl) (by kernel_rfl) (by decide) u (by rw [star]; exact h)
theorem gES : Tryd.prog.globalNamed "strconv.ErrSyntax" = some 2 := by kernel_rfl
theorem gER : Tryd.prog.globalNamed "strconv.ErrRange" = some 3 := by kernel_rfl
theorem gESType : (Tryd.prog.globals[2]?).map (·.type) = some 131 := by kernel_rfl
theorem gERType : (Tryd.prog.globals[3]?).map (·.type) = some 131 := by kernel_rfl
theorem cellsES : Tryd.prog.cellsOf 168 = 1 := by kernel_rfl
theorem cellsStr : Tryd.prog.cellsOf 9 = 1 := by kernel_rfl
theorem errR_of {W : World} {a b c : String × DataW Unit} {rest : List (String × DataW Unit)} (h : laidMet Tryd.prog (a :: b :: c :: ("strconv.ErrRange", Rows.laid_strconv_ErrRange) :: rest) W) : ErrV "strconv.ErrRange" W := by
  obtain ⟨p, s, hv, -⟩ := laid_sentinel h.tail.tail.tail gER gERType Tryd.underlying131 rowES Tryd.underlying166 Tryd.underlying168 rfl rfl Tryd.underlying9 cellsES cellsStr
  exact ⟨_, _, hv⟩
theorem errS_of {W : World} {a b c d : String × DataW Unit} {rest : List (String × DataW Unit)} (h : laidMet Tryd.prog (a :: b :: c :: d :: ("strconv.ErrSyntax", Rows.laid_strconv_ErrSyntax) :: rest) W) : ErrV "strconv.ErrSyntax" W := by
  obtain ⟨p, s, hv, -⟩ := laid_sentinel h.tail.tail.tail.tail gES gESType Tryd.underlying131 rowES Tryd.underlying166 Tryd.underlying168 rfl rfl Tryd.underlying9 cellsES cellsStr
  exact ⟨_, _, hv⟩
/-- An error of the library's, laid. -/
def laidE (b : Nat) : Obj → Obj := fun
  | .cells _ t frozen => .cells #[.iface 166 (.pointer (some ⟨b, 0, none⟩))] t frozen
  | o => o
end Go.Proofs.YtnmpkdmflijhpaaDoor
