/- The library's tables, as the rows list them. -/
import Derived.Test.YtonmaniehocbbaaDoorShow0
import Derived.Test.YtonmaniehocbbaaDoorOpenV
import Derived.Test.YtonmaniehocbbaaDoorCards
import Derived.Test.YtonmaniehocbbaaDoorTie
import Derived.Stop.LaidErr
import Derived.Lib.TrailingZeros
namespace Go.Proofs.YtonmaniehocbbaaDoor
open Go Go.RowKit Go.ChangeShapes Go.WideShapes Go.ChangeAt

theorem gPow : Tryd.prog.globalNamed "internal/strconv.uint64pow10" = some 1 := by kernel_rfl
theorem gPowType : (Tryd.prog.globals[1]?).map (·.type) = some 98 := by kernel_rfl
theorem cellsPow : Tryd.prog.cellsOf 98 = 20 := by kernel_rfl
theorem cellsU64 : Tryd.prog.cellsOf 89 = 1 := by kernel_rfl
theorem pow_eq : (Rows.laid_internal_strconv_uint64pow10 : DataW Unit) = Lib.tabData .u64 Lib.pow10Tab := by rfl
theorem pow_of {W : World} {rest : List (String × DataW Unit)} (h : laidMet Tryd.prog (("math/bits.deBruijn32tab", Rows.laid_math_bits_deBruijn32tab) :: ("math/bits.deBruijn64tab", Rows.laid_math_bits_deBruijn64tab) :: ("internal/strconv.uint64pow10", Rows.laid_internal_strconv_uint64pow10) :: rest) W) : Pow W := by
  have h2 := h.tail.tail
  rw [pow_eq] at h2
  exact Lib.tabIs_of_head gPow gPowType Tryd.underlying98 Tryd.underlying89 cellsU64 cellsPow h2
/-- A table of the library's, laid. -/
def laidT (k : IntKind) (zs : List Int) : Obj → Obj := fun
  | .cells _ t frozen => .cells (zs.map (fun z => Value.int k z)).toArray t frozen
  | o => o
end Go.Proofs.YtonmaniehocbbaaDoor
