/-
  DERIVED. GIVEN WITH THE SEED: THE CARDS: each row of YtdjcmnbdodpplabDoorRows.lean that lists a variable, with what it lists TIED to the program's text (the seventh form; the later family's looks); each row that meets fmt, with fmt's text TOLD by the authors' own Lean function (tested against real Go, not proved from fmt's source: count such statements apart). THE CARD IS WHAT COUNTS. Prove the row's statement (the work); the ties are given (YtdjcmnbdodpplabDoorTie.lean); close each card by the builder's one call (the guide's Derived/Test/ToyasCard.lean, 'card_holds'). Laid BY PROGRAM, IN A SANDBOX (cutbox-door.mjs). By AI agents, Wed Nov 11 2026. No macro, syntax, notation, axiom, sorry.
-/
import Derived.Test.YtdjcmnbdodpplabDoorRows
import GoSem.ClaimSeven
namespace Go.Proofs.YtdjcmnbdodpplabDoor
namespace Rows

/-- THE TIED CARD OF 'laws.FnExactJoinAll'. -/
def fnExactJoinAllCard : Claim7 := { stood := { row := fnExactJoinAllRow, standIns := [], harness := (true, "0ac700b30d43f5e606378d0868667ebb165497f82d2f138946fa0de87c119056"), looks := true }, kinds := [], alts := [], laidByText := true, laidKinds := [.data], laidTests := true, laidLooks := .later }
def FnExactJoinAllCardSaid : Prop := Claim7.holds Tryd.pinned (.plain (OpenSpec.ofChange fnExactJoinAllSpec)) fnExactJoinAllCard

/-- THE TIED CARD OF 'laws.FnExactShowValue'. -/
def fnExactShowValueCard : Claim7 := { stood := { row := fnExactShowValueRow, standIns := [], harness := (true, "0ac700b30d43f5e606378d0868667ebb165497f82d2f138946fa0de87c119056"), looks := true }, kinds := [], alts := [], laidByText := true, laidKinds := [.data, .data, .data], laidTests := true, laidLooks := .later }
def FnExactShowValueCardSaid : Prop := Claim7.holds Tryd.pinned (.plain (OpenSpec.ofChange fnExactShowValueSpec)) fnExactShowValueCard

/-- THE TIED CARD OF 'laws.FnExactReadValue'. -/
def fnExactReadValueCard : Claim7 := { stood := { row := fnExactReadValueRow, standIns := [], harness := (true, "0ac700b30d43f5e606378d0868667ebb165497f82d2f138946fa0de87c119056"), looks := true }, kinds := [], alts := [], laidByText := true, laidKinds := [.data, .data, .data, .sentinel, .sentinel], laidTests := true, laidLooks := .later }
def FnExactReadValueCardSaid : Prop := Claim7.holds Tryd.pinned (.plain (OpenSpec.ofChange fnExactReadValueSpec)) fnExactReadValueCard

/-- THE TIED CARD OF 'laws.FnExactPrintExpr'. -/
def fnExactPrintExprCard : Claim7 := { stood := { row := fnExactPrintExprRow, standIns := [], harness := (true, "0ac700b30d43f5e606378d0868667ebb165497f82d2f138946fa0de87c119056"), looks := true }, kinds := [], alts := [], laidByText := true, laidKinds := [.data, .data, .data, .data], laidTests := true, laidLooks := .later }
def FnExactPrintExprCardSaid : Prop := Claim7.holds Tryd.pinned (.plain (OpenSpec.ofChange fnExactPrintExprSpec)) fnExactPrintExprCard

/-- THE SECOND FORM's CARD OF 'laws.FnExactJoinAll'. -/
def fnExactJoinAllUptoCard : Claim7 := { stood := { row := fnExactJoinAllUptoRow, standIns := [], harness := (true, "0ac700b30d43f5e606378d0868667ebb165497f82d2f138946fa0de87c119056"), looks := true }, kinds := [], alts := [], laidByText := true, laidKinds := [.data], laidTests := true, laidLooks := .later }
def FnExactJoinAllUptoCardSaid : Prop := Claim7.holds Tryd.pinned (.plain (OpenSpec.upto fnExactJoinAllSpec)) fnExactJoinAllUptoCard

/-- THE SECOND FORM's CARD OF 'laws.FnExactShowValue'. -/
def fnExactShowValueUptoCard : Claim7 := { stood := { row := fnExactShowValueUptoRow, standIns := [], harness := (true, "0ac700b30d43f5e606378d0868667ebb165497f82d2f138946fa0de87c119056"), looks := true }, kinds := [], alts := [], laidByText := true, laidKinds := [.data, .data, .data], laidTests := true, laidLooks := .later }
def FnExactShowValueUptoCardSaid : Prop := Claim7.holds Tryd.pinned (.plain (OpenSpec.upto fnExactShowValueSpec)) fnExactShowValueUptoCard

/-- THE SECOND FORM's CARD OF 'laws.FnExactReadValue'. -/
def fnExactReadValueUptoCard : Claim7 := { stood := { row := fnExactReadValueUptoRow, standIns := [], harness := (true, "0ac700b30d43f5e606378d0868667ebb165497f82d2f138946fa0de87c119056"), looks := true }, kinds := [], alts := [], laidByText := true, laidKinds := [.data, .data, .data, .sentinel, .sentinel], laidTests := true, laidLooks := .later }
def FnExactReadValueUptoCardSaid : Prop := Claim7.holds Tryd.pinned (.plain (OpenSpec.upto fnExactReadValueSpec)) fnExactReadValueUptoCard

/-- THE SECOND FORM's CARD OF 'laws.FnExactPrintExpr'. -/
def fnExactPrintExprUptoCard : Claim7 := { stood := { row := fnExactPrintExprUptoRow, standIns := [], harness := (true, "0ac700b30d43f5e606378d0868667ebb165497f82d2f138946fa0de87c119056"), looks := true }, kinds := [], alts := [], laidByText := true, laidKinds := [.data, .data, .data, .data], laidTests := true, laidLooks := .later }
def FnExactPrintExprUptoCardSaid : Prop := Claim7.holds Tryd.pinned (.plain (OpenSpec.upto fnExactPrintExprSpec)) fnExactPrintExprUptoCard
end Rows
end Go.Proofs.YtdjcmnbdodpplabDoor
