/-
  DERIVED. GIVEN WITH THE SEED: THE CARDS: each row of YtjgngbmkpiihgaaGreatDoorRows.lean that lists a variable, with what it lists TIED to the program's text (the seventh form; the later family's looks); each row that meets fmt, with fmt's text TOLD by the authors' own Lean function (tested against real Go, not proved from fmt's source: count such statements apart). THE CARD IS WHAT COUNTS. Prove the row's statement (the work); the ties are given (YtjgngbmkpiihgaaGreatDoorTie.lean); close each card by the builder's one call (the guide's Derived/Test/ToyasCard.lean, 'card_holds'). Laid BY PROGRAM, IN A SANDBOX (cutbox-door.mjs). By AI agents, Wed Nov 11 2026. No macro, syntax, notation, axiom, sorry.
-/
import Derived.Test.YtjgngbmkpiihgaaGreatDoorRows
import GoSem.ClaimSeven
namespace Go.Proofs.YtjgngbmkpiihgaaGreatDoor
namespace Rows

/-- THE TIED CARD OF 'laws.FnExpr'. -/
def fnExprCard : Claim7 := { stood := { row := fnExprRow, standIns := [], harness := (true, "1a1e500c64057c13ea494477b6851968150e69cf7857fba6736211623e388ac7"), looks := true }, kinds := [], alts := [], laidByText := true, laidKinds := [.data, .data, .data, .sentinel, .sentinel, .data], laidTests := true, laidLooks := .later }
def FnExprCardSaid : Prop := Claim7.holds Tryz.pinned (.plain (OpenSpec.ofChange fnExprSpec)) fnExprCard

/-- THE TIED CARD OF 'laws.FnExactParseExpr'. -/
def fnExactParseExprCard : Claim7 := { stood := { row := fnExactParseExprRow, standIns := [], harness := (true, "1a1e500c64057c13ea494477b6851968150e69cf7857fba6736211623e388ac7"), looks := true }, kinds := [], alts := [], laidByText := true, laidKinds := [.data, .data, .data, .sentinel, .sentinel, .data], laidTests := true, laidLooks := .later }
def FnExactParseExprCardSaid : Prop := Claim7.holds Tryz.pinned (.plain (OpenSpec.ofChange fnExactParseExprSpec)) fnExactParseExprCard

/-- THE SECOND FORM's CARD OF 'laws.FnExpr'. -/
def fnExprUptoCard : Claim7 := { stood := { row := fnExprUptoRow, standIns := [], harness := (true, "1a1e500c64057c13ea494477b6851968150e69cf7857fba6736211623e388ac7"), looks := true }, kinds := [], alts := [], laidByText := true, laidKinds := [.data, .data, .data, .sentinel, .sentinel, .data], laidTests := true, laidLooks := .later }
def FnExprUptoCardSaid : Prop := Claim7.holds Tryz.pinned (.plain (OpenSpec.upto fnExprSpec)) fnExprUptoCard

/-- THE SECOND FORM's CARD OF 'laws.FnExactParseExpr'. -/
def fnExactParseExprUptoCard : Claim7 := { stood := { row := fnExactParseExprUptoRow, standIns := [], harness := (true, "1a1e500c64057c13ea494477b6851968150e69cf7857fba6736211623e388ac7"), looks := true }, kinds := [], alts := [], laidByText := true, laidKinds := [.data, .data, .data, .sentinel, .sentinel, .data], laidTests := true, laidLooks := .later }
def FnExactParseExprUptoCardSaid : Prop := Claim7.holds Tryz.pinned (.plain (OpenSpec.upto fnExactParseExprSpec)) fnExactParseExprUptoCard
end Rows
end Go.Proofs.YtjgngbmkpiihgaaGreatDoor
