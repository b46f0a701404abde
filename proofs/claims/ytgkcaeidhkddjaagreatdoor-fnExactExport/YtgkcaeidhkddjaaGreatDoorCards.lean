/-
  DERIVED. GIVEN WITH THE SEED: THE CARDS: each row of YtgkcaeidhkddjaaGreatDoorRows.lean that lists a variable, with what it lists TIED to the program's text (the seventh form; the later family's looks); each row that meets fmt, with fmt's text TOLD by the authors' own Lean function (tested against real Go, not proved from fmt's source: count such statements apart). THE CARD IS WHAT COUNTS. Prove the row's statement (the work); the ties are given (YtgkcaeidhkddjaaGreatDoorTie.lean); close each card by the builder's one call (the guide's Derived/Test/ToyasCard.lean, 'card_holds'). Laid BY PROGRAM, IN A SANDBOX (cutbox-door.mjs). By AI agents, Wed Nov 11 2026. No macro, syntax, notation, axiom, sorry.
-/
import Derived.Test.YtgkcaeidhkddjaaGreatDoorRows
import GoSem.ClaimSeven
namespace Go.Proofs.YtgkcaeidhkddjaaGreatDoor
namespace Rows

/-- THE TIED CARD OF 'laws.FnExactExport'. -/
def fnExactExportCard : Claim7 := { stood := { row := fnExactExportRow, standIns := [], harness := (true, "52c66182b87a1b996c325e8483d6a9fc6d6fb58455511b66ef867df8ee73bcd6"), looks := false }, kinds := [], alts := [], laidByText := true, laidKinds := [.data, .data, .data, .data, .data], laidTests := true, laidLooks := .later }
def FnExactExportCardSaid : Prop := Claim7.holds Tryz.pinned (.plain (OpenSpec.ofChange fnExactExportSpec)) fnExactExportCard

/-- THE SECOND FORM's CARD OF 'laws.FnExactExport'. -/
def fnExactExportUptoCard : Claim7 := { stood := { row := fnExactExportUptoRow, standIns := [], harness := (true, "52c66182b87a1b996c325e8483d6a9fc6d6fb58455511b66ef867df8ee73bcd6"), looks := false }, kinds := [], alts := [], laidByText := true, laidKinds := [.data, .data, .data, .data, .data], laidTests := true, laidLooks := .later }
def FnExactExportUptoCardSaid : Prop := Claim7.holds Tryz.pinned (.plain (OpenSpec.upto fnExactExportSpec)) fnExactExportUptoCard
end Rows
end Go.Proofs.YtgkcaeidhkddjaaGreatDoor
