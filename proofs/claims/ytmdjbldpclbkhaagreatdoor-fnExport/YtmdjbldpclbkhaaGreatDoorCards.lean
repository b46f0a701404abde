/-
  DERIVED. GIVEN WITH THE SEED: THE CARDS: each row of YtmdjbldpclbkhaaGreatDoorRows.lean that lists a variable, with what it lists TIED to the program's text (the seventh form; the later family's looks); each row that meets fmt, with fmt's text TOLD by the authors' own Lean function (tested against real Go, not proved from fmt's source: count such statements apart). THE CARD IS WHAT COUNTS. Prove the row's statement (the work); the ties are given (YtmdjbldpclbkhaaGreatDoorTie.lean); close each card by the builder's one call (the guide's Derived/Test/ToyasCard.lean, 'card_holds'). Laid BY PROGRAM, IN A SANDBOX (cutbox-door.mjs). By AI agents, Wed Nov 11 2026. No macro, syntax, notation, axiom, sorry.
-/
import Derived.Test.YtmdjbldpclbkhaaGreatDoorRows
import GoSem.ClaimSeven
namespace Go.Proofs.YtmdjbldpclbkhaaGreatDoor
namespace Rows

/-- THE TIED CARD OF 'laws.FnExport'. -/
def fnExportCard : Claim7 := { stood := { row := fnExportRow, standIns := [], harness := (true, "d3791f0b738ec6f614db87a73eb92d20dba8c0f36136f61c6eb53aa7463a9d1e"), looks := true }, kinds := [], alts := [], laidByText := true, laidKinds := [.data, .data, .data, .data, .sentinel, .sentinel, .data, .data, .pinned], laidTests := true, laidLooks := .later }
def FnExportCardSaid : Prop := Claim7.holds Tryz.pinned (.plain (OpenSpec.ofChange fnExportSpec)) fnExportCard

/-- THE SECOND FORM's CARD OF 'laws.FnExport'. -/
def fnExportUptoCard : Claim7 := { stood := { row := fnExportUptoRow, standIns := [], harness := (true, "d3791f0b738ec6f614db87a73eb92d20dba8c0f36136f61c6eb53aa7463a9d1e"), looks := true }, kinds := [], alts := [], laidByText := true, laidKinds := [.data, .data, .data, .data, .sentinel, .sentinel, .data, .data, .pinned], laidTests := true, laidLooks := .later }
def FnExportUptoCardSaid : Prop := Claim7.holds Tryz.pinned (.plain (OpenSpec.upto fnExportSpec)) fnExportUptoCard
end Rows
end Go.Proofs.YtmdjbldpclbkhaaGreatDoor
