/-
  DERIVED. GIVEN WITH THE SEED: THE CARDS: each row of YtgojgjlninakjaaGreatDoorRows.lean that lists a variable, with what it lists TIED to the program's text (the seventh form; the later family's looks); each row that meets fmt, with fmt's text TOLD by the authors' own Lean function (tested against real Go, not proved from fmt's source: count such statements apart). THE CARD IS WHAT COUNTS. Prove the row's statement (the work); the ties are given (YtgojgjlninakjaaGreatDoorTie.lean); close each card by the builder's one call (the guide's Derived/Test/ToyasCard.lean, 'card_holds'). Laid BY PROGRAM, IN A SANDBOX (cutbox-door.mjs). By AI agents, Wed Nov 11 2026. No macro, syntax, notation, axiom, sorry.
-/
import Derived.Test.YtgojgjlninakjaaGreatDoorRows
import GoSem.ClaimSeven
namespace Go.Proofs.YtgojgjlninakjaaGreatDoor
namespace Rows

/-- THE TIED CARD OF 'laws.FnExactDecodeExport'. -/
def fnExactDecodeExportCard : Claim7 := { stood := { row := fnExactDecodeExportRow, standIns := [], harness := (true, "2babc527830de054d51161de020766dd15ffe6f42c66daa30bef3a530c5518a8"), looks := true }, kinds := [], alts := [], laidByText := true, laidKinds := [.data, .data, .data, .data, .sentinel, .sentinel, .data, .data, .pinned], laidTests := true, laidLooks := .later }
def FnExactDecodeExportCardSaid : Prop := Claim7.holds Tryz.pinned (.plain (OpenSpec.ofChange fnExactDecodeExportSpec)) fnExactDecodeExportCard

/-- THE SECOND FORM's CARD OF 'laws.FnExactDecodeExport'. -/
def fnExactDecodeExportUptoCard : Claim7 := { stood := { row := fnExactDecodeExportUptoRow, standIns := [], harness := (true, "2babc527830de054d51161de020766dd15ffe6f42c66daa30bef3a530c5518a8"), looks := true }, kinds := [], alts := [], laidByText := true, laidKinds := [.data, .data, .data, .data, .sentinel, .sentinel, .data, .data, .pinned], laidTests := true, laidLooks := .later }
def FnExactDecodeExportUptoCardSaid : Prop := Claim7.holds Tryz.pinned (.plain (OpenSpec.upto fnExactDecodeExportSpec)) fnExactDecodeExportUptoCard
end Rows
end Go.Proofs.YtgojgjlninakjaaGreatDoor
