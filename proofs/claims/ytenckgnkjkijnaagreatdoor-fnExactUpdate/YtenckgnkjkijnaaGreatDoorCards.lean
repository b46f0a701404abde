/-
  DERIVED. GIVEN WITH THE SEED: THE CARDS: each row of YtenckgnkjkijnaaGreatDoorRows.lean that lists a variable, with what it lists TIED to the program's text (the seventh form; the later family's looks); each row that meets fmt, with fmt's text TOLD by the authors' own Lean function (tested against real Go, not proved from fmt's source: count such statements apart). THE CARD IS WHAT COUNTS. Prove the row's statement (the work); the ties are given (YtenckgnkjkijnaaGreatDoorTie.lean); close each card by the builder's one call (the guide's Derived/Test/ToyasCard.lean, 'card_holds'). Laid BY PROGRAM, IN A SANDBOX (cutbox-door.mjs). By AI agents, Wed Nov 11 2026. No macro, syntax, notation, axiom, sorry.
-/
import Derived.Test.YtenckgnkjkijnaaGreatDoorRows
import GoSem.ClaimSeven
namespace Go.Proofs.YtenckgnkjkijnaaGreatDoor
namespace Rows

/-- THE TIED CARD OF 'laws.FnExactSolve'. -/
def fnExactSolveCard : Claim7 := { stood := { row := fnExactSolveRow, standIns := [], harness := (true, "948bb09e1a7d64f7a11a798b707142f99d1ee621698bee1b26e233f638d0072f"), looks := true }, kinds := [], alts := [], laidByText := true, laidKinds := [.data, .data, .data, .sentinel, .sentinel, .data, .data], laidTests := true, laidLooks := .later }
def FnExactSolveCardSaid : Prop := Claim7.holds Tryz.pinned (.plain (OpenSpec.ofChange fnExactSolveSpec)) fnExactSolveCard

/-- THE TIED CARD OF 'laws.FnExactUpdate'. -/
def fnExactUpdateCard : Claim7 := { stood := { row := fnExactUpdateRow, standIns := [], harness := (true, "948bb09e1a7d64f7a11a798b707142f99d1ee621698bee1b26e233f638d0072f"), looks := true }, kinds := [], alts := [], laidByText := true, laidKinds := [.data, .data, .data, .sentinel, .sentinel, .data, .data], laidTests := true, laidLooks := .later }
def FnExactUpdateCardSaid : Prop := Claim7.holds Tryz.pinned (.plain (OpenSpec.ofChange fnExactUpdateSpec)) fnExactUpdateCard

/-- THE SECOND FORM's CARD OF 'laws.FnExactSolve'. -/
def fnExactSolveUptoCard : Claim7 := { stood := { row := fnExactSolveUptoRow, standIns := [], harness := (true, "948bb09e1a7d64f7a11a798b707142f99d1ee621698bee1b26e233f638d0072f"), looks := true }, kinds := [], alts := [], laidByText := true, laidKinds := [.data, .data, .data, .sentinel, .sentinel, .data, .data], laidTests := true, laidLooks := .later }
def FnExactSolveUptoCardSaid : Prop := Claim7.holds Tryz.pinned (.plain (OpenSpec.upto fnExactSolveSpec)) fnExactSolveUptoCard

/-- THE SECOND FORM's CARD OF 'laws.FnExactUpdate'. -/
def fnExactUpdateUptoCard : Claim7 := { stood := { row := fnExactUpdateUptoRow, standIns := [], harness := (true, "948bb09e1a7d64f7a11a798b707142f99d1ee621698bee1b26e233f638d0072f"), looks := true }, kinds := [], alts := [], laidByText := true, laidKinds := [.data, .data, .data, .sentinel, .sentinel, .data, .data], laidTests := true, laidLooks := .later }
def FnExactUpdateUptoCardSaid : Prop := Claim7.holds Tryz.pinned (.plain (OpenSpec.upto fnExactUpdateSpec)) fnExactUpdateUptoCard
end Rows
end Go.Proofs.YtenckgnkjkijnaaGreatDoor
