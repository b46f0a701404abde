/-
  DERIVED. GIVEN WITH THE SEED: THE CARDS: each row of YtnhjjaminkhiiaaGreatDoorRows.lean that lists a variable, with what it lists TIED to the program's text (the seventh form; the later family's looks); each row that meets fmt, with fmt's text TOLD by the authors' own Lean function (tested against real Go, not proved from fmt's source: count such statements apart). THE CARD IS WHAT COUNTS. Prove the row's statement (the work); the ties are given (YtnhjjaminkhiiaaGreatDoorTie.lean); close each card by the builder's one call (the guide's Derived/Test/ToyasCard.lean, 'card_holds'). Laid BY PROGRAM, IN A SANDBOX (cutbox-door.mjs). By AI agents, Wed Nov 11 2026. No macro, syntax, notation, axiom, sorry.
-/
import Derived.Test.YtnhjjaminkhiiaaGreatDoorRows
import GoSem.ClaimSeven
namespace Go.Proofs.YtnhjjaminkhiiaaGreatDoor
namespace Rows

/-- THE TIED CARD OF 'laws.FnExactView'. -/
def fnExactViewCard : Claim7 := { stood := { row := fnExactViewRow, standIns := [], harness := (true, "1d67ef3f26833a3c12d226ddb364bfd6e6c58ff1cf657b2c3b861d2c0f989c82"), looks := false }, kinds := [], alts := [], laidByText := true, laidKinds := [.data, .data, .data, .data, .data], laidTests := true, laidLooks := .later }
def FnExactViewCardSaid : Prop := Claim7.holds Tryz.pinned (.plain (OpenSpec.ofChange fnExactViewSpec)) fnExactViewCard

/-- THE TIED CARD OF 'laws.FnExactNavigate'. -/
def fnExactNavigateCard : Claim7 := { stood := { row := fnExactNavigateRow, standIns := [], harness := (true, "1d67ef3f26833a3c12d226ddb364bfd6e6c58ff1cf657b2c3b861d2c0f989c82"), looks := false }, kinds := [], alts := [], laidByText := true, laidKinds := [.data, .data, .data, .data, .data], laidTests := true, laidLooks := .later }
def FnExactNavigateCardSaid : Prop := Claim7.holds Tryz.pinned (.plain (OpenSpec.ofChange fnExactNavigateSpec)) fnExactNavigateCard

/-- THE SECOND FORM's CARD OF 'laws.FnExactView'. -/
def fnExactViewUptoCard : Claim7 := { stood := { row := fnExactViewUptoRow, standIns := [], harness := (true, "1d67ef3f26833a3c12d226ddb364bfd6e6c58ff1cf657b2c3b861d2c0f989c82"), looks := false }, kinds := [], alts := [], laidByText := true, laidKinds := [.data, .data, .data, .data, .data], laidTests := true, laidLooks := .later }
def FnExactViewUptoCardSaid : Prop := Claim7.holds Tryz.pinned (.plain (OpenSpec.upto fnExactViewSpec)) fnExactViewUptoCard

/-- THE SECOND FORM's CARD OF 'laws.FnExactNavigate'. -/
def fnExactNavigateUptoCard : Claim7 := { stood := { row := fnExactNavigateUptoRow, standIns := [], harness := (true, "1d67ef3f26833a3c12d226ddb364bfd6e6c58ff1cf657b2c3b861d2c0f989c82"), looks := false }, kinds := [], alts := [], laidByText := true, laidKinds := [.data, .data, .data, .data, .data], laidTests := true, laidLooks := .later }
def FnExactNavigateUptoCardSaid : Prop := Claim7.holds Tryz.pinned (.plain (OpenSpec.upto fnExactNavigateSpec)) fnExactNavigateUptoCard
end Rows
end Go.Proofs.YtnhjjaminkhiiaaGreatDoor
