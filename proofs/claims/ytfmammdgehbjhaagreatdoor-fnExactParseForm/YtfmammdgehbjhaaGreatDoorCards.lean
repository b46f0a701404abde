/-
  DERIVED. GIVEN WITH THE SEED: THE CARDS: each row of YtfmammdgehbjhaaGreatDoorRows.lean that lists a variable, with what it lists TIED to the program's text (the seventh form; the later family's looks); each row that meets fmt, with fmt's text TOLD by the authors' own Lean function (tested against real Go, not proved from fmt's source: count such statements apart). THE CARD IS WHAT COUNTS. Prove the row's statement (the work); the ties are given (YtfmammdgehbjhaaGreatDoorTie.lean); close each card by the builder's one call (the guide's Derived/Test/ToyasCard.lean, 'card_holds'). Laid BY PROGRAM, IN A SANDBOX (cutbox-door.mjs). By AI agents, Wed Nov 11 2026. No macro, syntax, notation, axiom, sorry.
-/
import Derived.Test.YtfmammdgehbjhaaGreatDoorRows
import GoSem.ClaimSeven
namespace Go.Proofs.YtfmammdgehbjhaaGreatDoor
namespace Rows

/-- THE TIED CARD OF 'laws.FnExactParseForm'. -/
def fnExactParseFormCard : Claim7 := { stood := { row := fnExactParseFormRow, standIns := [], harness := (true, "08781c700b6488f63f5ca1ff96357cdae6708df34e4b0e0031e60ebd328b708e"), looks := true }, kinds := [], alts := [], laidByText := true, laidKinds := [.data, .data, .data, .sentinel, .sentinel, .data, .data, .data], laidTests := true, laidLooks := .later }
def FnExactParseFormCardSaid : Prop := Claim7.holds Tryz.pinned (.plain (OpenSpec.ofChange fnExactParseFormSpec)) fnExactParseFormCard

/-- THE SECOND FORM's CARD OF 'laws.FnExactParseForm'. -/
def fnExactParseFormUptoCard : Claim7 := { stood := { row := fnExactParseFormUptoRow, standIns := [], harness := (true, "08781c700b6488f63f5ca1ff96357cdae6708df34e4b0e0031e60ebd328b708e"), looks := true }, kinds := [], alts := [], laidByText := true, laidKinds := [.data, .data, .data, .sentinel, .sentinel, .data, .data, .data], laidTests := true, laidLooks := .later }
def FnExactParseFormUptoCardSaid : Prop := Claim7.holds Tryz.pinned (.plain (OpenSpec.upto fnExactParseFormSpec)) fnExactParseFormUptoCard
end Rows
end Go.Proofs.YtfmammdgehbjhaaGreatDoor
