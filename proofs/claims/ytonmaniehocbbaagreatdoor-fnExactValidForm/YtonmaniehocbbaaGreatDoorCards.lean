/-
  DERIVED. GIVEN WITH THE SEED: THE CARDS: each row of YtonmaniehocbbaaGreatDoorRows.lean that lists a variable, with what it lists TIED to the program's text (the seventh form; the later family's looks); each row that meets fmt, with fmt's text TOLD by the authors' own Lean function (tested against real Go, not proved from fmt's source: count such statements apart). THE CARD IS WHAT COUNTS. Prove the row's statement (the work); the ties are given (YtonmaniehocbbaaGreatDoorTie.lean); close each card by the builder's one call (the guide's Derived/Test/ToyasCard.lean, 'card_holds'). Laid BY PROGRAM, IN A SANDBOX (cutbox-door.mjs). By AI agents, Wed Nov 11 2026. No macro, syntax, notation, axiom, sorry.
-/
import Derived.Test.YtonmaniehocbbaaGreatDoorRows
import GoSem.ClaimSeven
namespace Go.Proofs.YtonmaniehocbbaaGreatDoor
namespace Rows

/-- THE TIED CARD OF 'laws.FnExactValidForm'. -/
def fnExactValidFormCard : Claim7 := { stood := { row := fnExactValidFormRow, standIns := [], harness := (true, "e40b400817b76680a02a1fd10692c95d36eff671f846fc4d8d5e25452034ca3d"), looks := false }, kinds := [], alts := [], laidByText := true, laidKinds := [.data, .data, .data, .data, .data], laidTests := true, laidLooks := .later }
def FnExactValidFormCardSaid : Prop := Claim7.holds Tryz.pinned (.plain (OpenSpec.ofChange fnExactValidFormSpec)) fnExactValidFormCard

/-- THE TIED CARD OF 'laws.FnExactPrintForm'. -/
def fnExactPrintFormCard : Claim7 := { stood := { row := fnExactPrintFormRow, standIns := [], harness := (true, "e40b400817b76680a02a1fd10692c95d36eff671f846fc4d8d5e25452034ca3d"), looks := false }, kinds := [], alts := [], laidByText := true, laidKinds := [.data, .data, .data, .data, .data], laidTests := true, laidLooks := .later }
def FnExactPrintFormCardSaid : Prop := Claim7.holds Tryz.pinned (.plain (OpenSpec.ofChange fnExactPrintFormSpec)) fnExactPrintFormCard

/-- THE SECOND FORM's CARD OF 'laws.FnExactValidForm'. -/
def fnExactValidFormUptoCard : Claim7 := { stood := { row := fnExactValidFormUptoRow, standIns := [], harness := (true, "e40b400817b76680a02a1fd10692c95d36eff671f846fc4d8d5e25452034ca3d"), looks := false }, kinds := [], alts := [], laidByText := true, laidKinds := [.data, .data, .data, .data, .data], laidTests := true, laidLooks := .later }
def FnExactValidFormUptoCardSaid : Prop := Claim7.holds Tryz.pinned (.plain (OpenSpec.upto fnExactValidFormSpec)) fnExactValidFormUptoCard

/-- THE SECOND FORM's CARD OF 'laws.FnExactPrintForm'. -/
def fnExactPrintFormUptoCard : Claim7 := { stood := { row := fnExactPrintFormUptoRow, standIns := [], harness := (true, "e40b400817b76680a02a1fd10692c95d36eff671f846fc4d8d5e25452034ca3d"), looks := false }, kinds := [], alts := [], laidByText := true, laidKinds := [.data, .data, .data, .data, .data], laidTests := true, laidLooks := .later }
def FnExactPrintFormUptoCardSaid : Prop := Claim7.holds Tryz.pinned (.plain (OpenSpec.upto fnExactPrintFormSpec)) fnExactPrintFormUptoCard
end Rows
end Go.Proofs.YtonmaniehocbbaaGreatDoor
