/-
  DERIVED. GIVEN WITH THE SEED: THE CARDS: each row of YtcnjbclpncidnaaGreatDoorRows.lean that lists a variable, with what it lists TIED to the program's text (the seventh form; the later family's looks); each row that meets fmt, with fmt's text TOLD by the authors' own Lean function (tested against real Go, not proved from fmt's source: count such statements apart). THE CARD IS WHAT COUNTS. Prove the row's statement (the work); the ties are given (YtcnjbclpncidnaaGreatDoorTie.lean); close each card by the builder's one call (the guide's Derived/Test/ToyasCard.lean, 'card_holds'). Laid BY PROGRAM, IN A SANDBOX (cutbox-door.mjs). By AI agents, Wed Nov 11 2026. No macro, syntax, notation, axiom, sorry.
-/
import Derived.Test.YtcnjbclpncidnaaGreatDoorRows
import GoSem.ClaimSeven
namespace Go.Proofs.YtcnjbclpncidnaaGreatDoor
namespace Rows

/-- THE TIED CARD OF 'laws.FnRoundTrip'. -/
def fnRoundTripCard : Claim7 := { stood := { row := fnRoundTripRow, standIns := [], harness := (true, "3d07d12acc0200ffcbe784a45f1af192904808c20523aed6ac9e3bc3bcb3bb97"), looks := true }, kinds := [], alts := [], laidByText := true, laidKinds := [.data, .data, .data, .sentinel, .sentinel, .data, .data, .data], laidTests := true, laidLooks := .later }
def FnRoundTripCardSaid : Prop := Claim7.holds Tryz.pinned (.plain (OpenSpec.ofChange fnRoundTripSpec)) fnRoundTripCard

/-- THE TIED CARD OF 'laws.FnExactLoad'. -/
def fnExactLoadCard : Claim7 := { stood := { row := fnExactLoadRow, standIns := [], harness := (true, "3d07d12acc0200ffcbe784a45f1af192904808c20523aed6ac9e3bc3bcb3bb97"), looks := true }, kinds := [], alts := [], laidByText := true, laidKinds := [.data, .data, .data, .sentinel, .sentinel, .data, .data, .data], laidTests := true, laidLooks := .later }
def FnExactLoadCardSaid : Prop := Claim7.holds Tryz.pinned (.plain (OpenSpec.ofChange fnExactLoadSpec)) fnExactLoadCard

/-- THE SECOND FORM's CARD OF 'laws.FnRoundTrip'. -/
def fnRoundTripUptoCard : Claim7 := { stood := { row := fnRoundTripUptoRow, standIns := [], harness := (true, "3d07d12acc0200ffcbe784a45f1af192904808c20523aed6ac9e3bc3bcb3bb97"), looks := true }, kinds := [], alts := [], laidByText := true, laidKinds := [.data, .data, .data, .sentinel, .sentinel, .data, .data, .data], laidTests := true, laidLooks := .later }
def FnRoundTripUptoCardSaid : Prop := Claim7.holds Tryz.pinned (.plain (OpenSpec.upto fnRoundTripSpec)) fnRoundTripUptoCard

/-- THE SECOND FORM's CARD OF 'laws.FnExactLoad'. -/
def fnExactLoadUptoCard : Claim7 := { stood := { row := fnExactLoadUptoRow, standIns := [], harness := (true, "3d07d12acc0200ffcbe784a45f1af192904808c20523aed6ac9e3bc3bcb3bb97"), looks := true }, kinds := [], alts := [], laidByText := true, laidKinds := [.data, .data, .data, .sentinel, .sentinel, .data, .data, .data], laidTests := true, laidLooks := .later }
def FnExactLoadUptoCardSaid : Prop := Claim7.holds Tryz.pinned (.plain (OpenSpec.upto fnExactLoadSpec)) fnExactLoadUptoCard
end Rows
end Go.Proofs.YtcnjbclpncidnaaGreatDoor
