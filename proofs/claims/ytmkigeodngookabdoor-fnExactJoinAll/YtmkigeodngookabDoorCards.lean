/-
  DERIVED. GIVEN WITH THE SEED: THE CARDS: each row of YtmkigeodngookabDoorRows.lean that lists a variable, with what it lists TIED to the program's text (the seventh form; the later family's looks); each row that meets fmt, with fmt's text TOLD by the authors' own Lean function (tested against real Go, not proved from fmt's source: count such statements apart). THE CARD IS WHAT COUNTS. Prove the row's statement (the work); the ties are given (YtmkigeodngookabDoorTie.lean); close each card by the builder's one call (the guide's Derived/Test/ToyasCard.lean, 'card_holds'). Laid BY PROGRAM, IN A SANDBOX (cutbox-door.mjs). By AI agents, Wed Nov 11 2026. No macro, syntax, notation, axiom, sorry.
-/
import Derived.Test.YtmkigeodngookabDoorRows
import GoSem.ClaimSeven
namespace Go.Proofs.YtmkigeodngookabDoor
namespace Rows

/-- THE TIED CARD OF 'laws.FnExactJoinAll'. -/
def fnExactJoinAllCard : Claim7 := { stood := { row := fnExactJoinAllRow, standIns := [], harness := (true, "30e32fcd70ac627e82c708e676ad864b68102e08fe5a0d57e6275043e458c881"), looks := false }, kinds := [], alts := [], laidByText := true, laidKinds := [.data], laidTests := true, laidLooks := .later }
def FnExactJoinAllCardSaid : Prop := Claim7.holds Tryd.pinned (.plain (OpenSpec.ofChange fnExactJoinAllSpec)) fnExactJoinAllCard

/-- THE SECOND FORM's CARD OF 'laws.FnExactJoinAll'. -/
def fnExactJoinAllUptoCard : Claim7 := { stood := { row := fnExactJoinAllUptoRow, standIns := [], harness := (true, "30e32fcd70ac627e82c708e676ad864b68102e08fe5a0d57e6275043e458c881"), looks := false }, kinds := [], alts := [], laidByText := true, laidKinds := [.data], laidTests := true, laidLooks := .later }
def FnExactJoinAllUptoCardSaid : Prop := Claim7.holds Tryd.pinned (.plain (OpenSpec.upto fnExactJoinAllSpec)) fnExactJoinAllUptoCard
end Rows
end Go.Proofs.YtmkigeodngookabDoor
