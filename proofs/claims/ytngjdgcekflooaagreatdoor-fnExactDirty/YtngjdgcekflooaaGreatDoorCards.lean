/-
  DERIVED. GIVEN WITH THE SEED: THE CARDS: each row of YtngjdgcekflooaaGreatDoorRows.lean that lists a variable, with what it lists TIED to the program's text (the seventh form; the later family's looks); each row that meets fmt, with fmt's text TOLD by the authors' own Lean function (tested against real Go, not proved from fmt's source: count such statements apart). THE CARD IS WHAT COUNTS. Prove the row's statement (the work); the ties are given (YtngjdgcekflooaaGreatDoorTie.lean); close each card by the builder's one call (the guide's Derived/Test/ToyasCard.lean, 'card_holds'). Laid BY PROGRAM, IN A SANDBOX (cutbox-door.mjs). By AI agents, Wed Nov 11 2026. No macro, syntax, notation, axiom, sorry.
-/
import Derived.Test.YtngjdgcekflooaaGreatDoorRows
import GoSem.ClaimSeven
namespace Go.Proofs.YtngjdgcekflooaaGreatDoor
namespace Rows

/-- THE TIED CARD OF 'laws.FnExactCalcOrder'. -/
def fnExactCalcOrderCard : Claim7 := { stood := { row := fnExactCalcOrderRow, standIns := [], harness := (true, "0e3b679b0e49a155630dff8037e6d92cf6d6235846a7d264acfbcde034ccedde"), looks := false }, kinds := [], alts := [], laidByText := true, laidKinds := [.data, .data, .data, .data, .data], laidTests := true, laidLooks := .later }
def FnExactCalcOrderCardSaid : Prop := Claim7.holds Tryz.pinned (.plain (OpenSpec.ofChange fnExactCalcOrderSpec)) fnExactCalcOrderCard

/-- THE TIED CARD OF 'laws.FnExactDirty'. -/
def fnExactDirtyCard : Claim7 := { stood := { row := fnExactDirtyRow, standIns := [], harness := (true, "0e3b679b0e49a155630dff8037e6d92cf6d6235846a7d264acfbcde034ccedde"), looks := false }, kinds := [], alts := [], laidByText := true, laidKinds := [.data, .data, .data, .data, .data], laidTests := true, laidLooks := .later }
def FnExactDirtyCardSaid : Prop := Claim7.holds Tryz.pinned (.plain (OpenSpec.ofChange fnExactDirtySpec)) fnExactDirtyCard

/-- THE SECOND FORM's CARD OF 'laws.FnExactCalcOrder'. -/
def fnExactCalcOrderUptoCard : Claim7 := { stood := { row := fnExactCalcOrderUptoRow, standIns := [], harness := (true, "0e3b679b0e49a155630dff8037e6d92cf6d6235846a7d264acfbcde034ccedde"), looks := false }, kinds := [], alts := [], laidByText := true, laidKinds := [.data, .data, .data, .data, .data], laidTests := true, laidLooks := .later }
def FnExactCalcOrderUptoCardSaid : Prop := Claim7.holds Tryz.pinned (.plain (OpenSpec.upto fnExactCalcOrderSpec)) fnExactCalcOrderUptoCard

/-- THE SECOND FORM's CARD OF 'laws.FnExactDirty'. -/
def fnExactDirtyUptoCard : Claim7 := { stood := { row := fnExactDirtyUptoRow, standIns := [], harness := (true, "0e3b679b0e49a155630dff8037e6d92cf6d6235846a7d264acfbcde034ccedde"), looks := false }, kinds := [], alts := [], laidByText := true, laidKinds := [.data, .data, .data, .data, .data], laidTests := true, laidLooks := .later }
def FnExactDirtyUptoCardSaid : Prop := Claim7.holds Tryz.pinned (.plain (OpenSpec.upto fnExactDirtySpec)) fnExactDirtyUptoCard
end Rows
end Go.Proofs.YtngjdgcekflooaaGreatDoor
