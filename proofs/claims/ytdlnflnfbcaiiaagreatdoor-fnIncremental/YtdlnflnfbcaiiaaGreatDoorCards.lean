/-
  DERIVED. GIVEN WITH THE SEED: THE CARDS: each row of YtdlnflnfbcaiiaaGreatDoorRows.lean that lists a variable, with what it lists TIED to the program's text (the seventh form; the later family's looks); each row that meets fmt, with fmt's text TOLD by the authors' own Lean function (tested against real Go, not proved from fmt's source: count such statements apart). THE CARD IS WHAT COUNTS. Prove the row's statement (the work); the ties are given (YtdlnflnfbcaiiaaGreatDoorTie.lean); close each card by the builder's one call (the guide's Derived/Test/ToyasCard.lean, 'card_holds'). Laid BY PROGRAM, IN A SANDBOX (cutbox-door.mjs). By AI agents, Wed Nov 11 2026. No macro, syntax, notation, axiom, sorry.
-/
import Derived.Test.YtdlnflnfbcaiiaaGreatDoorRows
import GoSem.ClaimSeven
namespace Go.Proofs.YtdlnflnfbcaiiaaGreatDoor
namespace Rows

/-- THE TIED CARD OF 'laws.FnVisible'. -/
def fnVisibleCard : Claim7 := { stood := { row := fnVisibleRow, standIns := [], harness := (true, "c2e31eec312ea5d1e82676e6f0b95b0a85a4e05a0daa53ddf3c209d6f6645fcc"), looks := true }, kinds := [], alts := [], laidByText := true, laidKinds := [.data, .data, .data, .sentinel, .sentinel, .data, .data], laidTests := true, laidLooks := .later }
def FnVisibleCardSaid : Prop := Claim7.holds Tryz.pinned (.plain (OpenSpec.ofChange fnVisibleSpec)) fnVisibleCard

/-- THE TIED CARD OF 'laws.FnIncremental'. -/
def fnIncrementalCard : Claim7 := { stood := { row := fnIncrementalRow, standIns := [], harness := (true, "c2e31eec312ea5d1e82676e6f0b95b0a85a4e05a0daa53ddf3c209d6f6645fcc"), looks := true }, kinds := [], alts := [], laidByText := true, laidKinds := [.data, .data, .data, .sentinel, .sentinel, .data, .data], laidTests := true, laidLooks := .later }
def FnIncrementalCardSaid : Prop := Claim7.holds Tryz.pinned (.plain (OpenSpec.ofChange fnIncrementalSpec)) fnIncrementalCard

/-- THE SECOND FORM's CARD OF 'laws.FnVisible'. -/
def fnVisibleUptoCard : Claim7 := { stood := { row := fnVisibleUptoRow, standIns := [], harness := (true, "c2e31eec312ea5d1e82676e6f0b95b0a85a4e05a0daa53ddf3c209d6f6645fcc"), looks := true }, kinds := [], alts := [], laidByText := true, laidKinds := [.data, .data, .data, .sentinel, .sentinel, .data, .data], laidTests := true, laidLooks := .later }
def FnVisibleUptoCardSaid : Prop := Claim7.holds Tryz.pinned (.plain (OpenSpec.upto fnVisibleSpec)) fnVisibleUptoCard

/-- THE SECOND FORM's CARD OF 'laws.FnIncremental'. -/
def fnIncrementalUptoCard : Claim7 := { stood := { row := fnIncrementalUptoRow, standIns := [], harness := (true, "c2e31eec312ea5d1e82676e6f0b95b0a85a4e05a0daa53ddf3c209d6f6645fcc"), looks := true }, kinds := [], alts := [], laidByText := true, laidKinds := [.data, .data, .data, .sentinel, .sentinel, .data, .data], laidTests := true, laidLooks := .later }
def FnIncrementalUptoCardSaid : Prop := Claim7.holds Tryz.pinned (.plain (OpenSpec.upto fnIncrementalSpec)) fnIncrementalUptoCard
end Rows
end Go.Proofs.YtdlnflnfbcaiiaaGreatDoor
