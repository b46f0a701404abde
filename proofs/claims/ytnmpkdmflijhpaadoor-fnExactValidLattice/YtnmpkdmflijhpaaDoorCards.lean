/-
  DERIVED. GIVEN WITH THE SEED: THE CARDS: each row of YtnmpkdmflijhpaaDoorRows.lean that lists a variable, with what it lists TIED to the program's text (the seventh form; the later family's looks); each row that meets fmt, with fmt's text TOLD by the authors' own Lean function (tested against real Go, not proved from fmt's source: count such statements apart). THE CARD IS WHAT COUNTS. Prove the row's statement (the work); the ties are given (YtnmpkdmflijhpaaDoorTie.lean); close each card by the builder's one call (the guide's Derived/Test/ToyasCard.lean, 'card_holds'). Laid BY PROGRAM, IN A SANDBOX (cutbox-door.mjs). By AI agents, Wed Nov 11 2026. No macro, syntax, notation, axiom, sorry.
-/
import Derived.Test.YtnmpkdmflijhpaaDoorRows
import GoSem.ClaimSeven
namespace Go.Proofs.YtnmpkdmflijhpaaDoor
namespace Rows

/-- THE TIED CARD OF 'laws.FnExactBuildLattice'. -/
def fnExactBuildLatticeCard : Claim7 := { stood := { row := fnExactBuildLatticeRow, standIns := [], harness := (true, "a09026fbfa6f4f501c24fbcb1408e5b46015c5cef01352bef6e6c10261513855"), looks := true }, kinds := [], alts := [], laidByText := true, laidKinds := [.data], laidTests := true, laidLooks := .later }
def FnExactBuildLatticeCardSaid : Prop := Claim7.holds Tryd.pinned (.plain (OpenSpec.ofChange fnExactBuildLatticeSpec)) fnExactBuildLatticeCard

/-- THE TIED CARD OF 'laws.FnExactValidLattice'. -/
def fnExactValidLatticeCard : Claim7 := { stood := { row := fnExactValidLatticeRow, standIns := [], harness := (true, "a09026fbfa6f4f501c24fbcb1408e5b46015c5cef01352bef6e6c10261513855"), looks := true }, kinds := [], alts := [], laidByText := true, laidKinds := [.data], laidTests := true, laidLooks := .later }
def FnExactValidLatticeCardSaid : Prop := Claim7.holds Tryd.pinned (.plain (OpenSpec.ofChange fnExactValidLatticeSpec)) fnExactValidLatticeCard

/-- THE TIED CARD OF 'laws.FnExactJoinAll'. -/
def fnExactJoinAllCard : Claim7 := { stood := { row := fnExactJoinAllRow, standIns := [], harness := (true, "a09026fbfa6f4f501c24fbcb1408e5b46015c5cef01352bef6e6c10261513855"), looks := true }, kinds := [], alts := [], laidByText := true, laidKinds := [.data], laidTests := true, laidLooks := .later }
def FnExactJoinAllCardSaid : Prop := Claim7.holds Tryd.pinned (.plain (OpenSpec.ofChange fnExactJoinAllSpec)) fnExactJoinAllCard

/-- THE TIED CARD OF 'laws.FnLattice'. -/
def fnLatticeCard : Claim7 := { stood := { row := fnLatticeRow, standIns := [], harness := (true, "a09026fbfa6f4f501c24fbcb1408e5b46015c5cef01352bef6e6c10261513855"), looks := true }, kinds := [], alts := [], laidByText := true, laidKinds := [.data], laidTests := true, laidLooks := .later }
def FnLatticeCardSaid : Prop := Claim7.holds Tryd.pinned (.plain (OpenSpec.ofChange fnLatticeSpec)) fnLatticeCard

/-- THE TIED CARD OF 'laws.FnExactShowValue'. -/
def fnExactShowValueCard : Claim7 := { stood := { row := fnExactShowValueRow, standIns := [], harness := (true, "a09026fbfa6f4f501c24fbcb1408e5b46015c5cef01352bef6e6c10261513855"), looks := true }, kinds := [], alts := [], laidByText := true, laidKinds := [.data, .data, .data], laidTests := true, laidLooks := .later }
def FnExactShowValueCardSaid : Prop := Claim7.holds Tryd.pinned (.plain (OpenSpec.ofChange fnExactShowValueSpec)) fnExactShowValueCard

/-- THE TIED CARD OF 'laws.FnExactReadValue'. -/
def fnExactReadValueCard : Claim7 := { stood := { row := fnExactReadValueRow, standIns := [], harness := (true, "a09026fbfa6f4f501c24fbcb1408e5b46015c5cef01352bef6e6c10261513855"), looks := true }, kinds := [], alts := [], laidByText := true, laidKinds := [.data, .data, .data, .sentinel, .sentinel], laidTests := true, laidLooks := .later }
def FnExactReadValueCardSaid : Prop := Claim7.holds Tryd.pinned (.plain (OpenSpec.ofChange fnExactReadValueSpec)) fnExactReadValueCard

/-- THE SECOND FORM's CARD OF 'laws.FnExactBuildLattice'. -/
def fnExactBuildLatticeUptoCard : Claim7 := { stood := { row := fnExactBuildLatticeUptoRow, standIns := [], harness := (true, "a09026fbfa6f4f501c24fbcb1408e5b46015c5cef01352bef6e6c10261513855"), looks := true }, kinds := [], alts := [], laidByText := true, laidKinds := [.data], laidTests := true, laidLooks := .later }
def FnExactBuildLatticeUptoCardSaid : Prop := Claim7.holds Tryd.pinned (.plain (OpenSpec.upto fnExactBuildLatticeSpec)) fnExactBuildLatticeUptoCard

/-- THE SECOND FORM's CARD OF 'laws.FnExactValidLattice'. -/
def fnExactValidLatticeUptoCard : Claim7 := { stood := { row := fnExactValidLatticeUptoRow, standIns := [], harness := (true, "a09026fbfa6f4f501c24fbcb1408e5b46015c5cef01352bef6e6c10261513855"), looks := true }, kinds := [], alts := [], laidByText := true, laidKinds := [.data], laidTests := true, laidLooks := .later }
def FnExactValidLatticeUptoCardSaid : Prop := Claim7.holds Tryd.pinned (.plain (OpenSpec.upto fnExactValidLatticeSpec)) fnExactValidLatticeUptoCard

/-- THE SECOND FORM's CARD OF 'laws.FnExactJoinAll'. -/
def fnExactJoinAllUptoCard : Claim7 := { stood := { row := fnExactJoinAllUptoRow, standIns := [], harness := (true, "a09026fbfa6f4f501c24fbcb1408e5b46015c5cef01352bef6e6c10261513855"), looks := true }, kinds := [], alts := [], laidByText := true, laidKinds := [.data], laidTests := true, laidLooks := .later }
def FnExactJoinAllUptoCardSaid : Prop := Claim7.holds Tryd.pinned (.plain (OpenSpec.upto fnExactJoinAllSpec)) fnExactJoinAllUptoCard

/-- THE SECOND FORM's CARD OF 'laws.FnLattice'. -/
def fnLatticeUptoCard : Claim7 := { stood := { row := fnLatticeUptoRow, standIns := [], harness := (true, "a09026fbfa6f4f501c24fbcb1408e5b46015c5cef01352bef6e6c10261513855"), looks := true }, kinds := [], alts := [], laidByText := true, laidKinds := [.data], laidTests := true, laidLooks := .later }
def FnLatticeUptoCardSaid : Prop := Claim7.holds Tryd.pinned (.plain (OpenSpec.upto fnLatticeSpec)) fnLatticeUptoCard

/-- THE SECOND FORM's CARD OF 'laws.FnExactShowValue'. -/
def fnExactShowValueUptoCard : Claim7 := { stood := { row := fnExactShowValueUptoRow, standIns := [], harness := (true, "a09026fbfa6f4f501c24fbcb1408e5b46015c5cef01352bef6e6c10261513855"), looks := true }, kinds := [], alts := [], laidByText := true, laidKinds := [.data, .data, .data], laidTests := true, laidLooks := .later }
def FnExactShowValueUptoCardSaid : Prop := Claim7.holds Tryd.pinned (.plain (OpenSpec.upto fnExactShowValueSpec)) fnExactShowValueUptoCard

/-- THE SECOND FORM's CARD OF 'laws.FnExactReadValue'. -/
def fnExactReadValueUptoCard : Claim7 := { stood := { row := fnExactReadValueUptoRow, standIns := [], harness := (true, "a09026fbfa6f4f501c24fbcb1408e5b46015c5cef01352bef6e6c10261513855"), looks := true }, kinds := [], alts := [], laidByText := true, laidKinds := [.data, .data, .data, .sentinel, .sentinel], laidTests := true, laidLooks := .later }
def FnExactReadValueUptoCardSaid : Prop := Claim7.holds Tryd.pinned (.plain (OpenSpec.upto fnExactReadValueSpec)) fnExactReadValueUptoCard
end Rows
end Go.Proofs.YtnmpkdmflijhpaaDoor
