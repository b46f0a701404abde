/-
  DERIVED. GIVEN WITH THE SEED: THE CARDS: each row of YtdjcmnbdodpplaaDoorRows.lean that lists a variable, with what it lists TIED to the program's text (the seventh form; the later family's looks); each row that meets fmt, with fmt's text TOLD by the authors' own Lean function (tested against real Go, not proved from fmt's source: count such statements apart). THE CARD IS WHAT COUNTS. Prove the row's statement (the work); the ties are given (YtdjcmnbdodpplaaDoorTie.lean); close each card by the builder's one call (the guide's Derived/Test/ToyasCard.lean, 'card_holds'). Laid BY PROGRAM, IN A SANDBOX (cutbox-door.mjs). By AI agents, Wed Nov 11 2026. No macro, syntax, notation, axiom, sorry.
-/
import Derived.Test.YtdjcmnbdodpplaaDoorRows
import GoSem.ClaimSeven
namespace Go.Proofs.YtdjcmnbdodpplaaDoor
namespace Rows

/-- THE TIED CARD OF 'laws.FnLattice'. -/
def fnLatticeCard : Claim7 := { stood := { row := fnLatticeRow, standIns := [], harness := (true, "bc28d411649ba91fd3f829fa5362b1c78b7997e132765dc818c9a70027d68308"), looks := false }, kinds := [], alts := [], laidByText := true, laidKinds := [.data], laidTests := true, laidLooks := .later }
def FnLatticeCardSaid : Prop := Claim7.holds Tryd.pinned (.plain (OpenSpec.ofChange fnLatticeSpec)) fnLatticeCard

/-- THE TIED CARD OF 'laws.FnExactBuildLattice'. -/
def fnExactBuildLatticeCard : Claim7 := { stood := { row := fnExactBuildLatticeRow, standIns := [], harness := (true, "bc28d411649ba91fd3f829fa5362b1c78b7997e132765dc818c9a70027d68308"), looks := false }, kinds := [], alts := [], laidByText := true, laidKinds := [.data], laidTests := true, laidLooks := .later }
def FnExactBuildLatticeCardSaid : Prop := Claim7.holds Tryd.pinned (.plain (OpenSpec.ofChange fnExactBuildLatticeSpec)) fnExactBuildLatticeCard

/-- THE TIED CARD OF 'laws.FnExactValidLattice'. -/
def fnExactValidLatticeCard : Claim7 := { stood := { row := fnExactValidLatticeRow, standIns := [], harness := (true, "bc28d411649ba91fd3f829fa5362b1c78b7997e132765dc818c9a70027d68308"), looks := false }, kinds := [], alts := [], laidByText := true, laidKinds := [.data], laidTests := true, laidLooks := .later }
def FnExactValidLatticeCardSaid : Prop := Claim7.holds Tryd.pinned (.plain (OpenSpec.ofChange fnExactValidLatticeSpec)) fnExactValidLatticeCard

/-- THE SECOND FORM's CARD OF 'laws.FnLattice'. -/
def fnLatticeUptoCard : Claim7 := { stood := { row := fnLatticeUptoRow, standIns := [], harness := (true, "bc28d411649ba91fd3f829fa5362b1c78b7997e132765dc818c9a70027d68308"), looks := false }, kinds := [], alts := [], laidByText := true, laidKinds := [.data], laidTests := true, laidLooks := .later }
def FnLatticeUptoCardSaid : Prop := Claim7.holds Tryd.pinned (.plain (OpenSpec.upto fnLatticeSpec)) fnLatticeUptoCard

/-- THE SECOND FORM's CARD OF 'laws.FnExactBuildLattice'. -/
def fnExactBuildLatticeUptoCard : Claim7 := { stood := { row := fnExactBuildLatticeUptoRow, standIns := [], harness := (true, "bc28d411649ba91fd3f829fa5362b1c78b7997e132765dc818c9a70027d68308"), looks := false }, kinds := [], alts := [], laidByText := true, laidKinds := [.data], laidTests := true, laidLooks := .later }
def FnExactBuildLatticeUptoCardSaid : Prop := Claim7.holds Tryd.pinned (.plain (OpenSpec.upto fnExactBuildLatticeSpec)) fnExactBuildLatticeUptoCard

/-- THE SECOND FORM's CARD OF 'laws.FnExactValidLattice'. -/
def fnExactValidLatticeUptoCard : Claim7 := { stood := { row := fnExactValidLatticeUptoRow, standIns := [], harness := (true, "bc28d411649ba91fd3f829fa5362b1c78b7997e132765dc818c9a70027d68308"), looks := false }, kinds := [], alts := [], laidByText := true, laidKinds := [.data], laidTests := true, laidLooks := .later }
def FnExactValidLatticeUptoCardSaid : Prop := Claim7.holds Tryd.pinned (.plain (OpenSpec.upto fnExactValidLatticeSpec)) fnExactValidLatticeUptoCard
end Rows
end Go.Proofs.YtdjcmnbdodpplaaDoor
