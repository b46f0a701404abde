/-
  DERIVED. GIVEN WITH THE SEED: THE CARDS: each row of YtalgidagiojbpaaGreatDoorRows.lean that lists a variable, with what it lists TIED to the program's text (the seventh form; the later family's looks); each row that meets fmt, with fmt's text TOLD by the authors' own Lean function (tested against real Go, not proved from fmt's source: count such statements apart). THE CARD IS WHAT COUNTS. Prove the row's statement (the work); the ties are given (YtalgidagiojbpaaGreatDoorTie.lean); close each card by the builder's one call (the guide's Derived/Test/ToyasCard.lean, 'card_holds'). Laid BY PROGRAM, IN A SANDBOX (cutbox-door.mjs). By AI agents, Wed Nov 11 2026. No macro, syntax, notation, axiom, sorry.
-/
import Derived.Test.YtalgidagiojbpaaGreatDoorRows
import GoSem.ClaimSeven
namespace Go.Proofs.YtalgidagiojbpaaGreatDoor
namespace Rows

/-- THE TIED CARD OF 'laws.FnExactInferLabels'. -/
def fnExactInferLabelsCard : Claim7 := { stood := { row := fnExactInferLabelsRow, standIns := [], harness := (true, "5acd06fafe2f49aa0d7c2914fb17cb17171376da6635bea582a3ffc92ddb0f5e"), looks := false }, kinds := [], alts := [], laidByText := true, laidKinds := [.data, .data, .data, .data, .data], laidTests := true, laidLooks := .later }
def FnExactInferLabelsCardSaid : Prop := Claim7.holds Tryz.pinned (.plain (OpenSpec.ofChange fnExactInferLabelsSpec)) fnExactInferLabelsCard

/-- THE TIED CARD OF 'laws.FnExactCheckForm'. -/
def fnExactCheckFormCard : Claim7 := { stood := { row := fnExactCheckFormRow, standIns := [], harness := (true, "5acd06fafe2f49aa0d7c2914fb17cb17171376da6635bea582a3ffc92ddb0f5e"), looks := false }, kinds := [], alts := [], laidByText := true, laidKinds := [.data, .data, .data, .data, .data], laidTests := true, laidLooks := .later }
def FnExactCheckFormCardSaid : Prop := Claim7.holds Tryz.pinned (.plain (OpenSpec.ofChange fnExactCheckFormSpec)) fnExactCheckFormCard

/-- THE SECOND FORM's CARD OF 'laws.FnExactInferLabels'. -/
def fnExactInferLabelsUptoCard : Claim7 := { stood := { row := fnExactInferLabelsUptoRow, standIns := [], harness := (true, "5acd06fafe2f49aa0d7c2914fb17cb17171376da6635bea582a3ffc92ddb0f5e"), looks := false }, kinds := [], alts := [], laidByText := true, laidKinds := [.data, .data, .data, .data, .data], laidTests := true, laidLooks := .later }
def FnExactInferLabelsUptoCardSaid : Prop := Claim7.holds Tryz.pinned (.plain (OpenSpec.upto fnExactInferLabelsSpec)) fnExactInferLabelsUptoCard

/-- THE SECOND FORM's CARD OF 'laws.FnExactCheckForm'. -/
def fnExactCheckFormUptoCard : Claim7 := { stood := { row := fnExactCheckFormUptoRow, standIns := [], harness := (true, "5acd06fafe2f49aa0d7c2914fb17cb17171376da6635bea582a3ffc92ddb0f5e"), looks := false }, kinds := [], alts := [], laidByText := true, laidKinds := [.data, .data, .data, .data, .data], laidTests := true, laidLooks := .later }
def FnExactCheckFormUptoCardSaid : Prop := Claim7.holds Tryz.pinned (.plain (OpenSpec.upto fnExactCheckFormSpec)) fnExactCheckFormUptoCard
end Rows
end Go.Proofs.YtalgidagiojbpaaGreatDoor
