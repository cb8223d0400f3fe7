/-
  DERIVED. GIVEN WITH THE SEED: THE CARDS: each row of YtfijhgggljaomaaDoorRows.lean that lists a variable, with what it lists TIED to the program's text (the seventh form; the later family's looks); each row that meets fmt, with fmt's text TOLD by the authors' own Lean function (tested against real Go, not proved from fmt's source: count such statements apart). THE CARD IS WHAT COUNTS. Prove the row's statement (the work); the ties are given (YtfijhgggljaomaaDoorTie.lean); close each card by the builder's one call (the guide's Derived/Test/ToyasCard.lean, 'card_holds'). Laid BY PROGRAM, IN A SANDBOX (cutbox-door.mjs). By AI agents, Wed Nov 11 2026. No macro, syntax, notation, axiom, sorry.
-/
import Derived.Test.YtfijhgggljaomaaDoorRows
import GoSem.ClaimSeven
namespace Go.Proofs.YtfijhgggljaomaaDoor
namespace Rows

/-- THE TIED CARD OF 'laws.FnExactConditionHolds'. -/
def fnExactConditionHoldsCard : Claim7 := { stood := { row := fnExactConditionHoldsRow, standIns := [], harness := (true, "8a8d1a742258b70ee7180daad0ae78800f04e217985a460612c11375f804e30f"), looks := false }, kinds := [], alts := [], laidByText := true, laidKinds := [.data], laidTests := true, laidLooks := .later }
def FnExactConditionHoldsCardSaid : Prop := Claim7.holds Tryd.pinned (.plain (OpenSpec.ofChange fnExactConditionHoldsSpec)) fnExactConditionHoldsCard

/-- THE TIED CARD OF 'laws.FnExactBrokenConditions'. -/
def fnExactBrokenConditionsCard : Claim7 := { stood := { row := fnExactBrokenConditionsRow, standIns := [], harness := (true, "8a8d1a742258b70ee7180daad0ae78800f04e217985a460612c11375f804e30f"), looks := false }, kinds := [], alts := [], laidByText := true, laidKinds := [.data], laidTests := true, laidLooks := .later }
def FnExactBrokenConditionsCardSaid : Prop := Claim7.holds Tryd.pinned (.plain (OpenSpec.ofChange fnExactBrokenConditionsSpec)) fnExactBrokenConditionsCard

/-- THE SECOND FORM's CARD OF 'laws.FnExactConditionHolds'. -/
def fnExactConditionHoldsUptoCard : Claim7 := { stood := { row := fnExactConditionHoldsUptoRow, standIns := [], harness := (true, "8a8d1a742258b70ee7180daad0ae78800f04e217985a460612c11375f804e30f"), looks := false }, kinds := [], alts := [], laidByText := true, laidKinds := [.data], laidTests := true, laidLooks := .later }
def FnExactConditionHoldsUptoCardSaid : Prop := Claim7.holds Tryd.pinned (.plain (OpenSpec.upto fnExactConditionHoldsSpec)) fnExactConditionHoldsUptoCard

/-- THE SECOND FORM's CARD OF 'laws.FnExactBrokenConditions'. -/
def fnExactBrokenConditionsUptoCard : Claim7 := { stood := { row := fnExactBrokenConditionsUptoRow, standIns := [], harness := (true, "8a8d1a742258b70ee7180daad0ae78800f04e217985a460612c11375f804e30f"), looks := false }, kinds := [], alts := [], laidByText := true, laidKinds := [.data], laidTests := true, laidLooks := .later }
def FnExactBrokenConditionsUptoCardSaid : Prop := Claim7.holds Tryd.pinned (.plain (OpenSpec.upto fnExactBrokenConditionsSpec)) fnExactBrokenConditionsUptoCard
end Rows
end Go.Proofs.YtfijhgggljaomaaDoor
