/-
  DERIVED. GIVEN WITH THE SEED: THE CARDS: each row of YtkpocljlmbihcaaGreatDoorRows.lean that lists a variable, with what it lists TIED to the program's text (the seventh form; the later family's looks); each row that meets fmt, with fmt's text TOLD by the authors' own Lean function (tested against real Go, not proved from fmt's source: count such statements apart). THE CARD IS WHAT COUNTS. Prove the row's statement (the work); the ties are given (YtkpocljlmbihcaaGreatDoorTie.lean); close each card by the builder's one call (the guide's Derived/Test/ToyasCard.lean, 'card_holds'). Laid BY PROGRAM, IN A SANDBOX (cutbox-door.mjs). By AI agents, Wed Nov 11 2026. No macro, syntax, notation, axiom, sorry.
-/
import Derived.Test.YtkpocljlmbihcaaGreatDoorRows
import GoSem.ClaimSeven
namespace Go.Proofs.YtkpocljlmbihcaaGreatDoor
namespace Rows

/-- THE TIED CARD OF 'laws.FnExactPrintConfig'. -/
def fnExactPrintConfigCard : Claim7 := { stood := { row := fnExactPrintConfigRow, standIns := [], harness := (true, "914f97ccf765bf6c70cdf56b08a93fc143bc59cc3460c401166482fe95093d60"), looks := false }, kinds := [], alts := [], laidByText := true, laidKinds := [.data, .data, .data, .data, .data, .data, .data], laidTests := true, laidLooks := .later }
def FnExactPrintConfigCardSaid : Prop := Claim7.holds Tryz.pinned (.plain (OpenSpec.ofChange fnExactPrintConfigSpec)) fnExactPrintConfigCard

/-- THE TIED CARD OF 'laws.FnExactLineOfClass'. -/
def fnExactLineOfClassCard : Claim7 := { stood := { row := fnExactLineOfClassRow, standIns := [], harness := (true, "914f97ccf765bf6c70cdf56b08a93fc143bc59cc3460c401166482fe95093d60"), looks := false }, kinds := [], alts := [], laidByText := true, laidKinds := [.data, .data, .data, .data, .data, .data, .data], laidTests := true, laidLooks := .later }
def FnExactLineOfClassCardSaid : Prop := Claim7.holds Tryz.pinned (.plain (OpenSpec.ofChange fnExactLineOfClassSpec)) fnExactLineOfClassCard

/-- THE TIED CARD OF 'laws.FnExactLinesOfPart'. -/
def fnExactLinesOfPartCard : Claim7 := { stood := { row := fnExactLinesOfPartRow, standIns := [], harness := (true, "914f97ccf765bf6c70cdf56b08a93fc143bc59cc3460c401166482fe95093d60"), looks := false }, kinds := [], alts := [], laidByText := true, laidKinds := [.data, .data, .data, .data, .data, .data, .data], laidTests := true, laidLooks := .later }
def FnExactLinesOfPartCardSaid : Prop := Claim7.holds Tryz.pinned (.plain (OpenSpec.ofChange fnExactLinesOfPartSpec)) fnExactLinesOfPartCard

/-- THE TIED CARD OF 'laws.FnExactWalkClasses'. -/
def fnExactWalkClassesCard : Claim7 := { stood := { row := fnExactWalkClassesRow, standIns := [], harness := (true, "914f97ccf765bf6c70cdf56b08a93fc143bc59cc3460c401166482fe95093d60"), looks := false }, kinds := [], alts := [], laidByText := true, laidKinds := [.data, .data, .data, .data, .data, .data, .data], laidTests := true, laidLooks := .later }
def FnExactWalkClassesCardSaid : Prop := Claim7.holds Tryz.pinned (.plain (OpenSpec.ofChange fnExactWalkClassesSpec)) fnExactWalkClassesCard

/-- THE SECOND FORM's CARD OF 'laws.FnExactPrintConfig'. -/
def fnExactPrintConfigUptoCard : Claim7 := { stood := { row := fnExactPrintConfigUptoRow, standIns := [], harness := (true, "914f97ccf765bf6c70cdf56b08a93fc143bc59cc3460c401166482fe95093d60"), looks := false }, kinds := [], alts := [], laidByText := true, laidKinds := [.data, .data, .data, .data, .data, .data, .data], laidTests := true, laidLooks := .later }
def FnExactPrintConfigUptoCardSaid : Prop := Claim7.holds Tryz.pinned (.plain (OpenSpec.upto fnExactPrintConfigSpec)) fnExactPrintConfigUptoCard

/-- THE SECOND FORM's CARD OF 'laws.FnExactLineOfClass'. -/
def fnExactLineOfClassUptoCard : Claim7 := { stood := { row := fnExactLineOfClassUptoRow, standIns := [], harness := (true, "914f97ccf765bf6c70cdf56b08a93fc143bc59cc3460c401166482fe95093d60"), looks := false }, kinds := [], alts := [], laidByText := true, laidKinds := [.data, .data, .data, .data, .data, .data, .data], laidTests := true, laidLooks := .later }
def FnExactLineOfClassUptoCardSaid : Prop := Claim7.holds Tryz.pinned (.plain (OpenSpec.upto fnExactLineOfClassSpec)) fnExactLineOfClassUptoCard

/-- THE SECOND FORM's CARD OF 'laws.FnExactLinesOfPart'. -/
def fnExactLinesOfPartUptoCard : Claim7 := { stood := { row := fnExactLinesOfPartUptoRow, standIns := [], harness := (true, "914f97ccf765bf6c70cdf56b08a93fc143bc59cc3460c401166482fe95093d60"), looks := false }, kinds := [], alts := [], laidByText := true, laidKinds := [.data, .data, .data, .data, .data, .data, .data], laidTests := true, laidLooks := .later }
def FnExactLinesOfPartUptoCardSaid : Prop := Claim7.holds Tryz.pinned (.plain (OpenSpec.upto fnExactLinesOfPartSpec)) fnExactLinesOfPartUptoCard

/-- THE SECOND FORM's CARD OF 'laws.FnExactWalkClasses'. -/
def fnExactWalkClassesUptoCard : Claim7 := { stood := { row := fnExactWalkClassesUptoRow, standIns := [], harness := (true, "914f97ccf765bf6c70cdf56b08a93fc143bc59cc3460c401166482fe95093d60"), looks := false }, kinds := [], alts := [], laidByText := true, laidKinds := [.data, .data, .data, .data, .data, .data, .data], laidTests := true, laidLooks := .later }
def FnExactWalkClassesUptoCardSaid : Prop := Claim7.holds Tryz.pinned (.plain (OpenSpec.upto fnExactWalkClassesSpec)) fnExactWalkClassesUptoCard
end Rows
end Go.Proofs.YtkpocljlmbihcaaGreatDoor
