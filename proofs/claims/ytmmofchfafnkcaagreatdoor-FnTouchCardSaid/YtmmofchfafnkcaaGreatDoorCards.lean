/-
  DERIVED. GIVEN WITH THE SEED: THE CARDS: each row of YtmmofchfafnkcaaGreatDoorRows.lean that lists a variable, with what it lists TIED to the program's text (the seventh form; the later family's looks); each row that meets fmt, with fmt's text TOLD by the authors' own Lean function (tested against real Go, not proved from fmt's source: count such statements apart). THE CARD IS WHAT COUNTS. Prove the row's statement (the work); the ties are given (YtmmofchfafnkcaaGreatDoorTie.lean); close each card by the builder's one call (the guide's Derived/Test/ToyasCard.lean, 'card_holds'). Laid BY PROGRAM, IN A SANDBOX (cutbox-door.mjs). By AI agents, Wed Nov 11 2026. No macro, syntax, notation, axiom, sorry.
-/
import Derived.Test.YtmmofchfafnkcaaGreatDoorRows
import GoSem.ClaimSeven
namespace Go.Proofs.YtmmofchfafnkcaaGreatDoor
namespace Rows

/-- THE TIED CARD OF 'laws.FnTouch'. -/
def fnTouchCard : Claim7 := { stood := { row := fnTouchRow, standIns := [], harness := (true, "ebd937833273e789f0f49d7857bd4a780f26871102c0da0e1751e11d04d7fc9c"), looks := false }, kinds := [], alts := [], laidByText := true, laidKinds := [.data, .data, .data, .data], laidTests := true, laidLooks := .later }
def FnTouchCardSaid : Prop := Claim7.holds Tryz.pinned (.plain (OpenSpec.ofChange fnTouchSpec)) fnTouchCard

/-- THE TIED CARD OF 'laws.FnConfigs'. -/
def fnConfigsCard : Claim7 := { stood := { row := fnConfigsRow, standIns := [], harness := (true, "ebd937833273e789f0f49d7857bd4a780f26871102c0da0e1751e11d04d7fc9c"), looks := false }, kinds := [], alts := [], laidByText := true, laidKinds := [.data], laidTests := true, laidLooks := .later }
def FnConfigsCardSaid : Prop := Claim7.holds Tryz.pinned (.plain (OpenSpec.ofChange fnConfigsSpec)) fnConfigsCard

/-- THE TIED CARD OF 'laws.FnConditions'. -/
def fnConditionsCard : Claim7 := { stood := { row := fnConditionsRow, standIns := [], harness := (true, "ebd937833273e789f0f49d7857bd4a780f26871102c0da0e1751e11d04d7fc9c"), looks := false }, kinds := [], alts := [], laidByText := true, laidKinds := [.data], laidTests := true, laidLooks := .later }
def FnConditionsCardSaid : Prop := Claim7.holds Tryz.pinned (.plain (OpenSpec.ofChange fnConditionsSpec)) fnConditionsCard

/-- THE SECOND FORM's CARD OF 'laws.FnTouch'. -/
def fnTouchUptoCard : Claim7 := { stood := { row := fnTouchUptoRow, standIns := [], harness := (true, "ebd937833273e789f0f49d7857bd4a780f26871102c0da0e1751e11d04d7fc9c"), looks := false }, kinds := [], alts := [], laidByText := true, laidKinds := [.data, .data, .data, .data], laidTests := true, laidLooks := .later }
def FnTouchUptoCardSaid : Prop := Claim7.holds Tryz.pinned (.plain (OpenSpec.upto fnTouchSpec)) fnTouchUptoCard

/-- THE SECOND FORM's CARD OF 'laws.FnConfigs'. -/
def fnConfigsUptoCard : Claim7 := { stood := { row := fnConfigsUptoRow, standIns := [], harness := (true, "ebd937833273e789f0f49d7857bd4a780f26871102c0da0e1751e11d04d7fc9c"), looks := false }, kinds := [], alts := [], laidByText := true, laidKinds := [.data], laidTests := true, laidLooks := .later }
def FnConfigsUptoCardSaid : Prop := Claim7.holds Tryz.pinned (.plain (OpenSpec.upto fnConfigsSpec)) fnConfigsUptoCard

/-- THE SECOND FORM's CARD OF 'laws.FnConditions'. -/
def fnConditionsUptoCard : Claim7 := { stood := { row := fnConditionsUptoRow, standIns := [], harness := (true, "ebd937833273e789f0f49d7857bd4a780f26871102c0da0e1751e11d04d7fc9c"), looks := false }, kinds := [], alts := [], laidByText := true, laidKinds := [.data], laidTests := true, laidLooks := .later }
def FnConditionsUptoCardSaid : Prop := Claim7.holds Tryz.pinned (.plain (OpenSpec.upto fnConditionsSpec)) fnConditionsUptoCard
end Rows
end Go.Proofs.YtmmofchfafnkcaaGreatDoor
