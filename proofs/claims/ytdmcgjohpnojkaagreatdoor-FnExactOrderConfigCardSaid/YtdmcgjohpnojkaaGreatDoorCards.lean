/-
  DERIVED. GIVEN WITH THE SEED: THE CARDS: each row of YtdmcgjohpnojkaaGreatDoorRows.lean that lists a variable, with what it lists TIED to the program's text (the seventh form; the later family's looks); each row that meets fmt, with fmt's text TOLD by the authors' own Lean function (tested against real Go, not proved from fmt's source: count such statements apart). THE CARD IS WHAT COUNTS. Prove the row's statement (the work); the ties are given (YtdmcgjohpnojkaaGreatDoorTie.lean); close each card by the builder's one call (the guide's Derived/Test/ToyasCard.lean, 'card_holds'). Laid BY PROGRAM, IN A SANDBOX (cutbox-door.mjs). By AI agents, Wed Nov 11 2026. No macro, syntax, notation, axiom, sorry.
-/
import Derived.Test.YtdmcgjohpnojkaaGreatDoorRows
import GoSem.ClaimSeven
namespace Go.Proofs.YtdmcgjohpnojkaaGreatDoor
namespace Rows

/-- THE TIED CARD OF 'laws.FnTouch'. -/
def fnTouchCard : Claim7 := { stood := { row := fnTouchRow, standIns := [], harness := (true, "af5a50c7b11f099727c35e954b62e4560817f5ec562b193f1be36794a5783d42"), looks := false }, kinds := [], alts := [], laidByText := true, laidKinds := [.data, .data, .data, .data], laidTests := true, laidLooks := .later }
def FnTouchCardSaid : Prop := Claim7.holds Tryz.pinned (.plain (OpenSpec.ofChange fnTouchSpec)) fnTouchCard

/-- THE TIED CARD OF 'laws.FnConfigs'. -/
def fnConfigsCard : Claim7 := { stood := { row := fnConfigsRow, standIns := [], harness := (true, "af5a50c7b11f099727c35e954b62e4560817f5ec562b193f1be36794a5783d42"), looks := false }, kinds := [], alts := [], laidByText := true, laidKinds := [.data], laidTests := true, laidLooks := .later }
def FnConfigsCardSaid : Prop := Claim7.holds Tryz.pinned (.plain (OpenSpec.ofChange fnConfigsSpec)) fnConfigsCard

/-- THE TIED CARD OF 'laws.FnExactOrderConfig'. -/
def fnExactOrderConfigCard : Claim7 := { stood := { row := fnExactOrderConfigRow, standIns := [], harness := (true, "af5a50c7b11f099727c35e954b62e4560817f5ec562b193f1be36794a5783d42"), looks := false }, kinds := [], alts := [], laidByText := true, laidKinds := [.data], laidTests := true, laidLooks := .later }
def FnExactOrderConfigCardSaid : Prop := Claim7.holds Tryz.pinned (.plain (OpenSpec.ofChange fnExactOrderConfigSpec)) fnExactOrderConfigCard

/-- THE SECOND FORM's CARD OF 'laws.FnTouch'. -/
def fnTouchUptoCard : Claim7 := { stood := { row := fnTouchUptoRow, standIns := [], harness := (true, "af5a50c7b11f099727c35e954b62e4560817f5ec562b193f1be36794a5783d42"), looks := false }, kinds := [], alts := [], laidByText := true, laidKinds := [.data, .data, .data, .data], laidTests := true, laidLooks := .later }
def FnTouchUptoCardSaid : Prop := Claim7.holds Tryz.pinned (.plain (OpenSpec.upto fnTouchSpec)) fnTouchUptoCard

/-- THE SECOND FORM's CARD OF 'laws.FnConfigs'. -/
def fnConfigsUptoCard : Claim7 := { stood := { row := fnConfigsUptoRow, standIns := [], harness := (true, "af5a50c7b11f099727c35e954b62e4560817f5ec562b193f1be36794a5783d42"), looks := false }, kinds := [], alts := [], laidByText := true, laidKinds := [.data], laidTests := true, laidLooks := .later }
def FnConfigsUptoCardSaid : Prop := Claim7.holds Tryz.pinned (.plain (OpenSpec.upto fnConfigsSpec)) fnConfigsUptoCard

/-- THE SECOND FORM's CARD OF 'laws.FnExactOrderConfig'. -/
def fnExactOrderConfigUptoCard : Claim7 := { stood := { row := fnExactOrderConfigUptoRow, standIns := [], harness := (true, "af5a50c7b11f099727c35e954b62e4560817f5ec562b193f1be36794a5783d42"), looks := false }, kinds := [], alts := [], laidByText := true, laidKinds := [.data], laidTests := true, laidLooks := .later }
def FnExactOrderConfigUptoCardSaid : Prop := Claim7.holds Tryz.pinned (.plain (OpenSpec.upto fnExactOrderConfigSpec)) fnExactOrderConfigUptoCard
end Rows
end Go.Proofs.YtdmcgjohpnojkaaGreatDoor
