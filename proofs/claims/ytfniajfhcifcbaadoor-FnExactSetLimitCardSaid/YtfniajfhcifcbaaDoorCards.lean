/-
  DERIVED. GIVEN WITH THE SEED: THE CARDS: each row of YtfniajfhcifcbaaDoorRows.lean that lists a variable, with what it lists TIED to the program's text (the seventh form; the later family's looks); each row that meets fmt, with fmt's text TOLD by the authors' own Lean function (tested against real Go, not proved from fmt's source: count such statements apart). THE CARD IS WHAT COUNTS. Prove the row's statement (the work); the ties are given (YtfniajfhcifcbaaDoorTie.lean); close each card by the builder's one call (the guide's Derived/Test/ToyasCard.lean, 'card_holds'). Laid BY PROGRAM, IN A SANDBOX (cutbox-door.mjs). By AI agents, Wed Nov 11 2026. No macro, syntax, notation, axiom, sorry.
-/
import Derived.Test.YtfniajfhcifcbaaDoorRows
import GoSem.ClaimSeven
namespace Go.Proofs.YtfniajfhcifcbaaDoor
namespace Rows

/-- THE TIED CARD OF 'laws.FnExactIsConfig'. -/
def fnExactIsConfigCard : Claim7 := { stood := { row := fnExactIsConfigRow, standIns := [], harness := (true, "6cd118faee4ea06785927ae3204bbcd084b97a60eb51fd2cf6f4e7ce3c5f2e0f"), looks := false }, kinds := [], alts := [], laidByText := true, laidKinds := [.data], laidTests := true, laidLooks := .later }
def FnExactIsConfigCardSaid : Prop := Claim7.holds Tryd.pinned (.plain (OpenSpec.ofChange fnExactIsConfigSpec)) fnExactIsConfigCard

/-- THE TIED CARD OF 'laws.FnExactFindClass'. -/
def fnExactFindClassCard : Claim7 := { stood := { row := fnExactFindClassRow, standIns := [], harness := (true, "6cd118faee4ea06785927ae3204bbcd084b97a60eb51fd2cf6f4e7ce3c5f2e0f"), looks := false }, kinds := [], alts := [], laidByText := true, laidKinds := [.data], laidTests := true, laidLooks := .later }
def FnExactFindClassCardSaid : Prop := Claim7.holds Tryd.pinned (.plain (OpenSpec.ofChange fnExactFindClassSpec)) fnExactFindClassCard

/-- THE TIED CARD OF 'laws.FnExactTopOf'. -/
def fnExactTopOfCard : Claim7 := { stood := { row := fnExactTopOfRow, standIns := [], harness := (true, "6cd118faee4ea06785927ae3204bbcd084b97a60eb51fd2cf6f4e7ce3c5f2e0f"), looks := false }, kinds := [], alts := [], laidByText := true, laidKinds := [.data], laidTests := true, laidLooks := .later }
def FnExactTopOfCardSaid : Prop := Claim7.holds Tryd.pinned (.plain (OpenSpec.ofChange fnExactTopOfSpec)) fnExactTopOfCard

/-- THE TIED CARD OF 'laws.FnExactChildClasses'. -/
def fnExactChildClassesCard : Claim7 := { stood := { row := fnExactChildClassesRow, standIns := [], harness := (true, "6cd118faee4ea06785927ae3204bbcd084b97a60eb51fd2cf6f4e7ce3c5f2e0f"), looks := false }, kinds := [], alts := [], laidByText := true, laidKinds := [.data], laidTests := true, laidLooks := .later }
def FnExactChildClassesCardSaid : Prop := Claim7.holds Tryd.pinned (.plain (OpenSpec.ofChange fnExactChildClassesSpec)) fnExactChildClassesCard

/-- THE TIED CARD OF 'laws.FnExactLeavesOf'. -/
def fnExactLeavesOfCard : Claim7 := { stood := { row := fnExactLeavesOfRow, standIns := [], harness := (true, "6cd118faee4ea06785927ae3204bbcd084b97a60eb51fd2cf6f4e7ce3c5f2e0f"), looks := false }, kinds := [], alts := [], laidByText := true, laidKinds := [.data], laidTests := true, laidLooks := .later }
def FnExactLeavesOfCardSaid : Prop := Claim7.holds Tryd.pinned (.plain (OpenSpec.ofChange fnExactLeavesOfSpec)) fnExactLeavesOfCard

/-- THE TIED CARD OF 'laws.FnExactWayUp'. -/
def fnExactWayUpCard : Claim7 := { stood := { row := fnExactWayUpRow, standIns := [], harness := (true, "6cd118faee4ea06785927ae3204bbcd084b97a60eb51fd2cf6f4e7ce3c5f2e0f"), looks := false }, kinds := [], alts := [], laidByText := true, laidKinds := [.data], laidTests := true, laidLooks := .later }
def FnExactWayUpCardSaid : Prop := Claim7.holds Tryd.pinned (.plain (OpenSpec.ofChange fnExactWayUpSpec)) fnExactWayUpCard

/-- THE TIED CARD OF 'laws.FnExactIsBelow'. -/
def fnExactIsBelowCard : Claim7 := { stood := { row := fnExactIsBelowRow, standIns := [], harness := (true, "6cd118faee4ea06785927ae3204bbcd084b97a60eb51fd2cf6f4e7ce3c5f2e0f"), looks := false }, kinds := [], alts := [], laidByText := true, laidKinds := [.data], laidTests := true, laidLooks := .later }
def FnExactIsBelowCardSaid : Prop := Claim7.holds Tryd.pinned (.plain (OpenSpec.ofChange fnExactIsBelowSpec)) fnExactIsBelowCard

/-- THE TIED CARD OF 'laws.FnExactSpareRate'. -/
def fnExactSpareRateCard : Claim7 := { stood := { row := fnExactSpareRateRow, standIns := [], harness := (true, "6cd118faee4ea06785927ae3204bbcd084b97a60eb51fd2cf6f4e7ce3c5f2e0f"), looks := false }, kinds := [], alts := [], laidByText := true, laidKinds := [.data], laidTests := true, laidLooks := .later }
def FnExactSpareRateCardSaid : Prop := Claim7.holds Tryd.pinned (.plain (OpenSpec.ofChange fnExactSpareRateSpec)) fnExactSpareRateCard

/-- THE TIED CARD OF 'laws.FnExactAddClass'. -/
def fnExactAddClassCard : Claim7 := { stood := { row := fnExactAddClassRow, standIns := [], harness := (true, "6cd118faee4ea06785927ae3204bbcd084b97a60eb51fd2cf6f4e7ce3c5f2e0f"), looks := false }, kinds := [], alts := [], laidByText := true, laidKinds := [.data], laidTests := true, laidLooks := .later }
def FnExactAddClassCardSaid : Prop := Claim7.holds Tryd.pinned (.plain (OpenSpec.ofChange fnExactAddClassSpec)) fnExactAddClassCard

/-- THE TIED CARD OF 'laws.FnExactDropClass'. -/
def fnExactDropClassCard : Claim7 := { stood := { row := fnExactDropClassRow, standIns := [], harness := (true, "6cd118faee4ea06785927ae3204bbcd084b97a60eb51fd2cf6f4e7ce3c5f2e0f"), looks := false }, kinds := [], alts := [], laidByText := true, laidKinds := [.data], laidTests := true, laidLooks := .later }
def FnExactDropClassCardSaid : Prop := Claim7.holds Tryd.pinned (.plain (OpenSpec.ofChange fnExactDropClassSpec)) fnExactDropClassCard

/-- THE TIED CARD OF 'laws.FnExactSetLimit'. -/
def fnExactSetLimitCard : Claim7 := { stood := { row := fnExactSetLimitRow, standIns := [], harness := (true, "6cd118faee4ea06785927ae3204bbcd084b97a60eb51fd2cf6f4e7ce3c5f2e0f"), looks := false }, kinds := [], alts := [], laidByText := true, laidKinds := [.data], laidTests := true, laidLooks := .later }
def FnExactSetLimitCardSaid : Prop := Claim7.holds Tryd.pinned (.plain (OpenSpec.ofChange fnExactSetLimitSpec)) fnExactSetLimitCard

/-- THE SECOND FORM's CARD OF 'laws.FnExactIsConfig'. -/
def fnExactIsConfigUptoCard : Claim7 := { stood := { row := fnExactIsConfigUptoRow, standIns := [], harness := (true, "6cd118faee4ea06785927ae3204bbcd084b97a60eb51fd2cf6f4e7ce3c5f2e0f"), looks := false }, kinds := [], alts := [], laidByText := true, laidKinds := [.data], laidTests := true, laidLooks := .later }
def FnExactIsConfigUptoCardSaid : Prop := Claim7.holds Tryd.pinned (.plain (OpenSpec.upto fnExactIsConfigSpec)) fnExactIsConfigUptoCard

/-- THE SECOND FORM's CARD OF 'laws.FnExactFindClass'. -/
def fnExactFindClassUptoCard : Claim7 := { stood := { row := fnExactFindClassUptoRow, standIns := [], harness := (true, "6cd118faee4ea06785927ae3204bbcd084b97a60eb51fd2cf6f4e7ce3c5f2e0f"), looks := false }, kinds := [], alts := [], laidByText := true, laidKinds := [.data], laidTests := true, laidLooks := .later }
def FnExactFindClassUptoCardSaid : Prop := Claim7.holds Tryd.pinned (.plain (OpenSpec.upto fnExactFindClassSpec)) fnExactFindClassUptoCard

/-- THE SECOND FORM's CARD OF 'laws.FnExactTopOf'. -/
def fnExactTopOfUptoCard : Claim7 := { stood := { row := fnExactTopOfUptoRow, standIns := [], harness := (true, "6cd118faee4ea06785927ae3204bbcd084b97a60eb51fd2cf6f4e7ce3c5f2e0f"), looks := false }, kinds := [], alts := [], laidByText := true, laidKinds := [.data], laidTests := true, laidLooks := .later }
def FnExactTopOfUptoCardSaid : Prop := Claim7.holds Tryd.pinned (.plain (OpenSpec.upto fnExactTopOfSpec)) fnExactTopOfUptoCard

/-- THE SECOND FORM's CARD OF 'laws.FnExactChildClasses'. -/
def fnExactChildClassesUptoCard : Claim7 := { stood := { row := fnExactChildClassesUptoRow, standIns := [], harness := (true, "6cd118faee4ea06785927ae3204bbcd084b97a60eb51fd2cf6f4e7ce3c5f2e0f"), looks := false }, kinds := [], alts := [], laidByText := true, laidKinds := [.data], laidTests := true, laidLooks := .later }
def FnExactChildClassesUptoCardSaid : Prop := Claim7.holds Tryd.pinned (.plain (OpenSpec.upto fnExactChildClassesSpec)) fnExactChildClassesUptoCard

/-- THE SECOND FORM's CARD OF 'laws.FnExactLeavesOf'. -/
def fnExactLeavesOfUptoCard : Claim7 := { stood := { row := fnExactLeavesOfUptoRow, standIns := [], harness := (true, "6cd118faee4ea06785927ae3204bbcd084b97a60eb51fd2cf6f4e7ce3c5f2e0f"), looks := false }, kinds := [], alts := [], laidByText := true, laidKinds := [.data], laidTests := true, laidLooks := .later }
def FnExactLeavesOfUptoCardSaid : Prop := Claim7.holds Tryd.pinned (.plain (OpenSpec.upto fnExactLeavesOfSpec)) fnExactLeavesOfUptoCard

/-- THE SECOND FORM's CARD OF 'laws.FnExactWayUp'. -/
def fnExactWayUpUptoCard : Claim7 := { stood := { row := fnExactWayUpUptoRow, standIns := [], harness := (true, "6cd118faee4ea06785927ae3204bbcd084b97a60eb51fd2cf6f4e7ce3c5f2e0f"), looks := false }, kinds := [], alts := [], laidByText := true, laidKinds := [.data], laidTests := true, laidLooks := .later }
def FnExactWayUpUptoCardSaid : Prop := Claim7.holds Tryd.pinned (.plain (OpenSpec.upto fnExactWayUpSpec)) fnExactWayUpUptoCard

/-- THE SECOND FORM's CARD OF 'laws.FnExactIsBelow'. -/
def fnExactIsBelowUptoCard : Claim7 := { stood := { row := fnExactIsBelowUptoRow, standIns := [], harness := (true, "6cd118faee4ea06785927ae3204bbcd084b97a60eb51fd2cf6f4e7ce3c5f2e0f"), looks := false }, kinds := [], alts := [], laidByText := true, laidKinds := [.data], laidTests := true, laidLooks := .later }
def FnExactIsBelowUptoCardSaid : Prop := Claim7.holds Tryd.pinned (.plain (OpenSpec.upto fnExactIsBelowSpec)) fnExactIsBelowUptoCard

/-- THE SECOND FORM's CARD OF 'laws.FnExactSpareRate'. -/
def fnExactSpareRateUptoCard : Claim7 := { stood := { row := fnExactSpareRateUptoRow, standIns := [], harness := (true, "6cd118faee4ea06785927ae3204bbcd084b97a60eb51fd2cf6f4e7ce3c5f2e0f"), looks := false }, kinds := [], alts := [], laidByText := true, laidKinds := [.data], laidTests := true, laidLooks := .later }
def FnExactSpareRateUptoCardSaid : Prop := Claim7.holds Tryd.pinned (.plain (OpenSpec.upto fnExactSpareRateSpec)) fnExactSpareRateUptoCard

/-- THE SECOND FORM's CARD OF 'laws.FnExactAddClass'. -/
def fnExactAddClassUptoCard : Claim7 := { stood := { row := fnExactAddClassUptoRow, standIns := [], harness := (true, "6cd118faee4ea06785927ae3204bbcd084b97a60eb51fd2cf6f4e7ce3c5f2e0f"), looks := false }, kinds := [], alts := [], laidByText := true, laidKinds := [.data], laidTests := true, laidLooks := .later }
def FnExactAddClassUptoCardSaid : Prop := Claim7.holds Tryd.pinned (.plain (OpenSpec.upto fnExactAddClassSpec)) fnExactAddClassUptoCard

/-- THE SECOND FORM's CARD OF 'laws.FnExactDropClass'. -/
def fnExactDropClassUptoCard : Claim7 := { stood := { row := fnExactDropClassUptoRow, standIns := [], harness := (true, "6cd118faee4ea06785927ae3204bbcd084b97a60eb51fd2cf6f4e7ce3c5f2e0f"), looks := false }, kinds := [], alts := [], laidByText := true, laidKinds := [.data], laidTests := true, laidLooks := .later }
def FnExactDropClassUptoCardSaid : Prop := Claim7.holds Tryd.pinned (.plain (OpenSpec.upto fnExactDropClassSpec)) fnExactDropClassUptoCard

/-- THE SECOND FORM's CARD OF 'laws.FnExactSetLimit'. -/
def fnExactSetLimitUptoCard : Claim7 := { stood := { row := fnExactSetLimitUptoRow, standIns := [], harness := (true, "6cd118faee4ea06785927ae3204bbcd084b97a60eb51fd2cf6f4e7ce3c5f2e0f"), looks := false }, kinds := [], alts := [], laidByText := true, laidKinds := [.data], laidTests := true, laidLooks := .later }
def FnExactSetLimitUptoCardSaid : Prop := Claim7.holds Tryd.pinned (.plain (OpenSpec.upto fnExactSetLimitSpec)) fnExactSetLimitUptoCard
end Rows
end Go.Proofs.YtfniajfhcifcbaaDoor
