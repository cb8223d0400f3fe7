/-
  DERIVED. GIVEN WITH THE SEED: THE CARDS: each row of YtkpocljlmbihcaaDoorRows.lean that lists a variable, with what it lists TIED to the program's text (the seventh form; the later family's looks); each row that meets fmt, with fmt's text TOLD by the authors' own Lean function (tested against real Go, not proved from fmt's source: count such statements apart). THE CARD IS WHAT COUNTS. Prove the row's statement (the work); the ties are given (YtkpocljlmbihcaaDoorTie.lean); close each card by the builder's one call (the guide's Derived/Test/ToyasCard.lean, 'card_holds'). Laid BY PROGRAM, IN A SANDBOX (cutbox-door.mjs). By AI agents, Wed Nov 11 2026. No macro, syntax, notation, axiom, sorry.
-/
import Derived.Test.YtkpocljlmbihcaaDoorRows
import GoSem.ClaimSeven
namespace Go.Proofs.YtkpocljlmbihcaaDoor
namespace Rows

/-- THE TIED CARD OF 'laws.FnExactClassHead'. -/
def fnExactClassHeadCard : Claim7 := { stood := { row := fnExactClassHeadRow, standIns := [], harness := (true, "b6ac94a244cf20dedb54ebcc7406e694924327057e47c92b85c2f2cbfbd216f2"), looks := false }, kinds := [], alts := [], laidByText := true, laidKinds := [.data, .data, .data, .data], laidTests := true, laidLooks := .later }
def FnExactClassHeadCardSaid : Prop := Claim7.holds Tryd.pinned (.plain (OpenSpec.ofChange fnExactClassHeadSpec)) fnExactClassHeadCard

/-- THE TIED CARD OF 'laws.FnExactFilterLine'. -/
def fnExactFilterLineCard : Claim7 := { stood := { row := fnExactFilterLineRow, standIns := [], harness := (true, "b6ac94a244cf20dedb54ebcc7406e694924327057e47c92b85c2f2cbfbd216f2"), looks := false }, kinds := [], alts := [], laidByText := true, laidKinds := [.data, .data, .data, .data, .data], laidTests := true, laidLooks := .later }
def FnExactFilterLineCardSaid : Prop := Claim7.holds Tryd.pinned (.plain (OpenSpec.ofChange fnExactFilterLineSpec)) fnExactFilterLineCard

/-- THE TIED CARD OF 'laws.FnExactTreeText'. -/
def fnExactTreeTextCard : Claim7 := { stood := { row := fnExactTreeTextRow, standIns := [], harness := (true, "b6ac94a244cf20dedb54ebcc7406e694924327057e47c92b85c2f2cbfbd216f2"), looks := false }, kinds := [], alts := [], laidByText := true, laidKinds := [.data, .data, .data, .data], laidTests := true, laidLooks := .later }
def FnExactTreeTextCardSaid : Prop := Claim7.holds Tryd.pinned (.plain (OpenSpec.ofChange fnExactTreeTextSpec)) fnExactTreeTextCard

/-- THE SECOND FORM's CARD OF 'laws.FnExactClassHead'. -/
def fnExactClassHeadUptoCard : Claim7 := { stood := { row := fnExactClassHeadUptoRow, standIns := [], harness := (true, "b6ac94a244cf20dedb54ebcc7406e694924327057e47c92b85c2f2cbfbd216f2"), looks := false }, kinds := [], alts := [], laidByText := true, laidKinds := [.data, .data, .data, .data], laidTests := true, laidLooks := .later }
def FnExactClassHeadUptoCardSaid : Prop := Claim7.holds Tryd.pinned (.plain (OpenSpec.upto fnExactClassHeadSpec)) fnExactClassHeadUptoCard

/-- THE SECOND FORM's CARD OF 'laws.FnExactFilterLine'. -/
def fnExactFilterLineUptoCard : Claim7 := { stood := { row := fnExactFilterLineUptoRow, standIns := [], harness := (true, "b6ac94a244cf20dedb54ebcc7406e694924327057e47c92b85c2f2cbfbd216f2"), looks := false }, kinds := [], alts := [], laidByText := true, laidKinds := [.data, .data, .data, .data, .data], laidTests := true, laidLooks := .later }
def FnExactFilterLineUptoCardSaid : Prop := Claim7.holds Tryd.pinned (.plain (OpenSpec.upto fnExactFilterLineSpec)) fnExactFilterLineUptoCard

/-- THE SECOND FORM's CARD OF 'laws.FnExactTreeText'. -/
def fnExactTreeTextUptoCard : Claim7 := { stood := { row := fnExactTreeTextUptoRow, standIns := [], harness := (true, "b6ac94a244cf20dedb54ebcc7406e694924327057e47c92b85c2f2cbfbd216f2"), looks := false }, kinds := [], alts := [], laidByText := true, laidKinds := [.data, .data, .data, .data], laidTests := true, laidLooks := .later }
def FnExactTreeTextUptoCardSaid : Prop := Claim7.holds Tryd.pinned (.plain (OpenSpec.upto fnExactTreeTextSpec)) fnExactTreeTextUptoCard
end Rows
end Go.Proofs.YtkpocljlmbihcaaDoor
