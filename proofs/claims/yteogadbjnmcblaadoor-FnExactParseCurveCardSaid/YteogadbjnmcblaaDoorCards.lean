/-
  DERIVED. GIVEN WITH THE SEED: THE CARDS: each row of YteogadbjnmcblaaDoorRows.lean that lists a variable, with what it lists TIED to the program's text (the seventh form; the later family's looks); each row that meets fmt, with fmt's text TOLD by the authors' own Lean function (tested against real Go, not proved from fmt's source: count such statements apart). THE CARD IS WHAT COUNTS. Prove the row's statement (the work); the ties are given (YteogadbjnmcblaaDoorTie.lean); close each card by the builder's one call (the guide's Derived/Test/ToyasCard.lean, 'card_holds'). Laid BY PROGRAM, IN A SANDBOX (cutbox-door.mjs). By AI agents, Wed Nov 11 2026. No macro, syntax, notation, axiom, sorry.
-/
import Derived.Test.YteogadbjnmcblaaDoorRows
import GoSem.ClaimSeven
namespace Go.Proofs.YteogadbjnmcblaaDoor
namespace Rows

/-- THE TIED CARD OF 'laws.FnExactCurveText'. -/
def fnExactCurveTextCard : Claim7 := { stood := { row := fnExactCurveTextRow, standIns := [], harness := (true, "7f6ebab21aeae5d0d672f84b95681f0f8d192c9e33cdb288fb686d6d22b30a94"), looks := false }, kinds := [], alts := [], laidByText := true, laidKinds := [.data, .data, .data, .data], laidTests := true, laidLooks := .later }
def FnExactCurveTextCardSaid : Prop := Claim7.holds Tryd.pinned (.plain (OpenSpec.ofChange fnExactCurveTextSpec)) fnExactCurveTextCard

/-- THE TIED CARD OF 'laws.FnExactParseCurve'. -/
def fnExactParseCurveCard : Claim7 := { stood := { row := fnExactParseCurveRow, standIns := [], harness := (true, "7f6ebab21aeae5d0d672f84b95681f0f8d192c9e33cdb288fb686d6d22b30a94"), looks := false }, kinds := [], alts := [], laidByText := true, laidKinds := [.data, .data, .data, .data, .data, .data, .pinned], laidTests := true, laidLooks := .later }
def FnExactParseCurveCardSaid : Prop := Claim7.holds Tryd.pinned (.plain (OpenSpec.ofChange fnExactParseCurveSpec)) fnExactParseCurveCard

/-- THE SECOND FORM's CARD OF 'laws.FnExactCurveText'. -/
def fnExactCurveTextUptoCard : Claim7 := { stood := { row := fnExactCurveTextUptoRow, standIns := [], harness := (true, "7f6ebab21aeae5d0d672f84b95681f0f8d192c9e33cdb288fb686d6d22b30a94"), looks := false }, kinds := [], alts := [], laidByText := true, laidKinds := [.data, .data, .data, .data], laidTests := true, laidLooks := .later }
def FnExactCurveTextUptoCardSaid : Prop := Claim7.holds Tryd.pinned (.plain (OpenSpec.upto fnExactCurveTextSpec)) fnExactCurveTextUptoCard

/-- THE SECOND FORM's CARD OF 'laws.FnExactParseCurve'. -/
def fnExactParseCurveUptoCard : Claim7 := { stood := { row := fnExactParseCurveUptoRow, standIns := [], harness := (true, "7f6ebab21aeae5d0d672f84b95681f0f8d192c9e33cdb288fb686d6d22b30a94"), looks := false }, kinds := [], alts := [], laidByText := true, laidKinds := [.data, .data, .data, .data, .data, .data, .pinned], laidTests := true, laidLooks := .later }
def FnExactParseCurveUptoCardSaid : Prop := Claim7.holds Tryd.pinned (.plain (OpenSpec.upto fnExactParseCurveSpec)) fnExactParseCurveUptoCard
end Rows
end Go.Proofs.YteogadbjnmcblaaDoor
