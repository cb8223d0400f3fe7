/-
  DERIVED. GIVEN WITH THE SEED: THE CARDS: each row of YthpejbdbbofaaaaDoorRows.lean that lists a variable, with what it lists TIED to the program's text (the seventh form; the later family's looks); each row that meets fmt, with fmt's text TOLD by the authors' own Lean function (tested against real Go, not proved from fmt's source: count such statements apart). THE CARD IS WHAT COUNTS. Prove the row's statement (the work); the ties are given (YthpejbdbbofaaaaDoorTie.lean); close each card by the builder's one call (the guide's Derived/Test/ToyasCard.lean, 'card_holds'). Laid BY PROGRAM, IN A SANDBOX (cutbox-door.mjs). By AI agents, Wed Nov 11 2026. No macro, syntax, notation, axiom, sorry.
-/
import Derived.Test.YthpejbdbbofaaaaDoorRows
import GoSem.ClaimSeven
namespace Go.Proofs.YthpejbdbbofaaaaDoor
namespace Rows

/-- THE TIED CARD OF 'laws.FnTokens'. -/
def fnTokensCard : Claim7 := { stood := { row := fnTokensRow, standIns := [], harness := (true, "01545e84e6393d36408892a28dd64a4bf481f3a7503f6fe464672fca0caea2c5"), looks := true }, kinds := [], alts := [], laidByText := true, laidKinds := [.data, .data, .data, .data], laidTests := true, laidLooks := .later }
def FnTokensCardSaid : Prop := Claim7.holds Tryd.pinned (.plain (OpenSpec.ofChange fnTokensSpec)) fnTokensCard

/-- THE TIED CARD OF 'laws.FnTrees'. -/
def fnTreesCard : Claim7 := { stood := { row := fnTreesRow, standIns := [], harness := (true, "01545e84e6393d36408892a28dd64a4bf481f3a7503f6fe464672fca0caea2c5"), looks := true }, kinds := [], alts := [], laidByText := true, laidKinds := [.data], laidTests := true, laidLooks := .later }
def FnTreesCardSaid : Prop := Claim7.holds Tryd.pinned (.plain (OpenSpec.ofChange fnTreesSpec)) fnTreesCard

/-- THE TIED CARD OF 'laws.FnExactAddClass'. -/
def fnExactAddClassCard : Claim7 := { stood := { row := fnExactAddClassRow, standIns := [], harness := (true, "01545e84e6393d36408892a28dd64a4bf481f3a7503f6fe464672fca0caea2c5"), looks := true }, kinds := [], alts := [], laidByText := true, laidKinds := [.data], laidTests := true, laidLooks := .later }
def FnExactAddClassCardSaid : Prop := Claim7.holds Tryd.pinned (.plain (OpenSpec.ofChange fnExactAddClassSpec)) fnExactAddClassCard

/-- THE TIED CARD OF 'laws.FnExactParseFilter'. -/
def fnExactParseFilterCard : Claim7 := { stood := { row := fnExactParseFilterRow, standIns := [], harness := (true, "01545e84e6393d36408892a28dd64a4bf481f3a7503f6fe464672fca0caea2c5"), looks := true }, kinds := [], alts := [], laidByText := true, laidKinds := [.data, .data, .data, .data, .data], laidTests := true, laidLooks := .later }
def FnExactParseFilterCardSaid : Prop := Claim7.holds Tryd.pinned (.plain (OpenSpec.ofChange fnExactParseFilterSpec)) fnExactParseFilterCard

/-- THE TIED CARD OF 'laws.FnExactParseLeaf'. -/
def fnExactParseLeafCard : Claim7 := { stood := { row := fnExactParseLeafRow, standIns := [], harness := (true, "01545e84e6393d36408892a28dd64a4bf481f3a7503f6fe464672fca0caea2c5"), looks := true }, kinds := [], alts := [], laidByText := true, laidKinds := [.data, .data, .data, .data], laidTests := true, laidLooks := .later }
def FnExactParseLeafCardSaid : Prop := Claim7.holds Tryd.pinned (.plain (OpenSpec.ofChange fnExactParseLeafSpec)) fnExactParseLeafCard

/-- THE SECOND FORM's CARD OF 'laws.FnTokens'. -/
def fnTokensUptoCard : Claim7 := { stood := { row := fnTokensUptoRow, standIns := [], harness := (true, "01545e84e6393d36408892a28dd64a4bf481f3a7503f6fe464672fca0caea2c5"), looks := true }, kinds := [], alts := [], laidByText := true, laidKinds := [.data, .data, .data, .data], laidTests := true, laidLooks := .later }
def FnTokensUptoCardSaid : Prop := Claim7.holds Tryd.pinned (.plain (OpenSpec.upto fnTokensSpec)) fnTokensUptoCard

/-- THE SECOND FORM's CARD OF 'laws.FnTrees'. -/
def fnTreesUptoCard : Claim7 := { stood := { row := fnTreesUptoRow, standIns := [], harness := (true, "01545e84e6393d36408892a28dd64a4bf481f3a7503f6fe464672fca0caea2c5"), looks := true }, kinds := [], alts := [], laidByText := true, laidKinds := [.data], laidTests := true, laidLooks := .later }
def FnTreesUptoCardSaid : Prop := Claim7.holds Tryd.pinned (.plain (OpenSpec.upto fnTreesSpec)) fnTreesUptoCard

/-- THE SECOND FORM's CARD OF 'laws.FnExactAddClass'. -/
def fnExactAddClassUptoCard : Claim7 := { stood := { row := fnExactAddClassUptoRow, standIns := [], harness := (true, "01545e84e6393d36408892a28dd64a4bf481f3a7503f6fe464672fca0caea2c5"), looks := true }, kinds := [], alts := [], laidByText := true, laidKinds := [.data], laidTests := true, laidLooks := .later }
def FnExactAddClassUptoCardSaid : Prop := Claim7.holds Tryd.pinned (.plain (OpenSpec.upto fnExactAddClassSpec)) fnExactAddClassUptoCard

/-- THE SECOND FORM's CARD OF 'laws.FnExactParseFilter'. -/
def fnExactParseFilterUptoCard : Claim7 := { stood := { row := fnExactParseFilterUptoRow, standIns := [], harness := (true, "01545e84e6393d36408892a28dd64a4bf481f3a7503f6fe464672fca0caea2c5"), looks := true }, kinds := [], alts := [], laidByText := true, laidKinds := [.data, .data, .data, .data, .data], laidTests := true, laidLooks := .later }
def FnExactParseFilterUptoCardSaid : Prop := Claim7.holds Tryd.pinned (.plain (OpenSpec.upto fnExactParseFilterSpec)) fnExactParseFilterUptoCard

/-- THE SECOND FORM's CARD OF 'laws.FnExactParseLeaf'. -/
def fnExactParseLeafUptoCard : Claim7 := { stood := { row := fnExactParseLeafUptoRow, standIns := [], harness := (true, "01545e84e6393d36408892a28dd64a4bf481f3a7503f6fe464672fca0caea2c5"), looks := true }, kinds := [], alts := [], laidByText := true, laidKinds := [.data, .data, .data, .data], laidTests := true, laidLooks := .later }
def FnExactParseLeafUptoCardSaid : Prop := Claim7.holds Tryd.pinned (.plain (OpenSpec.upto fnExactParseLeafSpec)) fnExactParseLeafUptoCard
end Rows
end Go.Proofs.YthpejbdbbofaaaaDoor
