/-
  DERIVED. GIVEN WITH THE SEED: THE CARDS: each row of YtdpkamhjpbalhaaDoorRows.lean that lists a variable, with what it lists TIED to the program's text (the seventh form; the later family's looks); each row that meets fmt, with fmt's text TOLD by the authors' own Lean function (tested against real Go, not proved from fmt's source: count such statements apart). THE CARD IS WHAT COUNTS. Prove the row's statement (the work); the ties are given (YtdpkamhjpbalhaaDoorTie.lean); close each card by the builder's one call (the guide's Derived/Test/ToyasCard.lean, 'card_holds'). Laid BY PROGRAM, IN A SANDBOX (cutbox-door.mjs). By AI agents, Wed Nov 11 2026. No macro, syntax, notation, axiom, sorry.
-/
import Derived.Test.YtdpkamhjpbalhaaDoorRows
import GoSem.ClaimSeven
namespace Go.Proofs.YtdpkamhjpbalhaaDoor
namespace Rows

/-- THE TIED CARD OF 'laws.FnWritten'. -/
def fnWrittenCard : Claim7 := { stood := { row := fnWrittenRow, standIns := [], harness := (true, "7dd77e24252d126d5b0a358b6e9597554899e4023e68e46d208da4e62c5937e0"), looks := false }, kinds := [], alts := [], laidByText := true, laidKinds := [.data], laidTests := true, laidLooks := .later }
def FnWrittenCardSaid : Prop := Claim7.holds Tryd.pinned (.plain (OpenSpec.ofChange fnWrittenSpec)) fnWrittenCard

/-- THE TIED CARD OF 'laws.FnExactDecimalAt'. -/
def fnExactDecimalAtCard : Claim7 := { stood := { row := fnExactDecimalAtRow, standIns := [], harness := (true, "7dd77e24252d126d5b0a358b6e9597554899e4023e68e46d208da4e62c5937e0"), looks := false }, kinds := [], alts := [], laidByText := true, laidKinds := [.data], laidTests := true, laidLooks := .later }
def FnExactDecimalAtCardSaid : Prop := Claim7.holds Tryd.pinned (.plain (OpenSpec.ofChange fnExactDecimalAtSpec)) fnExactDecimalAtCard

/-- THE TIED CARD OF 'laws.FnExactHexAt'. -/
def fnExactHexAtCard : Claim7 := { stood := { row := fnExactHexAtRow, standIns := [], harness := (true, "7dd77e24252d126d5b0a358b6e9597554899e4023e68e46d208da4e62c5937e0"), looks := false }, kinds := [], alts := [], laidByText := true, laidKinds := [.data], laidTests := true, laidLooks := .later }
def FnExactHexAtCardSaid : Prop := Claim7.holds Tryd.pinned (.plain (OpenSpec.ofChange fnExactHexAtSpec)) fnExactHexAtCard

/-- THE TIED CARD OF 'laws.FnExactHexOf'. -/
def fnExactHexOfCard : Claim7 := { stood := { row := fnExactHexOfRow, standIns := [], harness := (true, "7dd77e24252d126d5b0a358b6e9597554899e4023e68e46d208da4e62c5937e0"), looks := false }, kinds := [], alts := [], laidByText := true, laidKinds := [.data], laidTests := true, laidLooks := .later }
def FnExactHexOfCardSaid : Prop := Claim7.holds Tryd.pinned (.plain (OpenSpec.ofChange fnExactHexOfSpec)) fnExactHexOfCard

/-- THE TIED CARD OF 'laws.FnExactBytesText'. -/
def fnExactBytesTextCard : Claim7 := { stood := { row := fnExactBytesTextRow, standIns := [], harness := (true, "7dd77e24252d126d5b0a358b6e9597554899e4023e68e46d208da4e62c5937e0"), looks := false }, kinds := [], alts := [], laidByText := true, laidKinds := [.data], laidTests := true, laidLooks := .later }
def FnExactBytesTextCardSaid : Prop := Claim7.holds Tryd.pinned (.plain (OpenSpec.ofChange fnExactBytesTextSpec)) fnExactBytesTextCard

/-- THE TIED CARD OF 'laws.FnExactParseBytes'. -/
def fnExactParseBytesCard : Claim7 := { stood := { row := fnExactParseBytesRow, standIns := [], harness := (true, "7dd77e24252d126d5b0a358b6e9597554899e4023e68e46d208da4e62c5937e0"), looks := false }, kinds := [], alts := [], laidByText := true, laidKinds := [.data], laidTests := true, laidLooks := .later }
def FnExactParseBytesCardSaid : Prop := Claim7.holds Tryd.pinned (.plain (OpenSpec.ofChange fnExactParseBytesSpec)) fnExactParseBytesCard

/-- THE SECOND FORM's CARD OF 'laws.FnWritten'. -/
def fnWrittenUptoCard : Claim7 := { stood := { row := fnWrittenUptoRow, standIns := [], harness := (true, "7dd77e24252d126d5b0a358b6e9597554899e4023e68e46d208da4e62c5937e0"), looks := false }, kinds := [], alts := [], laidByText := true, laidKinds := [.data], laidTests := true, laidLooks := .later }
def FnWrittenUptoCardSaid : Prop := Claim7.holds Tryd.pinned (.plain (OpenSpec.upto fnWrittenSpec)) fnWrittenUptoCard

/-- THE SECOND FORM's CARD OF 'laws.FnExactDecimalAt'. -/
def fnExactDecimalAtUptoCard : Claim7 := { stood := { row := fnExactDecimalAtUptoRow, standIns := [], harness := (true, "7dd77e24252d126d5b0a358b6e9597554899e4023e68e46d208da4e62c5937e0"), looks := false }, kinds := [], alts := [], laidByText := true, laidKinds := [.data], laidTests := true, laidLooks := .later }
def FnExactDecimalAtUptoCardSaid : Prop := Claim7.holds Tryd.pinned (.plain (OpenSpec.upto fnExactDecimalAtSpec)) fnExactDecimalAtUptoCard

/-- THE SECOND FORM's CARD OF 'laws.FnExactHexAt'. -/
def fnExactHexAtUptoCard : Claim7 := { stood := { row := fnExactHexAtUptoRow, standIns := [], harness := (true, "7dd77e24252d126d5b0a358b6e9597554899e4023e68e46d208da4e62c5937e0"), looks := false }, kinds := [], alts := [], laidByText := true, laidKinds := [.data], laidTests := true, laidLooks := .later }
def FnExactHexAtUptoCardSaid : Prop := Claim7.holds Tryd.pinned (.plain (OpenSpec.upto fnExactHexAtSpec)) fnExactHexAtUptoCard

/-- THE SECOND FORM's CARD OF 'laws.FnExactHexOf'. -/
def fnExactHexOfUptoCard : Claim7 := { stood := { row := fnExactHexOfUptoRow, standIns := [], harness := (true, "7dd77e24252d126d5b0a358b6e9597554899e4023e68e46d208da4e62c5937e0"), looks := false }, kinds := [], alts := [], laidByText := true, laidKinds := [.data], laidTests := true, laidLooks := .later }
def FnExactHexOfUptoCardSaid : Prop := Claim7.holds Tryd.pinned (.plain (OpenSpec.upto fnExactHexOfSpec)) fnExactHexOfUptoCard

/-- THE SECOND FORM's CARD OF 'laws.FnExactBytesText'. -/
def fnExactBytesTextUptoCard : Claim7 := { stood := { row := fnExactBytesTextUptoRow, standIns := [], harness := (true, "7dd77e24252d126d5b0a358b6e9597554899e4023e68e46d208da4e62c5937e0"), looks := false }, kinds := [], alts := [], laidByText := true, laidKinds := [.data], laidTests := true, laidLooks := .later }
def FnExactBytesTextUptoCardSaid : Prop := Claim7.holds Tryd.pinned (.plain (OpenSpec.upto fnExactBytesTextSpec)) fnExactBytesTextUptoCard

/-- THE SECOND FORM's CARD OF 'laws.FnExactParseBytes'. -/
def fnExactParseBytesUptoCard : Claim7 := { stood := { row := fnExactParseBytesUptoRow, standIns := [], harness := (true, "7dd77e24252d126d5b0a358b6e9597554899e4023e68e46d208da4e62c5937e0"), looks := false }, kinds := [], alts := [], laidByText := true, laidKinds := [.data], laidTests := true, laidLooks := .later }
def FnExactParseBytesUptoCardSaid : Prop := Claim7.holds Tryd.pinned (.plain (OpenSpec.upto fnExactParseBytesSpec)) fnExactParseBytesUptoCard
end Rows
end Go.Proofs.YtdpkamhjpbalhaaDoor
