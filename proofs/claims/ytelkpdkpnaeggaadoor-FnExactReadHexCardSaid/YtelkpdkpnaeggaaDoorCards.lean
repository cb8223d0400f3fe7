/-
  DERIVED. GIVEN WITH THE SEED: THE CARDS: each row of YtelkpdkpnaeggaaDoorRows.lean that lists a variable, with what it lists TIED to the program's text (the seventh form; the later family's looks); each row that meets fmt, with fmt's text TOLD by the authors' own Lean function (tested against real Go, not proved from fmt's source: count such statements apart). THE CARD IS WHAT COUNTS. Prove the row's statement (the work); the ties are given (YtelkpdkpnaeggaaDoorTie.lean); close each card by the builder's one call (the guide's Derived/Test/ToyasCard.lean, 'card_holds'). Laid BY PROGRAM, IN A SANDBOX (cutbox-door.mjs). By AI agents, Wed Nov 11 2026. No macro, syntax, notation, axiom, sorry.
-/
import Derived.Test.YtelkpdkpnaeggaaDoorRows
import GoSem.ClaimSeven
namespace Go.Proofs.YtelkpdkpnaeggaaDoor
namespace Rows

/-- THE TIED CARD OF 'laws.FnWritten'. -/
def fnWrittenCard : Claim7 := { stood := { row := fnWrittenRow, standIns := [], harness := (true, "4a10a64c2a9385fd093d90d027771758f204e93575b7ffc65367d04c0f4515e5"), looks := false }, kinds := [], alts := [], laidByText := true, laidKinds := [.data], laidTests := true, laidLooks := .later }
def FnWrittenCardSaid : Prop := Claim7.holds Tryd.pinned (.plain (OpenSpec.ofChange fnWrittenSpec)) fnWrittenCard

/-- THE TIED CARD OF 'laws.FnExactNumberText'. -/
def fnExactNumberTextCard : Claim7 := { stood := { row := fnExactNumberTextRow, standIns := [], harness := (true, "4a10a64c2a9385fd093d90d027771758f204e93575b7ffc65367d04c0f4515e5"), looks := false }, kinds := [], alts := [], laidByText := true, laidKinds := [.data, .data, .data, .data], laidTests := true, laidLooks := .later }
def FnExactNumberTextCardSaid : Prop := Claim7.holds Tryd.pinned (.plain (OpenSpec.ofChange fnExactNumberTextSpec)) fnExactNumberTextCard

/-- THE TIED CARD OF 'laws.FnExactReadNumber'. -/
def fnExactReadNumberCard : Claim7 := { stood := { row := fnExactReadNumberRow, standIns := [], harness := (true, "4a10a64c2a9385fd093d90d027771758f204e93575b7ffc65367d04c0f4515e5"), looks := false }, kinds := [], alts := [], laidByText := true, laidKinds := [.data, .data], laidTests := true, laidLooks := .later }
def FnExactReadNumberCardSaid : Prop := Claim7.holds Tryd.pinned (.plain (OpenSpec.ofChange fnExactReadNumberSpec)) fnExactReadNumberCard

/-- THE TIED CARD OF 'laws.FnExactIsCanonical'. -/
def fnExactIsCanonicalCard : Claim7 := { stood := { row := fnExactIsCanonicalRow, standIns := [], harness := (true, "4a10a64c2a9385fd093d90d027771758f204e93575b7ffc65367d04c0f4515e5"), looks := false }, kinds := [], alts := [], laidByText := true, laidKinds := [.data, .data, .data, .data, .data], laidTests := true, laidLooks := .later }
def FnExactIsCanonicalCardSaid : Prop := Claim7.holds Tryd.pinned (.plain (OpenSpec.ofChange fnExactIsCanonicalSpec)) fnExactIsCanonicalCard

/-- THE TIED CARD OF 'laws.FnExactFormsOf'. -/
def fnExactFormsOfCard : Claim7 := { stood := { row := fnExactFormsOfRow, standIns := [], harness := (true, "4a10a64c2a9385fd093d90d027771758f204e93575b7ffc65367d04c0f4515e5"), looks := false }, kinds := [], alts := [], laidByText := true, laidKinds := [.data, .data, .data, .data], laidTests := true, laidLooks := .later }
def FnExactFormsOfCardSaid : Prop := Claim7.holds Tryd.pinned (.plain (OpenSpec.ofChange fnExactFormsOfSpec)) fnExactFormsOfCard

/-- THE TIED CARD OF 'laws.FnExactHexText'. -/
def fnExactHexTextCard : Claim7 := { stood := { row := fnExactHexTextRow, standIns := [], harness := (true, "4a10a64c2a9385fd093d90d027771758f204e93575b7ffc65367d04c0f4515e5"), looks := false }, kinds := [], alts := [], laidByText := true, laidKinds := [.data], laidTests := true, laidLooks := .later }
def FnExactHexTextCardSaid : Prop := Claim7.holds Tryd.pinned (.plain (OpenSpec.ofChange fnExactHexTextSpec)) fnExactHexTextCard

/-- THE TIED CARD OF 'laws.FnExactReadHex'. -/
def fnExactReadHexCard : Claim7 := { stood := { row := fnExactReadHexRow, standIns := [], harness := (true, "4a10a64c2a9385fd093d90d027771758f204e93575b7ffc65367d04c0f4515e5"), looks := false }, kinds := [], alts := [], laidByText := true, laidKinds := [.data], laidTests := true, laidLooks := .later }
def FnExactReadHexCardSaid : Prop := Claim7.holds Tryd.pinned (.plain (OpenSpec.ofChange fnExactReadHexSpec)) fnExactReadHexCard

/-- THE TIED CARD OF 'laws.FnExactReadAny'. -/
def fnExactReadAnyCard : Claim7 := { stood := { row := fnExactReadAnyRow, standIns := [], harness := (true, "4a10a64c2a9385fd093d90d027771758f204e93575b7ffc65367d04c0f4515e5"), looks := false }, kinds := [], alts := [], laidByText := true, laidKinds := [.data, .data], laidTests := true, laidLooks := .later }
def FnExactReadAnyCardSaid : Prop := Claim7.holds Tryd.pinned (.plain (OpenSpec.ofChange fnExactReadAnySpec)) fnExactReadAnyCard

/-- THE TIED CARD OF 'laws.FnExactCompareTexts'. -/
def fnExactCompareTextsCard : Claim7 := { stood := { row := fnExactCompareTextsRow, standIns := [], harness := (true, "4a10a64c2a9385fd093d90d027771758f204e93575b7ffc65367d04c0f4515e5"), looks := false }, kinds := [], alts := [], laidByText := true, laidKinds := [.data, .data], laidTests := true, laidLooks := .later }
def FnExactCompareTextsCardSaid : Prop := Claim7.holds Tryd.pinned (.plain (OpenSpec.ofChange fnExactCompareTextsSpec)) fnExactCompareTextsCard

/-- THE SECOND FORM's CARD OF 'laws.FnWritten'. -/
def fnWrittenUptoCard : Claim7 := { stood := { row := fnWrittenUptoRow, standIns := [], harness := (true, "4a10a64c2a9385fd093d90d027771758f204e93575b7ffc65367d04c0f4515e5"), looks := false }, kinds := [], alts := [], laidByText := true, laidKinds := [.data], laidTests := true, laidLooks := .later }
def FnWrittenUptoCardSaid : Prop := Claim7.holds Tryd.pinned (.plain (OpenSpec.upto fnWrittenSpec)) fnWrittenUptoCard

/-- THE SECOND FORM's CARD OF 'laws.FnExactNumberText'. -/
def fnExactNumberTextUptoCard : Claim7 := { stood := { row := fnExactNumberTextUptoRow, standIns := [], harness := (true, "4a10a64c2a9385fd093d90d027771758f204e93575b7ffc65367d04c0f4515e5"), looks := false }, kinds := [], alts := [], laidByText := true, laidKinds := [.data, .data, .data, .data], laidTests := true, laidLooks := .later }
def FnExactNumberTextUptoCardSaid : Prop := Claim7.holds Tryd.pinned (.plain (OpenSpec.upto fnExactNumberTextSpec)) fnExactNumberTextUptoCard

/-- THE SECOND FORM's CARD OF 'laws.FnExactReadNumber'. -/
def fnExactReadNumberUptoCard : Claim7 := { stood := { row := fnExactReadNumberUptoRow, standIns := [], harness := (true, "4a10a64c2a9385fd093d90d027771758f204e93575b7ffc65367d04c0f4515e5"), looks := false }, kinds := [], alts := [], laidByText := true, laidKinds := [.data, .data], laidTests := true, laidLooks := .later }
def FnExactReadNumberUptoCardSaid : Prop := Claim7.holds Tryd.pinned (.plain (OpenSpec.upto fnExactReadNumberSpec)) fnExactReadNumberUptoCard

/-- THE SECOND FORM's CARD OF 'laws.FnExactIsCanonical'. -/
def fnExactIsCanonicalUptoCard : Claim7 := { stood := { row := fnExactIsCanonicalUptoRow, standIns := [], harness := (true, "4a10a64c2a9385fd093d90d027771758f204e93575b7ffc65367d04c0f4515e5"), looks := false }, kinds := [], alts := [], laidByText := true, laidKinds := [.data, .data, .data, .data, .data], laidTests := true, laidLooks := .later }
def FnExactIsCanonicalUptoCardSaid : Prop := Claim7.holds Tryd.pinned (.plain (OpenSpec.upto fnExactIsCanonicalSpec)) fnExactIsCanonicalUptoCard

/-- THE SECOND FORM's CARD OF 'laws.FnExactFormsOf'. -/
def fnExactFormsOfUptoCard : Claim7 := { stood := { row := fnExactFormsOfUptoRow, standIns := [], harness := (true, "4a10a64c2a9385fd093d90d027771758f204e93575b7ffc65367d04c0f4515e5"), looks := false }, kinds := [], alts := [], laidByText := true, laidKinds := [.data, .data, .data, .data], laidTests := true, laidLooks := .later }
def FnExactFormsOfUptoCardSaid : Prop := Claim7.holds Tryd.pinned (.plain (OpenSpec.upto fnExactFormsOfSpec)) fnExactFormsOfUptoCard

/-- THE SECOND FORM's CARD OF 'laws.FnExactHexText'. -/
def fnExactHexTextUptoCard : Claim7 := { stood := { row := fnExactHexTextUptoRow, standIns := [], harness := (true, "4a10a64c2a9385fd093d90d027771758f204e93575b7ffc65367d04c0f4515e5"), looks := false }, kinds := [], alts := [], laidByText := true, laidKinds := [.data], laidTests := true, laidLooks := .later }
def FnExactHexTextUptoCardSaid : Prop := Claim7.holds Tryd.pinned (.plain (OpenSpec.upto fnExactHexTextSpec)) fnExactHexTextUptoCard

/-- THE SECOND FORM's CARD OF 'laws.FnExactReadHex'. -/
def fnExactReadHexUptoCard : Claim7 := { stood := { row := fnExactReadHexUptoRow, standIns := [], harness := (true, "4a10a64c2a9385fd093d90d027771758f204e93575b7ffc65367d04c0f4515e5"), looks := false }, kinds := [], alts := [], laidByText := true, laidKinds := [.data], laidTests := true, laidLooks := .later }
def FnExactReadHexUptoCardSaid : Prop := Claim7.holds Tryd.pinned (.plain (OpenSpec.upto fnExactReadHexSpec)) fnExactReadHexUptoCard

/-- THE SECOND FORM's CARD OF 'laws.FnExactReadAny'. -/
def fnExactReadAnyUptoCard : Claim7 := { stood := { row := fnExactReadAnyUptoRow, standIns := [], harness := (true, "4a10a64c2a9385fd093d90d027771758f204e93575b7ffc65367d04c0f4515e5"), looks := false }, kinds := [], alts := [], laidByText := true, laidKinds := [.data, .data], laidTests := true, laidLooks := .later }
def FnExactReadAnyUptoCardSaid : Prop := Claim7.holds Tryd.pinned (.plain (OpenSpec.upto fnExactReadAnySpec)) fnExactReadAnyUptoCard

/-- THE SECOND FORM's CARD OF 'laws.FnExactCompareTexts'. -/
def fnExactCompareTextsUptoCard : Claim7 := { stood := { row := fnExactCompareTextsUptoRow, standIns := [], harness := (true, "4a10a64c2a9385fd093d90d027771758f204e93575b7ffc65367d04c0f4515e5"), looks := false }, kinds := [], alts := [], laidByText := true, laidKinds := [.data, .data], laidTests := true, laidLooks := .later }
def FnExactCompareTextsUptoCardSaid : Prop := Claim7.holds Tryd.pinned (.plain (OpenSpec.upto fnExactCompareTextsSpec)) fnExactCompareTextsUptoCard
end Rows
end Go.Proofs.YtelkpdkpnaeggaaDoor
