/-
  DERIVED. GIVEN WITH THE SEED: THE CARDS: each row of YthgbhnedfdnfpaaGreatDoorRows.lean that lists a variable, with what it lists TIED to the program's text (the seventh form; the later family's looks); each row that meets fmt, with fmt's text TOLD by the authors' own Lean function (tested against real Go, not proved from fmt's source: count such statements apart). THE CARD IS WHAT COUNTS. Prove the row's statement (the work); the ties are given (YthgbhnedfdnfpaaGreatDoorTie.lean); close each card by the builder's one call (the guide's Derived/Test/ToyasCard.lean, 'card_holds'). Laid BY PROGRAM, IN A SANDBOX (cutbox-door.mjs). By AI agents, Wed Nov 11 2026. No macro, syntax, notation, axiom, sorry.
-/
import Derived.Test.YthgbhnedfdnfpaaGreatDoorRows
import GoSem.ClaimSeven
namespace Go.Proofs.YthgbhnedfdnfpaaGreatDoor
namespace Rows

/-- THE TIED CARD OF 'laws.FnPlacesOfLines'. -/
def fnPlacesOfLinesCard : Claim7 := { stood := { row := fnPlacesOfLinesRow, standIns := [], harness := (true, "7ce84693a13de64cb94132ff566bdae8b59d0ebab9a882b3acbc2fa98465b899"), looks := false }, kinds := [], alts := [], laidByText := true, laidKinds := [.data, .data, .data, .data, .data, .data, .data], laidTests := true, laidLooks := .later }
def FnPlacesOfLinesCardSaid : Prop := Claim7.holds Tryz.pinned (.plain (OpenSpec.ofChange fnPlacesOfLinesSpec)) fnPlacesOfLinesCard

/-- THE SECOND FORM's CARD OF 'laws.FnPlacesOfLines'. -/
def fnPlacesOfLinesUptoCard : Claim7 := { stood := { row := fnPlacesOfLinesUptoRow, standIns := [], harness := (true, "7ce84693a13de64cb94132ff566bdae8b59d0ebab9a882b3acbc2fa98465b899"), looks := false }, kinds := [], alts := [], laidByText := true, laidKinds := [.data, .data, .data, .data, .data, .data, .data], laidTests := true, laidLooks := .later }
def FnPlacesOfLinesUptoCardSaid : Prop := Claim7.holds Tryz.pinned (.plain (OpenSpec.upto fnPlacesOfLinesSpec)) fnPlacesOfLinesUptoCard
end Rows
end Go.Proofs.YthgbhnedfdnfpaaGreatDoor
