/-
  DERIVED. GIVEN WITH THE SEED: THE CARDS: each row of YteogadbjnmcblabDoorRows.lean that lists a variable, with what it lists TIED to the program's text (the seventh form; the later family's looks); each row that meets fmt, with fmt's text TOLD by the authors' own Lean function (tested against real Go, not proved from fmt's source: count such statements apart). THE CARD IS WHAT COUNTS. Prove the row's statement (the work); the ties are given (YteogadbjnmcblabDoorTie.lean); close each card by the builder's one call (the guide's Derived/Test/ToyasCard.lean, 'card_holds'). Laid BY PROGRAM, IN A SANDBOX (cutbox-door.mjs). By AI agents, Wed Nov 11 2026. No macro, syntax, notation, axiom, sorry.
-/
import Derived.Test.YteogadbjnmcblabDoorRows
import GoSem.ClaimSeven
namespace Go.Proofs.YteogadbjnmcblabDoor
namespace Rows

/-- THE TIED CARD OF 'laws.FnExactAddClass'. -/
def fnExactAddClassCard : Claim7 := { stood := { row := fnExactAddClassRow, standIns := [], harness := (true, "fc5c371b25b1374900a825b0b9e1989ba2fc7b0abe8ba998d0cdee5088faa002"), looks := false }, kinds := [], alts := [], laidByText := true, laidKinds := [.data], laidTests := true, laidLooks := .later }
def FnExactAddClassCardSaid : Prop := Claim7.holds Tryd.pinned (.plain (OpenSpec.ofChange fnExactAddClassSpec)) fnExactAddClassCard

/-- THE TIED CARD OF 'laws.FnExactDropClass'. -/
def fnExactDropClassCard : Claim7 := { stood := { row := fnExactDropClassRow, standIns := [], harness := (true, "fc5c371b25b1374900a825b0b9e1989ba2fc7b0abe8ba998d0cdee5088faa002"), looks := false }, kinds := [], alts := [], laidByText := true, laidKinds := [.data], laidTests := true, laidLooks := .later }
def FnExactDropClassCardSaid : Prop := Claim7.holds Tryd.pinned (.plain (OpenSpec.ofChange fnExactDropClassSpec)) fnExactDropClassCard

/-- THE SECOND FORM's CARD OF 'laws.FnExactAddClass'. -/
def fnExactAddClassUptoCard : Claim7 := { stood := { row := fnExactAddClassUptoRow, standIns := [], harness := (true, "fc5c371b25b1374900a825b0b9e1989ba2fc7b0abe8ba998d0cdee5088faa002"), looks := false }, kinds := [], alts := [], laidByText := true, laidKinds := [.data], laidTests := true, laidLooks := .later }
def FnExactAddClassUptoCardSaid : Prop := Claim7.holds Tryd.pinned (.plain (OpenSpec.upto fnExactAddClassSpec)) fnExactAddClassUptoCard

/-- THE SECOND FORM's CARD OF 'laws.FnExactDropClass'. -/
def fnExactDropClassUptoCard : Claim7 := { stood := { row := fnExactDropClassUptoRow, standIns := [], harness := (true, "fc5c371b25b1374900a825b0b9e1989ba2fc7b0abe8ba998d0cdee5088faa002"), looks := false }, kinds := [], alts := [], laidByText := true, laidKinds := [.data], laidTests := true, laidLooks := .later }
def FnExactDropClassUptoCardSaid : Prop := Claim7.holds Tryd.pinned (.plain (OpenSpec.upto fnExactDropClassSpec)) fnExactDropClassUptoCard
end Rows
end Go.Proofs.YteogadbjnmcblabDoor
