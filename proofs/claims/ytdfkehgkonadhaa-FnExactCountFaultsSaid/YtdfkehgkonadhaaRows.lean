/-
  No cell of these rows narrows 'for every input' (looked for: loops, veiled, ifaces, maps, wideKeys, modest, calm, conditions, laid).
  DERIVED. THE GIVEN ROWS OF THIS SEAT. 4 by the template 'for every input the law returns true; each argument reads behind the call as it read before'; 0 by the template 'total and deterministic' (their statements: YtdfkehgkonadhaaTotals.lean).
  GIVEN WITH THE SEED: the statements are not yours to turn. If you find one false, say at which input.
  Laid BY PROGRAM, IN A SANDBOX (cutbox-rows.mjs): the forced cells as the released guide's own fill.sh prints them over the translation eb84bb444baa8f79… (all of the seat's roots in one cut). By AI agents, Wed Nov 11 2026. No macro, syntax, notation, axiom, sorry.
-/
import Derived.Test.YtdfkehgkonadhaaChecked
import GoSem.Claim
import GoSem.ClaimJoined
import GoSem.ClaimMapViews
import Derived.JoinedTies
import Derived.KernelRfl
namespace Go.Proofs.Ytdfkehgkonadhaa
/- THE CELL 'sum', in the pinned program and in every row, IS THE sha256 OF THE DUMP (.gsa) THAT YtdfkehgkonadhaaProg.lean LOADS. Nothing in Lean hashes anything: it is a label: what it is worth is what the hold of that sum in a sandbox is worth. -/
noncomputable def Try.pinned : Pinned := { name := "ytdfkehgkonadhaa", sum := "eb84bb444baa8f79e0dc0e8d270f56d9191b3ebfa69e514333b82976bdfe5802", checked := Try.checked }
namespace Rows
def none {H : Type} : Left H := { results := [], args := [] }

/-- 'laws.FnExactIsFault': WHATEVER THE INPUT: true; the input reads as it did. -/
def fnExactIsFaultSpec : ChangeSpec := { name := "fnExactIsFault", fn := fun _ => fun
  | [d] => { results := [.lit (.bool true)], args := [d] }
  | _ => none }
def fnExactIsFaultRow : OpenClaim := { program := "ytdfkehgkonadhaa", sum := "eb84bb444baa8f79e0dc0e8d270f56d9191b3ebfa69e514333b82976bdfe5802", func := "loop.example/g00838/laws.FnExactIsFault", spec := "fnExactIsFault", apart := false }
def FnExactIsFaultSaid : Prop := fnExactIsFaultRow.holds Try.pinned (OpenSpec.ofChange fnExactIsFaultSpec)

/-- ITS FALSE NEIGHBOUR: 'it returns false'. Refute it at one input. -/
def fnExactIsFaultWrong : ChangeSpec := { name := "fnExactIsFault", fn := fun _ => fun
  | [d] => { results := [.lit (.bool false)], args := [d] }
  | _ => none }
def FnExactIsFaultWrongFalsely : Prop := fnExactIsFaultRow.holds Try.pinned (OpenSpec.ofChange fnExactIsFaultWrong)

/-- 'laws.FnExactFaultFits': WHATEVER THE INPUT: true; the input reads as it did. -/
def fnExactFaultFitsSpec : ChangeSpec := { name := "fnExactFaultFits", fn := fun _ => fun
  | [d1, d2] => { results := [.lit (.bool true)], args := [d1, d2] }
  | _ => none }
def fnExactFaultFitsRow : OpenClaim := { program := "ytdfkehgkonadhaa", sum := "eb84bb444baa8f79e0dc0e8d270f56d9191b3ebfa69e514333b82976bdfe5802", func := "loop.example/g00838/laws.FnExactFaultFits", spec := "fnExactFaultFits", apart := false }
def FnExactFaultFitsSaid : Prop := fnExactFaultFitsRow.holds Try.pinned (OpenSpec.ofChange fnExactFaultFitsSpec)

/-- ITS FALSE NEIGHBOUR: 'it returns false'. Refute it at one input. -/
def fnExactFaultFitsWrong : ChangeSpec := { name := "fnExactFaultFits", fn := fun _ => fun
  | [d1, d2] => { results := [.lit (.bool false)], args := [d1, d2] }
  | _ => none }
def FnExactFaultFitsWrongFalsely : Prop := fnExactFaultFitsRow.holds Try.pinned (OpenSpec.ofChange fnExactFaultFitsWrong)

/-- 'laws.FnExactEarliestFault': WHATEVER THE INPUT: true; the input reads as it did. -/
def fnExactEarliestFaultSpec : ChangeSpec := { name := "fnExactEarliestFault", fn := fun _ => fun
  | [d] => { results := [.lit (.bool true)], args := [d] }
  | _ => none }
def fnExactEarliestFaultRow : OpenClaim := { program := "ytdfkehgkonadhaa", sum := "eb84bb444baa8f79e0dc0e8d270f56d9191b3ebfa69e514333b82976bdfe5802", func := "loop.example/g00838/laws.FnExactEarliestFault", spec := "fnExactEarliestFault", unfollowed := true, recurses := true, apart := false }
def FnExactEarliestFaultSaid : Prop := fnExactEarliestFaultRow.holds Try.pinned (OpenSpec.ofChange fnExactEarliestFaultSpec)

/-- ITS FALSE NEIGHBOUR: 'it returns false'. Refute it at one input. -/
def fnExactEarliestFaultWrong : ChangeSpec := { name := "fnExactEarliestFault", fn := fun _ => fun
  | [d] => { results := [.lit (.bool false)], args := [d] }
  | _ => none }
def FnExactEarliestFaultWrongFalsely : Prop := fnExactEarliestFaultRow.holds Try.pinned (OpenSpec.ofChange fnExactEarliestFaultWrong)

/-- 'laws.FnExactCountFaults': WHATEVER THE INPUT: true; the input reads as it did. -/
def fnExactCountFaultsSpec : ChangeSpec := { name := "fnExactCountFaults", fn := fun _ => fun
  | [d] => { results := [.lit (.bool true)], args := [d] }
  | _ => none }
def fnExactCountFaultsRow : OpenClaim := { program := "ytdfkehgkonadhaa", sum := "eb84bb444baa8f79e0dc0e8d270f56d9191b3ebfa69e514333b82976bdfe5802", func := "loop.example/g00838/laws.FnExactCountFaults", spec := "fnExactCountFaults", apart := false }
def FnExactCountFaultsSaid : Prop := fnExactCountFaultsRow.holds Try.pinned (OpenSpec.ofChange fnExactCountFaultsSpec)

/-- ITS FALSE NEIGHBOUR: 'it returns false'. Refute it at one input. -/
def fnExactCountFaultsWrong : ChangeSpec := { name := "fnExactCountFaults", fn := fun _ => fun
  | [d] => { results := [.lit (.bool false)], args := [d] }
  | _ => none }
def FnExactCountFaultsWrongFalsely : Prop := fnExactCountFaultsRow.holds Try.pinned (OpenSpec.ofChange fnExactCountFaultsWrong)

/- THE SECOND FORM. 'bulk': how many values and letters a reading holds, each counted each time it is reached (what is shared counts as often as it is met; a slice's spare places count too). A statement '..UptoSaid' is the law's where the arguments, and the package variables that the reading takes, are together of bulk at most 1048576: NARROWER than '..Said'. Prove '..Said' where nothing that the law and all that it calls make is longer than what came in: it says more and counts as full. Else prove '..UptoSaid'. A law counts once. -/
mutual
def uptoBulk {H : Type} : DataW H → Nat
  | .lit (.string bytes) => bytes.length + 1
  | .lit _ => 1
  | .nil => 1
  | .ptr d => uptoBulk d + 1
  | .slice elems spare => uptoBulkAll elems + uptoBulkAll spare + 1
  | .agg parts => uptoBulkAll parts + 1
  | .iface _ d => uptoBulk d + 1
  | .map entries => uptoBulkEntries entries + 1
  | .held _ => 1
def uptoBulkAll {H : Type} : List (DataW H) → Nat
  | [] => 0
  | d :: r => uptoBulk d + uptoBulkAll r
def uptoBulkEntries {H : Type} : List (Lit × DataW H) → Nat
  | [] => 0
  | x :: r => uptoBulkEntry x + uptoBulkEntries r
def uptoBulkEntry {H : Type} : Lit × DataW H → Nat
  | (.string bytes, d) => bytes.length + uptoBulk d + 1
  | (_, d) => uptoBulk d + 1
 end
def uptoSmall : (H : Type) → List (DataW H) → Bool := fun _ ds => decide (uptoBulkAll ds ≤ 1048576)
def OpenSpec.upto (s : _root_.Go.ChangeSpec) : _root_.Go.OpenSpec := { _root_.Go.OpenSpec.ofChange s with cond := some uptoSmall }

/-- 'laws.FnExactIsFault', WHERE WHAT IT READS IS OF BULK AT MOST 1048576: true; the input reads as it did. -/
def fnExactIsFaultUptoRow : OpenClaim := { program := "ytdfkehgkonadhaa", sum := "eb84bb444baa8f79e0dc0e8d270f56d9191b3ebfa69e514333b82976bdfe5802", func := "loop.example/g00838/laws.FnExactIsFault", spec := "fnExactIsFault", apart := false, narrowed := true }
def FnExactIsFaultUptoSaid : Prop := fnExactIsFaultUptoRow.holds Try.pinned (OpenSpec.upto fnExactIsFaultSpec)

/-- 'laws.FnExactFaultFits', WHERE WHAT IT READS IS OF BULK AT MOST 1048576: true; the input reads as it did. -/
def fnExactFaultFitsUptoRow : OpenClaim := { program := "ytdfkehgkonadhaa", sum := "eb84bb444baa8f79e0dc0e8d270f56d9191b3ebfa69e514333b82976bdfe5802", func := "loop.example/g00838/laws.FnExactFaultFits", spec := "fnExactFaultFits", apart := false, narrowed := true }
def FnExactFaultFitsUptoSaid : Prop := fnExactFaultFitsUptoRow.holds Try.pinned (OpenSpec.upto fnExactFaultFitsSpec)

/-- 'laws.FnExactEarliestFault', WHERE WHAT IT READS IS OF BULK AT MOST 1048576: true; the input reads as it did. -/
def fnExactEarliestFaultUptoRow : OpenClaim := { program := "ytdfkehgkonadhaa", sum := "eb84bb444baa8f79e0dc0e8d270f56d9191b3ebfa69e514333b82976bdfe5802", func := "loop.example/g00838/laws.FnExactEarliestFault", spec := "fnExactEarliestFault", unfollowed := true, recurses := true, apart := false, narrowed := true }
def FnExactEarliestFaultUptoSaid : Prop := fnExactEarliestFaultUptoRow.holds Try.pinned (OpenSpec.upto fnExactEarliestFaultSpec)

/-- 'laws.FnExactCountFaults', WHERE WHAT IT READS IS OF BULK AT MOST 1048576: true; the input reads as it did. -/
def fnExactCountFaultsUptoRow : OpenClaim := { program := "ytdfkehgkonadhaa", sum := "eb84bb444baa8f79e0dc0e8d270f56d9191b3ebfa69e514333b82976bdfe5802", func := "loop.example/g00838/laws.FnExactCountFaults", spec := "fnExactCountFaults", apart := false, narrowed := true }
def FnExactCountFaultsUptoSaid : Prop := fnExactCountFaultsUptoRow.holds Try.pinned (OpenSpec.upto fnExactCountFaultsSpec)

end Rows
end Go.Proofs.Ytdfkehgkonadhaa
