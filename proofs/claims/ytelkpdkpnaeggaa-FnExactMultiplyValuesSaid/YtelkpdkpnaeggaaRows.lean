/-
  No cell of these rows narrows 'for every input' (looked for: loops, veiled, ifaces, maps, wideKeys, modest, calm, conditions, laid).
  DERIVED. THE GIVEN ROWS OF THIS SEAT. 4 by the template 'for every input the law returns true; each argument reads behind the call as it read before'; 0 by the template 'total and deterministic' (their statements: YtelkpdkpnaeggaaTotals.lean).
  GIVEN WITH THE SEED: the statements are not yours to turn. If you find one false, say at which input.
  Laid BY PROGRAM, IN A SANDBOX (cutbox-rows.mjs): the forced cells as the released guide's own fill.sh prints them over the translation 0fa1947e917a650e… (all of the seat's roots in one cut). By AI agents, Wed Nov 11 2026. No macro, syntax, notation, axiom, sorry.
-/
import Derived.Test.YtelkpdkpnaeggaaChecked
import GoSem.Claim
import GoSem.ClaimJoined
import GoSem.ClaimMapViews
import Derived.JoinedTies
import Derived.KernelRfl
namespace Go.Proofs.Ytelkpdkpnaeggaa
/- THE CELL 'sum', in the pinned program and in every row, IS THE sha256 OF THE DUMP (.gsa) THAT YtelkpdkpnaeggaaProg.lean LOADS. Nothing in Lean hashes anything: it is a label: what it is worth is what the hold of that sum in a sandbox is worth. -/
noncomputable def Try.pinned : Pinned := { name := "ytelkpdkpnaeggaa", sum := "0fa1947e917a650e56530d7e2deadbb1b6e45581b1966a2c91893a07afceb2af", checked := Try.checked }
namespace Rows
def none {H : Type} : Left H := { results := [], args := [] }

/-- 'laws.FnLittle': WHATEVER THE INPUT: true; the input reads as it did. -/
def fnLittleSpec : ChangeSpec := { name := "fnLittle", fn := fun _ => fun
  | [d1, d2] => { results := [.lit (.bool true)], args := [d1, d2] }
  | _ => none }
def fnLittleRow : OpenClaim := { program := "ytelkpdkpnaeggaa", sum := "0fa1947e917a650e56530d7e2deadbb1b6e45581b1966a2c91893a07afceb2af", func := "loop.example/g00838/laws.FnLittle", spec := "fnLittle", apart := false }
def FnLittleSaid : Prop := fnLittleRow.holds Try.pinned (OpenSpec.ofChange fnLittleSpec)

/-- ITS FALSE NEIGHBOUR: 'it returns false'. Refute it at one input. -/
def fnLittleWrong : ChangeSpec := { name := "fnLittle", fn := fun _ => fun
  | [d1, d2] => { results := [.lit (.bool false)], args := [d1, d2] }
  | _ => none }
def FnLittleWrongFalsely : Prop := fnLittleRow.holds Try.pinned (OpenSpec.ofChange fnLittleWrong)

/-- 'laws.FnExactAddValues': WHATEVER THE INPUT: true; the input reads as it did. -/
def fnExactAddValuesSpec : ChangeSpec := { name := "fnExactAddValues", fn := fun _ => fun
  | [d] => { results := [.lit (.bool true)], args := [d] }
  | _ => none }
def fnExactAddValuesRow : OpenClaim := { program := "ytelkpdkpnaeggaa", sum := "0fa1947e917a650e56530d7e2deadbb1b6e45581b1966a2c91893a07afceb2af", func := "loop.example/g00838/laws.FnExactAddValues", spec := "fnExactAddValues", apart := false }
def FnExactAddValuesSaid : Prop := fnExactAddValuesRow.holds Try.pinned (OpenSpec.ofChange fnExactAddValuesSpec)

/-- ITS FALSE NEIGHBOUR: 'it returns false'. Refute it at one input. -/
def fnExactAddValuesWrong : ChangeSpec := { name := "fnExactAddValues", fn := fun _ => fun
  | [d] => { results := [.lit (.bool false)], args := [d] }
  | _ => none }
def FnExactAddValuesWrongFalsely : Prop := fnExactAddValuesRow.holds Try.pinned (OpenSpec.ofChange fnExactAddValuesWrong)

/-- 'laws.FnExactMultiplyValues': WHATEVER THE INPUT: true; the input reads as it did. -/
def fnExactMultiplyValuesSpec : ChangeSpec := { name := "fnExactMultiplyValues", fn := fun _ => fun
  | [d1, d2] => { results := [.lit (.bool true)], args := [d1, d2] }
  | _ => none }
def fnExactMultiplyValuesRow : OpenClaim := { program := "ytelkpdkpnaeggaa", sum := "0fa1947e917a650e56530d7e2deadbb1b6e45581b1966a2c91893a07afceb2af", func := "loop.example/g00838/laws.FnExactMultiplyValues", spec := "fnExactMultiplyValues", apart := false }
def FnExactMultiplyValuesSaid : Prop := fnExactMultiplyValuesRow.holds Try.pinned (OpenSpec.ofChange fnExactMultiplyValuesSpec)

/-- ITS FALSE NEIGHBOUR: 'it returns false'. Refute it at one input. -/
def fnExactMultiplyValuesWrong : ChangeSpec := { name := "fnExactMultiplyValues", fn := fun _ => fun
  | [d1, d2] => { results := [.lit (.bool false)], args := [d1, d2] }
  | _ => none }
def FnExactMultiplyValuesWrongFalsely : Prop := fnExactMultiplyValuesRow.holds Try.pinned (OpenSpec.ofChange fnExactMultiplyValuesWrong)

/-- 'laws.FnExactScaleValue': WHATEVER THE INPUT: true; the input reads as it did. -/
def fnExactScaleValueSpec : ChangeSpec := { name := "fnExactScaleValue", fn := fun _ => fun
  | [d1, d2, d3, d4] => { results := [.lit (.bool true)], args := [d1, d2, d3, d4] }
  | _ => none }
def fnExactScaleValueRow : OpenClaim := { program := "ytelkpdkpnaeggaa", sum := "0fa1947e917a650e56530d7e2deadbb1b6e45581b1966a2c91893a07afceb2af", func := "loop.example/g00838/laws.FnExactScaleValue", spec := "fnExactScaleValue", apart := false }
def FnExactScaleValueSaid : Prop := fnExactScaleValueRow.holds Try.pinned (OpenSpec.ofChange fnExactScaleValueSpec)

/-- ITS FALSE NEIGHBOUR: 'it returns false'. Refute it at one input. -/
def fnExactScaleValueWrong : ChangeSpec := { name := "fnExactScaleValue", fn := fun _ => fun
  | [d1, d2, d3, d4] => { results := [.lit (.bool false)], args := [d1, d2, d3, d4] }
  | _ => none }
def FnExactScaleValueWrongFalsely : Prop := fnExactScaleValueRow.holds Try.pinned (OpenSpec.ofChange fnExactScaleValueWrong)

/- THE SECOND FORM. 'bulk': how many values and letters a reading holds, each counted each time it is reached (what is shared counts as often as it is met; a slice's spare places count too). A statement '..UptoSaid' is the law's where the arguments, and the package variables that the reading takes, are together of bulk at most 1048576: NARROWER than '..Said'. Prove '..Said' where nothing that the law and all that it calls make is longer than what came in: it says more and counts as full. Else prove '..UptoSaid'. A law counts once. -/
mutual
def uptoBulk {H : Type} : DataW H → Nat
  | .lit (.string bytes) => bytes.length + 1
  | .lit _ => 1
  | .nil => 1
  | .ptr d => uptoBulk d + 1
  | .slice elems spare => uptoBulkAll elems + uptoBulkAll spare + 1
  | .agg parts => uptoBulkAll parts + 1
  | .iface _ d => uptoBulk d + 1
  | .map entries => uptoBulkEntries entries + 1
  | .held _ => 1
def uptoBulkAll {H : Type} : List (DataW H) → Nat
  | [] => 0
  | d :: r => uptoBulk d + uptoBulkAll r
def uptoBulkEntries {H : Type} : List (Lit × DataW H) → Nat
  | [] => 0
  | x :: r => uptoBulkEntry x + uptoBulkEntries r
def uptoBulkEntry {H : Type} : Lit × DataW H → Nat
  | (.string bytes, d) => bytes.length + uptoBulk d + 1
  | (_, d) => uptoBulk d + 1
 end
def uptoSmall : (H : Type) → List (DataW H) → Bool := fun _ ds => decide (uptoBulkAll ds ≤ 1048576)
def OpenSpec.upto (s : _root_.Go.ChangeSpec) : _root_.Go.OpenSpec := { _root_.Go.OpenSpec.ofChange s with cond := some uptoSmall }

/-- 'laws.FnLittle', WHERE WHAT IT READS IS OF BULK AT MOST 1048576: true; the input reads as it did. -/
def fnLittleUptoRow : OpenClaim := { program := "ytelkpdkpnaeggaa", sum := "0fa1947e917a650e56530d7e2deadbb1b6e45581b1966a2c91893a07afceb2af", func := "loop.example/g00838/laws.FnLittle", spec := "fnLittle", apart := false, narrowed := true }
def FnLittleUptoSaid : Prop := fnLittleUptoRow.holds Try.pinned (OpenSpec.upto fnLittleSpec)

/-- 'laws.FnExactAddValues', WHERE WHAT IT READS IS OF BULK AT MOST 1048576: true; the input reads as it did. -/
def fnExactAddValuesUptoRow : OpenClaim := { program := "ytelkpdkpnaeggaa", sum := "0fa1947e917a650e56530d7e2deadbb1b6e45581b1966a2c91893a07afceb2af", func := "loop.example/g00838/laws.FnExactAddValues", spec := "fnExactAddValues", apart := false, narrowed := true }
def FnExactAddValuesUptoSaid : Prop := fnExactAddValuesUptoRow.holds Try.pinned (OpenSpec.upto fnExactAddValuesSpec)

/-- 'laws.FnExactMultiplyValues', WHERE WHAT IT READS IS OF BULK AT MOST 1048576: true; the input reads as it did. -/
def fnExactMultiplyValuesUptoRow : OpenClaim := { program := "ytelkpdkpnaeggaa", sum := "0fa1947e917a650e56530d7e2deadbb1b6e45581b1966a2c91893a07afceb2af", func := "loop.example/g00838/laws.FnExactMultiplyValues", spec := "fnExactMultiplyValues", apart := false, narrowed := true }
def FnExactMultiplyValuesUptoSaid : Prop := fnExactMultiplyValuesUptoRow.holds Try.pinned (OpenSpec.upto fnExactMultiplyValuesSpec)

/-- 'laws.FnExactScaleValue', WHERE WHAT IT READS IS OF BULK AT MOST 1048576: true; the input reads as it did. -/
def fnExactScaleValueUptoRow : OpenClaim := { program := "ytelkpdkpnaeggaa", sum := "0fa1947e917a650e56530d7e2deadbb1b6e45581b1966a2c91893a07afceb2af", func := "loop.example/g00838/laws.FnExactScaleValue", spec := "fnExactScaleValue", apart := false, narrowed := true }
def FnExactScaleValueUptoSaid : Prop := fnExactScaleValueUptoRow.holds Try.pinned (OpenSpec.upto fnExactScaleValueSpec)

end Rows
end Go.Proofs.Ytelkpdkpnaeggaa
