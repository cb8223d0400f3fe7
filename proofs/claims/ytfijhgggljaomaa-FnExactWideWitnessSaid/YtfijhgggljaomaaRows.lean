/-
  No cell of these rows narrows 'for every input' (looked for: loops, veiled, ifaces, maps, wideKeys, modest, calm, conditions, laid).
  DERIVED. THE GIVEN ROWS OF THIS SEAT. 7 by the template 'for every input the law returns true; each argument reads behind the call as it read before'; 0 by the template 'total and deterministic' (their statements: YtfijhgggljaomaaTotals.lean).
  GIVEN WITH THE SEED: the statements are not yours to turn. If you find one false, say at which input.
  Laid BY PROGRAM, IN A SANDBOX (cutbox-rows.mjs): the forced cells as the released guide's own fill.sh prints them over the translation 896aea9f70ad203d… (all of the seat's roots in one cut). By AI agents, Wed Nov 11 2026. No macro, syntax, notation, axiom, sorry.
-/
import Derived.Test.YtfijhgggljaomaaChecked
import GoSem.Claim
import GoSem.ClaimJoined
import GoSem.ClaimMapViews
import Derived.JoinedTies
import Derived.KernelRfl
namespace Go.Proofs.Ytfijhgggljaomaa
/- THE CELL 'sum', in the pinned program and in every row, IS THE sha256 OF THE DUMP (.gsa) THAT YtfijhgggljaomaaProg.lean LOADS. Nothing in Lean hashes anything: it is a label: what it is worth is what the hold of that sum in a sandbox is worth. -/
noncomputable def Try.pinned : Pinned := { name := "ytfijhgggljaomaa", sum := "896aea9f70ad203d45d72433dbbf67218b3c7ffce2fba76a6c92a40cc7bca8b3", checked := Try.checked }
namespace Rows
def none {H : Type} : Left H := { results := [], args := [] }

/-- 'laws.FnExactBadParents': WHATEVER THE INPUT: true; the input reads as it did. -/
def fnExactBadParentsSpec : ChangeSpec := { name := "fnExactBadParents", fn := fun _ => fun
  | [d] => { results := [.lit (.bool true)], args := [d] }
  | _ => none }
def fnExactBadParentsRow : OpenClaim := { program := "ytfijhgggljaomaa", sum := "896aea9f70ad203d45d72433dbbf67218b3c7ffce2fba76a6c92a40cc7bca8b3", func := "loop.example/g00838/laws.FnExactBadParents", spec := "fnExactBadParents", unfollowed := true, recurses := true, apart := false }
def FnExactBadParentsSaid : Prop := fnExactBadParentsRow.holds Try.pinned (OpenSpec.ofChange fnExactBadParentsSpec)

/-- ITS FALSE NEIGHBOUR: 'it returns false'. Refute it at one input. -/
def fnExactBadParentsWrong : ChangeSpec := { name := "fnExactBadParents", fn := fun _ => fun
  | [d] => { results := [.lit (.bool false)], args := [d] }
  | _ => none }
def FnExactBadParentsWrongFalsely : Prop := fnExactBadParentsRow.holds Try.pinned (OpenSpec.ofChange fnExactBadParentsWrong)

/-- 'laws.FnExactCycleClasses': WHATEVER THE INPUT: true; the input reads as it did. -/
def fnExactCycleClassesSpec : ChangeSpec := { name := "fnExactCycleClasses", fn := fun _ => fun
  | [d] => { results := [.lit (.bool true)], args := [d] }
  | _ => none }
def fnExactCycleClassesRow : OpenClaim := { program := "ytfijhgggljaomaa", sum := "896aea9f70ad203d45d72433dbbf67218b3c7ffce2fba76a6c92a40cc7bca8b3", func := "loop.example/g00838/laws.FnExactCycleClasses", spec := "fnExactCycleClasses", unfollowed := true, recurses := true, apart := false }
def FnExactCycleClassesSaid : Prop := fnExactCycleClassesRow.holds Try.pinned (OpenSpec.ofChange fnExactCycleClassesSpec)

/-- ITS FALSE NEIGHBOUR: 'it returns false'. Refute it at one input. -/
def fnExactCycleClassesWrong : ChangeSpec := { name := "fnExactCycleClasses", fn := fun _ => fun
  | [d] => { results := [.lit (.bool false)], args := [d] }
  | _ => none }
def FnExactCycleClassesWrongFalsely : Prop := fnExactCycleClassesRow.holds Try.pinned (OpenSpec.ofChange fnExactCycleClassesWrong)

/-- 'laws.FnExactDeepClasses': WHATEVER THE INPUT: true; the input reads as it did. -/
def fnExactDeepClassesSpec : ChangeSpec := { name := "fnExactDeepClasses", fn := fun _ => fun
  | [d] => { results := [.lit (.bool true)], args := [d] }
  | _ => none }
def fnExactDeepClassesRow : OpenClaim := { program := "ytfijhgggljaomaa", sum := "896aea9f70ad203d45d72433dbbf67218b3c7ffce2fba76a6c92a40cc7bca8b3", func := "loop.example/g00838/laws.FnExactDeepClasses", spec := "fnExactDeepClasses", unfollowed := true, recurses := true, apart := false }
def FnExactDeepClassesSaid : Prop := fnExactDeepClassesRow.holds Try.pinned (OpenSpec.ofChange fnExactDeepClassesSpec)

/-- ITS FALSE NEIGHBOUR: 'it returns false'. Refute it at one input. -/
def fnExactDeepClassesWrong : ChangeSpec := { name := "fnExactDeepClasses", fn := fun _ => fun
  | [d] => { results := [.lit (.bool false)], args := [d] }
  | _ => none }
def FnExactDeepClassesWrongFalsely : Prop := fnExactDeepClassesRow.holds Try.pinned (OpenSpec.ofChange fnExactDeepClassesWrong)

/-- 'laws.FnExactOverfullClasses': WHATEVER THE INPUT: true; the input reads as it did. -/
def fnExactOverfullClassesSpec : ChangeSpec := { name := "fnExactOverfullClasses", fn := fun _ => fun
  | [d] => { results := [.lit (.bool true)], args := [d] }
  | _ => none }
def fnExactOverfullClassesRow : OpenClaim := { program := "ytfijhgggljaomaa", sum := "896aea9f70ad203d45d72433dbbf67218b3c7ffce2fba76a6c92a40cc7bca8b3", func := "loop.example/g00838/laws.FnExactOverfullClasses", spec := "fnExactOverfullClasses", unfollowed := true, recurses := true, apart := false }
def FnExactOverfullClassesSaid : Prop := fnExactOverfullClassesRow.holds Try.pinned (OpenSpec.ofChange fnExactOverfullClassesSpec)

/-- ITS FALSE NEIGHBOUR: 'it returns false'. Refute it at one input. -/
def fnExactOverfullClassesWrong : ChangeSpec := { name := "fnExactOverfullClasses", fn := fun _ => fun
  | [d] => { results := [.lit (.bool false)], args := [d] }
  | _ => none }
def FnExactOverfullClassesWrongFalsely : Prop := fnExactOverfullClassesRow.holds Try.pinned (OpenSpec.ofChange fnExactOverfullClassesWrong)

/-- 'laws.FnExactBadTargets': WHATEVER THE INPUT: true; the input reads as it did. -/
def fnExactBadTargetsSpec : ChangeSpec := { name := "fnExactBadTargets", fn := fun _ => fun
  | [d] => { results := [.lit (.bool true)], args := [d] }
  | _ => none }
def fnExactBadTargetsRow : OpenClaim := { program := "ytfijhgggljaomaa", sum := "896aea9f70ad203d45d72433dbbf67218b3c7ffce2fba76a6c92a40cc7bca8b3", func := "loop.example/g00838/laws.FnExactBadTargets", spec := "fnExactBadTargets", unfollowed := true, recurses := true, apart := false }
def FnExactBadTargetsSaid : Prop := fnExactBadTargetsRow.holds Try.pinned (OpenSpec.ofChange fnExactBadTargetsSpec)

/-- ITS FALSE NEIGHBOUR: 'it returns false'. Refute it at one input. -/
def fnExactBadTargetsWrong : ChangeSpec := { name := "fnExactBadTargets", fn := fun _ => fun
  | [d] => { results := [.lit (.bool false)], args := [d] }
  | _ => none }
def FnExactBadTargetsWrongFalsely : Prop := fnExactBadTargetsRow.holds Try.pinned (OpenSpec.ofChange fnExactBadTargetsWrong)

/-- 'laws.FnExactWitnessOf': WHATEVER THE INPUT: true; the input reads as it did. -/
def fnExactWitnessOfSpec : ChangeSpec := { name := "fnExactWitnessOf", fn := fun _ => fun
  | [d] => { results := [.lit (.bool true)], args := [d] }
  | _ => none }
def fnExactWitnessOfRow : OpenClaim := { program := "ytfijhgggljaomaa", sum := "896aea9f70ad203d45d72433dbbf67218b3c7ffce2fba76a6c92a40cc7bca8b3", func := "loop.example/g00838/laws.FnExactWitnessOf", spec := "fnExactWitnessOf", apart := false }
def FnExactWitnessOfSaid : Prop := fnExactWitnessOfRow.holds Try.pinned (OpenSpec.ofChange fnExactWitnessOfSpec)

/-- ITS FALSE NEIGHBOUR: 'it returns false'. Refute it at one input. -/
def fnExactWitnessOfWrong : ChangeSpec := { name := "fnExactWitnessOf", fn := fun _ => fun
  | [d] => { results := [.lit (.bool false)], args := [d] }
  | _ => none }
def FnExactWitnessOfWrongFalsely : Prop := fnExactWitnessOfRow.holds Try.pinned (OpenSpec.ofChange fnExactWitnessOfWrong)

/-- 'laws.FnExactWideWitness': WHATEVER THE INPUT: true; the input reads as it did. -/
def fnExactWideWitnessSpec : ChangeSpec := { name := "fnExactWideWitness", fn := fun _ => fun
  | [d] => { results := [.lit (.bool true)], args := [d] }
  | _ => none }
def fnExactWideWitnessRow : OpenClaim := { program := "ytfijhgggljaomaa", sum := "896aea9f70ad203d45d72433dbbf67218b3c7ffce2fba76a6c92a40cc7bca8b3", func := "loop.example/g00838/laws.FnExactWideWitness", spec := "fnExactWideWitness", apart := false }
def FnExactWideWitnessSaid : Prop := fnExactWideWitnessRow.holds Try.pinned (OpenSpec.ofChange fnExactWideWitnessSpec)

/-- ITS FALSE NEIGHBOUR: 'it returns false'. Refute it at one input. -/
def fnExactWideWitnessWrong : ChangeSpec := { name := "fnExactWideWitness", fn := fun _ => fun
  | [d] => { results := [.lit (.bool false)], args := [d] }
  | _ => none }
def FnExactWideWitnessWrongFalsely : Prop := fnExactWideWitnessRow.holds Try.pinned (OpenSpec.ofChange fnExactWideWitnessWrong)

/- THE SECOND FORM. 'bulk': how many values and letters a reading holds, each counted each time it is reached (what is shared counts as often as it is met; a slice's spare places count too). A statement '..UptoSaid' is the law's where the arguments, and the package variables that the reading takes, are together of bulk at most 1048576: NARROWER than '..Said'. Prove '..Said' where nothing that the law and all that it calls make is longer than what came in: it says more and counts as full. Else prove '..UptoSaid'. A law counts once. -/
mutual
def uptoBulk {H : Type} : DataW H → Nat
  | .lit (.string bytes) => bytes.length + 1
  | .lit _ => 1
  | .nil => 1
  | .ptr d => uptoBulk d + 1
  | .slice elems spare => uptoBulkAll elems + uptoBulkAll spare + 1
  | .agg parts => uptoBulkAll parts + 1
  | .iface _ d => uptoBulk d + 1
  | .map entries => uptoBulkEntries entries + 1
  | .held _ => 1
def uptoBulkAll {H : Type} : List (DataW H) → Nat
  | [] => 0
  | d :: r => uptoBulk d + uptoBulkAll r
def uptoBulkEntries {H : Type} : List (Lit × DataW H) → Nat
  | [] => 0
  | x :: r => uptoBulkEntry x + uptoBulkEntries r
def uptoBulkEntry {H : Type} : Lit × DataW H → Nat
  | (.string bytes, d) => bytes.length + uptoBulk d + 1
  | (_, d) => uptoBulk d + 1
 end
def uptoSmall : (H : Type) → List (DataW H) → Bool := fun _ ds => decide (uptoBulkAll ds ≤ 1048576)
def OpenSpec.upto (s : _root_.Go.ChangeSpec) : _root_.Go.OpenSpec := { _root_.Go.OpenSpec.ofChange s with cond := some uptoSmall }

/-- 'laws.FnExactBadParents', WHERE WHAT IT READS IS OF BULK AT MOST 1048576: true; the input reads as it did. -/
def fnExactBadParentsUptoRow : OpenClaim := { program := "ytfijhgggljaomaa", sum := "896aea9f70ad203d45d72433dbbf67218b3c7ffce2fba76a6c92a40cc7bca8b3", func := "loop.example/g00838/laws.FnExactBadParents", spec := "fnExactBadParents", unfollowed := true, recurses := true, apart := false, narrowed := true }
def FnExactBadParentsUptoSaid : Prop := fnExactBadParentsUptoRow.holds Try.pinned (OpenSpec.upto fnExactBadParentsSpec)

/-- 'laws.FnExactCycleClasses', WHERE WHAT IT READS IS OF BULK AT MOST 1048576: true; the input reads as it did. -/
def fnExactCycleClassesUptoRow : OpenClaim := { program := "ytfijhgggljaomaa", sum := "896aea9f70ad203d45d72433dbbf67218b3c7ffce2fba76a6c92a40cc7bca8b3", func := "loop.example/g00838/laws.FnExactCycleClasses", spec := "fnExactCycleClasses", unfollowed := true, recurses := true, apart := false, narrowed := true }
def FnExactCycleClassesUptoSaid : Prop := fnExactCycleClassesUptoRow.holds Try.pinned (OpenSpec.upto fnExactCycleClassesSpec)

/-- 'laws.FnExactDeepClasses', WHERE WHAT IT READS IS OF BULK AT MOST 1048576: true; the input reads as it did. -/
def fnExactDeepClassesUptoRow : OpenClaim := { program := "ytfijhgggljaomaa", sum := "896aea9f70ad203d45d72433dbbf67218b3c7ffce2fba76a6c92a40cc7bca8b3", func := "loop.example/g00838/laws.FnExactDeepClasses", spec := "fnExactDeepClasses", unfollowed := true, recurses := true, apart := false, narrowed := true }
def FnExactDeepClassesUptoSaid : Prop := fnExactDeepClassesUptoRow.holds Try.pinned (OpenSpec.upto fnExactDeepClassesSpec)

/-- 'laws.FnExactOverfullClasses', WHERE WHAT IT READS IS OF BULK AT MOST 1048576: true; the input reads as it did. -/
def fnExactOverfullClassesUptoRow : OpenClaim := { program := "ytfijhgggljaomaa", sum := "896aea9f70ad203d45d72433dbbf67218b3c7ffce2fba76a6c92a40cc7bca8b3", func := "loop.example/g00838/laws.FnExactOverfullClasses", spec := "fnExactOverfullClasses", unfollowed := true, recurses := true, apart := false, narrowed := true }
def FnExactOverfullClassesUptoSaid : Prop := fnExactOverfullClassesUptoRow.holds Try.pinned (OpenSpec.upto fnExactOverfullClassesSpec)

/-- 'laws.FnExactBadTargets', WHERE WHAT IT READS IS OF BULK AT MOST 1048576: true; the input reads as it did. -/
def fnExactBadTargetsUptoRow : OpenClaim := { program := "ytfijhgggljaomaa", sum := "896aea9f70ad203d45d72433dbbf67218b3c7ffce2fba76a6c92a40cc7bca8b3", func := "loop.example/g00838/laws.FnExactBadTargets", spec := "fnExactBadTargets", unfollowed := true, recurses := true, apart := false, narrowed := true }
def FnExactBadTargetsUptoSaid : Prop := fnExactBadTargetsUptoRow.holds Try.pinned (OpenSpec.upto fnExactBadTargetsSpec)

/-- 'laws.FnExactWitnessOf', WHERE WHAT IT READS IS OF BULK AT MOST 1048576: true; the input reads as it did. -/
def fnExactWitnessOfUptoRow : OpenClaim := { program := "ytfijhgggljaomaa", sum := "896aea9f70ad203d45d72433dbbf67218b3c7ffce2fba76a6c92a40cc7bca8b3", func := "loop.example/g00838/laws.FnExactWitnessOf", spec := "fnExactWitnessOf", apart := false, narrowed := true }
def FnExactWitnessOfUptoSaid : Prop := fnExactWitnessOfUptoRow.holds Try.pinned (OpenSpec.upto fnExactWitnessOfSpec)

/-- 'laws.FnExactWideWitness', WHERE WHAT IT READS IS OF BULK AT MOST 1048576: true; the input reads as it did. -/
def fnExactWideWitnessUptoRow : OpenClaim := { program := "ytfijhgggljaomaa", sum := "896aea9f70ad203d45d72433dbbf67218b3c7ffce2fba76a6c92a40cc7bca8b3", func := "loop.example/g00838/laws.FnExactWideWitness", spec := "fnExactWideWitness", apart := false, narrowed := true }
def FnExactWideWitnessUptoSaid : Prop := fnExactWideWitnessUptoRow.holds Try.pinned (OpenSpec.upto fnExactWideWitnessSpec)

end Rows
end Go.Proofs.Ytfijhgggljaomaa
