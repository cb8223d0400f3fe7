/-
  No cell of these rows narrows 'for every input' (looked for: loops, veiled, ifaces, maps, wideKeys, modest, calm, conditions, laid).
  DERIVED. THE GIVEN ROWS OF THIS SEAT. 11 by the template 'for every input the law returns true; each argument reads behind the call as it read before'; 0 by the template 'total and deterministic' (their statements: YthflehdboccloaaTotals.lean).
  GIVEN WITH THE SEED: the statements are not yours to turn. If you find one false, say at which input.
  Laid BY PROGRAM, IN A SANDBOX (cutbox-rows.mjs): the forced cells as the released guide's own fill.sh prints them over the translation 14b8231bbd3763a9… (all of the seat's roots in one cut). By AI agents, Wed Nov 11 2026. No macro, syntax, notation, axiom, sorry.
-/
import Derived.Test.YthflehdboccloaaChecked
import GoSem.Claim
import GoSem.ClaimJoined
import GoSem.ClaimMapViews
import Derived.JoinedTies
import Derived.KernelRfl
namespace Go.Proofs.Ythflehdboccloaa
/- THE CELL 'sum', in the pinned program and in every row, IS THE sha256 OF THE DUMP (.gsa) THAT YthflehdboccloaaProg.lean LOADS. Nothing in Lean hashes anything: it is a label: what it is worth is what the hold of that sum in a sandbox is worth. -/
noncomputable def Try.pinned : Pinned := { name := "ythflehdboccloaa", sum := "14b8231bbd3763a92187c526a7edf4723593db525e354022bbaaa321010fd396", checked := Try.checked }
namespace Rows
def none {H : Type} : Left H := { results := [], args := [] }

/-- 'laws.FnExactAreAttrs': WHATEVER THE INPUT: true; the input reads as it did. -/
def fnExactAreAttrsSpec : ChangeSpec := { name := "fnExactAreAttrs", fn := fun _ => fun
  | [d] => { results := [.lit (.bool true)], args := [d] }
  | _ => none }
def fnExactAreAttrsRow : OpenClaim := { program := "ythflehdboccloaa", sum := "14b8231bbd3763a92187c526a7edf4723593db525e354022bbaaa321010fd396", func := "loop.example/g00838/laws.FnExactAreAttrs", spec := "fnExactAreAttrs", apart := false }
def FnExactAreAttrsSaid : Prop := fnExactAreAttrsRow.holds Try.pinned (OpenSpec.ofChange fnExactAreAttrsSpec)

/-- ITS FALSE NEIGHBOUR: 'it returns false'. Refute it at one input. -/
def fnExactAreAttrsWrong : ChangeSpec := { name := "fnExactAreAttrs", fn := fun _ => fun
  | [d] => { results := [.lit (.bool false)], args := [d] }
  | _ => none }
def FnExactAreAttrsWrongFalsely : Prop := fnExactAreAttrsRow.holds Try.pinned (OpenSpec.ofChange fnExactAreAttrsWrong)

/-- 'laws.FnExactEncodeAttrs': WHATEVER THE INPUT: true; the input reads as it did. -/
def fnExactEncodeAttrsSpec : ChangeSpec := { name := "fnExactEncodeAttrs", fn := fun _ => fun
  | [d] => { results := [.lit (.bool true)], args := [d] }
  | _ => none }
def fnExactEncodeAttrsRow : OpenClaim := { program := "ythflehdboccloaa", sum := "14b8231bbd3763a92187c526a7edf4723593db525e354022bbaaa321010fd396", func := "loop.example/g00838/laws.FnExactEncodeAttrs", spec := "fnExactEncodeAttrs", recurses := true, apart := false }
def FnExactEncodeAttrsSaid : Prop := fnExactEncodeAttrsRow.holds Try.pinned (OpenSpec.ofChange fnExactEncodeAttrsSpec)

/-- ITS FALSE NEIGHBOUR: 'it returns false'. Refute it at one input. -/
def fnExactEncodeAttrsWrong : ChangeSpec := { name := "fnExactEncodeAttrs", fn := fun _ => fun
  | [d] => { results := [.lit (.bool false)], args := [d] }
  | _ => none }
def FnExactEncodeAttrsWrongFalsely : Prop := fnExactEncodeAttrsRow.holds Try.pinned (OpenSpec.ofChange fnExactEncodeAttrsWrong)

/-- 'laws.FnExactDecodeAttrs': WHATEVER THE INPUT: true; the input reads as it did. -/
def fnExactDecodeAttrsSpec : ChangeSpec := { name := "fnExactDecodeAttrs", fn := fun _ => fun
  | [d] => { results := [.lit (.bool true)], args := [d] }
  | _ => none }
def fnExactDecodeAttrsRow : OpenClaim := { program := "ythflehdboccloaa", sum := "14b8231bbd3763a92187c526a7edf4723593db525e354022bbaaa321010fd396", func := "loop.example/g00838/laws.FnExactDecodeAttrs", spec := "fnExactDecodeAttrs", unfollowed := true, recurses := true, apart := false }
def FnExactDecodeAttrsSaid : Prop := fnExactDecodeAttrsRow.holds Try.pinned (OpenSpec.ofChange fnExactDecodeAttrsSpec)

/-- ITS FALSE NEIGHBOUR: 'it returns false'. Refute it at one input. -/
def fnExactDecodeAttrsWrong : ChangeSpec := { name := "fnExactDecodeAttrs", fn := fun _ => fun
  | [d] => { results := [.lit (.bool false)], args := [d] }
  | _ => none }
def FnExactDecodeAttrsWrongFalsely : Prop := fnExactDecodeAttrsRow.holds Try.pinned (OpenSpec.ofChange fnExactDecodeAttrsWrong)

/-- 'laws.FnExactSizeOf': WHATEVER THE INPUT: true; the input reads as it did. -/
def fnExactSizeOfSpec : ChangeSpec := { name := "fnExactSizeOf", fn := fun _ => fun
  | [d1, d2] => { results := [.lit (.bool true)], args := [d1, d2] }
  | _ => none }
def fnExactSizeOfRow : OpenClaim := { program := "ythflehdboccloaa", sum := "14b8231bbd3763a92187c526a7edf4723593db525e354022bbaaa321010fd396", func := "loop.example/g00838/laws.FnExactSizeOf", spec := "fnExactSizeOf", recurses := true, apart := false }
def FnExactSizeOfSaid : Prop := fnExactSizeOfRow.holds Try.pinned (OpenSpec.ofChange fnExactSizeOfSpec)

/-- ITS FALSE NEIGHBOUR: 'it returns false'. Refute it at one input. -/
def fnExactSizeOfWrong : ChangeSpec := { name := "fnExactSizeOf", fn := fun _ => fun
  | [d1, d2] => { results := [.lit (.bool false)], args := [d1, d2] }
  | _ => none }
def FnExactSizeOfWrongFalsely : Prop := fnExactSizeOfRow.holds Try.pinned (OpenSpec.ofChange fnExactSizeOfWrong)

/-- 'laws.FnExactEndOfAttr': WHATEVER THE INPUT: true; the input reads as it did. -/
def fnExactEndOfAttrSpec : ChangeSpec := { name := "fnExactEndOfAttr", fn := fun _ => fun
  | [d1, d2] => { results := [.lit (.bool true)], args := [d1, d2] }
  | _ => none }
def fnExactEndOfAttrRow : OpenClaim := { program := "ythflehdboccloaa", sum := "14b8231bbd3763a92187c526a7edf4723593db525e354022bbaaa321010fd396", func := "loop.example/g00838/laws.FnExactEndOfAttr", spec := "fnExactEndOfAttr", apart := false }
def FnExactEndOfAttrSaid : Prop := fnExactEndOfAttrRow.holds Try.pinned (OpenSpec.ofChange fnExactEndOfAttrSpec)

/-- ITS FALSE NEIGHBOUR: 'it returns false'. Refute it at one input. -/
def fnExactEndOfAttrWrong : ChangeSpec := { name := "fnExactEndOfAttr", fn := fun _ => fun
  | [d1, d2] => { results := [.lit (.bool false)], args := [d1, d2] }
  | _ => none }
def FnExactEndOfAttrWrongFalsely : Prop := fnExactEndOfAttrRow.holds Try.pinned (OpenSpec.ofChange fnExactEndOfAttrWrong)

/-- 'laws.FnExactChildrenOf': WHATEVER THE INPUT: true; the input reads as it did. -/
def fnExactChildrenOfSpec : ChangeSpec := { name := "fnExactChildrenOf", fn := fun _ => fun
  | [d1, d2] => { results := [.lit (.bool true)], args := [d1, d2] }
  | _ => none }
def fnExactChildrenOfRow : OpenClaim := { program := "ythflehdboccloaa", sum := "14b8231bbd3763a92187c526a7edf4723593db525e354022bbaaa321010fd396", func := "loop.example/g00838/laws.FnExactChildrenOf", spec := "fnExactChildrenOf", apart := false }
def FnExactChildrenOfSaid : Prop := fnExactChildrenOfRow.holds Try.pinned (OpenSpec.ofChange fnExactChildrenOfSpec)

/-- ITS FALSE NEIGHBOUR: 'it returns false'. Refute it at one input. -/
def fnExactChildrenOfWrong : ChangeSpec := { name := "fnExactChildrenOf", fn := fun _ => fun
  | [d1, d2] => { results := [.lit (.bool false)], args := [d1, d2] }
  | _ => none }
def FnExactChildrenOfWrongFalsely : Prop := fnExactChildrenOfRow.holds Try.pinned (OpenSpec.ofChange fnExactChildrenOfWrong)

/-- 'laws.FnExactParentOf': WHATEVER THE INPUT: true; the input reads as it did. -/
def fnExactParentOfSpec : ChangeSpec := { name := "fnExactParentOf", fn := fun _ => fun
  | [d1, d2] => { results := [.lit (.bool true)], args := [d1, d2] }
  | _ => none }
def fnExactParentOfRow : OpenClaim := { program := "ythflehdboccloaa", sum := "14b8231bbd3763a92187c526a7edf4723593db525e354022bbaaa321010fd396", func := "loop.example/g00838/laws.FnExactParentOf", spec := "fnExactParentOf", apart := false }
def FnExactParentOfSaid : Prop := fnExactParentOfRow.holds Try.pinned (OpenSpec.ofChange fnExactParentOfSpec)

/-- ITS FALSE NEIGHBOUR: 'it returns false'. Refute it at one input. -/
def fnExactParentOfWrong : ChangeSpec := { name := "fnExactParentOf", fn := fun _ => fun
  | [d1, d2] => { results := [.lit (.bool false)], args := [d1, d2] }
  | _ => none }
def FnExactParentOfWrongFalsely : Prop := fnExactParentOfRow.holds Try.pinned (OpenSpec.ofChange fnExactParentOfWrong)

/-- 'laws.FnExactFindAttr': WHATEVER THE INPUT: true; the input reads as it did. -/
def fnExactFindAttrSpec : ChangeSpec := { name := "fnExactFindAttr", fn := fun _ => fun
  | [d1, d2] => { results := [.lit (.bool true)], args := [d1, d2] }
  | _ => none }
def fnExactFindAttrRow : OpenClaim := { program := "ythflehdboccloaa", sum := "14b8231bbd3763a92187c526a7edf4723593db525e354022bbaaa321010fd396", func := "loop.example/g00838/laws.FnExactFindAttr", spec := "fnExactFindAttr", apart := false }
def FnExactFindAttrSaid : Prop := fnExactFindAttrRow.holds Try.pinned (OpenSpec.ofChange fnExactFindAttrSpec)

/-- ITS FALSE NEIGHBOUR: 'it returns false'. Refute it at one input. -/
def fnExactFindAttrWrong : ChangeSpec := { name := "fnExactFindAttr", fn := fun _ => fun
  | [d1, d2] => { results := [.lit (.bool false)], args := [d1, d2] }
  | _ => none }
def FnExactFindAttrWrongFalsely : Prop := fnExactFindAttrRow.holds Try.pinned (OpenSpec.ofChange fnExactFindAttrWrong)

/-- 'laws.FnExactOffsetOf': WHATEVER THE INPUT: true; the input reads as it did. -/
def fnExactOffsetOfSpec : ChangeSpec := { name := "fnExactOffsetOf", fn := fun _ => fun
  | [d1, d2] => { results := [.lit (.bool true)], args := [d1, d2] }
  | _ => none }
def fnExactOffsetOfRow : OpenClaim := { program := "ythflehdboccloaa", sum := "14b8231bbd3763a92187c526a7edf4723593db525e354022bbaaa321010fd396", func := "loop.example/g00838/laws.FnExactOffsetOf", spec := "fnExactOffsetOf", recurses := true, apart := false }
def FnExactOffsetOfSaid : Prop := fnExactOffsetOfRow.holds Try.pinned (OpenSpec.ofChange fnExactOffsetOfSpec)

/-- ITS FALSE NEIGHBOUR: 'it returns false'. Refute it at one input. -/
def fnExactOffsetOfWrong : ChangeSpec := { name := "fnExactOffsetOf", fn := fun _ => fun
  | [d1, d2] => { results := [.lit (.bool false)], args := [d1, d2] }
  | _ => none }
def FnExactOffsetOfWrongFalsely : Prop := fnExactOffsetOfRow.holds Try.pinned (OpenSpec.ofChange fnExactOffsetOfWrong)

/-- 'laws.FnExactDropAttr': WHATEVER THE INPUT: true; the input reads as it did. -/
def fnExactDropAttrSpec : ChangeSpec := { name := "fnExactDropAttr", fn := fun _ => fun
  | [d1, d2] => { results := [.lit (.bool true)], args := [d1, d2] }
  | _ => none }
def fnExactDropAttrRow : OpenClaim := { program := "ythflehdboccloaa", sum := "14b8231bbd3763a92187c526a7edf4723593db525e354022bbaaa321010fd396", func := "loop.example/g00838/laws.FnExactDropAttr", spec := "fnExactDropAttr", apart := false }
def FnExactDropAttrSaid : Prop := fnExactDropAttrRow.holds Try.pinned (OpenSpec.ofChange fnExactDropAttrSpec)

/-- ITS FALSE NEIGHBOUR: 'it returns false'. Refute it at one input. -/
def fnExactDropAttrWrong : ChangeSpec := { name := "fnExactDropAttr", fn := fun _ => fun
  | [d1, d2] => { results := [.lit (.bool false)], args := [d1, d2] }
  | _ => none }
def FnExactDropAttrWrongFalsely : Prop := fnExactDropAttrRow.holds Try.pinned (OpenSpec.ofChange fnExactDropAttrWrong)

/-- 'laws.FnExactWrapAttrs': WHATEVER THE INPUT: true; the input reads as it did. -/
def fnExactWrapAttrsSpec : ChangeSpec := { name := "fnExactWrapAttrs", fn := fun _ => fun
  | [d1, d2] => { results := [.lit (.bool true)], args := [d1, d2] }
  | _ => none }
def fnExactWrapAttrsRow : OpenClaim := { program := "ythflehdboccloaa", sum := "14b8231bbd3763a92187c526a7edf4723593db525e354022bbaaa321010fd396", func := "loop.example/g00838/laws.FnExactWrapAttrs", spec := "fnExactWrapAttrs", apart := false }
def FnExactWrapAttrsSaid : Prop := fnExactWrapAttrsRow.holds Try.pinned (OpenSpec.ofChange fnExactWrapAttrsSpec)

/-- ITS FALSE NEIGHBOUR: 'it returns false'. Refute it at one input. -/
def fnExactWrapAttrsWrong : ChangeSpec := { name := "fnExactWrapAttrs", fn := fun _ => fun
  | [d1, d2] => { results := [.lit (.bool false)], args := [d1, d2] }
  | _ => none }
def FnExactWrapAttrsWrongFalsely : Prop := fnExactWrapAttrsRow.holds Try.pinned (OpenSpec.ofChange fnExactWrapAttrsWrong)

/- THE SECOND FORM. 'bulk': how many values and letters a reading holds, each counted each time it is reached (what is shared counts as often as it is met; a slice's spare places count too). A statement '..UptoSaid' is the law's where the arguments, and the package variables that the reading takes, are together of bulk at most 1048576: NARROWER than '..Said'. Prove '..Said' where nothing that the law and all that it calls make is longer than what came in: it says more and counts as full. Else prove '..UptoSaid'. A law counts once. -/
mutual
def uptoBulk {H : Type} : DataW H → Nat
  | .lit (.string bytes) => bytes.length + 1
  | .lit _ => 1
  | .nil => 1
  | .ptr d => uptoBulk d + 1
  | .slice elems spare => uptoBulkAll elems + uptoBulkAll spare + 1
  | .agg parts => uptoBulkAll parts + 1
  | .iface _ d => uptoBulk d + 1
  | .map entries => uptoBulkEntries entries + 1
  | .held _ => 1
def uptoBulkAll {H : Type} : List (DataW H) → Nat
  | [] => 0
  | d :: r => uptoBulk d + uptoBulkAll r
def uptoBulkEntries {H : Type} : List (Lit × DataW H) → Nat
  | [] => 0
  | x :: r => uptoBulkEntry x + uptoBulkEntries r
def uptoBulkEntry {H : Type} : Lit × DataW H → Nat
  | (.string bytes, d) => bytes.length + uptoBulk d + 1
  | (_, d) => uptoBulk d + 1
 end
def uptoSmall : (H : Type) → List (DataW H) → Bool := fun _ ds => decide (uptoBulkAll ds ≤ 1048576)
def OpenSpec.upto (s : _root_.Go.ChangeSpec) : _root_.Go.OpenSpec := { _root_.Go.OpenSpec.ofChange s with cond := some uptoSmall }

/-- 'laws.FnExactAreAttrs', WHERE WHAT IT READS IS OF BULK AT MOST 1048576: true; the input reads as it did. -/
def fnExactAreAttrsUptoRow : OpenClaim := { program := "ythflehdboccloaa", sum := "14b8231bbd3763a92187c526a7edf4723593db525e354022bbaaa321010fd396", func := "loop.example/g00838/laws.FnExactAreAttrs", spec := "fnExactAreAttrs", apart := false, narrowed := true }
def FnExactAreAttrsUptoSaid : Prop := fnExactAreAttrsUptoRow.holds Try.pinned (OpenSpec.upto fnExactAreAttrsSpec)

/-- 'laws.FnExactEncodeAttrs', WHERE WHAT IT READS IS OF BULK AT MOST 1048576: true; the input reads as it did. -/
def fnExactEncodeAttrsUptoRow : OpenClaim := { program := "ythflehdboccloaa", sum := "14b8231bbd3763a92187c526a7edf4723593db525e354022bbaaa321010fd396", func := "loop.example/g00838/laws.FnExactEncodeAttrs", spec := "fnExactEncodeAttrs", recurses := true, apart := false, narrowed := true }
def FnExactEncodeAttrsUptoSaid : Prop := fnExactEncodeAttrsUptoRow.holds Try.pinned (OpenSpec.upto fnExactEncodeAttrsSpec)

/-- 'laws.FnExactDecodeAttrs', WHERE WHAT IT READS IS OF BULK AT MOST 1048576: true; the input reads as it did. -/
def fnExactDecodeAttrsUptoRow : OpenClaim := { program := "ythflehdboccloaa", sum := "14b8231bbd3763a92187c526a7edf4723593db525e354022bbaaa321010fd396", func := "loop.example/g00838/laws.FnExactDecodeAttrs", spec := "fnExactDecodeAttrs", unfollowed := true, recurses := true, apart := false, narrowed := true }
def FnExactDecodeAttrsUptoSaid : Prop := fnExactDecodeAttrsUptoRow.holds Try.pinned (OpenSpec.upto fnExactDecodeAttrsSpec)

/-- 'laws.FnExactSizeOf', WHERE WHAT IT READS IS OF BULK AT MOST 1048576: true; the input reads as it did. -/
def fnExactSizeOfUptoRow : OpenClaim := { program := "ythflehdboccloaa", sum := "14b8231bbd3763a92187c526a7edf4723593db525e354022bbaaa321010fd396", func := "loop.example/g00838/laws.FnExactSizeOf", spec := "fnExactSizeOf", recurses := true, apart := false, narrowed := true }
def FnExactSizeOfUptoSaid : Prop := fnExactSizeOfUptoRow.holds Try.pinned (OpenSpec.upto fnExactSizeOfSpec)

/-- 'laws.FnExactEndOfAttr', WHERE WHAT IT READS IS OF BULK AT MOST 1048576: true; the input reads as it did. -/
def fnExactEndOfAttrUptoRow : OpenClaim := { program := "ythflehdboccloaa", sum := "14b8231bbd3763a92187c526a7edf4723593db525e354022bbaaa321010fd396", func := "loop.example/g00838/laws.FnExactEndOfAttr", spec := "fnExactEndOfAttr", apart := false, narrowed := true }
def FnExactEndOfAttrUptoSaid : Prop := fnExactEndOfAttrUptoRow.holds Try.pinned (OpenSpec.upto fnExactEndOfAttrSpec)

/-- 'laws.FnExactChildrenOf', WHERE WHAT IT READS IS OF BULK AT MOST 1048576: true; the input reads as it did. -/
def fnExactChildrenOfUptoRow : OpenClaim := { program := "ythflehdboccloaa", sum := "14b8231bbd3763a92187c526a7edf4723593db525e354022bbaaa321010fd396", func := "loop.example/g00838/laws.FnExactChildrenOf", spec := "fnExactChildrenOf", apart := false, narrowed := true }
def FnExactChildrenOfUptoSaid : Prop := fnExactChildrenOfUptoRow.holds Try.pinned (OpenSpec.upto fnExactChildrenOfSpec)

/-- 'laws.FnExactParentOf', WHERE WHAT IT READS IS OF BULK AT MOST 1048576: true; the input reads as it did. -/
def fnExactParentOfUptoRow : OpenClaim := { program := "ythflehdboccloaa", sum := "14b8231bbd3763a92187c526a7edf4723593db525e354022bbaaa321010fd396", func := "loop.example/g00838/laws.FnExactParentOf", spec := "fnExactParentOf", apart := false, narrowed := true }
def FnExactParentOfUptoSaid : Prop := fnExactParentOfUptoRow.holds Try.pinned (OpenSpec.upto fnExactParentOfSpec)

/-- 'laws.FnExactFindAttr', WHERE WHAT IT READS IS OF BULK AT MOST 1048576: true; the input reads as it did. -/
def fnExactFindAttrUptoRow : OpenClaim := { program := "ythflehdboccloaa", sum := "14b8231bbd3763a92187c526a7edf4723593db525e354022bbaaa321010fd396", func := "loop.example/g00838/laws.FnExactFindAttr", spec := "fnExactFindAttr", apart := false, narrowed := true }
def FnExactFindAttrUptoSaid : Prop := fnExactFindAttrUptoRow.holds Try.pinned (OpenSpec.upto fnExactFindAttrSpec)

/-- 'laws.FnExactOffsetOf', WHERE WHAT IT READS IS OF BULK AT MOST 1048576: true; the input reads as it did. -/
def fnExactOffsetOfUptoRow : OpenClaim := { program := "ythflehdboccloaa", sum := "14b8231bbd3763a92187c526a7edf4723593db525e354022bbaaa321010fd396", func := "loop.example/g00838/laws.FnExactOffsetOf", spec := "fnExactOffsetOf", recurses := true, apart := false, narrowed := true }
def FnExactOffsetOfUptoSaid : Prop := fnExactOffsetOfUptoRow.holds Try.pinned (OpenSpec.upto fnExactOffsetOfSpec)

/-- 'laws.FnExactDropAttr', WHERE WHAT IT READS IS OF BULK AT MOST 1048576: true; the input reads as it did. -/
def fnExactDropAttrUptoRow : OpenClaim := { program := "ythflehdboccloaa", sum := "14b8231bbd3763a92187c526a7edf4723593db525e354022bbaaa321010fd396", func := "loop.example/g00838/laws.FnExactDropAttr", spec := "fnExactDropAttr", apart := false, narrowed := true }
def FnExactDropAttrUptoSaid : Prop := fnExactDropAttrUptoRow.holds Try.pinned (OpenSpec.upto fnExactDropAttrSpec)

/-- 'laws.FnExactWrapAttrs', WHERE WHAT IT READS IS OF BULK AT MOST 1048576: true; the input reads as it did. -/
def fnExactWrapAttrsUptoRow : OpenClaim := { program := "ythflehdboccloaa", sum := "14b8231bbd3763a92187c526a7edf4723593db525e354022bbaaa321010fd396", func := "loop.example/g00838/laws.FnExactWrapAttrs", spec := "fnExactWrapAttrs", apart := false, narrowed := true }
def FnExactWrapAttrsUptoSaid : Prop := fnExactWrapAttrsUptoRow.holds Try.pinned (OpenSpec.upto fnExactWrapAttrsSpec)

end Rows
end Go.Proofs.Ythflehdboccloaa
