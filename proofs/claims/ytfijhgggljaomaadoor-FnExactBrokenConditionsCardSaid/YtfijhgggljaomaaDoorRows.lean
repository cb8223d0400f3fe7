/-
  NARROWER THAN 'FOR EVERY INPUT', by the rows' own cells (each row's printed sentence says how): FnExactConditionHolds: laid · FnExactBrokenConditions: laid.
  DERIVED. THE GIVEN ROWS OF THIS SEAT. 2 by the template 'for every input the law returns true; each argument reads behind the call as it read before'; 0 by the template 'total and deterministic' (their statements: YtfijhgggljaomaaDoorTotals.lean).
  GIVEN WITH THE SEED: the statements are not yours to turn. If you find one false, say at which input.
  Laid BY PROGRAM, IN A SANDBOX (cutbox-rows.mjs): the forced cells as the released guide's own fill.sh prints them over the translation 633cfcdee459b72b… (all of the seat's roots in one cut). By AI agents, Wed Nov 11 2026. No macro, syntax, notation, axiom, sorry.
-/
import Derived.Test.YtfijhgggljaomaaDoorChecked
import GoSem.Claim
import GoSem.ClaimJoined
import GoSem.ClaimMapViews
import Derived.JoinedTies
import Derived.KernelRfl
namespace Go.Proofs.YtfijhgggljaomaaDoor
/- THE CELL 'sum', in the pinned program and in every row, IS THE sha256 OF THE DUMP (.gsa) THAT YtfijhgggljaomaaDoorProg.lean LOADS. Nothing in Lean hashes anything: it is a label: what it is worth is what the hold of that sum in a sandbox is worth. -/
noncomputable def Tryd.pinned : Pinned := { name := "ytfijhgggljaomaadoor", sum := "633cfcdee459b72bc3d503e73275f6a496c9ff92cbaedbff97f3e2ed31c35b87", checked := Tryd.checked }
namespace Rows
def none {H : Type} : Left H := { results := [], args := [] }

/- WHAT THE LISTED PACKAGE-LEVEL VARIABLES READ AS WHEN THE CALL BEGINS. Each datum BY PROGRAM (the guide's laid-datum.mjs) off the statement by which the dump's own 'gosem.cut.vars' lays the variable. In a bare row this is a premise. The card (YtfijhgggljaomaaDoorCards.lean) ties it to the program's text. -/
def laid_loop_example_g00838_impl_keyWords {H : Type} : DataW H := .agg [.lit (.string [113, 100, 105, 115, 99]), .lit (.string [100, 101, 102, 97, 117, 108, 116]), .lit (.string [99, 108, 97, 115, 115]), .lit (.string [114, 97, 116, 101]), .lit (.string [99, 101, 105, 108]), .lit (.string [98, 117, 114, 115, 116]), .lit (.string [99, 98, 117, 114, 115, 116]), .lit (.string [112, 114, 105, 111]), .lit (.string [108, 105, 109, 105, 116]), .lit (.string [102, 105, 108, 116, 101, 114]), .lit (.string [115, 111, 117, 114, 99, 101]), .lit (.string [100, 101, 115, 116]), .lit (.string [112, 111, 114, 116]), .lit (.string [109, 97, 114, 107])]

/-- 'laws.FnExactConditionHolds': WHATEVER THE INPUT: true; the input reads as it did. -/
def fnExactConditionHoldsSpec : ChangeSpec := { name := "fnExactConditionHolds", vars := ["loop.example/g00838/impl.keyWords"], fn := fun _ => fun
  | [d1, d2, g1] => { results := [.lit (.bool true)], args := [d1, d2], vars := [g1] }
  | _ => none }
def fnExactConditionHoldsRow : OpenClaim := { program := "ytfijhgggljaomaadoor", sum := "633cfcdee459b72bc3d503e73275f6a496c9ff92cbaedbff97f3e2ed31c35b87", func := "loop.example/g00838/laws.FnExactConditionHolds", spec := "fnExactConditionHolds", unfollowed := true, recurses := true, named := ["loop.example/g00838/impl.keyWords"], apart := false, laid := [("loop.example/g00838/impl.keyWords", laid_loop_example_g00838_impl_keyWords)] }
def FnExactConditionHoldsSaid : Prop := fnExactConditionHoldsRow.holds Tryd.pinned (OpenSpec.ofChange fnExactConditionHoldsSpec)

/-- ITS FALSE NEIGHBOUR: 'it returns false'. Refute it at one input. -/
def fnExactConditionHoldsWrong : ChangeSpec := { name := "fnExactConditionHolds", vars := ["loop.example/g00838/impl.keyWords"], fn := fun _ => fun
  | [d1, d2, g1] => { results := [.lit (.bool false)], args := [d1, d2], vars := [g1] }
  | _ => none }
def FnExactConditionHoldsWrongFalsely : Prop := fnExactConditionHoldsRow.holds Tryd.pinned (OpenSpec.ofChange fnExactConditionHoldsWrong)

/-- 'laws.FnExactBrokenConditions': WHATEVER THE INPUT: true; the input reads as it did. -/
def fnExactBrokenConditionsSpec : ChangeSpec := { name := "fnExactBrokenConditions", vars := ["loop.example/g00838/impl.keyWords"], fn := fun _ => fun
  | [d, g1] => { results := [.lit (.bool true)], args := [d], vars := [g1] }
  | _ => none }
def fnExactBrokenConditionsRow : OpenClaim := { program := "ytfijhgggljaomaadoor", sum := "633cfcdee459b72bc3d503e73275f6a496c9ff92cbaedbff97f3e2ed31c35b87", func := "loop.example/g00838/laws.FnExactBrokenConditions", spec := "fnExactBrokenConditions", unfollowed := true, recurses := true, named := ["loop.example/g00838/impl.keyWords"], apart := false, laid := [("loop.example/g00838/impl.keyWords", laid_loop_example_g00838_impl_keyWords)] }
def FnExactBrokenConditionsSaid : Prop := fnExactBrokenConditionsRow.holds Tryd.pinned (OpenSpec.ofChange fnExactBrokenConditionsSpec)

/-- ITS FALSE NEIGHBOUR: 'it returns false'. Refute it at one input. -/
def fnExactBrokenConditionsWrong : ChangeSpec := { name := "fnExactBrokenConditions", vars := ["loop.example/g00838/impl.keyWords"], fn := fun _ => fun
  | [d, g1] => { results := [.lit (.bool false)], args := [d], vars := [g1] }
  | _ => none }
def FnExactBrokenConditionsWrongFalsely : Prop := fnExactBrokenConditionsRow.holds Tryd.pinned (OpenSpec.ofChange fnExactBrokenConditionsWrong)

/- THE SECOND FORM. 'bulk': how many values and letters a reading holds, each counted each time it is reached (what is shared counts as often as it is met; a slice's spare places count too). A statement '..UptoSaid' is the law's where the arguments, and the package variables that the reading takes, are together of bulk at most 1048576: NARROWER than '..Said'. Prove '..Said' where nothing that the law and all that it calls make is longer than what came in: it says more and counts as full. Else prove '..UptoSaid'. A law counts once. -/
mutual
def uptoBulk {H : Type} : DataW H → Nat
  | .lit (.string bytes) => bytes.length + 1
  | .lit _ => 1
  | .nil => 1
  | .ptr d => uptoBulk d + 1
  | .slice elems spare => uptoBulkAll elems + uptoBulkAll spare + 1
  | .agg parts => uptoBulkAll parts + 1
  | .iface _ d => uptoBulk d + 1
  | .map entries => uptoBulkEntries entries + 1
  | .held _ => 1
def uptoBulkAll {H : Type} : List (DataW H) → Nat
  | [] => 0
  | d :: r => uptoBulk d + uptoBulkAll r
def uptoBulkEntries {H : Type} : List (Lit × DataW H) → Nat
  | [] => 0
  | x :: r => uptoBulkEntry x + uptoBulkEntries r
def uptoBulkEntry {H : Type} : Lit × DataW H → Nat
  | (.string bytes, d) => bytes.length + uptoBulk d + 1
  | (_, d) => uptoBulk d + 1
 end
def uptoSmall : (H : Type) → List (DataW H) → Bool := fun _ ds => decide (uptoBulkAll ds ≤ 1048576)
def OpenSpec.upto (s : _root_.Go.ChangeSpec) : _root_.Go.OpenSpec := { _root_.Go.OpenSpec.ofChange s with cond := some uptoSmall }

/-- 'laws.FnExactConditionHolds', WHERE WHAT IT READS IS OF BULK AT MOST 1048576: true; the input reads as it did. -/
def fnExactConditionHoldsUptoRow : OpenClaim := { program := "ytfijhgggljaomaadoor", sum := "633cfcdee459b72bc3d503e73275f6a496c9ff92cbaedbff97f3e2ed31c35b87", func := "loop.example/g00838/laws.FnExactConditionHolds", spec := "fnExactConditionHolds", unfollowed := true, recurses := true, named := ["loop.example/g00838/impl.keyWords"], apart := false, laid := [("loop.example/g00838/impl.keyWords", laid_loop_example_g00838_impl_keyWords)], narrowed := true }
def FnExactConditionHoldsUptoSaid : Prop := fnExactConditionHoldsUptoRow.holds Tryd.pinned (OpenSpec.upto fnExactConditionHoldsSpec)

/-- 'laws.FnExactBrokenConditions', WHERE WHAT IT READS IS OF BULK AT MOST 1048576: true; the input reads as it did. -/
def fnExactBrokenConditionsUptoRow : OpenClaim := { program := "ytfijhgggljaomaadoor", sum := "633cfcdee459b72bc3d503e73275f6a496c9ff92cbaedbff97f3e2ed31c35b87", func := "loop.example/g00838/laws.FnExactBrokenConditions", spec := "fnExactBrokenConditions", unfollowed := true, recurses := true, named := ["loop.example/g00838/impl.keyWords"], apart := false, laid := [("loop.example/g00838/impl.keyWords", laid_loop_example_g00838_impl_keyWords)], narrowed := true }
def FnExactBrokenConditionsUptoSaid : Prop := fnExactBrokenConditionsUptoRow.holds Tryd.pinned (OpenSpec.upto fnExactBrokenConditionsSpec)

end Rows
end Go.Proofs.YtfijhgggljaomaaDoor
