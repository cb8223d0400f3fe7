/-
  NARROWER THAN 'FOR EVERY INPUT', by the rows' own cells (each row's printed sentence says how): FnExactIsConfig: laid · FnExactFindClass: laid · FnExactTopOf: laid · FnExactChildClasses: laid · FnExactLeavesOf: laid · FnExactWayUp: laid · FnExactIsBelow: laid · FnExactSpareRate: laid · FnExactAddClass: laid · FnExactDropClass: laid · FnExactSetLimit: laid.
  DERIVED. THE GIVEN ROWS OF THIS SEAT. 11 by the template 'for every input the law returns true; each argument reads behind the call as it read before'; 0 by the template 'total and deterministic' (their statements: YtfniajfhcifcbaaDoorTotals.lean).
  GIVEN WITH THE SEED: the statements are not yours to turn. If you find one false, say at which input.
  Laid BY PROGRAM, IN A SANDBOX (cutbox-rows.mjs): the forced cells as the released guide's own fill.sh prints them over the translation 42cc886bcb6f94d7… (all of the seat's roots in one cut). By AI agents, Wed Nov 11 2026. No macro, syntax, notation, axiom, sorry.
-/
import Derived.Test.YtfniajfhcifcbaaDoorChecked
import GoSem.Claim
import GoSem.ClaimJoined
import GoSem.ClaimMapViews
import Derived.JoinedTies
import Derived.KernelRfl
namespace Go.Proofs.YtfniajfhcifcbaaDoor
/- THE CELL 'sum', in the pinned program and in every row, IS THE sha256 OF THE DUMP (.gsa) THAT YtfniajfhcifcbaaDoorProg.lean LOADS. Nothing in Lean hashes anything: it is a label: what it is worth is what the hold of that sum in a sandbox is worth. -/
noncomputable def Tryd.pinned : Pinned := { name := "ytfniajfhcifcbaadoor", sum := "42cc886bcb6f94d703e427f8326e19b6d8bd442b8783274d76cd7e388fce8078", checked := Tryd.checked }
namespace Rows
def none {H : Type} : Left H := { results := [], args := [] }

/- WHAT THE LISTED PACKAGE-LEVEL VARIABLES READ AS WHEN THE CALL BEGINS. Each datum BY PROGRAM (the guide's laid-datum.mjs) off the statement by which the dump's own 'gosem.cut.vars' lays the variable. In a bare row this is a premise. The card (YtfniajfhcifcbaaDoorCards.lean) ties it to the program's text. -/
def laid_loop_example_g00838_impl_keyWords {H : Type} : DataW H := .agg [.lit (.string [113, 100, 105, 115, 99]), .lit (.string [100, 101, 102, 97, 117, 108, 116]), .lit (.string [99, 108, 97, 115, 115]), .lit (.string [114, 97, 116, 101]), .lit (.string [99, 101, 105, 108]), .lit (.string [98, 117, 114, 115, 116]), .lit (.string [99, 98, 117, 114, 115, 116]), .lit (.string [112, 114, 105, 111]), .lit (.string [108, 105, 109, 105, 116]), .lit (.string [102, 105, 108, 116, 101, 114]), .lit (.string [115, 111, 117, 114, 99, 101]), .lit (.string [100, 101, 115, 116]), .lit (.string [112, 111, 114, 116]), .lit (.string [109, 97, 114, 107])]

/-- 'laws.FnExactIsConfig': WHATEVER THE INPUT: true; the input reads as it did. -/
def fnExactIsConfigSpec : ChangeSpec := { name := "fnExactIsConfig", vars := ["loop.example/g00838/impl.keyWords"], fn := fun _ => fun
  | [d, g1] => { results := [.lit (.bool true)], args := [d], vars := [g1] }
  | _ => none }
def fnExactIsConfigRow : OpenClaim := { program := "ytfniajfhcifcbaadoor", sum := "42cc886bcb6f94d703e427f8326e19b6d8bd442b8783274d76cd7e388fce8078", func := "loop.example/g00838/laws.FnExactIsConfig", spec := "fnExactIsConfig", unfollowed := true, recurses := true, named := ["loop.example/g00838/impl.keyWords"], apart := false, laid := [("loop.example/g00838/impl.keyWords", laid_loop_example_g00838_impl_keyWords)] }
def FnExactIsConfigSaid : Prop := fnExactIsConfigRow.holds Tryd.pinned (OpenSpec.ofChange fnExactIsConfigSpec)

/-- ITS FALSE NEIGHBOUR: 'it returns false'. Refute it at one input. -/
def fnExactIsConfigWrong : ChangeSpec := { name := "fnExactIsConfig", vars := ["loop.example/g00838/impl.keyWords"], fn := fun _ => fun
  | [d, g1] => { results := [.lit (.bool false)], args := [d], vars := [g1] }
  | _ => none }
def FnExactIsConfigWrongFalsely : Prop := fnExactIsConfigRow.holds Tryd.pinned (OpenSpec.ofChange fnExactIsConfigWrong)

/-- 'laws.FnExactFindClass': WHATEVER THE INPUT: true; the input reads as it did. -/
def fnExactFindClassSpec : ChangeSpec := { name := "fnExactFindClass", vars := ["loop.example/g00838/impl.keyWords"], fn := fun _ => fun
  | [d1, d2, g1] => { results := [.lit (.bool true)], args := [d1, d2], vars := [g1] }
  | _ => none }
def fnExactFindClassRow : OpenClaim := { program := "ytfniajfhcifcbaadoor", sum := "42cc886bcb6f94d703e427f8326e19b6d8bd442b8783274d76cd7e388fce8078", func := "loop.example/g00838/laws.FnExactFindClass", spec := "fnExactFindClass", unfollowed := true, recurses := true, named := ["loop.example/g00838/impl.keyWords"], apart := false, laid := [("loop.example/g00838/impl.keyWords", laid_loop_example_g00838_impl_keyWords)] }
def FnExactFindClassSaid : Prop := fnExactFindClassRow.holds Tryd.pinned (OpenSpec.ofChange fnExactFindClassSpec)

/-- ITS FALSE NEIGHBOUR: 'it returns false'. Refute it at one input. -/
def fnExactFindClassWrong : ChangeSpec := { name := "fnExactFindClass", vars := ["loop.example/g00838/impl.keyWords"], fn := fun _ => fun
  | [d1, d2, g1] => { results := [.lit (.bool false)], args := [d1, d2], vars := [g1] }
  | _ => none }
def FnExactFindClassWrongFalsely : Prop := fnExactFindClassRow.holds Tryd.pinned (OpenSpec.ofChange fnExactFindClassWrong)

/-- 'laws.FnExactTopOf': WHATEVER THE INPUT: true; the input reads as it did. -/
def fnExactTopOfSpec : ChangeSpec := { name := "fnExactTopOf", vars := ["loop.example/g00838/impl.keyWords"], fn := fun _ => fun
  | [d, g1] => { results := [.lit (.bool true)], args := [d], vars := [g1] }
  | _ => none }
def fnExactTopOfRow : OpenClaim := { program := "ytfniajfhcifcbaadoor", sum := "42cc886bcb6f94d703e427f8326e19b6d8bd442b8783274d76cd7e388fce8078", func := "loop.example/g00838/laws.FnExactTopOf", spec := "fnExactTopOf", unfollowed := true, recurses := true, named := ["loop.example/g00838/impl.keyWords"], apart := false, laid := [("loop.example/g00838/impl.keyWords", laid_loop_example_g00838_impl_keyWords)] }
def FnExactTopOfSaid : Prop := fnExactTopOfRow.holds Tryd.pinned (OpenSpec.ofChange fnExactTopOfSpec)

/-- ITS FALSE NEIGHBOUR: 'it returns false'. Refute it at one input. -/
def fnExactTopOfWrong : ChangeSpec := { name := "fnExactTopOf", vars := ["loop.example/g00838/impl.keyWords"], fn := fun _ => fun
  | [d, g1] => { results := [.lit (.bool false)], args := [d], vars := [g1] }
  | _ => none }
def FnExactTopOfWrongFalsely : Prop := fnExactTopOfRow.holds Tryd.pinned (OpenSpec.ofChange fnExactTopOfWrong)

/-- 'laws.FnExactChildClasses': WHATEVER THE INPUT: true; the input reads as it did. -/
def fnExactChildClassesSpec : ChangeSpec := { name := "fnExactChildClasses", vars := ["loop.example/g00838/impl.keyWords"], fn := fun _ => fun
  | [d1, d2, g1] => { results := [.lit (.bool true)], args := [d1, d2], vars := [g1] }
  | _ => none }
def fnExactChildClassesRow : OpenClaim := { program := "ytfniajfhcifcbaadoor", sum := "42cc886bcb6f94d703e427f8326e19b6d8bd442b8783274d76cd7e388fce8078", func := "loop.example/g00838/laws.FnExactChildClasses", spec := "fnExactChildClasses", unfollowed := true, recurses := true, named := ["loop.example/g00838/impl.keyWords"], apart := false, laid := [("loop.example/g00838/impl.keyWords", laid_loop_example_g00838_impl_keyWords)] }
def FnExactChildClassesSaid : Prop := fnExactChildClassesRow.holds Tryd.pinned (OpenSpec.ofChange fnExactChildClassesSpec)

/-- ITS FALSE NEIGHBOUR: 'it returns false'. Refute it at one input. -/
def fnExactChildClassesWrong : ChangeSpec := { name := "fnExactChildClasses", vars := ["loop.example/g00838/impl.keyWords"], fn := fun _ => fun
  | [d1, d2, g1] => { results := [.lit (.bool false)], args := [d1, d2], vars := [g1] }
  | _ => none }
def FnExactChildClassesWrongFalsely : Prop := fnExactChildClassesRow.holds Tryd.pinned (OpenSpec.ofChange fnExactChildClassesWrong)

/-- 'laws.FnExactLeavesOf': WHATEVER THE INPUT: true; the input reads as it did. -/
def fnExactLeavesOfSpec : ChangeSpec := { name := "fnExactLeavesOf", vars := ["loop.example/g00838/impl.keyWords"], fn := fun _ => fun
  | [d, g1] => { results := [.lit (.bool true)], args := [d], vars := [g1] }
  | _ => none }
def fnExactLeavesOfRow : OpenClaim := { program := "ytfniajfhcifcbaadoor", sum := "42cc886bcb6f94d703e427f8326e19b6d8bd442b8783274d76cd7e388fce8078", func := "loop.example/g00838/laws.FnExactLeavesOf", spec := "fnExactLeavesOf", unfollowed := true, recurses := true, named := ["loop.example/g00838/impl.keyWords"], apart := false, laid := [("loop.example/g00838/impl.keyWords", laid_loop_example_g00838_impl_keyWords)] }
def FnExactLeavesOfSaid : Prop := fnExactLeavesOfRow.holds Tryd.pinned (OpenSpec.ofChange fnExactLeavesOfSpec)

/-- ITS FALSE NEIGHBOUR: 'it returns false'. Refute it at one input. -/
def fnExactLeavesOfWrong : ChangeSpec := { name := "fnExactLeavesOf", vars := ["loop.example/g00838/impl.keyWords"], fn := fun _ => fun
  | [d, g1] => { results := [.lit (.bool false)], args := [d], vars := [g1] }
  | _ => none }
def FnExactLeavesOfWrongFalsely : Prop := fnExactLeavesOfRow.holds Tryd.pinned (OpenSpec.ofChange fnExactLeavesOfWrong)

/-- 'laws.FnExactWayUp': WHATEVER THE INPUT: true; the input reads as it did. -/
def fnExactWayUpSpec : ChangeSpec := { name := "fnExactWayUp", vars := ["loop.example/g00838/impl.keyWords"], fn := fun _ => fun
  | [d1, d2, g1] => { results := [.lit (.bool true)], args := [d1, d2], vars := [g1] }
  | _ => none }
def fnExactWayUpRow : OpenClaim := { program := "ytfniajfhcifcbaadoor", sum := "42cc886bcb6f94d703e427f8326e19b6d8bd442b8783274d76cd7e388fce8078", func := "loop.example/g00838/laws.FnExactWayUp", spec := "fnExactWayUp", unfollowed := true, recurses := true, named := ["loop.example/g00838/impl.keyWords"], apart := false, laid := [("loop.example/g00838/impl.keyWords", laid_loop_example_g00838_impl_keyWords)] }
def FnExactWayUpSaid : Prop := fnExactWayUpRow.holds Tryd.pinned (OpenSpec.ofChange fnExactWayUpSpec)

/-- ITS FALSE NEIGHBOUR: 'it returns false'. Refute it at one input. -/
def fnExactWayUpWrong : ChangeSpec := { name := "fnExactWayUp", vars := ["loop.example/g00838/impl.keyWords"], fn := fun _ => fun
  | [d1, d2, g1] => { results := [.lit (.bool false)], args := [d1, d2], vars := [g1] }
  | _ => none }
def FnExactWayUpWrongFalsely : Prop := fnExactWayUpRow.holds Tryd.pinned (OpenSpec.ofChange fnExactWayUpWrong)

/-- 'laws.FnExactIsBelow': WHATEVER THE INPUT: true; the input reads as it did. -/
def fnExactIsBelowSpec : ChangeSpec := { name := "fnExactIsBelow", vars := ["loop.example/g00838/impl.keyWords"], fn := fun _ => fun
  | [d1, d2, d3, g1] => { results := [.lit (.bool true)], args := [d1, d2, d3], vars := [g1] }
  | _ => none }
def fnExactIsBelowRow : OpenClaim := { program := "ytfniajfhcifcbaadoor", sum := "42cc886bcb6f94d703e427f8326e19b6d8bd442b8783274d76cd7e388fce8078", func := "loop.example/g00838/laws.FnExactIsBelow", spec := "fnExactIsBelow", unfollowed := true, recurses := true, named := ["loop.example/g00838/impl.keyWords"], apart := false, laid := [("loop.example/g00838/impl.keyWords", laid_loop_example_g00838_impl_keyWords)] }
def FnExactIsBelowSaid : Prop := fnExactIsBelowRow.holds Tryd.pinned (OpenSpec.ofChange fnExactIsBelowSpec)

/-- ITS FALSE NEIGHBOUR: 'it returns false'. Refute it at one input. -/
def fnExactIsBelowWrong : ChangeSpec := { name := "fnExactIsBelow", vars := ["loop.example/g00838/impl.keyWords"], fn := fun _ => fun
  | [d1, d2, d3, g1] => { results := [.lit (.bool false)], args := [d1, d2, d3], vars := [g1] }
  | _ => none }
def FnExactIsBelowWrongFalsely : Prop := fnExactIsBelowRow.holds Tryd.pinned (OpenSpec.ofChange fnExactIsBelowWrong)

/-- 'laws.FnExactSpareRate': WHATEVER THE INPUT: true; the input reads as it did. -/
def fnExactSpareRateSpec : ChangeSpec := { name := "fnExactSpareRate", vars := ["loop.example/g00838/impl.keyWords"], fn := fun _ => fun
  | [d1, d2, g1] => { results := [.lit (.bool true)], args := [d1, d2], vars := [g1] }
  | _ => none }
def fnExactSpareRateRow : OpenClaim := { program := "ytfniajfhcifcbaadoor", sum := "42cc886bcb6f94d703e427f8326e19b6d8bd442b8783274d76cd7e388fce8078", func := "loop.example/g00838/laws.FnExactSpareRate", spec := "fnExactSpareRate", unfollowed := true, recurses := true, named := ["loop.example/g00838/impl.keyWords"], apart := false, laid := [("loop.example/g00838/impl.keyWords", laid_loop_example_g00838_impl_keyWords)] }
def FnExactSpareRateSaid : Prop := fnExactSpareRateRow.holds Tryd.pinned (OpenSpec.ofChange fnExactSpareRateSpec)

/-- ITS FALSE NEIGHBOUR: 'it returns false'. Refute it at one input. -/
def fnExactSpareRateWrong : ChangeSpec := { name := "fnExactSpareRate", vars := ["loop.example/g00838/impl.keyWords"], fn := fun _ => fun
  | [d1, d2, g1] => { results := [.lit (.bool false)], args := [d1, d2], vars := [g1] }
  | _ => none }
def FnExactSpareRateWrongFalsely : Prop := fnExactSpareRateRow.holds Tryd.pinned (OpenSpec.ofChange fnExactSpareRateWrong)

/-- 'laws.FnExactAddClass': WHATEVER THE INPUT: true; the input reads as it did. -/
def fnExactAddClassSpec : ChangeSpec := { name := "fnExactAddClass", vars := ["loop.example/g00838/impl.keyWords"], fn := fun _ => fun
  | [d1, d2, g1] => { results := [.lit (.bool true)], args := [d1, d2], vars := [g1] }
  | _ => none }
def fnExactAddClassRow : OpenClaim := { program := "ytfniajfhcifcbaadoor", sum := "42cc886bcb6f94d703e427f8326e19b6d8bd442b8783274d76cd7e388fce8078", func := "loop.example/g00838/laws.FnExactAddClass", spec := "fnExactAddClass", inPlace := ["slices.overlaps[loop.example/g00838/impl.Class]"], unfollowed := true, recurses := true, named := ["loop.example/g00838/impl.keyWords"], apart := false, laid := [("loop.example/g00838/impl.keyWords", laid_loop_example_g00838_impl_keyWords)] }
def FnExactAddClassSaid : Prop := fnExactAddClassRow.holds Tryd.pinned (OpenSpec.ofChange fnExactAddClassSpec)

/-- ITS FALSE NEIGHBOUR: 'it returns false'. Refute it at one input. -/
def fnExactAddClassWrong : ChangeSpec := { name := "fnExactAddClass", vars := ["loop.example/g00838/impl.keyWords"], fn := fun _ => fun
  | [d1, d2, g1] => { results := [.lit (.bool false)], args := [d1, d2], vars := [g1] }
  | _ => none }
def FnExactAddClassWrongFalsely : Prop := fnExactAddClassRow.holds Tryd.pinned (OpenSpec.ofChange fnExactAddClassWrong)

/-- 'laws.FnExactDropClass': WHATEVER THE INPUT: true; the input reads as it did. -/
def fnExactDropClassSpec : ChangeSpec := { name := "fnExactDropClass", vars := ["loop.example/g00838/impl.keyWords"], fn := fun _ => fun
  | [d1, d2, g1] => { results := [.lit (.bool true)], args := [d1, d2], vars := [g1] }
  | _ => none }
def fnExactDropClassRow : OpenClaim := { program := "ytfniajfhcifcbaadoor", sum := "42cc886bcb6f94d703e427f8326e19b6d8bd442b8783274d76cd7e388fce8078", func := "loop.example/g00838/laws.FnExactDropClass", spec := "fnExactDropClass", unfollowed := true, recurses := true, named := ["loop.example/g00838/impl.keyWords"], apart := false, laid := [("loop.example/g00838/impl.keyWords", laid_loop_example_g00838_impl_keyWords)] }
def FnExactDropClassSaid : Prop := fnExactDropClassRow.holds Tryd.pinned (OpenSpec.ofChange fnExactDropClassSpec)

/-- ITS FALSE NEIGHBOUR: 'it returns false'. Refute it at one input. -/
def fnExactDropClassWrong : ChangeSpec := { name := "fnExactDropClass", vars := ["loop.example/g00838/impl.keyWords"], fn := fun _ => fun
  | [d1, d2, g1] => { results := [.lit (.bool false)], args := [d1, d2], vars := [g1] }
  | _ => none }
def FnExactDropClassWrongFalsely : Prop := fnExactDropClassRow.holds Tryd.pinned (OpenSpec.ofChange fnExactDropClassWrong)

/-- 'laws.FnExactSetLimit': WHATEVER THE INPUT: true; the input reads as it did. -/
def fnExactSetLimitSpec : ChangeSpec := { name := "fnExactSetLimit", vars := ["loop.example/g00838/impl.keyWords"], fn := fun _ => fun
  | [d1, d2, d3, g1] => { results := [.lit (.bool true)], args := [d1, d2, d3], vars := [g1] }
  | _ => none }
def fnExactSetLimitRow : OpenClaim := { program := "ytfniajfhcifcbaadoor", sum := "42cc886bcb6f94d703e427f8326e19b6d8bd442b8783274d76cd7e388fce8078", func := "loop.example/g00838/laws.FnExactSetLimit", spec := "fnExactSetLimit", unfollowed := true, recurses := true, named := ["loop.example/g00838/impl.keyWords"], apart := false, laid := [("loop.example/g00838/impl.keyWords", laid_loop_example_g00838_impl_keyWords)] }
def FnExactSetLimitSaid : Prop := fnExactSetLimitRow.holds Tryd.pinned (OpenSpec.ofChange fnExactSetLimitSpec)

/-- ITS FALSE NEIGHBOUR: 'it returns false'. Refute it at one input. -/
def fnExactSetLimitWrong : ChangeSpec := { name := "fnExactSetLimit", vars := ["loop.example/g00838/impl.keyWords"], fn := fun _ => fun
  | [d1, d2, d3, g1] => { results := [.lit (.bool false)], args := [d1, d2, d3], vars := [g1] }
  | _ => none }
def FnExactSetLimitWrongFalsely : Prop := fnExactSetLimitRow.holds Tryd.pinned (OpenSpec.ofChange fnExactSetLimitWrong)

/- THE SECOND FORM. 'bulk': how many values and letters a reading holds, each counted each time it is reached (what is shared counts as often as it is met; a slice's spare places count too). A statement '..UptoSaid' is the law's where the arguments, and the package variables that the reading takes, are together of bulk at most 1048576: NARROWER than '..Said'. Prove '..Said' where nothing that the law and all that it calls make is longer than what came in: it says more and counts as full. Else prove '..UptoSaid'. A law counts once. -/
mutual
def uptoBulk {H : Type} : DataW H → Nat
  | .lit (.string bytes) => bytes.length + 1
  | .lit _ => 1
  | .nil => 1
  | .ptr d => uptoBulk d + 1
  | .slice elems spare => uptoBulkAll elems + uptoBulkAll spare + 1
  | .agg parts => uptoBulkAll parts + 1
  | .iface _ d => uptoBulk d + 1
  | .map entries => uptoBulkEntries entries + 1
  | .held _ => 1
def uptoBulkAll {H : Type} : List (DataW H) → Nat
  | [] => 0
  | d :: r => uptoBulk d + uptoBulkAll r
def uptoBulkEntries {H : Type} : List (Lit × DataW H) → Nat
  | [] => 0
  | x :: r => uptoBulkEntry x + uptoBulkEntries r
def uptoBulkEntry {H : Type} : Lit × DataW H → Nat
  | (.string bytes, d) => bytes.length + uptoBulk d + 1
  | (_, d) => uptoBulk d + 1
 end
def uptoSmall : (H : Type) → List (DataW H) → Bool := fun _ ds => decide (uptoBulkAll ds ≤ 1048576)
def OpenSpec.upto (s : _root_.Go.ChangeSpec) : _root_.Go.OpenSpec := { _root_.Go.OpenSpec.ofChange s with cond := some uptoSmall }

/-- 'laws.FnExactIsConfig', WHERE WHAT IT READS IS OF BULK AT MOST 1048576: true; the input reads as it did. -/
def fnExactIsConfigUptoRow : OpenClaim := { program := "ytfniajfhcifcbaadoor", sum := "42cc886bcb6f94d703e427f8326e19b6d8bd442b8783274d76cd7e388fce8078", func := "loop.example/g00838/laws.FnExactIsConfig", spec := "fnExactIsConfig", unfollowed := true, recurses := true, named := ["loop.example/g00838/impl.keyWords"], apart := false, laid := [("loop.example/g00838/impl.keyWords", laid_loop_example_g00838_impl_keyWords)], narrowed := true }
def FnExactIsConfigUptoSaid : Prop := fnExactIsConfigUptoRow.holds Tryd.pinned (OpenSpec.upto fnExactIsConfigSpec)

/-- 'laws.FnExactFindClass', WHERE WHAT IT READS IS OF BULK AT MOST 1048576: true; the input reads as it did. -/
def fnExactFindClassUptoRow : OpenClaim := { program := "ytfniajfhcifcbaadoor", sum := "42cc886bcb6f94d703e427f8326e19b6d8bd442b8783274d76cd7e388fce8078", func := "loop.example/g00838/laws.FnExactFindClass", spec := "fnExactFindClass", unfollowed := true, recurses := true, named := ["loop.example/g00838/impl.keyWords"], apart := false, laid := [("loop.example/g00838/impl.keyWords", laid_loop_example_g00838_impl_keyWords)], narrowed := true }
def FnExactFindClassUptoSaid : Prop := fnExactFindClassUptoRow.holds Tryd.pinned (OpenSpec.upto fnExactFindClassSpec)

/-- 'laws.FnExactTopOf', WHERE WHAT IT READS IS OF BULK AT MOST 1048576: true; the input reads as it did. -/
def fnExactTopOfUptoRow : OpenClaim := { program := "ytfniajfhcifcbaadoor", sum := "42cc886bcb6f94d703e427f8326e19b6d8bd442b8783274d76cd7e388fce8078", func := "loop.example/g00838/laws.FnExactTopOf", spec := "fnExactTopOf", unfollowed := true, recurses := true, named := ["loop.example/g00838/impl.keyWords"], apart := false, laid := [("loop.example/g00838/impl.keyWords", laid_loop_example_g00838_impl_keyWords)], narrowed := true }
def FnExactTopOfUptoSaid : Prop := fnExactTopOfUptoRow.holds Tryd.pinned (OpenSpec.upto fnExactTopOfSpec)

/-- 'laws.FnExactChildClasses', WHERE WHAT IT READS IS OF BULK AT MOST 1048576: true; the input reads as it did. -/
def fnExactChildClassesUptoRow : OpenClaim := { program := "ytfniajfhcifcbaadoor", sum := "42cc886bcb6f94d703e427f8326e19b6d8bd442b8783274d76cd7e388fce8078", func := "loop.example/g00838/laws.FnExactChildClasses", spec := "fnExactChildClasses", unfollowed := true, recurses := true, named := ["loop.example/g00838/impl.keyWords"], apart := false, laid := [("loop.example/g00838/impl.keyWords", laid_loop_example_g00838_impl_keyWords)], narrowed := true }
def FnExactChildClassesUptoSaid : Prop := fnExactChildClassesUptoRow.holds Tryd.pinned (OpenSpec.upto fnExactChildClassesSpec)

/-- 'laws.FnExactLeavesOf', WHERE WHAT IT READS IS OF BULK AT MOST 1048576: true; the input reads as it did. -/
def fnExactLeavesOfUptoRow : OpenClaim := { program := "ytfniajfhcifcbaadoor", sum := "42cc886bcb6f94d703e427f8326e19b6d8bd442b8783274d76cd7e388fce8078", func := "loop.example/g00838/laws.FnExactLeavesOf", spec := "fnExactLeavesOf", unfollowed := true, recurses := true, named := ["loop.example/g00838/impl.keyWords"], apart := false, laid := [("loop.example/g00838/impl.keyWords", laid_loop_example_g00838_impl_keyWords)], narrowed := true }
def FnExactLeavesOfUptoSaid : Prop := fnExactLeavesOfUptoRow.holds Tryd.pinned (OpenSpec.upto fnExactLeavesOfSpec)

/-- 'laws.FnExactWayUp', WHERE WHAT IT READS IS OF BULK AT MOST 1048576: true; the input reads as it did. -/
def fnExactWayUpUptoRow : OpenClaim := { program := "ytfniajfhcifcbaadoor", sum := "42cc886bcb6f94d703e427f8326e19b6d8bd442b8783274d76cd7e388fce8078", func := "loop.example/g00838/laws.FnExactWayUp", spec := "fnExactWayUp", unfollowed := true, recurses := true, named := ["loop.example/g00838/impl.keyWords"], apart := false, laid := [("loop.example/g00838/impl.keyWords", laid_loop_example_g00838_impl_keyWords)], narrowed := true }
def FnExactWayUpUptoSaid : Prop := fnExactWayUpUptoRow.holds Tryd.pinned (OpenSpec.upto fnExactWayUpSpec)

/-- 'laws.FnExactIsBelow', WHERE WHAT IT READS IS OF BULK AT MOST 1048576: true; the input reads as it did. -/
def fnExactIsBelowUptoRow : OpenClaim := { program := "ytfniajfhcifcbaadoor", sum := "42cc886bcb6f94d703e427f8326e19b6d8bd442b8783274d76cd7e388fce8078", func := "loop.example/g00838/laws.FnExactIsBelow", spec := "fnExactIsBelow", unfollowed := true, recurses := true, named := ["loop.example/g00838/impl.keyWords"], apart := false, laid := [("loop.example/g00838/impl.keyWords", laid_loop_example_g00838_impl_keyWords)], narrowed := true }
def FnExactIsBelowUptoSaid : Prop := fnExactIsBelowUptoRow.holds Tryd.pinned (OpenSpec.upto fnExactIsBelowSpec)

/-- 'laws.FnExactSpareRate', WHERE WHAT IT READS IS OF BULK AT MOST 1048576: true; the input reads as it did. -/
def fnExactSpareRateUptoRow : OpenClaim := { program := "ytfniajfhcifcbaadoor", sum := "42cc886bcb6f94d703e427f8326e19b6d8bd442b8783274d76cd7e388fce8078", func := "loop.example/g00838/laws.FnExactSpareRate", spec := "fnExactSpareRate", unfollowed := true, recurses := true, named := ["loop.example/g00838/impl.keyWords"], apart := false, laid := [("loop.example/g00838/impl.keyWords", laid_loop_example_g00838_impl_keyWords)], narrowed := true }
def FnExactSpareRateUptoSaid : Prop := fnExactSpareRateUptoRow.holds Tryd.pinned (OpenSpec.upto fnExactSpareRateSpec)

/-- 'laws.FnExactAddClass', WHERE WHAT IT READS IS OF BULK AT MOST 1048576: true; the input reads as it did. -/
def fnExactAddClassUptoRow : OpenClaim := { program := "ytfniajfhcifcbaadoor", sum := "42cc886bcb6f94d703e427f8326e19b6d8bd442b8783274d76cd7e388fce8078", func := "loop.example/g00838/laws.FnExactAddClass", spec := "fnExactAddClass", inPlace := ["slices.overlaps[loop.example/g00838/impl.Class]"], unfollowed := true, recurses := true, named := ["loop.example/g00838/impl.keyWords"], apart := false, laid := [("loop.example/g00838/impl.keyWords", laid_loop_example_g00838_impl_keyWords)], narrowed := true }
def FnExactAddClassUptoSaid : Prop := fnExactAddClassUptoRow.holds Tryd.pinned (OpenSpec.upto fnExactAddClassSpec)

/-- 'laws.FnExactDropClass', WHERE WHAT IT READS IS OF BULK AT MOST 1048576: true; the input reads as it did. -/
def fnExactDropClassUptoRow : OpenClaim := { program := "ytfniajfhcifcbaadoor", sum := "42cc886bcb6f94d703e427f8326e19b6d8bd442b8783274d76cd7e388fce8078", func := "loop.example/g00838/laws.FnExactDropClass", spec := "fnExactDropClass", unfollowed := true, recurses := true, named := ["loop.example/g00838/impl.keyWords"], apart := false, laid := [("loop.example/g00838/impl.keyWords", laid_loop_example_g00838_impl_keyWords)], narrowed := true }
def FnExactDropClassUptoSaid : Prop := fnExactDropClassUptoRow.holds Tryd.pinned (OpenSpec.upto fnExactDropClassSpec)

/-- 'laws.FnExactSetLimit', WHERE WHAT IT READS IS OF BULK AT MOST 1048576: true; the input reads as it did. -/
def fnExactSetLimitUptoRow : OpenClaim := { program := "ytfniajfhcifcbaadoor", sum := "42cc886bcb6f94d703e427f8326e19b6d8bd442b8783274d76cd7e388fce8078", func := "loop.example/g00838/laws.FnExactSetLimit", spec := "fnExactSetLimit", unfollowed := true, recurses := true, named := ["loop.example/g00838/impl.keyWords"], apart := false, laid := [("loop.example/g00838/impl.keyWords", laid_loop_example_g00838_impl_keyWords)], narrowed := true }
def FnExactSetLimitUptoSaid : Prop := fnExactSetLimitUptoRow.holds Tryd.pinned (OpenSpec.upto fnExactSetLimitSpec)

end Rows
end Go.Proofs.YtfniajfhcifcbaaDoor
