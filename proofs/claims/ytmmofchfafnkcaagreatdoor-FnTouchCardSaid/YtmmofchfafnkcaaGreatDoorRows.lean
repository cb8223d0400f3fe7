/-
  NARROWER THAN 'FOR EVERY INPUT', by the rows' own cells (each row's printed sentence says how): FnTouch: laid · FnConfigs: laid · FnConditions: laid.
  DERIVED. THE GIVEN ROWS OF THIS SEAT. 3 by the template 'for every input the law returns true; each argument reads behind the call as it read before'; 0 by the template 'total and deterministic' (their statements: YtmmofchfafnkcaaGreatDoorTotals.lean).
  GIVEN WITH THE SEED: the statements are not yours to turn. If you find one false, say at which input.
  Laid BY PROGRAM, IN A SANDBOX (cutbox-rows.mjs): the forced cells as the released guide's own fill.sh prints them over the translation 1313bd324d811999… (all of the seat's roots in one cut). By AI agents, Wed Nov 11 2026. No macro, syntax, notation, axiom, sorry.
-/
import Derived.Test.YtmmofchfafnkcaaGreatDoorChecked
import GoSem.Claim
import GoSem.ClaimJoined
import GoSem.ClaimMapViews
import Derived.JoinedTies
import Derived.KernelRfl
namespace Go.Proofs.YtmmofchfafnkcaaGreatDoor
/- THE CELL 'sum', in the pinned program and in every row, IS THE sha256 OF THE DUMP (.gsa) THAT YtmmofchfafnkcaaGreatDoorProg.lean LOADS. Nothing in Lean hashes anything: it is a label: what it is worth is what the hold of that sum in a sandbox is worth. -/
noncomputable def Tryz.pinned : Pinned := { name := "ytmmofchfafnkcaagreatdoor", sum := "1313bd324d811999e626be5b55acb71267d50326d1cf93c889c910267f5353e8", checked := Tryz.checked }
namespace Rows
def none {H : Type} : Left H := { results := [], args := [] }

/- WHAT THE LISTED PACKAGE-LEVEL VARIABLES READ AS WHEN THE CALL BEGINS. Each datum BY PROGRAM (the guide's laid-datum.mjs) off the statement by which the dump's own 'gosem.cut.vars' lays the variable. In a bare row this is a premise. The card (YtmmofchfafnkcaaGreatDoorCards.lean) ties it to the program's text. -/
def laid_loop_example_g00838_impl_digits {H : Type} : DataW H := .agg [.lit (.string [48, 49, 50, 51, 52, 53, 54, 55, 56, 57]), .lit (.string [48, 49, 50, 51, 52, 53, 54, 55, 56, 57, 97, 98, 99, 100, 101, 102])]
def laid_loop_example_g00838_impl_units {H : Type} : DataW H := .agg [.agg [.lit (.string [109]), .lit (.int .i64 1000000)], .agg [.lit (.string [107]), .lit (.int .i64 1000)]]
def laid_loop_example_g00838_impl_keyWords {H : Type} : DataW H := .agg [.lit (.string [113, 100, 105, 115, 99]), .lit (.string [100, 101, 102, 97, 117, 108, 116]), .lit (.string [99, 108, 97, 115, 115]), .lit (.string [114, 97, 116, 101]), .lit (.string [99, 101, 105, 108]), .lit (.string [98, 117, 114, 115, 116]), .lit (.string [99, 98, 117, 114, 115, 116]), .lit (.string [112, 114, 105, 111]), .lit (.string [108, 105, 109, 105, 116]), .lit (.string [102, 105, 108, 116, 101, 114]), .lit (.string [115, 111, 117, 114, 99, 101]), .lit (.string [100, 101, 115, 116]), .lit (.string [112, 111, 114, 116]), .lit (.string [109, 97, 114, 107])]
def laid_loop_example_g00838_impl_signs {H : Type} : DataW H := .agg [.lit (.string [123]), .lit (.string [125]), .lit (.string [59]), .lit (.string [47]), .lit (.string [61]), .lit (.string [45, 62])]

/-- 'laws.FnTouch': WHATEVER THE INPUT: true; the input reads as it did. -/
def fnTouchSpec : ChangeSpec := { name := "fnTouch", vars := ["loop.example/g00838/impl.signs", "loop.example/g00838/impl.digits", "loop.example/g00838/impl.units", "loop.example/g00838/impl.keyWords"], fn := fun _ => fun
  | [d1, d2, g1, g2, g3, g4] => { results := [.lit (.bool true)], args := [d1, d2], vars := [g1, g2, g3, g4] }
  | _ => none }
def fnTouchRow : OpenClaim := { program := "ytmmofchfafnkcaagreatdoor", sum := "1313bd324d811999e626be5b55acb71267d50326d1cf93c889c910267f5353e8", func := "loop.example/g00838/laws.FnTouch", spec := "fnTouch", inPlace := ["internal/bytealg.IndexByteString", "internal/bytealg.IndexString", "internal/abi.NoEscape", "internal/bytealg.MakeNoZero"], unfollowed := true, recurses := true, named := ["loop.example/g00838/impl.signs", "loop.example/g00838/impl.digits", "loop.example/g00838/impl.units", "loop.example/g00838/impl.keyWords", "internal/bytealg.MaxLen"], apart := false, laid := [("loop.example/g00838/impl.digits", laid_loop_example_g00838_impl_digits), ("loop.example/g00838/impl.units", laid_loop_example_g00838_impl_units), ("loop.example/g00838/impl.keyWords", laid_loop_example_g00838_impl_keyWords), ("loop.example/g00838/impl.signs", laid_loop_example_g00838_impl_signs)] }
def FnTouchSaid : Prop := fnTouchRow.holds Tryz.pinned (OpenSpec.ofChange fnTouchSpec)

/-- ITS FALSE NEIGHBOUR: 'it returns false'. Refute it at one input. -/
def fnTouchWrong : ChangeSpec := { name := "fnTouch", vars := ["loop.example/g00838/impl.signs", "loop.example/g00838/impl.digits", "loop.example/g00838/impl.units", "loop.example/g00838/impl.keyWords"], fn := fun _ => fun
  | [d1, d2, g1, g2, g3, g4] => { results := [.lit (.bool false)], args := [d1, d2], vars := [g1, g2, g3, g4] }
  | _ => none }
def FnTouchWrongFalsely : Prop := fnTouchRow.holds Tryz.pinned (OpenSpec.ofChange fnTouchWrong)

/-- 'laws.FnConfigs': WHATEVER THE INPUT: true; the input reads as it did. -/
def fnConfigsSpec : ChangeSpec := { name := "fnConfigs", vars := ["loop.example/g00838/impl.keyWords"], fn := fun _ => fun
  | [d1, d2, g1] => { results := [.lit (.bool true)], args := [d1, d2], vars := [g1] }
  | _ => none }
def fnConfigsRow : OpenClaim := { program := "ytmmofchfafnkcaagreatdoor", sum := "1313bd324d811999e626be5b55acb71267d50326d1cf93c889c910267f5353e8", func := "loop.example/g00838/laws.FnConfigs", spec := "fnConfigs", inPlace := ["slices.overlaps[loop.example/g00838/impl.Class]"], unfollowed := true, recurses := true, named := ["loop.example/g00838/impl.keyWords"], apart := false, laid := [("loop.example/g00838/impl.keyWords", laid_loop_example_g00838_impl_keyWords)] }
def FnConfigsSaid : Prop := fnConfigsRow.holds Tryz.pinned (OpenSpec.ofChange fnConfigsSpec)

/-- ITS FALSE NEIGHBOUR: 'it returns false'. Refute it at one input. -/
def fnConfigsWrong : ChangeSpec := { name := "fnConfigs", vars := ["loop.example/g00838/impl.keyWords"], fn := fun _ => fun
  | [d1, d2, g1] => { results := [.lit (.bool false)], args := [d1, d2], vars := [g1] }
  | _ => none }
def FnConfigsWrongFalsely : Prop := fnConfigsRow.holds Tryz.pinned (OpenSpec.ofChange fnConfigsWrong)

/-- 'laws.FnConditions': WHATEVER THE INPUT: true; the input reads as it did. -/
def fnConditionsSpec : ChangeSpec := { name := "fnConditions", vars := ["loop.example/g00838/impl.keyWords"], fn := fun _ => fun
  | [d1, d2, g1] => { results := [.lit (.bool true)], args := [d1, d2], vars := [g1] }
  | _ => none }
def fnConditionsRow : OpenClaim := { program := "ytmmofchfafnkcaagreatdoor", sum := "1313bd324d811999e626be5b55acb71267d50326d1cf93c889c910267f5353e8", func := "loop.example/g00838/laws.FnConditions", spec := "fnConditions", unfollowed := true, recurses := true, named := ["loop.example/g00838/impl.keyWords"], apart := false, laid := [("loop.example/g00838/impl.keyWords", laid_loop_example_g00838_impl_keyWords)] }
def FnConditionsSaid : Prop := fnConditionsRow.holds Tryz.pinned (OpenSpec.ofChange fnConditionsSpec)

/-- ITS FALSE NEIGHBOUR: 'it returns false'. Refute it at one input. -/
def fnConditionsWrong : ChangeSpec := { name := "fnConditions", vars := ["loop.example/g00838/impl.keyWords"], fn := fun _ => fun
  | [d1, d2, g1] => { results := [.lit (.bool false)], args := [d1, d2], vars := [g1] }
  | _ => none }
def FnConditionsWrongFalsely : Prop := fnConditionsRow.holds Tryz.pinned (OpenSpec.ofChange fnConditionsWrong)

/- THE SECOND FORM. 'bulk': how many values and letters a reading holds, each counted each time it is reached (what is shared counts as often as it is met; a slice's spare places count too). A statement '..UptoSaid' is the law's where the arguments, and the package variables that the reading takes, are together of bulk at most 1048576: NARROWER than '..Said'. Prove '..Said' where nothing that the law and all that it calls make is longer than what came in: it says more and counts as full. Else prove '..UptoSaid'. A law counts once. -/
mutual
def uptoBulk {H : Type} : DataW H → Nat
  | .lit (.string bytes) => bytes.length + 1
  | .lit _ => 1
  | .nil => 1
  | .ptr d => uptoBulk d + 1
  | .slice elems spare => uptoBulkAll elems + uptoBulkAll spare + 1
  | .agg parts => uptoBulkAll parts + 1
  | .iface _ d => uptoBulk d + 1
  | .map entries => uptoBulkEntries entries + 1
  | .held _ => 1
def uptoBulkAll {H : Type} : List (DataW H) → Nat
  | [] => 0
  | d :: r => uptoBulk d + uptoBulkAll r
def uptoBulkEntries {H : Type} : List (Lit × DataW H) → Nat
  | [] => 0
  | x :: r => uptoBulkEntry x + uptoBulkEntries r
def uptoBulkEntry {H : Type} : Lit × DataW H → Nat
  | (.string bytes, d) => bytes.length + uptoBulk d + 1
  | (_, d) => uptoBulk d + 1
 end
def uptoSmall : (H : Type) → List (DataW H) → Bool := fun _ ds => decide (uptoBulkAll ds ≤ 1048576)
def OpenSpec.upto (s : _root_.Go.ChangeSpec) : _root_.Go.OpenSpec := { _root_.Go.OpenSpec.ofChange s with cond := some uptoSmall }

/-- 'laws.FnTouch', WHERE WHAT IT READS IS OF BULK AT MOST 1048576: true; the input reads as it did. -/
def fnTouchUptoRow : OpenClaim := { program := "ytmmofchfafnkcaagreatdoor", sum := "1313bd324d811999e626be5b55acb71267d50326d1cf93c889c910267f5353e8", func := "loop.example/g00838/laws.FnTouch", spec := "fnTouch", inPlace := ["internal/bytealg.IndexByteString", "internal/bytealg.IndexString", "internal/abi.NoEscape", "internal/bytealg.MakeNoZero"], unfollowed := true, recurses := true, named := ["loop.example/g00838/impl.signs", "loop.example/g00838/impl.digits", "loop.example/g00838/impl.units", "loop.example/g00838/impl.keyWords", "internal/bytealg.MaxLen"], apart := false, laid := [("loop.example/g00838/impl.digits", laid_loop_example_g00838_impl_digits), ("loop.example/g00838/impl.units", laid_loop_example_g00838_impl_units), ("loop.example/g00838/impl.keyWords", laid_loop_example_g00838_impl_keyWords), ("loop.example/g00838/impl.signs", laid_loop_example_g00838_impl_signs)], narrowed := true }
def FnTouchUptoSaid : Prop := fnTouchUptoRow.holds Tryz.pinned (OpenSpec.upto fnTouchSpec)

/-- 'laws.FnConfigs', WHERE WHAT IT READS IS OF BULK AT MOST 1048576: true; the input reads as it did. -/
def fnConfigsUptoRow : OpenClaim := { program := "ytmmofchfafnkcaagreatdoor", sum := "1313bd324d811999e626be5b55acb71267d50326d1cf93c889c910267f5353e8", func := "loop.example/g00838/laws.FnConfigs", spec := "fnConfigs", inPlace := ["slices.overlaps[loop.example/g00838/impl.Class]"], unfollowed := true, recurses := true, named := ["loop.example/g00838/impl.keyWords"], apart := false, laid := [("loop.example/g00838/impl.keyWords", laid_loop_example_g00838_impl_keyWords)], narrowed := true }
def FnConfigsUptoSaid : Prop := fnConfigsUptoRow.holds Tryz.pinned (OpenSpec.upto fnConfigsSpec)

/-- 'laws.FnConditions', WHERE WHAT IT READS IS OF BULK AT MOST 1048576: true; the input reads as it did. -/
def fnConditionsUptoRow : OpenClaim := { program := "ytmmofchfafnkcaagreatdoor", sum := "1313bd324d811999e626be5b55acb71267d50326d1cf93c889c910267f5353e8", func := "loop.example/g00838/laws.FnConditions", spec := "fnConditions", unfollowed := true, recurses := true, named := ["loop.example/g00838/impl.keyWords"], apart := false, laid := [("loop.example/g00838/impl.keyWords", laid_loop_example_g00838_impl_keyWords)], narrowed := true }
def FnConditionsUptoSaid : Prop := fnConditionsUptoRow.holds Tryz.pinned (OpenSpec.upto fnConditionsSpec)

end Rows
end Go.Proofs.YtmmofchfafnkcaaGreatDoor
