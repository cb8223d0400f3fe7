/-
  NARROWER THAN 'FOR EVERY INPUT', by the rows' own cells (each row's printed sentence says how): FnTokens: laid · FnTrees: laid.
  DERIVED. THE GIVEN ROWS OF THIS SEAT. 2 by the template 'for every input the law returns true; each argument reads behind the call as it read before'; 0 by the template 'total and deterministic' (their statements: YtdmcgjohpnojkaaDoorTotals.lean).
  GIVEN WITH THE SEED: the statements are not yours to turn. If you find one false, say at which input.
  Laid BY PROGRAM, IN A SANDBOX (cutbox-rows.mjs): the forced cells as the released guide's own fill.sh prints them over the translation 2aeadd489b39ed7d… (all of the seat's roots in one cut). By AI agents, Wed Nov 11 2026. No macro, syntax, notation, axiom, sorry.
-/
import Derived.Test.YtdmcgjohpnojkaaDoorChecked
import GoSem.Claim
import GoSem.ClaimJoined
import GoSem.ClaimMapViews
import Derived.JoinedTies
import Derived.KernelRfl
namespace Go.Proofs.YtdmcgjohpnojkaaDoor
/- THE CELL 'sum', in the pinned program and in every row, IS THE sha256 OF THE DUMP (.gsa) THAT YtdmcgjohpnojkaaDoorProg.lean LOADS. Nothing in Lean hashes anything: it is a label: what it is worth is what the hold of that sum in a sandbox is worth. -/
noncomputable def Tryd.pinned : Pinned := { name := "ytdmcgjohpnojkaadoor", sum := "2aeadd489b39ed7d432e87e9613b288aa42453ffef54e51b44adac3f6e15dbbe", checked := Tryd.checked }
namespace Rows
def none {H : Type} : Left H := { results := [], args := [] }

/- WHAT THE LISTED PACKAGE-LEVEL VARIABLES READ AS WHEN THE CALL BEGINS. Each datum BY PROGRAM (the guide's laid-datum.mjs) off the statement by which the dump's own 'gosem.cut.vars' lays the variable. In a bare row this is a premise. The card (YtdmcgjohpnojkaaDoorCards.lean) ties it to the program's text. -/
def laid_loop_example_g00838_impl_digits {H : Type} : DataW H := .agg [.lit (.string [48, 49, 50, 51, 52, 53, 54, 55, 56, 57]), .lit (.string [48, 49, 50, 51, 52, 53, 54, 55, 56, 57, 97, 98, 99, 100, 101, 102])]
def laid_loop_example_g00838_impl_units {H : Type} : DataW H := .agg [.agg [.lit (.string [109]), .lit (.int .i64 1000000)], .agg [.lit (.string [107]), .lit (.int .i64 1000)]]
def laid_loop_example_g00838_impl_keyWords {H : Type} : DataW H := .agg [.lit (.string [113, 100, 105, 115, 99]), .lit (.string [100, 101, 102, 97, 117, 108, 116]), .lit (.string [99, 108, 97, 115, 115]), .lit (.string [114, 97, 116, 101]), .lit (.string [99, 101, 105, 108]), .lit (.string [98, 117, 114, 115, 116]), .lit (.string [99, 98, 117, 114, 115, 116]), .lit (.string [112, 114, 105, 111]), .lit (.string [108, 105, 109, 105, 116]), .lit (.string [102, 105, 108, 116, 101, 114]), .lit (.string [115, 111, 117, 114, 99, 101]), .lit (.string [100, 101, 115, 116]), .lit (.string [112, 111, 114, 116]), .lit (.string [109, 97, 114, 107])]
def laid_loop_example_g00838_impl_signs {H : Type} : DataW H := .agg [.lit (.string [123]), .lit (.string [125]), .lit (.string [59]), .lit (.string [47]), .lit (.string [61]), .lit (.string [45, 62])]

/-- 'laws.FnTokens': WHATEVER THE INPUT: true; the input reads as it did. -/
def fnTokensSpec : ChangeSpec := { name := "fnTokens", vars := ["loop.example/g00838/impl.signs", "loop.example/g00838/impl.digits", "loop.example/g00838/impl.units", "loop.example/g00838/impl.keyWords"], fn := fun _ => fun
  | [d1, d2, g1, g2, g3, g4] => { results := [.lit (.bool true)], args := [d1, d2], vars := [g1, g2, g3, g4] }
  | _ => none }
def fnTokensRow : OpenClaim := { program := "ytdmcgjohpnojkaadoor", sum := "2aeadd489b39ed7d432e87e9613b288aa42453ffef54e51b44adac3f6e15dbbe", func := "loop.example/g00838/laws.FnTokens", spec := "fnTokens", inPlace := ["internal/bytealg.IndexByteString", "internal/bytealg.IndexString", "internal/abi.NoEscape", "internal/bytealg.MakeNoZero"], unfollowed := true, recurses := true, named := ["loop.example/g00838/impl.signs", "loop.example/g00838/impl.digits", "loop.example/g00838/impl.units", "loop.example/g00838/impl.keyWords", "internal/bytealg.MaxLen"], apart := false, laid := [("loop.example/g00838/impl.digits", laid_loop_example_g00838_impl_digits), ("loop.example/g00838/impl.units", laid_loop_example_g00838_impl_units), ("loop.example/g00838/impl.keyWords", laid_loop_example_g00838_impl_keyWords), ("loop.example/g00838/impl.signs", laid_loop_example_g00838_impl_signs)] }
def FnTokensSaid : Prop := fnTokensRow.holds Tryd.pinned (OpenSpec.ofChange fnTokensSpec)

/-- ITS FALSE NEIGHBOUR: 'it returns false'. Refute it at one input. -/
def fnTokensWrong : ChangeSpec := { name := "fnTokens", vars := ["loop.example/g00838/impl.signs", "loop.example/g00838/impl.digits", "loop.example/g00838/impl.units", "loop.example/g00838/impl.keyWords"], fn := fun _ => fun
  | [d1, d2, g1, g2, g3, g4] => { results := [.lit (.bool false)], args := [d1, d2], vars := [g1, g2, g3, g4] }
  | _ => none }
def FnTokensWrongFalsely : Prop := fnTokensRow.holds Tryd.pinned (OpenSpec.ofChange fnTokensWrong)

/-- 'laws.FnTrees': WHATEVER THE INPUT: true; the input reads as it did. -/
def fnTreesSpec : ChangeSpec := { name := "fnTrees", vars := ["loop.example/g00838/impl.keyWords"], fn := fun _ => fun
  | [d1, d2, g1] => { results := [.lit (.bool true)], args := [d1, d2], vars := [g1] }
  | _ => none }
def fnTreesRow : OpenClaim := { program := "ytdmcgjohpnojkaadoor", sum := "2aeadd489b39ed7d432e87e9613b288aa42453ffef54e51b44adac3f6e15dbbe", func := "loop.example/g00838/laws.FnTrees", spec := "fnTrees", unfollowed := true, recurses := true, named := ["loop.example/g00838/impl.keyWords"], apart := false, laid := [("loop.example/g00838/impl.keyWords", laid_loop_example_g00838_impl_keyWords)] }
def FnTreesSaid : Prop := fnTreesRow.holds Tryd.pinned (OpenSpec.ofChange fnTreesSpec)

/-- ITS FALSE NEIGHBOUR: 'it returns false'. Refute it at one input. -/
def fnTreesWrong : ChangeSpec := { name := "fnTrees", vars := ["loop.example/g00838/impl.keyWords"], fn := fun _ => fun
  | [d1, d2, g1] => { results := [.lit (.bool false)], args := [d1, d2], vars := [g1] }
  | _ => none }
def FnTreesWrongFalsely : Prop := fnTreesRow.holds Tryd.pinned (OpenSpec.ofChange fnTreesWrong)

/- THE SECOND FORM. 'bulk': how many values and letters a reading holds, each counted each time it is reached (what is shared counts as often as it is met; a slice's spare places count too). A statement '..UptoSaid' is the law's where the arguments, and the package variables that the reading takes, are together of bulk at most 1048576: NARROWER than '..Said'. Prove '..Said' where nothing that the law and all that it calls make is longer than what came in: it says more and counts as full. Else prove '..UptoSaid'. A law counts once. -/
mutual
def uptoBulk {H : Type} : DataW H → Nat
  | .lit (.string bytes) => bytes.length + 1
  | .lit _ => 1
  | .nil => 1
  | .ptr d => uptoBulk d + 1
  | .slice elems spare => uptoBulkAll elems + uptoBulkAll spare + 1
  | .agg parts => uptoBulkAll parts + 1
  | .iface _ d => uptoBulk d + 1
  | .map entries => uptoBulkEntries entries + 1
  | .held _ => 1
def uptoBulkAll {H : Type} : List (DataW H) → Nat
  | [] => 0
  | d :: r => uptoBulk d + uptoBulkAll r
def uptoBulkEntries {H : Type} : List (Lit × DataW H) → Nat
  | [] => 0
  | x :: r => uptoBulkEntry x + uptoBulkEntries r
def uptoBulkEntry {H : Type} : Lit × DataW H → Nat
  | (.string bytes, d) => bytes.length + uptoBulk d + 1
  | (_, d) => uptoBulk d + 1
 end
def uptoSmall : (H : Type) → List (DataW H) → Bool := fun _ ds => decide (uptoBulkAll ds ≤ 1048576)
def OpenSpec.upto (s : _root_.Go.ChangeSpec) : _root_.Go.OpenSpec := { _root_.Go.OpenSpec.ofChange s with cond := some uptoSmall }

/-- 'laws.FnTokens', WHERE WHAT IT READS IS OF BULK AT MOST 1048576: true; the input reads as it did. -/
def fnTokensUptoRow : OpenClaim := { program := "ytdmcgjohpnojkaadoor", sum := "2aeadd489b39ed7d432e87e9613b288aa42453ffef54e51b44adac3f6e15dbbe", func := "loop.example/g00838/laws.FnTokens", spec := "fnTokens", inPlace := ["internal/bytealg.IndexByteString", "internal/bytealg.IndexString", "internal/abi.NoEscape", "internal/bytealg.MakeNoZero"], unfollowed := true, recurses := true, named := ["loop.example/g00838/impl.signs", "loop.example/g00838/impl.digits", "loop.example/g00838/impl.units", "loop.example/g00838/impl.keyWords", "internal/bytealg.MaxLen"], apart := false, laid := [("loop.example/g00838/impl.digits", laid_loop_example_g00838_impl_digits), ("loop.example/g00838/impl.units", laid_loop_example_g00838_impl_units), ("loop.example/g00838/impl.keyWords", laid_loop_example_g00838_impl_keyWords), ("loop.example/g00838/impl.signs", laid_loop_example_g00838_impl_signs)], narrowed := true }
def FnTokensUptoSaid : Prop := fnTokensUptoRow.holds Tryd.pinned (OpenSpec.upto fnTokensSpec)

/-- 'laws.FnTrees', WHERE WHAT IT READS IS OF BULK AT MOST 1048576: true; the input reads as it did. -/
def fnTreesUptoRow : OpenClaim := { program := "ytdmcgjohpnojkaadoor", sum := "2aeadd489b39ed7d432e87e9613b288aa42453ffef54e51b44adac3f6e15dbbe", func := "loop.example/g00838/laws.FnTrees", spec := "fnTrees", unfollowed := true, recurses := true, named := ["loop.example/g00838/impl.keyWords"], apart := false, laid := [("loop.example/g00838/impl.keyWords", laid_loop_example_g00838_impl_keyWords)], narrowed := true }
def FnTreesUptoSaid : Prop := fnTreesUptoRow.holds Tryd.pinned (OpenSpec.upto fnTreesSpec)

end Rows
end Go.Proofs.YtdmcgjohpnojkaaDoor
