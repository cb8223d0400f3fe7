/-
  No cell of these rows narrows 'for every input' (looked for: loops, veiled, ifaces, maps, wideKeys, modest, calm, conditions, laid).
  DERIVED. THE GIVEN ROWS OF THIS SEAT. 10 by the template 'for every input the law returns true; each argument reads behind the call as it read before'; 0 by the template 'total and deterministic' (their statements: YteogadbjnmcblaaTotals.lean).
  GIVEN WITH THE SEED: the statements are not yours to turn. If you find one false, say at which input.
  Laid BY PROGRAM, IN A SANDBOX (cutbox-rows.mjs): the forced cells as the released guide's own fill.sh prints them over the translation 96f3b9918a729179… (all of the seat's roots in one cut). By AI agents, Wed Nov 11 2026. No macro, syntax, notation, axiom, sorry.
-/
import Derived.Test.YteogadbjnmcblaaChecked
import GoSem.Claim
import GoSem.ClaimJoined
import GoSem.ClaimMapViews
import Derived.JoinedTies
import Derived.KernelRfl
namespace Go.Proofs.Yteogadbjnmcblaa
/- THE CELL 'sum', in the pinned program and in every row, IS THE sha256 OF THE DUMP (.gsa) THAT YteogadbjnmcblaaProg.lean LOADS. Nothing in Lean hashes anything: it is a label: what it is worth is what the hold of that sum in a sandbox is worth. -/
noncomputable def Try.pinned : Pinned := { name := "yteogadbjnmcblaa", sum := "96f3b9918a7291793cbd3d3d57b88df7cecefb195f4f88910f8410563cafb3f5", checked := Try.checked }
namespace Rows
def none {H : Type} : Left H := { results := [], args := [] }

/-- 'laws.FnExactIsCurve': WHATEVER THE INPUT: true; the input reads as it did. -/
def fnExactIsCurveSpec : ChangeSpec := { name := "fnExactIsCurve", fn := fun _ => fun
  | [d] => { results := [.lit (.bool true)], args := [d] }
  | _ => none }
def fnExactIsCurveRow : OpenClaim := { program := "yteogadbjnmcblaa", sum := "96f3b9918a7291793cbd3d3d57b88df7cecefb195f4f88910f8410563cafb3f5", func := "loop.example/g00838/laws.FnExactIsCurve", spec := "fnExactIsCurve", apart := false }
def FnExactIsCurveSaid : Prop := fnExactIsCurveRow.holds Try.pinned (OpenSpec.ofChange fnExactIsCurveSpec)

/-- ITS FALSE NEIGHBOUR: 'it returns false'. Refute it at one input. -/
def fnExactIsCurveWrong : ChangeSpec := { name := "fnExactIsCurve", fn := fun _ => fun
  | [d] => { results := [.lit (.bool false)], args := [d] }
  | _ => none }
def FnExactIsCurveWrongFalsely : Prop := fnExactIsCurveRow.holds Try.pinned (OpenSpec.ofChange fnExactIsCurveWrong)

/-- 'laws.FnExactCurveAt': WHATEVER THE INPUT: true; the input reads as it did. -/
def fnExactCurveAtSpec : ChangeSpec := { name := "fnExactCurveAt", fn := fun _ => fun
  | [d1, d2] => { results := [.lit (.bool true)], args := [d1, d2] }
  | _ => none }
def fnExactCurveAtRow : OpenClaim := { program := "yteogadbjnmcblaa", sum := "96f3b9918a7291793cbd3d3d57b88df7cecefb195f4f88910f8410563cafb3f5", func := "loop.example/g00838/laws.FnExactCurveAt", spec := "fnExactCurveAt", apart := false }
def FnExactCurveAtSaid : Prop := fnExactCurveAtRow.holds Try.pinned (OpenSpec.ofChange fnExactCurveAtSpec)

/-- ITS FALSE NEIGHBOUR: 'it returns false'. Refute it at one input. -/
def fnExactCurveAtWrong : ChangeSpec := { name := "fnExactCurveAt", fn := fun _ => fun
  | [d1, d2] => { results := [.lit (.bool false)], args := [d1, d2] }
  | _ => none }
def FnExactCurveAtWrongFalsely : Prop := fnExactCurveAtRow.holds Try.pinned (OpenSpec.ofChange fnExactCurveAtWrong)

/-- 'laws.FnExactLeastTime': WHATEVER THE INPUT: true; the input reads as it did. -/
def fnExactLeastTimeSpec : ChangeSpec := { name := "fnExactLeastTime", fn := fun _ => fun
  | [d1, d2] => { results := [.lit (.bool true)], args := [d1, d2] }
  | _ => none }
def fnExactLeastTimeRow : OpenClaim := { program := "yteogadbjnmcblaa", sum := "96f3b9918a7291793cbd3d3d57b88df7cecefb195f4f88910f8410563cafb3f5", func := "loop.example/g00838/laws.FnExactLeastTime", spec := "fnExactLeastTime", unfollowed := true, recurses := true, apart := false }
def FnExactLeastTimeSaid : Prop := fnExactLeastTimeRow.holds Try.pinned (OpenSpec.ofChange fnExactLeastTimeSpec)

/-- ITS FALSE NEIGHBOUR: 'it returns false'. Refute it at one input. -/
def fnExactLeastTimeWrong : ChangeSpec := { name := "fnExactLeastTime", fn := fun _ => fun
  | [d1, d2] => { results := [.lit (.bool false)], args := [d1, d2] }
  | _ => none }
def FnExactLeastTimeWrongFalsely : Prop := fnExactLeastTimeRow.holds Try.pinned (OpenSpec.ofChange fnExactLeastTimeWrong)

/-- 'laws.FnExactCurveShape': WHATEVER THE INPUT: true; the input reads as it did. -/
def fnExactCurveShapeSpec : ChangeSpec := { name := "fnExactCurveShape", fn := fun _ => fun
  | [d] => { results := [.lit (.bool true)], args := [d] }
  | _ => none }
def fnExactCurveShapeRow : OpenClaim := { program := "yteogadbjnmcblaa", sum := "96f3b9918a7291793cbd3d3d57b88df7cecefb195f4f88910f8410563cafb3f5", func := "loop.example/g00838/laws.FnExactCurveShape", spec := "fnExactCurveShape", apart := false }
def FnExactCurveShapeSaid : Prop := fnExactCurveShapeRow.holds Try.pinned (OpenSpec.ofChange fnExactCurveShapeSpec)

/-- ITS FALSE NEIGHBOUR: 'it returns false'. Refute it at one input. -/
def fnExactCurveShapeWrong : ChangeSpec := { name := "fnExactCurveShape", fn := fun _ => fun
  | [d] => { results := [.lit (.bool false)], args := [d] }
  | _ => none }
def FnExactCurveShapeWrongFalsely : Prop := fnExactCurveShapeRow.holds Try.pinned (OpenSpec.ofChange fnExactCurveShapeWrong)

/-- 'laws.FnExactSameCurve': WHATEVER THE INPUT: true; the input reads as it did. -/
def fnExactSameCurveSpec : ChangeSpec := { name := "fnExactSameCurve", fn := fun _ => fun
  | [d1, d2] => { results := [.lit (.bool true)], args := [d1, d2] }
  | _ => none }
def fnExactSameCurveRow : OpenClaim := { program := "yteogadbjnmcblaa", sum := "96f3b9918a7291793cbd3d3d57b88df7cecefb195f4f88910f8410563cafb3f5", func := "loop.example/g00838/laws.FnExactSameCurve", spec := "fnExactSameCurve", apart := false }
def FnExactSameCurveSaid : Prop := fnExactSameCurveRow.holds Try.pinned (OpenSpec.ofChange fnExactSameCurveSpec)

/-- ITS FALSE NEIGHBOUR: 'it returns false'. Refute it at one input. -/
def fnExactSameCurveWrong : ChangeSpec := { name := "fnExactSameCurve", fn := fun _ => fun
  | [d1, d2] => { results := [.lit (.bool false)], args := [d1, d2] }
  | _ => none }
def FnExactSameCurveWrongFalsely : Prop := fnExactSameCurveRow.holds Try.pinned (OpenSpec.ofChange fnExactSameCurveWrong)

/-- 'laws.FnExactShortCurve': WHATEVER THE INPUT: true; the input reads as it did. -/
def fnExactShortCurveSpec : ChangeSpec := { name := "fnExactShortCurve", fn := fun _ => fun
  | [d] => { results := [.lit (.bool true)], args := [d] }
  | _ => none }
def fnExactShortCurveRow : OpenClaim := { program := "yteogadbjnmcblaa", sum := "96f3b9918a7291793cbd3d3d57b88df7cecefb195f4f88910f8410563cafb3f5", func := "loop.example/g00838/laws.FnExactShortCurve", spec := "fnExactShortCurve", apart := false }
def FnExactShortCurveSaid : Prop := fnExactShortCurveRow.holds Try.pinned (OpenSpec.ofChange fnExactShortCurveSpec)

/-- ITS FALSE NEIGHBOUR: 'it returns false'. Refute it at one input. -/
def fnExactShortCurveWrong : ChangeSpec := { name := "fnExactShortCurve", fn := fun _ => fun
  | [d] => { results := [.lit (.bool false)], args := [d] }
  | _ => none }
def FnExactShortCurveWrongFalsely : Prop := fnExactShortCurveRow.holds Try.pinned (OpenSpec.ofChange fnExactShortCurveWrong)

/-- 'laws.FnExactCurveBelow': WHATEVER THE INPUT: true; the input reads as it did. -/
def fnExactCurveBelowSpec : ChangeSpec := { name := "fnExactCurveBelow", fn := fun _ => fun
  | [d1, d2] => { results := [.lit (.bool true)], args := [d1, d2] }
  | _ => none }
def fnExactCurveBelowRow : OpenClaim := { program := "yteogadbjnmcblaa", sum := "96f3b9918a7291793cbd3d3d57b88df7cecefb195f4f88910f8410563cafb3f5", func := "loop.example/g00838/laws.FnExactCurveBelow", spec := "fnExactCurveBelow", unfollowed := true, recurses := true, apart := false }
def FnExactCurveBelowSaid : Prop := fnExactCurveBelowRow.holds Try.pinned (OpenSpec.ofChange fnExactCurveBelowSpec)

/-- ITS FALSE NEIGHBOUR: 'it returns false'. Refute it at one input. -/
def fnExactCurveBelowWrong : ChangeSpec := { name := "fnExactCurveBelow", fn := fun _ => fun
  | [d1, d2] => { results := [.lit (.bool false)], args := [d1, d2] }
  | _ => none }
def FnExactCurveBelowWrongFalsely : Prop := fnExactCurveBelowRow.holds Try.pinned (OpenSpec.ofChange fnExactCurveBelowWrong)

/-- 'laws.FnExactFirstAbove': WHATEVER THE INPUT: true; the input reads as it did. -/
def fnExactFirstAboveSpec : ChangeSpec := { name := "fnExactFirstAbove", fn := fun _ => fun
  | [d1, d2] => { results := [.lit (.bool true)], args := [d1, d2] }
  | _ => none }
def fnExactFirstAboveRow : OpenClaim := { program := "yteogadbjnmcblaa", sum := "96f3b9918a7291793cbd3d3d57b88df7cecefb195f4f88910f8410563cafb3f5", func := "loop.example/g00838/laws.FnExactFirstAbove", spec := "fnExactFirstAbove", unfollowed := true, recurses := true, apart := false }
def FnExactFirstAboveSaid : Prop := fnExactFirstAboveRow.holds Try.pinned (OpenSpec.ofChange fnExactFirstAboveSpec)

/-- ITS FALSE NEIGHBOUR: 'it returns false'. Refute it at one input. -/
def fnExactFirstAboveWrong : ChangeSpec := { name := "fnExactFirstAbove", fn := fun _ => fun
  | [d1, d2] => { results := [.lit (.bool false)], args := [d1, d2] }
  | _ => none }
def FnExactFirstAboveWrongFalsely : Prop := fnExactFirstAboveRow.holds Try.pinned (OpenSpec.ofChange fnExactFirstAboveWrong)

/-- 'laws.FnExactSumAt': WHATEVER THE INPUT: true; the input reads as it did. -/
def fnExactSumAtSpec : ChangeSpec := { name := "fnExactSumAt", fn := fun _ => fun
  | [d1, d2] => { results := [.lit (.bool true)], args := [d1, d2] }
  | _ => none }
def fnExactSumAtRow : OpenClaim := { program := "yteogadbjnmcblaa", sum := "96f3b9918a7291793cbd3d3d57b88df7cecefb195f4f88910f8410563cafb3f5", func := "loop.example/g00838/laws.FnExactSumAt", spec := "fnExactSumAt", apart := false }
def FnExactSumAtSaid : Prop := fnExactSumAtRow.holds Try.pinned (OpenSpec.ofChange fnExactSumAtSpec)

/-- ITS FALSE NEIGHBOUR: 'it returns false'. Refute it at one input. -/
def fnExactSumAtWrong : ChangeSpec := { name := "fnExactSumAt", fn := fun _ => fun
  | [d1, d2] => { results := [.lit (.bool false)], args := [d1, d2] }
  | _ => none }
def FnExactSumAtWrongFalsely : Prop := fnExactSumAtRow.holds Try.pinned (OpenSpec.ofChange fnExactSumAtWrong)

/-- 'laws.FnExactSumFits': WHATEVER THE INPUT: true; the input reads as it did. -/
def fnExactSumFitsSpec : ChangeSpec := { name := "fnExactSumFits", fn := fun _ => fun
  | [d1, d2] => { results := [.lit (.bool true)], args := [d1, d2] }
  | _ => none }
def fnExactSumFitsRow : OpenClaim := { program := "yteogadbjnmcblaa", sum := "96f3b9918a7291793cbd3d3d57b88df7cecefb195f4f88910f8410563cafb3f5", func := "loop.example/g00838/laws.FnExactSumFits", spec := "fnExactSumFits", unfollowed := true, recurses := true, apart := false }
def FnExactSumFitsSaid : Prop := fnExactSumFitsRow.holds Try.pinned (OpenSpec.ofChange fnExactSumFitsSpec)

/-- ITS FALSE NEIGHBOUR: 'it returns false'. Refute it at one input. -/
def fnExactSumFitsWrong : ChangeSpec := { name := "fnExactSumFits", fn := fun _ => fun
  | [d1, d2] => { results := [.lit (.bool false)], args := [d1, d2] }
  | _ => none }
def FnExactSumFitsWrongFalsely : Prop := fnExactSumFitsRow.holds Try.pinned (OpenSpec.ofChange fnExactSumFitsWrong)

/- THE SECOND FORM. 'bulk': how many values and letters a reading holds, each counted each time it is reached (what is shared counts as often as it is met; a slice's spare places count too). A statement '..UptoSaid' is the law's where the arguments, and the package variables that the reading takes, are together of bulk at most 1048576: NARROWER than '..Said'. Prove '..Said' where nothing that the law and all that it calls make is longer than what came in: it says more and counts as full. Else prove '..UptoSaid'. A law counts once. -/
mutual
def uptoBulk {H : Type} : DataW H → Nat
  | .lit (.string bytes) => bytes.length + 1
  | .lit _ => 1
  | .nil => 1
  | .ptr d => uptoBulk d + 1
  | .slice elems spare => uptoBulkAll elems + uptoBulkAll spare + 1
  | .agg parts => uptoBulkAll parts + 1
  | .iface _ d => uptoBulk d + 1
  | .map entries => uptoBulkEntries entries + 1
  | .held _ => 1
def uptoBulkAll {H : Type} : List (DataW H) → Nat
  | [] => 0
  | d :: r => uptoBulk d + uptoBulkAll r
def uptoBulkEntries {H : Type} : List (Lit × DataW H) → Nat
  | [] => 0
  | x :: r => uptoBulkEntry x + uptoBulkEntries r
def uptoBulkEntry {H : Type} : Lit × DataW H → Nat
  | (.string bytes, d) => bytes.length + uptoBulk d + 1
  | (_, d) => uptoBulk d + 1
 end
def uptoSmall : (H : Type) → List (DataW H) → Bool := fun _ ds => decide (uptoBulkAll ds ≤ 1048576)
def OpenSpec.upto (s : _root_.Go.ChangeSpec) : _root_.Go.OpenSpec := { _root_.Go.OpenSpec.ofChange s with cond := some uptoSmall }

/-- 'laws.FnExactIsCurve', WHERE WHAT IT READS IS OF BULK AT MOST 1048576: true; the input reads as it did. -/
def fnExactIsCurveUptoRow : OpenClaim := { program := "yteogadbjnmcblaa", sum := "96f3b9918a7291793cbd3d3d57b88df7cecefb195f4f88910f8410563cafb3f5", func := "loop.example/g00838/laws.FnExactIsCurve", spec := "fnExactIsCurve", apart := false, narrowed := true }
def FnExactIsCurveUptoSaid : Prop := fnExactIsCurveUptoRow.holds Try.pinned (OpenSpec.upto fnExactIsCurveSpec)

/-- 'laws.FnExactCurveAt', WHERE WHAT IT READS IS OF BULK AT MOST 1048576: true; the input reads as it did. -/
def fnExactCurveAtUptoRow : OpenClaim := { program := "yteogadbjnmcblaa", sum := "96f3b9918a7291793cbd3d3d57b88df7cecefb195f4f88910f8410563cafb3f5", func := "loop.example/g00838/laws.FnExactCurveAt", spec := "fnExactCurveAt", apart := false, narrowed := true }
def FnExactCurveAtUptoSaid : Prop := fnExactCurveAtUptoRow.holds Try.pinned (OpenSpec.upto fnExactCurveAtSpec)

/-- 'laws.FnExactLeastTime', WHERE WHAT IT READS IS OF BULK AT MOST 1048576: true; the input reads as it did. -/
def fnExactLeastTimeUptoRow : OpenClaim := { program := "yteogadbjnmcblaa", sum := "96f3b9918a7291793cbd3d3d57b88df7cecefb195f4f88910f8410563cafb3f5", func := "loop.example/g00838/laws.FnExactLeastTime", spec := "fnExactLeastTime", unfollowed := true, recurses := true, apart := false, narrowed := true }
def FnExactLeastTimeUptoSaid : Prop := fnExactLeastTimeUptoRow.holds Try.pinned (OpenSpec.upto fnExactLeastTimeSpec)

/-- 'laws.FnExactCurveShape', WHERE WHAT IT READS IS OF BULK AT MOST 1048576: true; the input reads as it did. -/
def fnExactCurveShapeUptoRow : OpenClaim := { program := "yteogadbjnmcblaa", sum := "96f3b9918a7291793cbd3d3d57b88df7cecefb195f4f88910f8410563cafb3f5", func := "loop.example/g00838/laws.FnExactCurveShape", spec := "fnExactCurveShape", apart := false, narrowed := true }
def FnExactCurveShapeUptoSaid : Prop := fnExactCurveShapeUptoRow.holds Try.pinned (OpenSpec.upto fnExactCurveShapeSpec)

/-- 'laws.FnExactSameCurve', WHERE WHAT IT READS IS OF BULK AT MOST 1048576: true; the input reads as it did. -/
def fnExactSameCurveUptoRow : OpenClaim := { program := "yteogadbjnmcblaa", sum := "96f3b9918a7291793cbd3d3d57b88df7cecefb195f4f88910f8410563cafb3f5", func := "loop.example/g00838/laws.FnExactSameCurve", spec := "fnExactSameCurve", apart := false, narrowed := true }
def FnExactSameCurveUptoSaid : Prop := fnExactSameCurveUptoRow.holds Try.pinned (OpenSpec.upto fnExactSameCurveSpec)

/-- 'laws.FnExactShortCurve', WHERE WHAT IT READS IS OF BULK AT MOST 1048576: true; the input reads as it did. -/
def fnExactShortCurveUptoRow : OpenClaim := { program := "yteogadbjnmcblaa", sum := "96f3b9918a7291793cbd3d3d57b88df7cecefb195f4f88910f8410563cafb3f5", func := "loop.example/g00838/laws.FnExactShortCurve", spec := "fnExactShortCurve", apart := false, narrowed := true }
def FnExactShortCurveUptoSaid : Prop := fnExactShortCurveUptoRow.holds Try.pinned (OpenSpec.upto fnExactShortCurveSpec)

/-- 'laws.FnExactCurveBelow', WHERE WHAT IT READS IS OF BULK AT MOST 1048576: true; the input reads as it did. -/
def fnExactCurveBelowUptoRow : OpenClaim := { program := "yteogadbjnmcblaa", sum := "96f3b9918a7291793cbd3d3d57b88df7cecefb195f4f88910f8410563cafb3f5", func := "loop.example/g00838/laws.FnExactCurveBelow", spec := "fnExactCurveBelow", unfollowed := true, recurses := true, apart := false, narrowed := true }
def FnExactCurveBelowUptoSaid : Prop := fnExactCurveBelowUptoRow.holds Try.pinned (OpenSpec.upto fnExactCurveBelowSpec)

/-- 'laws.FnExactFirstAbove', WHERE WHAT IT READS IS OF BULK AT MOST 1048576: true; the input reads as it did. -/
def fnExactFirstAboveUptoRow : OpenClaim := { program := "yteogadbjnmcblaa", sum := "96f3b9918a7291793cbd3d3d57b88df7cecefb195f4f88910f8410563cafb3f5", func := "loop.example/g00838/laws.FnExactFirstAbove", spec := "fnExactFirstAbove", unfollowed := true, recurses := true, apart := false, narrowed := true }
def FnExactFirstAboveUptoSaid : Prop := fnExactFirstAboveUptoRow.holds Try.pinned (OpenSpec.upto fnExactFirstAboveSpec)

/-- 'laws.FnExactSumAt', WHERE WHAT IT READS IS OF BULK AT MOST 1048576: true; the input reads as it did. -/
def fnExactSumAtUptoRow : OpenClaim := { program := "yteogadbjnmcblaa", sum := "96f3b9918a7291793cbd3d3d57b88df7cecefb195f4f88910f8410563cafb3f5", func := "loop.example/g00838/laws.FnExactSumAt", spec := "fnExactSumAt", apart := false, narrowed := true }
def FnExactSumAtUptoSaid : Prop := fnExactSumAtUptoRow.holds Try.pinned (OpenSpec.upto fnExactSumAtSpec)

/-- 'laws.FnExactSumFits', WHERE WHAT IT READS IS OF BULK AT MOST 1048576: true; the input reads as it did. -/
def fnExactSumFitsUptoRow : OpenClaim := { program := "yteogadbjnmcblaa", sum := "96f3b9918a7291793cbd3d3d57b88df7cecefb195f4f88910f8410563cafb3f5", func := "loop.example/g00838/laws.FnExactSumFits", spec := "fnExactSumFits", unfollowed := true, recurses := true, apart := false, narrowed := true }
def FnExactSumFitsUptoSaid : Prop := fnExactSumFitsUptoRow.holds Try.pinned (OpenSpec.upto fnExactSumFitsSpec)

end Rows
end Go.Proofs.Yteogadbjnmcblaa
