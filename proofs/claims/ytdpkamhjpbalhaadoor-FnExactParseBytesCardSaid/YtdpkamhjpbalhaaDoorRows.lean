/-
  NARROWER THAN 'FOR EVERY INPUT', by the rows' own cells (each row's printed sentence says how): FnWritten: laid · FnExactDecimalAt: laid · FnExactHexAt: laid · FnExactHexOf: laid · FnExactBytesText: laid · FnExactParseBytes: laid.
  DERIVED. THE GIVEN ROWS OF THIS SEAT. 6 by the template 'for every input the law returns true; each argument reads behind the call as it read before'; 0 by the template 'total and deterministic' (their statements: YtdpkamhjpbalhaaDoorTotals.lean).
  GIVEN WITH THE SEED: the statements are not yours to turn. If you find one false, say at which input.
  Laid BY PROGRAM, IN A SANDBOX (cutbox-rows.mjs): the forced cells as the released guide's own fill.sh prints them over the translation 8d022767c56968ab… (all of the seat's roots in one cut). By AI agents, Wed Nov 11 2026. No macro, syntax, notation, axiom, sorry.
-/
import Derived.Test.YtdpkamhjpbalhaaDoorChecked
import GoSem.Claim
import GoSem.ClaimJoined
import GoSem.ClaimMapViews
import Derived.JoinedTies
import Derived.KernelRfl
namespace Go.Proofs.YtdpkamhjpbalhaaDoor
/- THE CELL 'sum', in the pinned program and in every row, IS THE sha256 OF THE DUMP (.gsa) THAT YtdpkamhjpbalhaaDoorProg.lean LOADS. Nothing in Lean hashes anything: it is a label: what it is worth is what the hold of that sum in a sandbox is worth. -/
noncomputable def Tryd.pinned : Pinned := { name := "ytdpkamhjpbalhaadoor", sum := "8d022767c56968ab9b6cae1ac4599b2bcf1e32b76cdd8fe9133f216c36408f0c", checked := Tryd.checked }
namespace Rows
def none {H : Type} : Left H := { results := [], args := [] }

/- WHAT THE LISTED PACKAGE-LEVEL VARIABLES READ AS WHEN THE CALL BEGINS. Each datum BY PROGRAM (the guide's laid-datum.mjs) off the statement by which the dump's own 'gosem.cut.vars' lays the variable. In a bare row this is a premise. The card (YtdpkamhjpbalhaaDoorCards.lean) ties it to the program's text. -/
def laid_loop_example_g00838_impl_digits {H : Type} : DataW H := .agg [.lit (.string [48, 49, 50, 51, 52, 53, 54, 55, 56, 57]), .lit (.string [48, 49, 50, 51, 52, 53, 54, 55, 56, 57, 97, 98, 99, 100, 101, 102])]

/-- 'laws.FnWritten': WHATEVER THE INPUT: true; the input reads as it did. -/
def fnWrittenSpec : ChangeSpec := { name := "fnWritten", vars := ["loop.example/g00838/impl.digits"], fn := fun _ => fun
  | [d1, d2, g1] => { results := [.lit (.bool true)], args := [d1, d2], vars := [g1] }
  | _ => none }
def fnWrittenRow : OpenClaim := { program := "ytdpkamhjpbalhaadoor", sum := "8d022767c56968ab9b6cae1ac4599b2bcf1e32b76cdd8fe9133f216c36408f0c", func := "loop.example/g00838/laws.FnWritten", spec := "fnWritten", inPlace := ["internal/bytealg.IndexByteString"], named := ["loop.example/g00838/impl.digits"], apart := false, laid := [("loop.example/g00838/impl.digits", laid_loop_example_g00838_impl_digits)] }
def FnWrittenSaid : Prop := fnWrittenRow.holds Tryd.pinned (OpenSpec.ofChange fnWrittenSpec)

/-- ITS FALSE NEIGHBOUR: 'it returns false'. Refute it at one input. -/
def fnWrittenWrong : ChangeSpec := { name := "fnWritten", vars := ["loop.example/g00838/impl.digits"], fn := fun _ => fun
  | [d1, d2, g1] => { results := [.lit (.bool false)], args := [d1, d2], vars := [g1] }
  | _ => none }
def FnWrittenWrongFalsely : Prop := fnWrittenRow.holds Tryd.pinned (OpenSpec.ofChange fnWrittenWrong)

/-- 'laws.FnExactDecimalAt': WHATEVER THE INPUT: true; the input reads as it did. -/
def fnExactDecimalAtSpec : ChangeSpec := { name := "fnExactDecimalAt", vars := ["loop.example/g00838/impl.digits"], fn := fun _ => fun
  | [d1, d2, g1] => { results := [.lit (.bool true)], args := [d1, d2], vars := [g1] }
  | _ => none }
def fnExactDecimalAtRow : OpenClaim := { program := "ytdpkamhjpbalhaadoor", sum := "8d022767c56968ab9b6cae1ac4599b2bcf1e32b76cdd8fe9133f216c36408f0c", func := "loop.example/g00838/laws.FnExactDecimalAt", spec := "fnExactDecimalAt", inPlace := ["internal/bytealg.IndexByteString"], named := ["loop.example/g00838/impl.digits"], apart := false, laid := [("loop.example/g00838/impl.digits", laid_loop_example_g00838_impl_digits)] }
def FnExactDecimalAtSaid : Prop := fnExactDecimalAtRow.holds Tryd.pinned (OpenSpec.ofChange fnExactDecimalAtSpec)

/-- ITS FALSE NEIGHBOUR: 'it returns false'. Refute it at one input. -/
def fnExactDecimalAtWrong : ChangeSpec := { name := "fnExactDecimalAt", vars := ["loop.example/g00838/impl.digits"], fn := fun _ => fun
  | [d1, d2, g1] => { results := [.lit (.bool false)], args := [d1, d2], vars := [g1] }
  | _ => none }
def FnExactDecimalAtWrongFalsely : Prop := fnExactDecimalAtRow.holds Tryd.pinned (OpenSpec.ofChange fnExactDecimalAtWrong)

/-- 'laws.FnExactHexAt': WHATEVER THE INPUT: true; the input reads as it did. -/
def fnExactHexAtSpec : ChangeSpec := { name := "fnExactHexAt", vars := ["loop.example/g00838/impl.digits"], fn := fun _ => fun
  | [d1, d2, g1] => { results := [.lit (.bool true)], args := [d1, d2], vars := [g1] }
  | _ => none }
def fnExactHexAtRow : OpenClaim := { program := "ytdpkamhjpbalhaadoor", sum := "8d022767c56968ab9b6cae1ac4599b2bcf1e32b76cdd8fe9133f216c36408f0c", func := "loop.example/g00838/laws.FnExactHexAt", spec := "fnExactHexAt", inPlace := ["internal/bytealg.IndexByteString"], named := ["loop.example/g00838/impl.digits"], apart := false, laid := [("loop.example/g00838/impl.digits", laid_loop_example_g00838_impl_digits)] }
def FnExactHexAtSaid : Prop := fnExactHexAtRow.holds Tryd.pinned (OpenSpec.ofChange fnExactHexAtSpec)

/-- ITS FALSE NEIGHBOUR: 'it returns false'. Refute it at one input. -/
def fnExactHexAtWrong : ChangeSpec := { name := "fnExactHexAt", vars := ["loop.example/g00838/impl.digits"], fn := fun _ => fun
  | [d1, d2, g1] => { results := [.lit (.bool false)], args := [d1, d2], vars := [g1] }
  | _ => none }
def FnExactHexAtWrongFalsely : Prop := fnExactHexAtRow.holds Tryd.pinned (OpenSpec.ofChange fnExactHexAtWrong)

/-- 'laws.FnExactHexOf': WHATEVER THE INPUT: true; the input reads as it did. -/
def fnExactHexOfSpec : ChangeSpec := { name := "fnExactHexOf", vars := ["loop.example/g00838/impl.digits"], fn := fun _ => fun
  | [d, g1] => { results := [.lit (.bool true)], args := [d], vars := [g1] }
  | _ => none }
def fnExactHexOfRow : OpenClaim := { program := "ytdpkamhjpbalhaadoor", sum := "8d022767c56968ab9b6cae1ac4599b2bcf1e32b76cdd8fe9133f216c36408f0c", func := "loop.example/g00838/laws.FnExactHexOf", spec := "fnExactHexOf", named := ["loop.example/g00838/impl.digits"], apart := false, laid := [("loop.example/g00838/impl.digits", laid_loop_example_g00838_impl_digits)] }
def FnExactHexOfSaid : Prop := fnExactHexOfRow.holds Tryd.pinned (OpenSpec.ofChange fnExactHexOfSpec)

/-- ITS FALSE NEIGHBOUR: 'it returns false'. Refute it at one input. -/
def fnExactHexOfWrong : ChangeSpec := { name := "fnExactHexOf", vars := ["loop.example/g00838/impl.digits"], fn := fun _ => fun
  | [d, g1] => { results := [.lit (.bool false)], args := [d], vars := [g1] }
  | _ => none }
def FnExactHexOfWrongFalsely : Prop := fnExactHexOfRow.holds Tryd.pinned (OpenSpec.ofChange fnExactHexOfWrong)

/-- 'laws.FnExactBytesText': WHATEVER THE INPUT: true; the input reads as it did. -/
def fnExactBytesTextSpec : ChangeSpec := { name := "fnExactBytesText", vars := ["loop.example/g00838/impl.digits"], fn := fun _ => fun
  | [d, g1] => { results := [.lit (.bool true)], args := [d], vars := [g1] }
  | _ => none }
def fnExactBytesTextRow : OpenClaim := { program := "ytdpkamhjpbalhaadoor", sum := "8d022767c56968ab9b6cae1ac4599b2bcf1e32b76cdd8fe9133f216c36408f0c", func := "loop.example/g00838/laws.FnExactBytesText", spec := "fnExactBytesText", named := ["loop.example/g00838/impl.digits"], apart := false, laid := [("loop.example/g00838/impl.digits", laid_loop_example_g00838_impl_digits)] }
def FnExactBytesTextSaid : Prop := fnExactBytesTextRow.holds Tryd.pinned (OpenSpec.ofChange fnExactBytesTextSpec)

/-- ITS FALSE NEIGHBOUR: 'it returns false'. Refute it at one input. -/
def fnExactBytesTextWrong : ChangeSpec := { name := "fnExactBytesText", vars := ["loop.example/g00838/impl.digits"], fn := fun _ => fun
  | [d, g1] => { results := [.lit (.bool false)], args := [d], vars := [g1] }
  | _ => none }
def FnExactBytesTextWrongFalsely : Prop := fnExactBytesTextRow.holds Tryd.pinned (OpenSpec.ofChange fnExactBytesTextWrong)

/-- 'laws.FnExactParseBytes': WHATEVER THE INPUT: true; the input reads as it did. -/
def fnExactParseBytesSpec : ChangeSpec := { name := "fnExactParseBytes", vars := ["loop.example/g00838/impl.digits"], fn := fun _ => fun
  | [d, g1] => { results := [.lit (.bool true)], args := [d], vars := [g1] }
  | _ => none }
def fnExactParseBytesRow : OpenClaim := { program := "ytdpkamhjpbalhaadoor", sum := "8d022767c56968ab9b6cae1ac4599b2bcf1e32b76cdd8fe9133f216c36408f0c", func := "loop.example/g00838/laws.FnExactParseBytes", spec := "fnExactParseBytes", inPlace := ["internal/bytealg.IndexByteString"], named := ["loop.example/g00838/impl.digits"], apart := false, laid := [("loop.example/g00838/impl.digits", laid_loop_example_g00838_impl_digits)] }
def FnExactParseBytesSaid : Prop := fnExactParseBytesRow.holds Tryd.pinned (OpenSpec.ofChange fnExactParseBytesSpec)

/-- ITS FALSE NEIGHBOUR: 'it returns false'. Refute it at one input. -/
def fnExactParseBytesWrong : ChangeSpec := { name := "fnExactParseBytes", vars := ["loop.example/g00838/impl.digits"], fn := fun _ => fun
  | [d, g1] => { results := [.lit (.bool false)], args := [d], vars := [g1] }
  | _ => none }
def FnExactParseBytesWrongFalsely : Prop := fnExactParseBytesRow.holds Tryd.pinned (OpenSpec.ofChange fnExactParseBytesWrong)

/- THE SECOND FORM. 'bulk': how many values and letters a reading holds, each counted each time it is reached (what is shared counts as often as it is met; a slice's spare places count too). A statement '..UptoSaid' is the law's where the arguments, and the package variables that the reading takes, are together of bulk at most 1048576: NARROWER than '..Said'. Prove '..Said' where nothing that the law and all that it calls make is longer than what came in: it says more and counts as full. Else prove '..UptoSaid'. A law counts once. -/
mutual
def uptoBulk {H : Type} : DataW H → Nat
  | .lit (.string bytes) => bytes.length + 1
  | .lit _ => 1
  | .nil => 1
  | .ptr d => uptoBulk d + 1
  | .slice elems spare => uptoBulkAll elems + uptoBulkAll spare + 1
  | .agg parts => uptoBulkAll parts + 1
  | .iface _ d => uptoBulk d + 1
  | .map entries => uptoBulkEntries entries + 1
  | .held _ => 1
def uptoBulkAll {H : Type} : List (DataW H) → Nat
  | [] => 0
  | d :: r => uptoBulk d + uptoBulkAll r
def uptoBulkEntries {H : Type} : List (Lit × DataW H) → Nat
  | [] => 0
  | x :: r => uptoBulkEntry x + uptoBulkEntries r
def uptoBulkEntry {H : Type} : Lit × DataW H → Nat
  | (.string bytes, d) => bytes.length + uptoBulk d + 1
  | (_, d) => uptoBulk d + 1
 end
def uptoSmall : (H : Type) → List (DataW H) → Bool := fun _ ds => decide (uptoBulkAll ds ≤ 1048576)
def OpenSpec.upto (s : _root_.Go.ChangeSpec) : _root_.Go.OpenSpec := { _root_.Go.OpenSpec.ofChange s with cond := some uptoSmall }

/-- 'laws.FnWritten', WHERE WHAT IT READS IS OF BULK AT MOST 1048576: true; the input reads as it did. -/
def fnWrittenUptoRow : OpenClaim := { program := "ytdpkamhjpbalhaadoor", sum := "8d022767c56968ab9b6cae1ac4599b2bcf1e32b76cdd8fe9133f216c36408f0c", func := "loop.example/g00838/laws.FnWritten", spec := "fnWritten", inPlace := ["internal/bytealg.IndexByteString"], named := ["loop.example/g00838/impl.digits"], apart := false, laid := [("loop.example/g00838/impl.digits", laid_loop_example_g00838_impl_digits)], narrowed := true }
def FnWrittenUptoSaid : Prop := fnWrittenUptoRow.holds Tryd.pinned (OpenSpec.upto fnWrittenSpec)

/-- 'laws.FnExactDecimalAt', WHERE WHAT IT READS IS OF BULK AT MOST 1048576: true; the input reads as it did. -/
def fnExactDecimalAtUptoRow : OpenClaim := { program := "ytdpkamhjpbalhaadoor", sum := "8d022767c56968ab9b6cae1ac4599b2bcf1e32b76cdd8fe9133f216c36408f0c", func := "loop.example/g00838/laws.FnExactDecimalAt", spec := "fnExactDecimalAt", inPlace := ["internal/bytealg.IndexByteString"], named := ["loop.example/g00838/impl.digits"], apart := false, laid := [("loop.example/g00838/impl.digits", laid_loop_example_g00838_impl_digits)], narrowed := true }
def FnExactDecimalAtUptoSaid : Prop := fnExactDecimalAtUptoRow.holds Tryd.pinned (OpenSpec.upto fnExactDecimalAtSpec)

/-- 'laws.FnExactHexAt', WHERE WHAT IT READS IS OF BULK AT MOST 1048576: true; the input reads as it did. -/
def fnExactHexAtUptoRow : OpenClaim := { program := "ytdpkamhjpbalhaadoor", sum := "8d022767c56968ab9b6cae1ac4599b2bcf1e32b76cdd8fe9133f216c36408f0c", func := "loop.example/g00838/laws.FnExactHexAt", spec := "fnExactHexAt", inPlace := ["internal/bytealg.IndexByteString"], named := ["loop.example/g00838/impl.digits"], apart := false, laid := [("loop.example/g00838/impl.digits", laid_loop_example_g00838_impl_digits)], narrowed := true }
def FnExactHexAtUptoSaid : Prop := fnExactHexAtUptoRow.holds Tryd.pinned (OpenSpec.upto fnExactHexAtSpec)

/-- 'laws.FnExactHexOf', WHERE WHAT IT READS IS OF BULK AT MOST 1048576: true; the input reads as it did. -/
def fnExactHexOfUptoRow : OpenClaim := { program := "ytdpkamhjpbalhaadoor", sum := "8d022767c56968ab9b6cae1ac4599b2bcf1e32b76cdd8fe9133f216c36408f0c", func := "loop.example/g00838/laws.FnExactHexOf", spec := "fnExactHexOf", named := ["loop.example/g00838/impl.digits"], apart := false, laid := [("loop.example/g00838/impl.digits", laid_loop_example_g00838_impl_digits)], narrowed := true }
def FnExactHexOfUptoSaid : Prop := fnExactHexOfUptoRow.holds Tryd.pinned (OpenSpec.upto fnExactHexOfSpec)

/-- 'laws.FnExactBytesText', WHERE WHAT IT READS IS OF BULK AT MOST 1048576: true; the input reads as it did. -/
def fnExactBytesTextUptoRow : OpenClaim := { program := "ytdpkamhjpbalhaadoor", sum := "8d022767c56968ab9b6cae1ac4599b2bcf1e32b76cdd8fe9133f216c36408f0c", func := "loop.example/g00838/laws.FnExactBytesText", spec := "fnExactBytesText", named := ["loop.example/g00838/impl.digits"], apart := false, laid := [("loop.example/g00838/impl.digits", laid_loop_example_g00838_impl_digits)], narrowed := true }
def FnExactBytesTextUptoSaid : Prop := fnExactBytesTextUptoRow.holds Tryd.pinned (OpenSpec.upto fnExactBytesTextSpec)

/-- 'laws.FnExactParseBytes', WHERE WHAT IT READS IS OF BULK AT MOST 1048576: true; the input reads as it did. -/
def fnExactParseBytesUptoRow : OpenClaim := { program := "ytdpkamhjpbalhaadoor", sum := "8d022767c56968ab9b6cae1ac4599b2bcf1e32b76cdd8fe9133f216c36408f0c", func := "loop.example/g00838/laws.FnExactParseBytes", spec := "fnExactParseBytes", inPlace := ["internal/bytealg.IndexByteString"], named := ["loop.example/g00838/impl.digits"], apart := false, laid := [("loop.example/g00838/impl.digits", laid_loop_example_g00838_impl_digits)], narrowed := true }
def FnExactParseBytesUptoSaid : Prop := fnExactParseBytesUptoRow.holds Tryd.pinned (OpenSpec.upto fnExactParseBytesSpec)

end Rows
end Go.Proofs.YtdpkamhjpbalhaaDoor
