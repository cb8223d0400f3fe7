/-
  NARROWER THAN 'FOR EVERY INPUT', by the rows' own cells (each row's printed sentence says how): FnExactKindName: laid · FnExactKindNamed: laid · FnExactLineOf: laid · FnExactPlaceOf: laid · FnExactLineText: laid · FnExactMarkedLine: laid · FnExactFaultText: laid · FnExactParseFault: laid.
  DERIVED. THE GIVEN ROWS OF THIS SEAT. 8 by the template 'for every input the law returns true; each argument reads behind the call as it read before'; 0 by the template 'total and deterministic' (their statements: YtdfkehgkonadhaaDoorTotals.lean).
  GIVEN WITH THE SEED: the statements are not yours to turn. If you find one false, say at which input.
  Laid BY PROGRAM, IN A SANDBOX (cutbox-rows.mjs): the forced cells as the released guide's own fill.sh prints them over the translation dad524a6bfde0767… (all of the seat's roots in one cut). By AI agents, Wed Nov 11 2026. No macro, syntax, notation, axiom, sorry.
-/
import Derived.Test.YtdfkehgkonadhaaDoorChecked
import GoSem.PinnedTables
import GoSem.Claim
import GoSem.ClaimJoined
import GoSem.ClaimMapViews
import Derived.JoinedTies
import Derived.KernelRfl
namespace Go.Proofs.YtdfkehgkonadhaaDoor
/- THE CELL 'sum', in the pinned program and in every row, IS THE sha256 OF THE DUMP (.gsa) THAT YtdfkehgkonadhaaDoorProg.lean LOADS. Nothing in Lean hashes anything: it is a label: what it is worth is what the hold of that sum in a sandbox is worth. -/
noncomputable def Tryd.pinned : Pinned := { name := "ytdfkehgkonadhaadoor", sum := "dad524a6bfde0767c22c8f960afe54e61fba7095068abeda4154668e83688cb5", checked := Tryd.checked }
namespace Rows
def none {H : Type} : Left H := { results := [], args := [] }

/- WHAT THE LISTED PACKAGE-LEVEL VARIABLES READ AS WHEN THE CALL BEGINS. Each datum BY PROGRAM (the guide's laid-datum.mjs) off the statement by which the dump's own 'gosem.cut.vars' lays the variable. In a bare row this is a premise. The card (YtdfkehgkonadhaaDoorCards.lean) ties it to the program's text. -/
def laid_loop_example_g00838_impl_kindNames {H : Type} : DataW H := .agg [.lit (.string [110, 111, 110, 101]), .lit (.string [98, 121, 116, 101]), .lit (.string [116, 111, 107, 101, 110]), .lit (.string [110, 117, 109, 98, 101, 114]), .lit (.string [100, 101, 112, 116, 104]), .lit (.string [99, 111, 117, 110, 116]), .lit (.string [101, 110, 100]), .lit (.string [110, 97, 109, 101])]
def laid_unicode_utf8_acceptRanges {H : Type} : DataW H := .agg [.agg [.lit (.int .u8 128), .lit (.int .u8 191)], .agg [.lit (.int .u8 160), .lit (.int .u8 191)], .agg [.lit (.int .u8 128), .lit (.int .u8 159)], .agg [.lit (.int .u8 144), .lit (.int .u8 191)], .agg [.lit (.int .u8 128), .lit (.int .u8 143)], .agg [.lit (.int .u8 0), .lit (.int .u8 0)], .agg [.lit (.int .u8 0), .lit (.int .u8 0)], .agg [.lit (.int .u8 0), .lit (.int .u8 0)], .agg [.lit (.int .u8 0), .lit (.int .u8 0)], .agg [.lit (.int .u8 0), .lit (.int .u8 0)], .agg [.lit (.int .u8 0), .lit (.int .u8 0)], .agg [.lit (.int .u8 0), .lit (.int .u8 0)], .agg [.lit (.int .u8 0), .lit (.int .u8 0)], .agg [.lit (.int .u8 0), .lit (.int .u8 0)], .agg [.lit (.int .u8 0), .lit (.int .u8 0)], .agg [.lit (.int .u8 0), .lit (.int .u8 0)]]
/-- One of Go's own tables, pinned by name: the form's constant. -/
def laid_unicode_utf8_first : DataW Unit := Go.Pinned.utf8First
def laid_math_bits_deBruijn32tab {H : Type} : DataW H := .agg [.lit (.int .u8 0), .lit (.int .u8 1), .lit (.int .u8 28), .lit (.int .u8 2), .lit (.int .u8 29), .lit (.int .u8 14), .lit (.int .u8 24), .lit (.int .u8 3), .lit (.int .u8 30), .lit (.int .u8 22), .lit (.int .u8 20), .lit (.int .u8 15), .lit (.int .u8 25), .lit (.int .u8 17), .lit (.int .u8 4), .lit (.int .u8 8), .lit (.int .u8 31), .lit (.int .u8 27), .lit (.int .u8 13), .lit (.int .u8 23), .lit (.int .u8 21), .lit (.int .u8 19), .lit (.int .u8 16), .lit (.int .u8 7), .lit (.int .u8 26), .lit (.int .u8 12), .lit (.int .u8 18), .lit (.int .u8 6), .lit (.int .u8 11), .lit (.int .u8 5), .lit (.int .u8 10), .lit (.int .u8 9)]
def laid_math_bits_deBruijn64tab {H : Type} : DataW H := .agg [.lit (.int .u8 0), .lit (.int .u8 1), .lit (.int .u8 56), .lit (.int .u8 2), .lit (.int .u8 57), .lit (.int .u8 49), .lit (.int .u8 28), .lit (.int .u8 3), .lit (.int .u8 61), .lit (.int .u8 58), .lit (.int .u8 42), .lit (.int .u8 50), .lit (.int .u8 38), .lit (.int .u8 29), .lit (.int .u8 17), .lit (.int .u8 4), .lit (.int .u8 62), .lit (.int .u8 47), .lit (.int .u8 59), .lit (.int .u8 36), .lit (.int .u8 45), .lit (.int .u8 43), .lit (.int .u8 51), .lit (.int .u8 22), .lit (.int .u8 53), .lit (.int .u8 39), .lit (.int .u8 33), .lit (.int .u8 30), .lit (.int .u8 24), .lit (.int .u8 18), .lit (.int .u8 12), .lit (.int .u8 5), .lit (.int .u8 63), .lit (.int .u8 55), .lit (.int .u8 48), .lit (.int .u8 27), .lit (.int .u8 60), .lit (.int .u8 41), .lit (.int .u8 37), .lit (.int .u8 16), .lit (.int .u8 46), .lit (.int .u8 35), .lit (.int .u8 44), .lit (.int .u8 21), .lit (.int .u8 52), .lit (.int .u8 32), .lit (.int .u8 23), .lit (.int .u8 11), .lit (.int .u8 54), .lit (.int .u8 26), .lit (.int .u8 40), .lit (.int .u8 15), .lit (.int .u8 34), .lit (.int .u8 20), .lit (.int .u8 31), .lit (.int .u8 10), .lit (.int .u8 25), .lit (.int .u8 14), .lit (.int .u8 19), .lit (.int .u8 9), .lit (.int .u8 13), .lit (.int .u8 8), .lit (.int .u8 7), .lit (.int .u8 6)]
def laid_internal_strconv_uint64pow10 {H : Type} : DataW H := .agg [.lit (.int .u64 1), .lit (.int .u64 10), .lit (.int .u64 100), .lit (.int .u64 1000), .lit (.int .u64 10000), .lit (.int .u64 100000), .lit (.int .u64 1000000), .lit (.int .u64 10000000), .lit (.int .u64 100000000), .lit (.int .u64 1000000000), .lit (.int .u64 10000000000), .lit (.int .u64 100000000000), .lit (.int .u64 1000000000000), .lit (.int .u64 10000000000000), .lit (.int .u64 100000000000000), .lit (.int .u64 1000000000000000), .lit (.int .u64 10000000000000000), .lit (.int .u64 100000000000000000), .lit (.int .u64 1000000000000000000), .lit (.int .u64 10000000000000000000)]
def laid_loop_example_g00838_impl_digits {H : Type} : DataW H := .agg [.lit (.string [48, 49, 50, 51, 52, 53, 54, 55, 56, 57]), .lit (.string [48, 49, 50, 51, 52, 53, 54, 55, 56, 57, 97, 98, 99, 100, 101, 102])]

/-- 'laws.FnExactKindName': WHATEVER THE INPUT: true; the input reads as it did. -/
def fnExactKindNameSpec : ChangeSpec := { name := "fnExactKindName", vars := ["loop.example/g00838/impl.kindNames"], fn := fun _ => fun
  | [d, g1] => { results := [.lit (.bool true)], args := [d], vars := [g1] }
  | _ => none }
def fnExactKindNameRow : OpenClaim := { program := "ytdfkehgkonadhaadoor", sum := "dad524a6bfde0767c22c8f960afe54e61fba7095068abeda4154668e83688cb5", func := "loop.example/g00838/laws.FnExactKindName", spec := "fnExactKindName", named := ["loop.example/g00838/impl.kindNames"], apart := false, laid := [("loop.example/g00838/impl.kindNames", laid_loop_example_g00838_impl_kindNames)] }
def FnExactKindNameSaid : Prop := fnExactKindNameRow.holds Tryd.pinned (OpenSpec.ofChange fnExactKindNameSpec)

/-- ITS FALSE NEIGHBOUR: 'it returns false'. Refute it at one input. -/
def fnExactKindNameWrong : ChangeSpec := { name := "fnExactKindName", vars := ["loop.example/g00838/impl.kindNames"], fn := fun _ => fun
  | [d, g1] => { results := [.lit (.bool false)], args := [d], vars := [g1] }
  | _ => none }
def FnExactKindNameWrongFalsely : Prop := fnExactKindNameRow.holds Tryd.pinned (OpenSpec.ofChange fnExactKindNameWrong)

/-- 'laws.FnExactKindNamed': WHATEVER THE INPUT: true; the input reads as it did. -/
def fnExactKindNamedSpec : ChangeSpec := { name := "fnExactKindNamed", vars := ["loop.example/g00838/impl.kindNames"], fn := fun _ => fun
  | [d, g1] => { results := [.lit (.bool true)], args := [d], vars := [g1] }
  | _ => none }
def fnExactKindNamedRow : OpenClaim := { program := "ytdfkehgkonadhaadoor", sum := "dad524a6bfde0767c22c8f960afe54e61fba7095068abeda4154668e83688cb5", func := "loop.example/g00838/laws.FnExactKindNamed", spec := "fnExactKindNamed", named := ["loop.example/g00838/impl.kindNames"], apart := false, laid := [("loop.example/g00838/impl.kindNames", laid_loop_example_g00838_impl_kindNames)] }
def FnExactKindNamedSaid : Prop := fnExactKindNamedRow.holds Tryd.pinned (OpenSpec.ofChange fnExactKindNamedSpec)

/-- ITS FALSE NEIGHBOUR: 'it returns false'. Refute it at one input. -/
def fnExactKindNamedWrong : ChangeSpec := { name := "fnExactKindNamed", vars := ["loop.example/g00838/impl.kindNames"], fn := fun _ => fun
  | [d, g1] => { results := [.lit (.bool false)], args := [d], vars := [g1] }
  | _ => none }
def FnExactKindNamedWrongFalsely : Prop := fnExactKindNamedRow.holds Tryd.pinned (OpenSpec.ofChange fnExactKindNamedWrong)

/-- 'laws.FnExactLineOf': WHATEVER THE INPUT: true; the input reads as it did. -/
def fnExactLineOfSpec : ChangeSpec := { name := "fnExactLineOf", fn := fun _ => fun
  | [d1, d2] => { results := [.lit (.bool true)], args := [d1, d2] }
  | _ => none }
def fnExactLineOfRow : OpenClaim := { program := "ytdfkehgkonadhaadoor", sum := "dad524a6bfde0767c22c8f960afe54e61fba7095068abeda4154668e83688cb5", func := "loop.example/g00838/laws.FnExactLineOf", spec := "fnExactLineOf", inPlace := ["internal/bytealg.CountString", "internal/bytealg.IndexByteString", "internal/bytealg.IndexString"], named := ["unicode/utf8.first", "unicode/utf8.acceptRanges", "internal/bytealg.MaxLen"], apart := false, laid := [("unicode/utf8.acceptRanges", laid_unicode_utf8_acceptRanges), ("unicode/utf8.first", laid_unicode_utf8_first)] }
def FnExactLineOfSaid : Prop := fnExactLineOfRow.holds Tryd.pinned (OpenSpec.ofChange fnExactLineOfSpec)

/-- ITS FALSE NEIGHBOUR: 'it returns false'. Refute it at one input. -/
def fnExactLineOfWrong : ChangeSpec := { name := "fnExactLineOf", fn := fun _ => fun
  | [d1, d2] => { results := [.lit (.bool false)], args := [d1, d2] }
  | _ => none }
def FnExactLineOfWrongFalsely : Prop := fnExactLineOfRow.holds Tryd.pinned (OpenSpec.ofChange fnExactLineOfWrong)

/-- 'laws.FnExactPlaceOf': WHATEVER THE INPUT: true; the input reads as it did. -/
def fnExactPlaceOfSpec : ChangeSpec := { name := "fnExactPlaceOf", fn := fun _ => fun
  | [d1, d2, d3] => { results := [.lit (.bool true)], args := [d1, d2, d3] }
  | _ => none }
def fnExactPlaceOfRow : OpenClaim := { program := "ytdfkehgkonadhaadoor", sum := "dad524a6bfde0767c22c8f960afe54e61fba7095068abeda4154668e83688cb5", func := "loop.example/g00838/laws.FnExactPlaceOf", spec := "fnExactPlaceOf", inPlace := ["internal/bytealg.CountString", "internal/bytealg.IndexByteString", "internal/bytealg.IndexString"], named := ["unicode/utf8.first", "unicode/utf8.acceptRanges", "internal/bytealg.MaxLen"], apart := false, laid := [("unicode/utf8.acceptRanges", laid_unicode_utf8_acceptRanges), ("unicode/utf8.first", laid_unicode_utf8_first)] }
def FnExactPlaceOfSaid : Prop := fnExactPlaceOfRow.holds Tryd.pinned (OpenSpec.ofChange fnExactPlaceOfSpec)

/-- ITS FALSE NEIGHBOUR: 'it returns false'. Refute it at one input. -/
def fnExactPlaceOfWrong : ChangeSpec := { name := "fnExactPlaceOf", fn := fun _ => fun
  | [d1, d2, d3] => { results := [.lit (.bool false)], args := [d1, d2, d3] }
  | _ => none }
def FnExactPlaceOfWrongFalsely : Prop := fnExactPlaceOfRow.holds Tryd.pinned (OpenSpec.ofChange fnExactPlaceOfWrong)

/-- 'laws.FnExactLineText': WHATEVER THE INPUT: true; the input reads as it did. -/
def fnExactLineTextSpec : ChangeSpec := { name := "fnExactLineText", fn := fun _ => fun
  | [d1, d2] => { results := [.lit (.bool true)], args := [d1, d2] }
  | _ => none }
def fnExactLineTextRow : OpenClaim := { program := "ytdfkehgkonadhaadoor", sum := "dad524a6bfde0767c22c8f960afe54e61fba7095068abeda4154668e83688cb5", func := "loop.example/g00838/laws.FnExactLineText", spec := "fnExactLineText", inPlace := ["internal/bytealg.CountString", "internal/bytealg.IndexByteString", "internal/bytealg.IndexString"], named := ["unicode/utf8.first", "unicode/utf8.acceptRanges", "internal/bytealg.MaxLen"], apart := false, laid := [("unicode/utf8.acceptRanges", laid_unicode_utf8_acceptRanges), ("unicode/utf8.first", laid_unicode_utf8_first)] }
def FnExactLineTextSaid : Prop := fnExactLineTextRow.holds Tryd.pinned (OpenSpec.ofChange fnExactLineTextSpec)

/-- ITS FALSE NEIGHBOUR: 'it returns false'. Refute it at one input. -/
def fnExactLineTextWrong : ChangeSpec := { name := "fnExactLineText", fn := fun _ => fun
  | [d1, d2] => { results := [.lit (.bool false)], args := [d1, d2] }
  | _ => none }
def FnExactLineTextWrongFalsely : Prop := fnExactLineTextRow.holds Tryd.pinned (OpenSpec.ofChange fnExactLineTextWrong)

/-- 'laws.FnExactMarkedLine': WHATEVER THE INPUT: true; the input reads as it did. -/
def fnExactMarkedLineSpec : ChangeSpec := { name := "fnExactMarkedLine", fn := fun _ => fun
  | [d1, d2] => { results := [.lit (.bool true)], args := [d1, d2] }
  | _ => none }
def fnExactMarkedLineRow : OpenClaim := { program := "ytdfkehgkonadhaadoor", sum := "dad524a6bfde0767c22c8f960afe54e61fba7095068abeda4154668e83688cb5", func := "loop.example/g00838/laws.FnExactMarkedLine", spec := "fnExactMarkedLine", inPlace := ["internal/bytealg.CountString", "internal/bytealg.IndexByteString", "internal/bytealg.IndexString", "internal/abi.NoEscape", "internal/bytealg.MakeNoZero"], named := ["unicode/utf8.first", "unicode/utf8.acceptRanges", "internal/bytealg.MaxLen"], apart := false, laid := [("unicode/utf8.acceptRanges", laid_unicode_utf8_acceptRanges), ("unicode/utf8.first", laid_unicode_utf8_first)] }
def FnExactMarkedLineSaid : Prop := fnExactMarkedLineRow.holds Tryd.pinned (OpenSpec.ofChange fnExactMarkedLineSpec)

/-- ITS FALSE NEIGHBOUR: 'it returns false'. Refute it at one input. -/
def fnExactMarkedLineWrong : ChangeSpec := { name := "fnExactMarkedLine", fn := fun _ => fun
  | [d1, d2] => { results := [.lit (.bool false)], args := [d1, d2] }
  | _ => none }
def FnExactMarkedLineWrongFalsely : Prop := fnExactMarkedLineRow.holds Tryd.pinned (OpenSpec.ofChange fnExactMarkedLineWrong)

/-- 'laws.FnExactFaultText': WHATEVER THE INPUT: true; the input reads as it did. -/
def fnExactFaultTextSpec : ChangeSpec := { name := "fnExactFaultText", vars := ["loop.example/g00838/impl.kindNames"], fn := fun _ => fun
  | [d, g1] => { results := [.lit (.bool true)], args := [d], vars := [g1] }
  | _ => none }
def fnExactFaultTextRow : OpenClaim := { program := "ytdfkehgkonadhaadoor", sum := "dad524a6bfde0767c22c8f960afe54e61fba7095068abeda4154668e83688cb5", func := "loop.example/g00838/laws.FnExactFaultText", spec := "fnExactFaultText", recurses := true, named := ["loop.example/g00838/impl.kindNames", "internal/strconv.uint64pow10", "math/bits.deBruijn32tab", "math/bits.deBruijn64tab"], apart := false, laid := [("math/bits.deBruijn32tab", laid_math_bits_deBruijn32tab), ("math/bits.deBruijn64tab", laid_math_bits_deBruijn64tab), ("internal/strconv.uint64pow10", laid_internal_strconv_uint64pow10), ("loop.example/g00838/impl.kindNames", laid_loop_example_g00838_impl_kindNames)] }
def FnExactFaultTextSaid : Prop := fnExactFaultTextRow.holds Tryd.pinned (OpenSpec.ofChange fnExactFaultTextSpec)

/-- ITS FALSE NEIGHBOUR: 'it returns false'. Refute it at one input. -/
def fnExactFaultTextWrong : ChangeSpec := { name := "fnExactFaultText", vars := ["loop.example/g00838/impl.kindNames"], fn := fun _ => fun
  | [d, g1] => { results := [.lit (.bool false)], args := [d], vars := [g1] }
  | _ => none }
def FnExactFaultTextWrongFalsely : Prop := fnExactFaultTextRow.holds Tryd.pinned (OpenSpec.ofChange fnExactFaultTextWrong)

/-- 'laws.FnExactParseFault': WHATEVER THE INPUT: true; the input reads as it did. -/
def fnExactParseFaultSpec : ChangeSpec := { name := "fnExactParseFault", vars := ["loop.example/g00838/impl.kindNames", "loop.example/g00838/impl.digits"], fn := fun _ => fun
  | [d, g1, g2] => { results := [.lit (.bool true)], args := [d], vars := [g1, g2] }
  | _ => none }
def fnExactParseFaultRow : OpenClaim := { program := "ytdfkehgkonadhaadoor", sum := "dad524a6bfde0767c22c8f960afe54e61fba7095068abeda4154668e83688cb5", func := "loop.example/g00838/laws.FnExactParseFault", spec := "fnExactParseFault", inPlace := ["internal/bytealg.IndexByteString", "internal/bytealg.IndexString"], recurses := true, named := ["internal/bytealg.MaxLen", "loop.example/g00838/impl.kindNames", "loop.example/g00838/impl.digits"], apart := false, laid := [("loop.example/g00838/impl.digits", laid_loop_example_g00838_impl_digits), ("loop.example/g00838/impl.kindNames", laid_loop_example_g00838_impl_kindNames)] }
def FnExactParseFaultSaid : Prop := fnExactParseFaultRow.holds Tryd.pinned (OpenSpec.ofChange fnExactParseFaultSpec)

/-- ITS FALSE NEIGHBOUR: 'it returns false'. Refute it at one input. -/
def fnExactParseFaultWrong : ChangeSpec := { name := "fnExactParseFault", vars := ["loop.example/g00838/impl.kindNames", "loop.example/g00838/impl.digits"], fn := fun _ => fun
  | [d, g1, g2] => { results := [.lit (.bool false)], args := [d], vars := [g1, g2] }
  | _ => none }
def FnExactParseFaultWrongFalsely : Prop := fnExactParseFaultRow.holds Tryd.pinned (OpenSpec.ofChange fnExactParseFaultWrong)

/- THE SECOND FORM. 'bulk': how many values and letters a reading holds, each counted each time it is reached (what is shared counts as often as it is met; a slice's spare places count too). A statement '..UptoSaid' is the law's where the arguments, and the package variables that the reading takes, are together of bulk at most 1048576: NARROWER than '..Said'. Prove '..Said' where nothing that the law and all that it calls make is longer than what came in: it says more and counts as full. Else prove '..UptoSaid'. A law counts once. -/
mutual
def uptoBulk {H : Type} : DataW H → Nat
  | .lit (.string bytes) => bytes.length + 1
  | .lit _ => 1
  | .nil => 1
  | .ptr d => uptoBulk d + 1
  | .slice elems spare => uptoBulkAll elems + uptoBulkAll spare + 1
  | .agg parts => uptoBulkAll parts + 1
  | .iface _ d => uptoBulk d + 1
  | .map entries => uptoBulkEntries entries + 1
  | .held _ => 1
def uptoBulkAll {H : Type} : List (DataW H) → Nat
  | [] => 0
  | d :: r => uptoBulk d + uptoBulkAll r
def uptoBulkEntries {H : Type} : List (Lit × DataW H) → Nat
  | [] => 0
  | x :: r => uptoBulkEntry x + uptoBulkEntries r
def uptoBulkEntry {H : Type} : Lit × DataW H → Nat
  | (.string bytes, d) => bytes.length + uptoBulk d + 1
  | (_, d) => uptoBulk d + 1
 end
def uptoSmall : (H : Type) → List (DataW H) → Bool := fun _ ds => decide (uptoBulkAll ds ≤ 1048576)
def OpenSpec.upto (s : _root_.Go.ChangeSpec) : _root_.Go.OpenSpec := { _root_.Go.OpenSpec.ofChange s with cond := some uptoSmall }

/-- 'laws.FnExactKindName', WHERE WHAT IT READS IS OF BULK AT MOST 1048576: true; the input reads as it did. -/
def fnExactKindNameUptoRow : OpenClaim := { program := "ytdfkehgkonadhaadoor", sum := "dad524a6bfde0767c22c8f960afe54e61fba7095068abeda4154668e83688cb5", func := "loop.example/g00838/laws.FnExactKindName", spec := "fnExactKindName", named := ["loop.example/g00838/impl.kindNames"], apart := false, laid := [("loop.example/g00838/impl.kindNames", laid_loop_example_g00838_impl_kindNames)], narrowed := true }
def FnExactKindNameUptoSaid : Prop := fnExactKindNameUptoRow.holds Tryd.pinned (OpenSpec.upto fnExactKindNameSpec)

/-- 'laws.FnExactKindNamed', WHERE WHAT IT READS IS OF BULK AT MOST 1048576: true; the input reads as it did. -/
def fnExactKindNamedUptoRow : OpenClaim := { program := "ytdfkehgkonadhaadoor", sum := "dad524a6bfde0767c22c8f960afe54e61fba7095068abeda4154668e83688cb5", func := "loop.example/g00838/laws.FnExactKindNamed", spec := "fnExactKindNamed", named := ["loop.example/g00838/impl.kindNames"], apart := false, laid := [("loop.example/g00838/impl.kindNames", laid_loop_example_g00838_impl_kindNames)], narrowed := true }
def FnExactKindNamedUptoSaid : Prop := fnExactKindNamedUptoRow.holds Tryd.pinned (OpenSpec.upto fnExactKindNamedSpec)

/-- 'laws.FnExactLineOf', WHERE WHAT IT READS IS OF BULK AT MOST 1048576: true; the input reads as it did. -/
def fnExactLineOfUptoRow : OpenClaim := { program := "ytdfkehgkonadhaadoor", sum := "dad524a6bfde0767c22c8f960afe54e61fba7095068abeda4154668e83688cb5", func := "loop.example/g00838/laws.FnExactLineOf", spec := "fnExactLineOf", inPlace := ["internal/bytealg.CountString", "internal/bytealg.IndexByteString", "internal/bytealg.IndexString"], named := ["unicode/utf8.first", "unicode/utf8.acceptRanges", "internal/bytealg.MaxLen"], apart := false, laid := [("unicode/utf8.acceptRanges", laid_unicode_utf8_acceptRanges), ("unicode/utf8.first", laid_unicode_utf8_first)], narrowed := true }
def FnExactLineOfUptoSaid : Prop := fnExactLineOfUptoRow.holds Tryd.pinned (OpenSpec.upto fnExactLineOfSpec)

/-- 'laws.FnExactPlaceOf', WHERE WHAT IT READS IS OF BULK AT MOST 1048576: true; the input reads as it did. -/
def fnExactPlaceOfUptoRow : OpenClaim := { program := "ytdfkehgkonadhaadoor", sum := "dad524a6bfde0767c22c8f960afe54e61fba7095068abeda4154668e83688cb5", func := "loop.example/g00838/laws.FnExactPlaceOf", spec := "fnExactPlaceOf", inPlace := ["internal/bytealg.CountString", "internal/bytealg.IndexByteString", "internal/bytealg.IndexString"], named := ["unicode/utf8.first", "unicode/utf8.acceptRanges", "internal/bytealg.MaxLen"], apart := false, laid := [("unicode/utf8.acceptRanges", laid_unicode_utf8_acceptRanges), ("unicode/utf8.first", laid_unicode_utf8_first)], narrowed := true }
def FnExactPlaceOfUptoSaid : Prop := fnExactPlaceOfUptoRow.holds Tryd.pinned (OpenSpec.upto fnExactPlaceOfSpec)

/-- 'laws.FnExactLineText', WHERE WHAT IT READS IS OF BULK AT MOST 1048576: true; the input reads as it did. -/
def fnExactLineTextUptoRow : OpenClaim := { program := "ytdfkehgkonadhaadoor", sum := "dad524a6bfde0767c22c8f960afe54e61fba7095068abeda4154668e83688cb5", func := "loop.example/g00838/laws.FnExactLineText", spec := "fnExactLineText", inPlace := ["internal/bytealg.CountString", "internal/bytealg.IndexByteString", "internal/bytealg.IndexString"], named := ["unicode/utf8.first", "unicode/utf8.acceptRanges", "internal/bytealg.MaxLen"], apart := false, laid := [("unicode/utf8.acceptRanges", laid_unicode_utf8_acceptRanges), ("unicode/utf8.first", laid_unicode_utf8_first)], narrowed := true }
def FnExactLineTextUptoSaid : Prop := fnExactLineTextUptoRow.holds Tryd.pinned (OpenSpec.upto fnExactLineTextSpec)

/-- 'laws.FnExactMarkedLine', WHERE WHAT IT READS IS OF BULK AT MOST 1048576: true; the input reads as it did. -/
def fnExactMarkedLineUptoRow : OpenClaim := { program := "ytdfkehgkonadhaadoor", sum := "dad524a6bfde0767c22c8f960afe54e61fba7095068abeda4154668e83688cb5", func := "loop.example/g00838/laws.FnExactMarkedLine", spec := "fnExactMarkedLine", inPlace := ["internal/bytealg.CountString", "internal/bytealg.IndexByteString", "internal/bytealg.IndexString", "internal/abi.NoEscape", "internal/bytealg.MakeNoZero"], named := ["unicode/utf8.first", "unicode/utf8.acceptRanges", "internal/bytealg.MaxLen"], apart := false, laid := [("unicode/utf8.acceptRanges", laid_unicode_utf8_acceptRanges), ("unicode/utf8.first", laid_unicode_utf8_first)], narrowed := true }
def FnExactMarkedLineUptoSaid : Prop := fnExactMarkedLineUptoRow.holds Tryd.pinned (OpenSpec.upto fnExactMarkedLineSpec)

/-- 'laws.FnExactFaultText', WHERE WHAT IT READS IS OF BULK AT MOST 1048576: true; the input reads as it did. -/
def fnExactFaultTextUptoRow : OpenClaim := { program := "ytdfkehgkonadhaadoor", sum := "dad524a6bfde0767c22c8f960afe54e61fba7095068abeda4154668e83688cb5", func := "loop.example/g00838/laws.FnExactFaultText", spec := "fnExactFaultText", recurses := true, named := ["loop.example/g00838/impl.kindNames", "internal/strconv.uint64pow10", "math/bits.deBruijn32tab", "math/bits.deBruijn64tab"], apart := false, laid := [("math/bits.deBruijn32tab", laid_math_bits_deBruijn32tab), ("math/bits.deBruijn64tab", laid_math_bits_deBruijn64tab), ("internal/strconv.uint64pow10", laid_internal_strconv_uint64pow10), ("loop.example/g00838/impl.kindNames", laid_loop_example_g00838_impl_kindNames)], narrowed := true }
def FnExactFaultTextUptoSaid : Prop := fnExactFaultTextUptoRow.holds Tryd.pinned (OpenSpec.upto fnExactFaultTextSpec)

/-- 'laws.FnExactParseFault', WHERE WHAT IT READS IS OF BULK AT MOST 1048576: true; the input reads as it did. -/
def fnExactParseFaultUptoRow : OpenClaim := { program := "ytdfkehgkonadhaadoor", sum := "dad524a6bfde0767c22c8f960afe54e61fba7095068abeda4154668e83688cb5", func := "loop.example/g00838/laws.FnExactParseFault", spec := "fnExactParseFault", inPlace := ["internal/bytealg.IndexByteString", "internal/bytealg.IndexString"], recurses := true, named := ["internal/bytealg.MaxLen", "loop.example/g00838/impl.kindNames", "loop.example/g00838/impl.digits"], apart := false, laid := [("loop.example/g00838/impl.digits", laid_loop_example_g00838_impl_digits), ("loop.example/g00838/impl.kindNames", laid_loop_example_g00838_impl_kindNames)], narrowed := true }
def FnExactParseFaultUptoSaid : Prop := fnExactParseFaultUptoRow.holds Tryd.pinned (OpenSpec.upto fnExactParseFaultSpec)

end Rows
end Go.Proofs.YtdfkehgkonadhaaDoor
