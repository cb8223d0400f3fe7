/-
  DERIVED. GIVEN WITH THE SEED: THE PROGRAM's TIES (one call each: nine closed facts by the kernel) AND EACH ROW's TIE, after the 31st guide's Derived/Test/Toyas{Tie, Card}.lean. No idea stands in it: it is a product of the set-up. Laid BY PROGRAM, IN A SANDBOX (cutbox-door.mjs). By AI agents, Wed Nov 11 2026. No macro, syntax, notation, axiom, sorry.
-/
import Derived.Test.YthgbhnedfdnfpaaGreatDoorRows
import Derived.LaidByTextLater
import Derived.SevenTiedAt
import Derived.LaidSub
import Derived.LaidOnce
namespace Go.Proofs.YthgbhnedfdnfpaaGreatDoor
open Go
set_option maxRecDepth 100000
theorem seatTie1 : Tryz.prog.laidByTextLater [("math/bits.deBruijn32tab", Rows.laid_math_bits_deBruijn32tab), ("math/bits.deBruijn64tab", Rows.laid_math_bits_deBruijn64tab), ("internal/strconv.uint64pow10", Rows.laid_internal_strconv_uint64pow10), ("loop.example/g00838/impl.digits", Rows.laid_loop_example_g00838_impl_digits), ("loop.example/g00838/impl.units", Rows.laid_loop_example_g00838_impl_units), ("loop.example/g00838/impl.keyWords", Rows.laid_loop_example_g00838_impl_keyWords), ("loop.example/g00838/impl.fieldWords", Rows.laid_loop_example_g00838_impl_fieldWords)] [.data, .data, .data, .data, .data, .data, .data] true :=
  Program.laidByTextLater_by_one 46 8 65 (by kernel_rfl) (by kernel_rfl) (by kernel_rfl) (by kernel_rfl) (by kernel_rfl) (by kernel_rfl) (fun _ _ => by kernel_rfl)
theorem noOwnUnsafe : Tryz.pinned.checked.prog.headLifts.contains "ownunsafe" = false := by kernel_rfl
theorem tie : Tryz.prog.laidByTextLater [("math/bits.deBruijn32tab", Rows.laid_math_bits_deBruijn32tab), ("math/bits.deBruijn64tab", Rows.laid_math_bits_deBruijn64tab), ("internal/strconv.uint64pow10", Rows.laid_internal_strconv_uint64pow10), ("loop.example/g00838/impl.digits", Rows.laid_loop_example_g00838_impl_digits), ("loop.example/g00838/impl.units", Rows.laid_loop_example_g00838_impl_units), ("loop.example/g00838/impl.keyWords", Rows.laid_loop_example_g00838_impl_keyWords), ("loop.example/g00838/impl.fieldWords", Rows.laid_loop_example_g00838_impl_fieldWords)] [.data, .data, .data, .data, .data, .data, .data] true :=
  Program.laidByTextLater.sub seatTie1 ["math/bits.deBruijn32tab", "math/bits.deBruijn64tab", "internal/strconv.uint64pow10", "loop.example/g00838/impl.digits", "loop.example/g00838/impl.units", "loop.example/g00838/impl.keyWords", "loop.example/g00838/impl.fieldWords"] (by kernel_rfl) (by kernel_rfl)
theorem fnPlacesOfLines_row_tie : Rows.fnPlacesOfLinesRow.laidByTextAt .later Tryz.pinned [.data, .data, .data, .data, .data, .data, .data] true :=
  OpenClaim.laidByTextAt_later rfl rfl tie noOwnUnsafe
theorem fnPlacesOfLinesUpto_row_tie : Rows.fnPlacesOfLinesUptoRow.laidByTextAt .later Tryz.pinned [.data, .data, .data, .data, .data, .data, .data] true :=
  OpenClaim.laidByTextAt_later rfl rfl tie noOwnUnsafe
end Go.Proofs.YthgbhnedfdnfpaaGreatDoor
