/-
  DERIVED. GIVEN WITH THE SEED: THE PROGRAM's TIES (one call each: nine closed facts by the kernel) AND EACH ROW's TIE, after the 31st guide's Derived/Test/Toyas{Tie, Card}.lean. No idea stands in it: it is a product of the set-up. Laid BY PROGRAM, IN A SANDBOX (cutbox-door.mjs). By AI agents, Wed Nov 11 2026. No macro, syntax, notation, axiom, sorry.
-/
import Derived.Test.YtmmofchfafnkcaaGreatDoorRows
import Derived.LaidByTextLater
import Derived.SevenTiedAt
import Derived.LaidSub
import Derived.LaidOnce
namespace Go.Proofs.YtmmofchfafnkcaaGreatDoor
open Go
set_option maxRecDepth 100000
theorem seatTie1 : Tryz.prog.laidByTextLater [("loop.example/g00838/impl.digits", Rows.laid_loop_example_g00838_impl_digits), ("loop.example/g00838/impl.units", Rows.laid_loop_example_g00838_impl_units), ("loop.example/g00838/impl.keyWords", Rows.laid_loop_example_g00838_impl_keyWords), ("loop.example/g00838/impl.signs", Rows.laid_loop_example_g00838_impl_signs)] [.data, .data, .data, .data] true :=
  Program.laidByTextLater_by_one 31 8 15 (by kernel_rfl) (by kernel_rfl) (by kernel_rfl) (by kernel_rfl) (by kernel_rfl) (by kernel_rfl) (fun _ _ => by kernel_rfl)
theorem noOwnUnsafe : Tryz.pinned.checked.prog.headLifts.contains "ownunsafe" = false := by kernel_rfl
theorem tie : Tryz.prog.laidByTextLater [("loop.example/g00838/impl.digits", Rows.laid_loop_example_g00838_impl_digits), ("loop.example/g00838/impl.units", Rows.laid_loop_example_g00838_impl_units), ("loop.example/g00838/impl.keyWords", Rows.laid_loop_example_g00838_impl_keyWords), ("loop.example/g00838/impl.signs", Rows.laid_loop_example_g00838_impl_signs)] [.data, .data, .data, .data] true :=
  Program.laidByTextLater.sub seatTie1 ["loop.example/g00838/impl.digits", "loop.example/g00838/impl.units", "loop.example/g00838/impl.keyWords", "loop.example/g00838/impl.signs"] (by kernel_rfl) (by kernel_rfl)
theorem fnTouch_row_tie : Rows.fnTouchRow.laidByTextAt .later Tryz.pinned [.data, .data, .data, .data] true :=
  OpenClaim.laidByTextAt_later rfl rfl tie noOwnUnsafe
theorem tie2 : Tryz.prog.laidByTextLater [("loop.example/g00838/impl.keyWords", Rows.laid_loop_example_g00838_impl_keyWords)] [.data] true :=
  Program.laidByTextLater.sub seatTie1 ["loop.example/g00838/impl.keyWords"] (by kernel_rfl) (by kernel_rfl)
theorem fnConfigs_row_tie : Rows.fnConfigsRow.laidByTextAt .later Tryz.pinned [.data] true :=
  OpenClaim.laidByTextAt_later rfl rfl tie2 noOwnUnsafe
theorem fnConditions_row_tie : Rows.fnConditionsRow.laidByTextAt .later Tryz.pinned [.data] true :=
  OpenClaim.laidByTextAt_later rfl rfl tie2 noOwnUnsafe
theorem fnTouchUpto_row_tie : Rows.fnTouchUptoRow.laidByTextAt .later Tryz.pinned [.data, .data, .data, .data] true :=
  OpenClaim.laidByTextAt_later rfl rfl tie noOwnUnsafe
theorem fnConfigsUpto_row_tie : Rows.fnConfigsUptoRow.laidByTextAt .later Tryz.pinned [.data] true :=
  OpenClaim.laidByTextAt_later rfl rfl tie2 noOwnUnsafe
theorem fnConditionsUpto_row_tie : Rows.fnConditionsUptoRow.laidByTextAt .later Tryz.pinned [.data] true :=
  OpenClaim.laidByTextAt_later rfl rfl tie2 noOwnUnsafe
end Go.Proofs.YtmmofchfafnkcaaGreatDoor
