/- Decimal numerals: strconv.Itoa as the program calls it. -/
import Derived.Test.YtkpocljlmbihcaaDoorNtn
import Derived.Test.YtkpocljlmbihcaaDoorSpl
import Derived.Lib.ItoaMem
import Derived.Lib.AppendIntMem
namespace Go.Proofs.YtkpocljlmbihcaaDoor
set_option maxRecDepth 100000
open Go.RowKit

/-- the table of powers of ten is in its place -/
def Pow (w : World) : Prop := Lib.TabIs Tryd.prog w "internal/strconv.uint64pow10" .u64 Lib.pow10Tab
theorem Pow.below {w w' : World} (h : Pow w) (hb : Below w.heap.size w w') : Pow w' := Lib.tabBelow_of_tabIs h w' hb
theorem gPow : Tryd.prog.globalNamed "internal/strconv.uint64pow10" = some 4 := by kernel_rfl
theorem tPow : (Tryd.prog.globals[4]?).map (·.type) = some 138 := by kernel_rfl
theorem cPow : Tryd.prog.cellsOf 138 = 20 := by kernel_rfl
theorem cU64 : Tryd.prog.cellsOf 116 = 1 := by kernel_rfl
theorem pow10_of_head {W : World} {r : List (String × DataW Unit)} (h : laidMet Tryd.prog (("internal/strconv.uint64pow10", Rows.laid_internal_strconv_uint64pow10) :: r) W) : Pow W :=
  Lib.tabIs_of_head gPow tPow Tryd.underlying138 Tryd.underlying116 cU64 cPow h
theorem itoa_any (n : Nat) (hn : (n : Int) ≤ 1000000000) (w : World) (hP : Hid (Pow w)) :
    Calls Tryd.prog 22 #[.int .i64 n] w fun e w' => e = .returned (.string (numS n)) ∧ Below w.heap.size w w' :=
  (Tryd.strconv_Itoa (n : Int) (by omega) (by omega) w hP.out).mono fun e w' ⟨he, k, os, hw⟩ => by
    refine ⟨by rw [he, Lib.itoa_nonneg]; rfl, ?_⟩
    subst hw
    exact Lib.below_grow _ w (Nat.le_refl _) k os
end Go.Proofs.YtkpocljlmbihcaaDoor
