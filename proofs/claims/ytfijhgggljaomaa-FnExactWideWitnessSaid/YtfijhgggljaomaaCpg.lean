/- The program's limits, targets and names. -/
import Derived.Test.YtfijhgggljaomaaCpe
import Derived.Deep.WholeRow
namespace Go.Proofs.Ytfijhgggljaomaa
open Go.RowKit
set_option linter.unusedVariables false

theorem limOk_kid {cs : List Cls} {x : Cls} (h : hasK cs x.i = true) : limOk cs x = (x.l == 0) := by unfold limOk; rw [h]; rfl
theorem limOk_leaf {cs : List Cls} {x : Cls} (h : hasK cs x.i = false) : limOk cs x = inB x.l 1 60 := by unfold limOk; rw [h]; rfl
end Go.Proofs.Ytfijhgggljaomaa
