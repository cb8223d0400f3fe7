/- The program's checks: the tree of the classes, the marks of parents, limits, targets, and all at once. -/
import Derived.Test.YtfijhgggljaomaaCpc
import Derived.Test.YtfijhgggljaomaaKwl
import Derived.Laws.Rows
namespace Go.Proofs.Ytfijhgggljaomaa
open Go.RowKit
set_option linter.unusedVariables false

def TopRel (w : World) (n : Nat) (cs : List Cls) (B : Bool) (t i : Value) (wr : World) : Prop :=
  ∃ k : Nat, k ≤ n ∧ i = .int .i64 k ∧ t = .int .i64 (cT (cs.take k) : Nat) ∧ Below w.heap.size w wr ∧ Hid (fromK (fun k => parOk cs (cs.getD k cls0)) n k = B)
theorem par_top {cs : List Cls} {x : Cls} (h : x.p = 0) : parOk cs x = true := by unfold parOk; rw [h]; rfl
theorem par_found {cs : List Cls} {x : Cls} {j : Nat} (h : fnd cs x.p = Option.some j) : parOk cs x = true := by unfold parOk; rw [h]; simp
theorem par_lost {cs : List Cls} {x : Cls} (hz : x.p ≠ 0) (h : fnd cs x.p = Option.none) : parOk cs x = false := by unfold parOk; rw [h]; simp [hz]
theorem cT_take_le (cs : List Cls) (k : Nat) : cT (cs.take k) ≤ k := Nat.le_trans (cT_le _) (List.length_take_le _ _)
end Go.Proofs.Ytfijhgggljaomaa
