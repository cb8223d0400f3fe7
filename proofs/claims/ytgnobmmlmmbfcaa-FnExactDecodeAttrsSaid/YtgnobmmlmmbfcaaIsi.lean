/- A number in a range, two numbers compared: the program's. -/
import Derived.Test.YtgnobmmlmmbfcaaNum
namespace Go.Proofs.Ytgnobmmlmmbfcaa
open Go.RowKit
set_option linter.unusedVariables false

/-- how two numbers compare -/
def cmpI (a b : Int) : Int := if a < b then -1 else if b < a then 1 else 0
theorem cmpI_lt {a b : Int} (h : a < b) : cmpI a b = -1 := by unfold cmpI; rw [if_pos h]
theorem cmpI_gt {a b : Int} (h : b < a) : cmpI a b = 1 := by unfold cmpI; rw [if_neg (by omega), if_pos h]
theorem cmpI_eq {a b : Int} (h : a = b) : cmpI a b = 0 := by unfold cmpI; rw [if_neg (by omega), if_neg (by omega)]
end Go.Proofs.Ytgnobmmlmmbfcaa
