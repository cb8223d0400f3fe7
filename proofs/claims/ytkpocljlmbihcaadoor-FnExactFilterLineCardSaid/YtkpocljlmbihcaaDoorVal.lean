/- Values: contracts of the functions of chapter 2 that only compute with numbers: isValue, MultiplyValues, ScaleValue, programs and models. -/
import Derived.Test.YtkpocljlmbihcaaDoorNum
namespace Go.Proofs.YtkpocljlmbihcaaDoor
set_option maxRecDepth 100000
open Go.RowKit

theorem isValue_true (n : Int) (w : World) (h0 : 0 ≤ n) (h1 : n ≤ 1000000000) :
    Calls Tryd.prog 74 #[.int .i64 n] w fun e w' => e = .returned (.bool true) ∧ w = w' := by
  go_enter Tryd.func74, Tryd.ntmps74
  go_wp2
  go_ret
  exact ⟨rfl, rfl⟩
theorem isValue_false (n : Int) (w : World) (h : n < 0 ∨ 1000000000 < n) :
    Calls Tryd.prog 74 #[.int .i64 n] w fun e w' => e = .returned (.bool false) ∧ w = w' := by
  rcases Int.lt_or_le n 0 with c | c
  · have d : decide ((0 : Int) ≤ n) = false := not_le c
    clear h
    go_enter Tryd.func74, Tryd.ntmps74
    go_wp2
    go_ret
    exact ⟨rfl, rfl⟩
  · have h' : 1000000000 < n := by omega
    have d := not_le h'
    clear h
    go_enter Tryd.func74, Tryd.ntmps74
    go_wp2
    go_ret
    exact ⟨rfl, rfl⟩
/-- both functions say the same -/
def SaysNum (f : FuncId) (args : Array Value) (r : Int) (ok : Bool) : Prop :=
  ∀ w, Calls Tryd.prog f args w fun e w' => e = .returned (.tuple #[.int .i64 r, .bool ok]) ∧ w = w'


end Go.Proofs.YtkpocljlmbihcaaDoor
