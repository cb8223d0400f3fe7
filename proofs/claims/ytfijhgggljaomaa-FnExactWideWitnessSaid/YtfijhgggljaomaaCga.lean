/- Chapter 4's functions that return configurations: valid ones, leaves found, copies. -/
import Derived.Test.YtfijhgggljaomaaCfd
import Derived.Test.YtfijhgggljaomaaCfn
namespace Go.Proofs.Ytfijhgggljaomaa
open Go.RowKit
set_option linter.unusedVariables false

/-- no configuration -/
def zV : Value := .agg #[.string ⟨#[]⟩, .slice none 0 0, .slice none 0 0, .int .i64 0]
def SaysIf (w : World) (v : Value) (b : Bool) (e : Ending) (w' : World) : Prop := e = .returned (.tuple #[if b then v else zV, .bool b]) ∧ Below w.heap.size w w'
/-! Leaves found. -/
def fL1 (c : Cfg) (id : Int) : Int := if goodC c && leafB c.cs id then (match fnd c.cs id with | .none => 0 | .some k => (k : Int)) else 0
def fL2 (c : Cfg) (id : Int) : Bool := goodC c && leafB c.cs id
theorem fL_no {c : Cfg} {id : Int} (h : (goodC c && leafB c.cs id) = false) : fL1 c id = 0 ∧ fL2 c id = false := by unfold fL1 fL2; rw [h]; exact ⟨rfl, rfl⟩
theorem fL_yes {c : Cfg} {id : Int} {k : Nat} (h : (goodC c && leafB c.cs id) = true) (hf : fnd c.cs id = Option.some k) : fL1 c id = k ∧ fL2 c id = true := by unfold fL1 fL2; rw [h, hf]; exact ⟨rfl, rfl⟩
end Go.Proofs.Ytfijhgggljaomaa
