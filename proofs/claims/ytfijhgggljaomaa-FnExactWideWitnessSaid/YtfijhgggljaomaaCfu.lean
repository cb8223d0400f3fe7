/- The model's functions over classes: ways up, what is valid by itself. -/
import Derived.Test.YtfijhgggljaomaaCft
import Derived.Laws.BitsAllLaws
namespace Go.Proofs.Ytfijhgggljaomaa
open Go.RowKit
set_option linter.unusedVariables false

def lenV : Value → Nat
  | .slice _ n _ => n
  | _ => 0
def UpRel (w : World) (o : Obj) (n : Nat) (cs : List Cls) (U : List Nat) (i out : Value) (wr : World) : Prop :=
  ∃ (v : Int) (ks : List Nat), i = .int .i64 v ∧ ks.length ≤ 9 ∧ Aft w o wr ∧ wr.ownsRow (w.heap.size + 1) 3 1 out ks.length (nv ks) ∧
    ((v = -1 ∧ Hid (ks = U)) ∨ ∃ k : Nat, k < n ∧ v = k ∧ Hid (ks ++ up cs (9 - ks.length) k = U))
theorem up_step (cs : List Cls) (f k : Nat) : up cs (f + 1) k = k :: (match fnd cs (cs.getD k cls0).p with | .none => [] | .some j => up cs f j) := rfl
def ClsSelf (x : Cls) : Bool := inB x.i 1 999 && rateOk x
end Go.Proofs.Ytfijhgggljaomaa
