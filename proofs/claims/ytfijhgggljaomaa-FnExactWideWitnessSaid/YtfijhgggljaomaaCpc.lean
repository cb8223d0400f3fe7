/- The program's checks: names, classes and filters by themselves, the tree. -/
import Derived.Test.YtfijhgggljaomaaCpb
namespace Go.Proofs.Ytfijhgggljaomaa
open Go.RowKit
set_option linter.unusedVariables false

def OkRel (w : World) (n : Nat) (cs : List Cls) (B : Bool) (a i : Value) (wr : World) : Prop := ∃ (k : Nat) (b : Int), k ≤ n ∧ i = .int .i64 k ∧ a = .int .i64 b ∧ Below w.heap.size w wr ∧ Hid (okL b (cs.drop k) = B)
def OkfRel (w : World) (m : Nat) (fs : List Flt) (B : Bool) (a i : Value) (wr : World) : Prop := ∃ (k : Nat) (b : Int), k ≤ m ∧ i = .int .i64 k ∧ a = .int .i64 b ∧ Below w.heap.size w wr ∧ Hid (okF b (fs.drop k) = B)
theorem reach_zero {cs : List Cls} {f : Nat} {x : Cls} (h : x.p = 0) : reach cs f x = true := by
  cases f <;> unfold reach <;> simp [h]
theorem reach_last {cs : List Cls} {x : Cls} : reach cs 0 x = (x.p == 0) := rfl
theorem reach_step {cs : List Cls} {f j : Nat} {x : Cls} (h : x.p ≠ 0) (hj : fnd cs x.p = Option.some j) : reach cs (f + 1) x = reach cs f (cs.getD j cls0) := by
  show ((x.p == 0) || (match fnd cs x.p with | .none => false | .some j => reach cs f (cs.getD j cls0))) = _
  rw [hj, beq_eq_false_iff_ne.2 h, Bool.false_or]
theorem par_some {cs : List Cls} {x : Cls} (h : parOk cs x = true) (hx : x.p ≠ 0) : ∃ j, fnd cs x.p = Option.some j := by
  unfold parOk at h
  rw [beq_eq_false_iff_ne.2 hx, Bool.false_or] at h
  exact Option.isSome_iff_exists.1 h
def ParAll (cs : List Cls) : Prop := ∀ k, k < cs.length → parOk cs (cs.getD k cls0) = true
/-- no cell of a block is marked -/
def FroB (w : World) (g : Nat) : Prop := ∀ o, w.frozen? ⟨g, o, none⟩ = false
theorem FroB.on {w w1 : World} {g : Nat} (h : FroB w g) (b : Below w.heap.size w w1) (hg : g < w.heap.size) : FroB w1 g := fun o => ((bcell b).2 g o hg).trans (h o)
theorem FroB.new (w : World) (a : Array Value) (t : TypeId) : FroB (w.alloc (.cells a t)) w.heap.size := fun o => by simp
theorem FroB.set {w : World} {g : Nat} (h : FroB w g) (p : Addr) (v : Value) : FroB (w.setCell p v) g := fun o => by rw [World.frozen?_setCell]; exact h o
def RchRel (w : World) (cs : List Cls) (R : Bool) (i : Value) (wr : World) : Prop :=
  ∃ (k : Nat) (x : Cls), k ≤ 7 ∧ i = .int .i64 k ∧ parOk cs x = true ∧ EightB wr w.heap.size x ∧ w.heap.size < wr.heap.size ∧ FroB wr w.heap.size ∧ Below w.heap.size w wr ∧ Hid (reach cs (7 - k) x = R)
end Go.Proofs.Ytfijhgggljaomaa
