/- The model's checks of all filters, and of the tree of the classes. -/
import Derived.Test.YtfijhgggljaomaaCfv
import Derived.Test.YtfijhgggljaomaaBxw
import Derived.Deep.RegionHeld3
import Derived.IntWalk
namespace Go.Proofs.Ytfijhgggljaomaa
open Go.RowKit
set_option linter.unusedVariables false

def FsRel (w : World) (o : Obj) (m : Nat) (cs : List Cls) (fs : List Flt) (B : Bool) (i : Value) (wr : World) : Prop :=
  ∃ (k : Nat) (b : Int), k ≤ m ∧ i = .int .i64 k ∧ Aft w o wr ∧ 0 ≤ b ∧ (k = 0 → b = 0) ∧ (∀ j, k = j + 1 → b = (fs.getD j flt0).o) ∧ Hid ((mdF cs b (fs.drop k) && decide (fs.length ≤ 16)) = B)
theorem fs_stop {cs : List Cls} {fs : List Flt} {b : Int} {k : Nat} {B : Bool} (h : k < fs.length) (x : Flt) (hx : fs.getD k flt0 = x) (HP : (mdF cs b (fs.drop k) && decide (fs.length ≤ 16)) = B) (hf : ((decide (b < x.o) && (decide (x.o ≤ 99) && patOk x)) && leafB cs x.t) = false) : B = false := by
  rw [← HP, mdF_at cs b fs k h x hx, hf]; rfl
theorem fs_next {cs : List Cls} {fs : List Flt} {b : Int} {k : Nat} {B : Bool} (h : k < fs.length) (x : Flt) (hx : fs.getD k flt0 = x) (HP : (mdF cs b (fs.drop k) && decide (fs.length ≤ 16)) = B) (hf : ((decide (b < x.o) && (decide (x.o ≤ 99) && patOk x)) && leafB cs x.t) = true) : (mdF cs x.o (fs.drop (k + 1)) && decide (fs.length ≤ 16)) = B := by
  rw [← HP, mdF_at cs b fs k h x hx, hf, Bool.true_and]
end Go.Proofs.Ytfijhgggljaomaa
