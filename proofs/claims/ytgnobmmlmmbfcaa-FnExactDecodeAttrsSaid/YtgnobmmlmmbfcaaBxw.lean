/- Worlds that differ from one only behind it: what a region that draws its order keeps. -/
import Derived.Test.YtgnobmmlmmbfcaaKwk
import Derived.Deep.RegionWith
import Derived.WalkSmall
import Derived.Deep.RegionHeld3
import Derived.Deep.QuietTactic
namespace Go.Proofs.Ytgnobmmlmmbfcaa
open Go.RowKit
set_option linter.unusedVariables false

/-- only what lies behind the box was written -/
def BX (wb w' : World) : Prop := Below wb.heap.size wb w'
theorem BX.drew0 (wb : World) : BX wb wb.drew := below_drewN (Below.refl _ _) 1
theorem undrew {X w1 : World} (b : Below X.drew.heap.size X.drew w1) : Below X.heap.size X w1 := (show Below X.heap.size X X.drew from below_drewN (Below.refl _ _) 1).trans b
theorem BX.refl (wb : World) : BX wb wb := Below.refl _ _
theorem BX.alloc {wb w' : World} (h : BX wb w') (o : Obj) : BX wb (w'.alloc o) := Below.alloc h h.size o
theorem BX.call {wb w' w1 : World} (h : BX wb w') (b : Below w'.heap.size w' w1) : BX wb w1 := Below.trans h (b.mono h.size)
theorem BX.call' {wb w' w1 : World} (b : Below w'.heap.size w' w1) (h : BX wb w') : BX wb w1 := h.call b
theorem BX.set {wb w' : World} {b o : Nat} (h : BX wb w') (hb : wb.heap.size ≤ b) (v : Value) : BX wb (w'.setCell ⟨b, o, none⟩ v) := Below.setCell h hb v
theorem BX.size {wb w' : World} (h : BX wb w') : wb.heap.size ≤ w'.heap.size := Below.size h
theorem BX.size1 {wb w' : World} (h : BX wb w') : wb.heap.size ≤ w'.heap.size + 1 := Nat.le_succ_of_le (Below.size h)
theorem BX.drew {wb w' : World} (h : BX wb w') : BX wb w'.drew := below_drewN h 1
/-- An operation of a region that draws its order, taken first: its slot's number written out. -/
theorem held_take {P : Program} {ops : Array Oper} {Q : Exit → Act → World → Prop} {md : Region.Mode} {S : World → Prop} {i d : Nat} {oi : Oper} {v : Value} {fuel : Nat} {listed : Array Bool} {a : Act} {w : World} (hi : ops[i]? = Option.some oi) (hd : oi.dst = Option.some d)
    (hs : Region.noSelect ops = true) (hf : Region.free md ops listed i = true) (hr : (Region.ready md ops listed).contains i = true)
    (hQ : ∀ c a w, Q (.panic c) (a.put oi.dst v) w → Q (.panic c) a w) (hw : Region.wanted oi (yielded ops a.tmps) = true) (hv : ∀ w, S w → (execOp a.eval oi).run P w = .ok (.value v) w) (hS : S w)
    (h : wpAnyH P md ops Q S fuel (listed.setIfInBounds i true) (a.put (Option.some d) v) w) : wpAnyH P md ops Q S (fuel + 1) listed a w :=
  wpAnyH_take hi hs hf hr hQ (.inl ⟨hw, hv⟩) hS (by rw [hd]; exact h)
/-- The same of one that is not wanted. -/
theorem held_skip {P : Program} {ops : Array Oper} {Q : Exit → Act → World → Prop} {md : Region.Mode} {S : World → Prop} {i d : Nat} {oi : Oper} {fuel : Nat} {listed : Array Bool} {a : Act} {w : World} (hi : ops[i]? = Option.some oi) (hd : oi.dst = Option.some d)
    (hs : Region.noSelect ops = true) (hf : Region.free md ops listed i = true) (hr : (Region.ready md ops listed).contains i = true)
    (hQ : ∀ c a w, Q (.panic c) (a.put oi.dst undef) w → Q (.panic c) a w) (hw : Region.wanted oi (yielded ops a.tmps) = false) (hS : S w)
    (h : wpAnyH P md ops Q S fuel (listed.setIfInBounds i true) (a.put (Option.some d) undef) w) : wpAnyH P md ops Q S (fuel + 1) listed a w :=
  wpAnyH_take hi hs hf hr hQ (.inr ⟨hw, rfl⟩) hS (by rw [hd]; exact h)
end Go.Proofs.Ytgnobmmlmmbfcaa
