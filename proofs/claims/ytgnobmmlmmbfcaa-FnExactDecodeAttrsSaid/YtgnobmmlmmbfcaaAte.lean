/- The end of an attribute, its parent: contracts of both sides. -/
import Derived.Test.YtgnobmmlmmbfcaaAta
namespace Go.Proofs.Ytgnobmmlmmbfcaa
open Go.RowKit
set_option linter.unusedVariables false
set_option maxRecDepth 100000

/-- a value, and nothing but draws -/
def SaysQ (w : World) (v : Value) (e : Ending) (w' : World) : Prop := e = .returned v ∧ ∃ q, w' = w.drewN q
theorem bx_drew {wb w : World} (h : BX wb w) (q : Nat) : BX wb (w.drewN q) := h.call (below_drewN (Below.refl _ _) q)
theorem drew_two (w : World) (a b : Nat) : (w.drewN a).drewN b = w.drewN (a + b) := World.drewN_drewN w a b
theorem q_of {w wr : World} {q nq : Nat} (h : wr = w.drewN q) : ∃ q', wr.drewN nq = w.drewN q' := ⟨q + nq, by rw [h, World.drewN_drewN]⟩
theorem ret_int2 {a b : Int} (h : a = b) : Ending.returned (.int .i64 a) = .returned (.int .i64 b) := by rw [h]
def hasA (l : List At) (i : Int) : Bool := lsA l && inB i 0 ((l.length : Int) - 1)
theorem hasA_of {l : List At} {i : Int} (h : hasA l i = true) : lsA l = true ∧ ∃ k : Nat, i = (k : Int) ∧ k < l.length := by
  unfold hasA inB at h
  simp only [Bool.and_eq_true, decide_eq_true_eq] at h
  exact ⟨h.1, i.toNat, by omega, by omega⟩
theorem hasA_no {l : List At} {i : Int} (h : lsA l = false) : hasA l i = false := by unfold hasA; rw [h]; rfl
def EnRel (w : World) (l : List At) (n i : Nat) (v : Value) (wr : World) : Prop := ∃ k q : Nat, i < k ∧ k ≤ n ∧ v = .int .i64 k ∧ Hid (wr = w.drewN q) ∧ Hid (∀ j, i < j → j < k → (gA l i).d < (gA l j).d)
/-! EndOfAttr. -/
def resEn (l : List At) (i : Int) : Int := if hasA l i then (enA l i.toNat : Int) else 0
/-! The parent. -/
def UpRel (w : World) (l : List At) (c : Int) (n i : Nat) (U : Int) (v : Value) (wr : World) : Prop := ∃ k q : Nat, k ≤ i ∧ v = .int .i64 ((k : Int) - 1) ∧ Hid (wr = w.drewN q) ∧ Hid (upG l c k = U)
theorem upG_no {l : List At} {c : Int} {k : Nat} (h : c ≤ (gA l k).d) : upG l c (k + 1) = upG l c k := by rw [upG, if_neg (by omega)]
theorem upG_yes {l : List At} {c : Int} {k : Nat} (h : (gA l k).d < c) : upG l c (k + 1) = k := by rw [upG, if_pos h]
def resP1 (l : List At) (i : Int) : Int := if hasA l i then (if 0 ≤ upA l i.toNat then upA l i.toNat else 0) else 0
def resP2 (l : List At) (i : Int) : Bool := hasA l i && decide (0 ≤ upA l i.toNat)
theorem resP_no {l : List At} {i : Int} (h : hasA l i = false) : resP1 l i = 0 ∧ resP2 l i = false := by
  unfold resP1 resP2; rw [h]; exact ⟨rfl, rfl⟩
theorem resP_top {l : List At} {k : Nat} (h : hasA l k = true) (hu : upA l k = -1) : resP1 l k = 0 ∧ resP2 l k = false := by
  unfold resP1 resP2; rw [h, Int.toNat_natCast, hu]; exact ⟨rfl, rfl⟩
theorem resP_up {l : List At} {k : Nat} (h : hasA l k = true) (hu : 0 ≤ upA l k) : resP1 l k = upA l k ∧ resP2 l k = true := by
  unfold resP1 resP2; rw [h, Int.toNat_natCast, if_pos rfl, if_pos hu, decide_eq_true hu]; exact ⟨rfl, rfl⟩
def PaRel (w : World) (l : List At) (c : Int) (i : Nat) (U : Int) (v : Value) (wr : World) : Prop := ∃ k : Nat, k ≤ i ∧ v = .int .i64 ((k : Int) - 1) ∧ BX w wr ∧ Hid (upG l c k = U) ∧ Hid (c ≤ (gA l k).d)
end Go.Proofs.Ytgnobmmlmmbfcaa
