/- Sizes and offsets of attributes: contracts of both sides. -/
import Derived.Test.YtgnobmmlmmbfcaaAtk
import Derived.StillTailTactics
namespace Go.Proofs.Ytgnobmmlmmbfcaa
open Go.RowKit
set_option linter.unusedVariables false
set_option maxRecDepth 100000

theorem tvPad_any (s : Nat) (w : World) (h : s ≤ 1000000) : Calls Try.prog 21 #[.int .i64 (s : Int)] w fun e w' => e = .returned (.int .i64 ((padA s : Nat) : Int)) ∧ w = w' := by
  have HX : Hid (((padA s : Nat) : Int) = ((s : Int) + 3) / 4 * 4) := Lib.hid (by unfold padA; omega)
  have h1 : 0 ≤ ((s : Int) + 3) / 4 ∧ ((s : Int) + 3) / 4 ≤ 1000000 := by omega
  generalize ((padA s : Nat) : Int) = R at HX ⊢
  go_enter Try.func21, Try.ntmps21
  go_wp2
  go_ret
  exact ⟨ret_int2 HX.out.symm, rfl⟩
theorem pad_le {s : Nat} (h : s ≤ 1000) : padA (4 + s) ≤ 1004 := by unfold padA; omega
theorem sz_le {l : List At} (V : Va l) {p q : Nat} (h : q ≤ l.length) : ofA l q - ofA l p ≤ 401600 := by
  have := ofA_le V q h
  have := V.len
  omega
def LnRel (w : World) (l : List At) (p q : Nat) (m v : Value) (wr : World) : Prop := ∃ k M d : Nat, p ≤ k ∧ Hid (Thru l k q) ∧ v = .int .i64 k ∧ m = .int .i64 M ∧ Hid (M + ofA l p = ofA l k) ∧ Hid (wr = w.drewN d)
/-! SizeOf and OffsetOf. -/
def okS (l : List At) (i : Int) : Bool := hasA l i && decide (ofA l l.length ≤ 6000)
def resSz (l : List At) (i : Int) : Int := if okS l i then ((szA l i.toNat : Nat) : Int) else 0
def resOf (l : List At) (i : Int) : Int := if okS l i then ((ofA l i.toNat : Nat) : Int) else 0
theorem okS_no {l : List At} {i : Int} (h : hasA l i = false) : okS l i = false := by unfold okS; rw [h]; rfl
theorem okS_big {l : List At} {i : Int} (h : ¬ ofA l l.length ≤ 6000) : okS l i = false := by unfold okS; rw [decide_eq_false h, Bool.and_false]
theorem okS_yes {l : List At} {i : Int} (h : hasA l i = true) (h2 : ofA l l.length ≤ 6000) : okS l i = true := by unfold okS; rw [h, decide_eq_true h2]; rfl
end Go.Proofs.Ytgnobmmlmmbfcaa
