/- Chapter 4's functions over a class's index: whether there is one, spare rates. -/
import Derived.Test.YtfijhgggljaomaaCfc
import Derived.Test.YtfijhgggljaomaaCfa
namespace Go.Proofs.Ytfijhgggljaomaa
open Go.RowKit
set_option linter.unusedVariables false

def hasI (c : Cfg) (a : Int) : Bool := goodC c && (decide (0 ≤ a) && decide (a < (c.cs.length : Int)))
theorem has_iff {c : Cfg} {a : Int} (h : hasI c a = true) : goodC c = true ∧ ∃ q : Nat, a = (q : Int) ∧ q < c.cs.length := by
  unfold hasI at h
  simp only [Bool.and_eq_true, decide_eq_true_eq] at h
  exact ⟨h.1, a.toNat, by omega, by omega⟩
theorem in_idx (a : Int) (n : Nat) (h : 1 ≤ n) : inB a 0 ((n : Int) - 1) = (decide (0 ≤ a) && decide (a < (n : Int))) := by
  unfold inB
  congr 1
  apply Bool.eq_iff_iff.2
  rw [decide_eq_true_eq, decide_eq_true_eq]
  omega
def resSpareRate1 (c : Cfg) (a : Int) : Int := if hasI c a then spare c.cs (c.cs.getD a.toNat cls0) else 0
def resSpareRate2 (c : Cfg) (a : Int) : Bool := hasI c a
theorem sr_bad {c : Cfg} {a : Int} (h : hasI c a = false) : resSpareRate1 c a = 0 ∧ resSpareRate2 c a = false := by unfold resSpareRate1 resSpareRate2; rw [h]; exact ⟨rfl, rfl⟩
theorem sr_good {c : Cfg} {q : Nat} (h : hasI c (q : Int) = true) : resSpareRate1 c q = spare c.cs (c.cs.getD q cls0) ∧ resSpareRate2 c q = true := by unfold resSpareRate1 resSpareRate2; rw [h]; exact ⟨rfl, rfl⟩
end Go.Proofs.Ytfijhgggljaomaa
