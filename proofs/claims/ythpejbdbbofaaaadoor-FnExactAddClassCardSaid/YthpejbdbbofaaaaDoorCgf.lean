/- SetLimit, the model's. -/
import Derived.Test.YthpejbdbbofaaaaDoorCge
namespace Go.Proofs.YthpejbdbbofaaaaDoor
set_option maxRecDepth 100000
open Go.RowKit
set_option linter.unusedVariables false

theorem FourIs.far {w : World} {b g j : Nat} {a0 a1 a2 a3 : Value} (h : FourIs w b a0 a1 a2 a3) (hg : b ≠ g) (v : Value) : FourIs (w.setCell ⟨g, j, none⟩ v) b a0 a1 a2 a3 := by
  obtain ⟨h0, h1, h2, h3, hb⟩ := h
  refine ⟨?_, ?_, ?_, ?_, by rw [Go.Deep.nblk_setCell]; exact hb⟩ <;> rw [World.cell?_setCell_other _ _ _ _ (by simp)] <;> assumption
theorem lenSetLimit (c : Cfg) (id lim : Int) (h : CfgM c) : CfgM (resSetLimit1 c id lim) := by
  unfold resSetLimit1
  split
  · exact setL_M h _ _
  · exact ⟨Nat.zero_le _, Nat.zero_le _, Nat.zero_le _⟩
end Go.Proofs.YthpejbdbbofaaaaDoor
