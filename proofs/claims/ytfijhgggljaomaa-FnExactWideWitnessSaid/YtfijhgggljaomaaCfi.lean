/- The program's check of a name and of a whole configuration. -/
import Derived.Test.YtfijhgggljaomaaCph
namespace Go.Proofs.Ytfijhgggljaomaa
open Go.RowKit
set_option linter.unusedVariables false

theorem nm_empty {s : ByteArray} (h : s.size = 0) : s = ⟨#[]⟩ := by
  obtain ⟨⟨l⟩⟩ := s
  simp [ByteArray.size] at h
  rw [h]
theorem nm_full {s : ByteArray} (h : 0 < s.size) : (s.toList == []) = false ∧ s.toList.isEmpty = false := by
  have e : s.toList ≠ [] := by
    rw [ByteArray.toList_eq]
    intro e
    have q : s.data.size = 0 := by rw [← Array.length_toList, e]; rfl
    have q2 : s.size = s.data.size := rfl
    omega
  cases hl : s.toList with
  | nil => exact absurd hl e
  | cons a r => exact ⟨rfl, rfl⟩
end Go.Proofs.Ytfijhgggljaomaa
