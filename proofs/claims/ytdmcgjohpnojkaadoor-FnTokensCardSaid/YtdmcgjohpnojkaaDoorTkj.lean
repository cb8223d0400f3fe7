/- Tokens that a text can have: the plain function and its facts. -/
import Derived.Test.YtdmcgjohpnojkaaDoorTkd
import Derived.Deep.RegionWith
namespace Go.Proofs.YtdmcgjohpnojkaaDoor
set_option maxRecDepth 100000
open Go.RowKit
set_option linter.unusedVariables false

/-- a token is one that a text can have -/
def goodT (k a : Int) (s : ByteArray) (v : Int) : Bool :=
  inB a 0 4000 && (decide (tkFa (ftL s.data.toList) = 0) && ((tkKi (ftL s.data.toList) == k) && (((ftL s.data.toList).toList == s.toList) && (tkVa (ftL s.data.toList) == v))))
theorem good_out {k a v : Int} {s : ByteArray} (h : inB a 0 4000 = false) : goodT k a s v = false := by unfold goodT; rw [h]; rfl
theorem good_in {k a v : Int} {s : ByteArray} (h : inB a 0 4000 = true) : goodT k a s v = (decide (tkFa (ftL s.data.toList) = 0) && ((tkKi (ftL s.data.toList) == k) && (((ftL s.data.toList).toList == s.toList) && (tkVa (ftL s.data.toList) == v)))) := by unfold goodT; rw [h]; rfl
theorem in_cases (a : Int) : (0 ≤ a ∧ a ≤ 4000 ∧ inB a 0 4000 = true) ∨ (a < 0 ∧ inB a 0 4000 = false) ∨ (0 ≤ a ∧ 4000 < a ∧ inB a 0 4000 = false) := by
  rcases Int.lt_or_le a 0 with h | h
  · exact .inr (.inl ⟨h, inB_low h⟩)
  · rcases Int.lt_or_le 4000 a with h2 | h2
    · exact .inr (.inr ⟨h, h2, inB_high h2⟩)
    · exact .inl ⟨h, h2, inB_true h h2⟩

/-! Signs. -/
theorem one_in (s : ByteArray) : ∀ l : List ByteArray, oneOf s l = true → s ∈ l
  | [], h => by cases h
  | x :: r, h => by
    unfold oneOf at h
    rcases Bool.or_eq_true_iff.1 h with q | q
    · have : x.toList = s.toList := by simpa using q
      rw [ByteArray.toList_eq, ByteArray.toList_eq] at this
      have e : x = s := ByteArray.ext (Array.toList_inj.1 this)
      rw [e]; simp
    · exact List.mem_cons_of_mem _ (one_in s r q)
theorem in_one (s : ByteArray) : ∀ l : List ByteArray, s ∈ l → oneOf s l = true
  | x :: r, h => by
    unfold oneOf
    rcases List.mem_cons.1 h with q | q
    · rw [q]; simp
    · rw [in_one s r q, Bool.or_true]
theorem sg_facts (s : ByteArray) (h : s ∈ sgA) : ftL s.data.toList = s ∧ tkFa s = 0 ∧ tkKi s = 4 ∧ tkVa s = 0 := by
  simp only [sgA, List.mem_cons, List.not_mem_nil, or_false] at h
  rcases h with rfl | rfl | rfl | rfl | rfl | rfl <;> decide
theorem good_sign {k a v : Int} {s : ByteArray} (h : inB a 0 4000 = true) (ho : oneOf s sgA = true) : goodT k a s v = ((k == 4) && (v == 0)) := by
  obtain ⟨e1, e2, e3, e4⟩ := sg_facts s (one_in s sgA ho)
  rw [good_in h, e1, e2, e3, e4]
  simp
  rw [Bool.beq_comm, Bool.beq_comm (a := (0 : Int))]
end Go.Proofs.YtdmcgjohpnojkaaDoor
