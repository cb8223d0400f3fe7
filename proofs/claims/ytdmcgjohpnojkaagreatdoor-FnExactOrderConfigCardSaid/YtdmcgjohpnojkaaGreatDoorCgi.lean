/- DropClass, the model's: the classes that are kept. -/
import Derived.Test.YtdmcgjohpnojkaaGreatDoorCgh
namespace Go.Proofs.YtdmcgjohpnojkaaGreatDoor
set_option maxRecDepth 100000
open Go.RowKit
set_option linter.unusedVariables false

theorem getD_mem_take {cs : List Cls} {k : Nat} {x : Cls} (h : x ∈ cs.take k) : ∃ j, j < k ∧ j < cs.length ∧ cs.getD j cls0 = x := by
  obtain ⟨j, hj, rfl⟩ := List.mem_iff_getElem.1 h
  rw [List.length_take] at hj
  refine ⟨j, by omega, by omega, ?_⟩
  rw [List.getElem_take, List.getD_eq_getElem?_getD, List.getElem?_eq_getElem (by omega)]
  rfl
theorem getD_mem_drop {cs : List Cls} {k : Nat} {x : Cls} (h : x ∈ cs.drop k) : ∃ j, k ≤ j ∧ j < cs.length ∧ cs.getD j cls0 = x := by
  obtain ⟨j, hj, rfl⟩ := List.mem_iff_getElem.1 h
  rw [List.length_drop] at hj
  refine ⟨k + j, by omega, by omega, ?_⟩
  rw [List.getElem_drop, List.getD_eq_getElem?_getD, List.getElem?_eq_getElem (by omega)]
  rfl
/-- the classes that do not have an Id are all but one -/
theorem cut_filter {cs : List Cls} (hi : IncC cs) {k : Nat} (hk : k < cs.length) {id : Int} (hx : (cs.getD k cls0).i = id) : cs.filter (fun y => !(y.i == id)) = cut cs k := by
  have h1 : cs.drop k = cs.getD k cls0 :: cs.drop (k + 1) := by
    rw [List.getD_eq_getElem?_getD, List.getElem?_eq_getElem hk]
    exact List.drop_eq_getElem_cons hk
  conv => lhs; rw [← List.take_append_drop k cs, h1, List.filter_append]
  unfold cut
  congr 1
  · rw [List.filter_eq_self]
    intro y hy
    obtain ⟨j, hj, hj2, rfl⟩ := getD_mem_take hy
    have := hi j k hj hk
    have hne : ¬ (cs.getD j cls0).i = id := by omega
    simp only [beq_eq_false_iff_ne.2 hne, Bool.not_false]
  · rw [List.filter_cons]
    simp only [hx, beq_self_eq_true, Bool.not_true, Bool.false_eq_true, if_false]
    rw [List.filter_eq_self]
    intro y hy
    obtain ⟨j, hj, hj2, rfl⟩ := getD_mem_drop hy
    have := hi k j (by omega) hj2
    have hne : ¬ (cs.getD j cls0).i = id := by omega
    simp only [beq_eq_false_iff_ne.2 hne, Bool.not_false]
theorem slK_lt {c : Cfg} {id : Int} (h : leafB c.cs id = true) : slK c id < c.cs.length := by
  unfold leafB at h
  obtain ⟨k, hk⟩ := Option.isSome_iff_exists.1 (Bool.and_eq_true_iff.1 h).1
  rw [slK_some hk]
  exact (fnd_get _ _ _ hk).1
theorem lenDropClass (c : Cfg) (id : Int) (h : CfgM c) : CfgM (resDropClass1 c id) := by
  unfold resDropClass1
  split
  · rename_i h2
    unfold resDropClass2 at h2
    exact dropL_M (slK_lt (Bool.and_eq_true_iff.1 (Bool.and_eq_true_iff.1 h2).1).2) h
  · exact ⟨Nat.zero_le _, Nat.zero_le _, Nat.zero_le _⟩
end Go.Proofs.YtdmcgjohpnojkaaGreatDoor
