/- Copies of configurations, the program's. -/
import Derived.Test.YtfijhgggljaomaaCga
import Derived.Laws.AppendOwnNone
namespace Go.Proofs.Ytfijhgggljaomaa
open Go.RowKit
set_option linter.unusedVariables false

/-- a configuration of a call's own: for contracts that copy -/
theorem own_news {w : World} {B n z : Nat} {T : TypeId} {g c : Nat} {xs : List Value} (h : w.ownsRow B T z (.slice (some ⟨g, 0, none⟩) n c) n xs) : ∀ j u, xs[j]? = some u → w.cell? ((⟨g, 0, none⟩ : Addr).add j) = some u := by
  intro j u hu
  have hj : j < n * z := by have := (List.getElem?_eq_some_iff.1 hu).1; rw [h.1] at this; exact this
  have hadd : (⟨g, 0, none⟩ : Addr).add j = ⟨g, j, none⟩ := by unfold Addr.add; split <;> simp_all
  rw [hadd, World.ownsRow.cellAt h j hj, hu]
theorem clsCs_one (l : List Cls) : ∀ u ∈ clsCs l, u.oneCell' = true := by
  intro u hu
  unfold clsCs at hu
  obtain ⟨x, _, hx⟩ := List.mem_flatMap.1 hu
  simp only [clsC, List.mem_cons, List.not_mem_nil, or_false] at hx
  rcases hx with rfl | rfl | rfl | rfl | rfl | rfl | rfl | rfl <;> rfl
theorem fltCs_one (l : List Flt) : ∀ u ∈ fltCs l, u.oneCell' = true := by
  intro u hu
  unfold fltCs at hu
  obtain ⟨x, _, hx⟩ := List.mem_flatMap.1 hu
  simp only [fltC, List.mem_cons, List.not_mem_nil, or_false] at hx
  rcases hx with rfl | rfl | rfl | rfl | rfl <;> rfl
theorem copy_facts {W w1 : World} {B n z : Nat} {T : TypeId} {v1 : Value} {xs : List Value} (hB : B ≤ W.heap.size) (h : w1.ownsRow B T z v1 (0 + n) ([] ++ xs)) (hg : W.grownBy w1 (Value.slice none 0 0).ownBlock) : Hid (w1.ownsRow B T z v1 n xs) ∧ Hid (Below W.heap.size W w1) := by
  refine ⟨?_, (Below.refl _ _).grown hg (Nat.le_refl _) (by intro k h; cases h)⟩
  rw [Nat.zero_add, List.nil_append] at h
  exact h
theorem copy_size {w w1 : World} {o o' : Obj} (b : Below ((w.alloc o).alloc o').heap.size ((w.alloc o).alloc o') w1) : w.heap.size + 1 < w1.heap.size := two_size b
theorem copy_box {w w1 : World} {a0 a1 a2 a3 : Value} {t : TypeId} {o' : Obj} (b : Below ((w.alloc (.cells #[a0, a1, a2, a3] t)).alloc o').heap.size ((w.alloc (.cells #[a0, a1, a2, a3] t)).alloc o') w1) : FourIs w1 w.heap.size a0 a1 a2 a3 :=
  ((box_four (Below.refl _ (w.alloc (.cells #[a0, a1, a2, a3] t)))).1.on (one_new2 _ _)).on b
theorem FourIs.set1 {w : World} {b : Nat} {a0 a1 a2 a3 : Value} (h : FourIs w b a0 a1 a2 a3) (v : Value) : FourIs (w.setCell ⟨b, 1, none⟩ v) b a0 v a2 a3 := by
  obtain ⟨h0, h1, h2, h3, hg⟩ := h
  refine ⟨?_, ?_, ?_, ?_, by simpa using hg⟩
  · rw [World.cell?_setCell_other _ _ _ _ (by simp)]; exact h0
  · exact World.cell?_setCell_same' _ _ _ (by rw [h1]; rfl)
  · rw [World.cell?_setCell_other _ _ _ _ (by simp)]; exact h2
  · rw [World.cell?_setCell_other _ _ _ _ (by simp)]; exact h3
end Go.Proofs.Ytfijhgggljaomaa
