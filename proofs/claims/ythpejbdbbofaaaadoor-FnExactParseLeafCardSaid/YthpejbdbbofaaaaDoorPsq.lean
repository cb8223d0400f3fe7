/- The tokens of a text, as the parser finds them: no name is a key word or a sign; a text without a fault. -/
import Derived.Test.YthpejbdbbofaaaaDoorPsm
namespace Go.Proofs.YthpejbdbbofaaaaDoor
set_option maxRecDepth 100000
open Go.RowKit
set_option linter.unusedVariables false
set_option linter.unusedSimpArgs false

def NmOk (x : Tok) : Prop := x.k = 2 → isKw x.t = false ∧ letB (tkHd x.t.data.toList) = true
theorem tkA_nm (s : ByteArray) (i : Nat) : (tkA s i).k = 2 → isKw (tkA s i).t = false ∧ letB (tkHd (tkA s i).t.data.toList) = true := by
  unfold tkA
  simp only
  split
  · intro h; cases h
  · split
    · intro h
      simp only at h ⊢
      unfold tkKi at h
      split at h
      · cases h
      · split at h
        · split at h <;> cases h
        · split at h
          · rename_i hl
            split at h
            · split at h
              · cases h
              · rename_i hk
                exact ⟨by simpa using hk, hl⟩
            · cases h
          · cases h
    · intro h; cases h
theorem tkGo_nm (s : ByteArray) : ∀ (m i : Nat) (acc : List Tok), (∀ x ∈ acc, NmOk x) → ∀ x ∈ (tkGo s m i acc).l, NmOk x
  | 0, i, acc, h => by intro x hx; simp [tkGo] at hx
  | m + 1, i, acc, h => by
    unfold tkGo
    split
    · intro x hx; simp at hx
    · split
      · exact h
      · split
        · intro x hx; simp at hx
        · refine tkGo_nm s m _ _ (fun x hx => ?_)
          rcases List.mem_append.1 hx with hx | hx
          · exact h x hx
          · rw [List.mem_singleton.1 hx]
            exact tkA_nm s i
theorem oneOf_false : ∀ (l : List ByteArray) (s : ByteArray), oneOf s l = false → ∀ t ∈ l, (t.toList == s.toList) = false
  | [], _, _, t, ht => absurd ht (by simp)
  | x :: r, s, h, t, ht => by
    unfold oneOf at h
    rw [Bool.or_eq_false_iff] at h
    rcases List.mem_cons.1 ht with e | e
    · rw [e]; exact h.1
    · exact oneOf_false r s h.2 t e
theorem sg_let : ∀ t ∈ sgA, letB (tkHd t.data.toList) = false := by
  intro t ht
  unfold sgA at ht
  simp only [List.mem_cons, List.not_mem_nil, or_false] at ht
  rcases ht with rfl | rfl | rfl | rfl | rfl | rfl <;> rfl
theorem nm_good {x : Tok} (h : NmOk x) (hk : x.k = 2) (t : ByteArray) (ht : t ∈ kwA ++ sgA) : (x.t.toList == t.toList) = false := by
  obtain ⟨a, b⟩ := h hk
  rcases List.mem_append.1 ht with q | q
  · have := oneOf_false kwA x.t a t q
    rw [Bool.beq_comm]
    exact this
  · cases e : (x.t.toList == t.toList)
    · rfl
    · have e2 : x.t.toList = t.toList := by simpa using e
      rw [Lib.toList_data, Lib.toList_data] at e2
      have := sg_let t q
      rw [← e2, b] at this
      cases this
theorem tkL_good (s : ByteArray) : GoodN (tkL s).l := fun i hi hk t ht => by
  have hm : (tkL s).l.getD i tok0 ∈ (tkL s).l := by
    rw [List.getD_eq_getElem?_getD, List.getElem?_eq_getElem hi]
    exact List.getElem_mem hi
  exact nm_good (tkGo_nm s 601 0 [] (fun x hx => absurd hx (by simp)) _ hm) hk t ht
theorem tkGo_g (s : ByteArray) : ∀ (m i : Nat) (acc : List Tok), (tkGo s m i acc).f = 0 → (tkGo s m i acc).g = 0
  | 0, i, acc => by intro h; simp [tkGo] at h
  | m + 1, i, acc => by
    unfold tkGo
    split
    · rename_i hf
      intro h
      exact absurd h hf
    · split
      · intro _; rfl
      · split
        · intro h; cases h
        · exact tkGo_g s m _ _
theorem tkL_g (s : ByteArray) (h : (tkL s).f = 0) : (tkL s).g = 0 := tkGo_g s 601 0 [] h
theorem tkL_len (s : ByteArray) : (tkL s).l.length ≤ 600 := tkGo_len s 601 0 [] (by simp)
/-- what a function that reads one part of a text answers -/
def whP {α : Type} (s : ByteArray) (part : List Tok → PR α) (z : α) : α × (Int × Int) × Bool :=
  if s.size ≤ 4000 then
    if (tkL s).f = 0 then
      match alP (tkL s).l (part (tkL s).l) with
      | .ok x _ => (x, (0, 0), true)
      | .bad k j => (z, fltP (tkL s).l s.size k j, true)
    else (z, ((tkL s).f, (tkL s).g), true)
  else (z, (0, 0), false)
theorem whP_no {α : Type} {s : ByteArray} {part : List Tok → PR α} {z : α} (h : ¬ s.size ≤ 4000) : whP s part z = (z, (0, 0), false) := if_neg h
theorem whP_fault {α : Type} {s : ByteArray} {part : List Tok → PR α} {z : α} (h : s.size ≤ 4000) (hf : (tkL s).f ≠ 0) : whP s part z = (z, ((tkL s).f, (tkL s).g), true) := by
  unfold whP; rw [if_pos h, if_neg hf]
theorem whP_ok {α : Type} {s : ByteArray} {part : List Tok → PR α} {z x : α} {j : Nat} (h : s.size ≤ 4000) (hf : (tkL s).f = 0) (hr : alP (tkL s).l (part (tkL s).l) = .ok x j) : whP s part z = (x, (0, 0), true) := by
  unfold whP; rw [if_pos h, if_pos hf, hr]
theorem whP_bad {α : Type} {s : ByteArray} {part : List Tok → PR α} {z : α} {k : Int} {j : Nat} (h : s.size ≤ 4000) (hf : (tkL s).f = 0) (hr : alP (tkL s).l (part (tkL s).l) = .bad k j) : whP s part z = (z, fltP (tkL s).l s.size k j, true) := by
  unfold whP; rw [if_pos h, if_pos hf, hr]
end Go.Proofs.YthpejbdbbofaaaaDoor
