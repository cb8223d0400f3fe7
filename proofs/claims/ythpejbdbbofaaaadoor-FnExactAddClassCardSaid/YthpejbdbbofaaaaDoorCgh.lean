/- DropClass, the program's. -/
import Derived.Test.YthpejbdbbofaaaaDoorCgf
import Derived.Test.YthpejbdbbofaaaaDoorCgg
namespace Go.Proofs.YthpejbdbbofaaaaDoor
set_option maxRecDepth 100000
open Go.RowKit
set_option linter.unusedVariables false

theorem FourIs.same {w w' : World} {b : Nat} {a0 a1 a2 a3 : Value} (h : FourIs w b a0 a1 a2 a3) (e : w'.heap[b]? = w.heap[b]?) (hs : w.heap.size ≤ w'.heap.size) : FourIs w' b a0 a1 a2 a3 := by
  obtain ⟨h0, h1, h2, h3, hb⟩ := h
  exact ⟨(cell_heap e 0).trans h0, (cell_heap e 1).trans h1, (cell_heap e 2).trans h2, (cell_heap e 3).trans h3, Nat.lt_of_lt_of_le hb hs⟩
theorem FroB.same {w w' : World} {b : Nat} (h : FroB w b) (e : w'.heap[b]? = w.heap[b]?) : FroB w' b := fun o => (World.frozen?_of_block (a := ⟨b, o, none⟩) e).trans (h o)
theorem Zer.same {w w' : World} {b : Nat} (h : Zer w b) (e : w'.heap[b]? = w.heap[b]?) (hs : w.heap.size ≤ w'.heap.size) : Zer w' b := ⟨h.1.same e hs, h.2.same e⟩
/-! A class taken out of a list. -/
def cut (cs : List Cls) (k : Nat) : List Cls := cs.take k ++ cs.drop (k + 1)
def cutC (c : Cfg) (k : Nat) : Cfg := ⟨c.s, cut c.cs k, c.fs, c.d⟩
theorem cut_length {cs : List Cls} {k : Nat} (h : k < cs.length) : (cut cs k).length = cs.length - 1 := by unfold cut; rw [List.length_append, List.length_take, List.length_drop]; omega
theorem clsCs_take : ∀ (cs : List Cls) (k : Nat), (clsCs cs).take (k * 8) = clsCs (cs.take k)
  | [], k => by simp [clsCs]
  | x :: r, 0 => by simp [clsCs]
  | x :: r, k + 1 => by
    rw [show (k + 1) * 8 = k * 8 + 8 by omega]
    simp only [List.take_succ_cons, clsCs_cons, clsC, List.cons_append, List.nil_append]
    rw [clsCs_take r k]
theorem clsCs_drop : ∀ (cs : List Cls) (k : Nat), (clsCs cs).drop (k * 8) = clsCs (cs.drop k)
  | [], k => by simp [clsCs]
  | x :: r, 0 => by simp
  | x :: r, k + 1 => by
    rw [show (k + 1) * 8 = k * 8 + 8 by omega]
    simp only [List.drop_succ_cons, clsCs_cons, clsC, List.cons_append, List.nil_append]
    exact clsCs_drop r k
theorem clsCs_cut (cs : List Cls) (k : Nat) : (clsCs cs).take (k * 8) ++ (clsCs cs).drop ((k + 1) * 8) = clsCs (cut cs k) := by
  unfold cut; rw [clsCs_append, clsCs_take, clsCs_drop]
theorem cut_get {cs : List Cls} {k : Nat} (h : k < cs.length) (j : Nat) : (cut cs k).getD j cls0 = cs.getD (if j < k then j else j + 1) cls0 := by
  unfold cut
  simp only [List.getD_eq_getElem?_getD]
  congr 1
  by_cases hj : j < k
  · rw [if_pos hj, List.getElem?_append_left (by rw [List.length_take]; omega), List.getElem?_take_of_lt hj]
  · rw [if_neg hj, List.getElem?_append_right (by rw [List.length_take]; omega), List.getElem?_drop, List.length_take]
    congr 1; omega
theorem cut_inc {cs : List Cls} {k : Nat} (h : k < cs.length) (hi : IncC cs) : IncC (cut cs k) := fun a b hab hb => by
  rw [cut_get h, cut_get h]
  rw [cut_length h] at hb
  refine hi _ _ ?_ ?_ <;> split <;> (try split) <;> omega
def dropL (c : Cfg) (k : Nat) : Cfg := match fnd (cut c.cs k) (c.cs.getD k cls0).p with
  | .none => cutC c k
  | .some i => if hasK (cut c.cs k) (c.cs.getD k cls0).p then cutC c k else setL (cutC c k) i (c.cs.getD k cls0).l
theorem dropL_none {c : Cfg} {k : Nat} {x : Cls} (hx : c.cs.getD k cls0 = x) (h : fnd (cut c.cs k) x.p = Option.none) : dropL c k = cutC c k := by unfold dropL; rw [hx, h]
theorem dropL_kids {c : Cfg} {k i : Nat} {x : Cls} (hx : c.cs.getD k cls0 = x) (h : fnd (cut c.cs k) x.p = Option.some i) (hk : hasK (cut c.cs k) x.p = true) : dropL c k = cutC c k := by unfold dropL; rw [hx, h]; simp [hk]
theorem dropL_leaf {c : Cfg} {k i : Nat} {x : Cls} (hx : c.cs.getD k cls0 = x) (h : fnd (cut c.cs k) x.p = Option.some i) (hk : hasK (cut c.cs k) x.p = false) : dropL c k = setL (cutC c k) i x.l := by unfold dropL; rw [hx, h]; simp [hk]
theorem cutC_M {c : Cfg} {k : Nat} (hk : k < c.cs.length) (h : CfgM c) : CfgM (cutC c k) := ⟨h.1, by show (cut c.cs k).length ≤ _; rw [cut_length hk]; have := h.2.1; omega, h.2.2⟩
theorem dropL_M {c : Cfg} {k : Nat} (hk : k < c.cs.length) (h : CfgM c) : CfgM (dropL c k) := by
  unfold dropL
  split
  · exact cutC_M hk h
  · split
    · exact cutC_M hk h
    · exact setL_M (cutC_M hk h) _ _
def resDropClass2 (c : Cfg) (id : Int) : Bool := (goodC c && leafB c.cs id) && goodC (dropL c (slK c id))
def resDropClass1 (c : Cfg) (id : Int) : Cfg := if resDropClass2 c id then dropL c (slK c id) else cfg0
theorem dp_no {c : Cfg} {id : Int} (h : (goodC c && leafB c.cs id) = false) : resDropClass1 c id = cfg0 ∧ resDropClass2 c id = false := by
  have : resDropClass2 c id = false := by unfold resDropClass2; rw [h]; rfl
  unfold resDropClass1; rw [this]; exact ⟨rfl, rfl⟩
theorem dp_yes {c : Cfg} {id : Int} {k : Nat} (h : (goodC c && leafB c.cs id) = true) (hf : fnd c.cs id = Option.some k) : resDropClass1 c id = (if goodC (dropL c k) then dropL c k else cfg0) ∧ resDropClass2 c id = goodC (dropL c k) := by
  have : resDropClass2 c id = goodC (dropL c k) := by unfold resDropClass2; rw [h, slK_some hf]; rfl
  unfold resDropClass1; rw [this, slK_some hf]; exact ⟨rfl, rfl⟩
end Go.Proofs.YthpejbdbbofaaaaDoor
