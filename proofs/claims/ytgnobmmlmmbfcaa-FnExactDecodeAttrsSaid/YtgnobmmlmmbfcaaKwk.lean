/- Key words, letters, words: contracts of IsKey and of the small functions, program and model. -/
import Derived.Test.YtgnobmmlmmbfcaaKwd
import Derived.Test.YtgnobmmlmmbfcaaTks
import Derived.Laws.Rows
namespace Go.Proofs.Ytgnobmmlmmbfcaa
open Go.RowKit
set_option linter.unusedVariables false

theorem oneOf_at (s : ByteArray) (l : List ByteArray) (k : Nat) (h : k < l.length) : oneOf s (l.drop k) = (((l.getD k ⟨#[]⟩).toList == s.toList) || oneOf s (l.drop (k + 1))) := by
  rw [List.drop_eq_getElem_cons h, oneOf]
  simp [List.getD_eq_getElem?_getD, h]
theorem oneOf_end (s : ByteArray) (l : List ByteArray) (k : Nat) (h : l.length ≤ k) : oneOf s (l.drop k) = false := by
  rw [List.drop_eq_nil_of_le h]; rfl
/-- some texts lie from the start of a block on -/
def TextsAt (w : World) (g : Nat) (l : List ByteArray) : Prop := ∀ k, k < l.length → w.cell? ⟨g, k, none⟩ = some (.string (l.getD k ⟨#[]⟩))
theorem TextsAt.below {w w' : World} {g B : Nat} {l : List ByteArray} (h : TextsAt w g l) (hb : Below B w w') (hg : g < B) : TextsAt w' g l := fun k hk => (hb.cell (p := ⟨g, k, none⟩) hg).trans (h k hk)
theorem texts_new (w : World) (l : List ByteArray) (cs : Array Value) (hc : cs.toList = l.map Value.string) (ty : TypeId) : TextsAt (w.alloc (.cells cs ty)) w.heap.size l := by
  intro k hk
  rw [World.cell?_alloc_at _ _ _ _ rfl]
  have e : cs[k]? = (l.map Value.string)[k]? := by rw [← hc]; simp
  rw [e]
  simp [hk]
def HasRel (s : ByteArray) (l : List ByteArray) (b : Bool) (v : Value) : Prop := ∃ k : Nat, k ≤ l.length ∧ v = .int .i64 k ∧ Hid (oneOf s (l.drop k) = b)
/-- a truth value, memory made -/
def SaysB (w : World) (b : Bool) (e : Ending) (w' : World) : Prop := e = .returned (.bool b) ∧ Below w.heap.size w w'
theorem let_cases (c : Int) : (97 ≤ c ∧ c ≤ 122 ∧ letB c = true) ∨ (c < 97 ∧ letB c = false) ∨ (97 ≤ c ∧ 122 < c ∧ letB c = false) := by
  unfold letB
  rcases Int.lt_or_le c 97 with h | h
  · exact .inr (.inl ⟨h, by simp; omega⟩)
  · rcases Int.lt_or_le 122 c with h2 | h2
    · exact .inr (.inr ⟨h, h2, by simp; omega⟩)
    · exact .inl ⟨h, h2, by simp; omega⟩
theorem dig_cases (c : Int) : (48 ≤ c ∧ c ≤ 57 ∧ digB c = true) ∨ (c < 48 ∧ digB c = false) ∨ (48 ≤ c ∧ 57 < c ∧ digB c = false) := by
  unfold digB
  rcases Int.lt_or_le c 48 with h | h
  · exact .inr (.inl ⟨h, by simp; omega⟩)
  · rcases Int.lt_or_le 57 c with h2 | h2
    · exact .inr (.inr ⟨h, h2, by simp; omega⟩)
    · exact .inl ⟨h, h2, by simp; omega⟩
/-- only letters -/
def alB (l : List UInt8) : Bool := l.all (fun c => letB (c.toNat : Int))
theorem al_more (s : ByteArray) (k : Nat) (h : k < s.size) (hp : letB ((s[k]'h).toNat : Int) = true) : alB (s.data.toList.drop k) = alB (s.data.toList.drop (k + 1)) := by
  rw [drop_at s k h]; unfold alB; rw [List.all_cons, hp]; rfl
theorem al_stop (s : ByteArray) (k : Nat) (h : k < s.size) (hp : letB ((s[k]'h).toNat : Int) = false) : alB (s.data.toList.drop k) = false := by
  rw [drop_at s k h]; unfold alB; rw [List.all_cons, hp]; rfl
theorem al_end (s : ByteArray) (k : Nat) (h : s.size ≤ k) : alB (s.data.toList.drop k) = true := by
  rw [List.drop_eq_nil_of_le (by simpa using h)]; rfl
theorem wd_al (s : ByteArray) : wdB s.data.toList = (alB s.data.toList && decide (s.size ≤ 12)) := by unfold wdB alB; rw [size_list]
def AlRelW (w : World) (s : ByteArray) (b : Bool) (wr : World) : Prop := ∃ k : Nat, k ≤ s.size ∧ wr = w.iter s k ∧ Hid (alB (s.data.toList.drop k) = b)
def AlRel (s : ByteArray) (b : Bool) (v : Value) : Prop := ∃ k : Nat, k ≤ s.size ∧ v = .int .i64 k ∧ Hid (alB (s.data.toList.drop k) = b)
theorem and_false' {a b : Bool} (h : a = false) : (a && b) = false := by rw [h]; rfl
theorem and_true' {a b : Bool} (h : a = true) : (a && b) = b := by rw [h]; rfl
theorem bcell {W w1 : World} (hb : Below W.heap.size W w1) : (∀ b o, b < W.heap.size → w1.cell? ⟨b, o, none⟩ = W.cell? ⟨b, o, none⟩) ∧ (∀ b o, b < W.heap.size → w1.frozen? ⟨b, o, none⟩ = W.frozen? ⟨b, o, none⟩) :=
  ⟨fun b o h => hb.cell (p := ⟨b, o, none⟩) h, fun b o h => hb.frozen (p := ⟨b, o, none⟩) h⟩
/-- any results, memory made -/
def SaysV (w : World) (v : Value) (e : Ending) (w' : World) : Prop := e = .returned v ∧ Below w.heap.size w w'
theorem one_new2 (w : World) (o : Obj) : Below w.heap.size w (w.alloc o) := (Below.refl _ _).alloc (Nat.le_refl _) _
theorem two_new (w : World) (o o' : Obj) : Below w.heap.size w ((w.alloc o).alloc o') := ((Below.refl _ _).alloc (Nat.le_refl _) _).alloc (by simp) _
theorem two_size {w w1 : World} {o o' : Obj} (b : Below ((w.alloc o).alloc o').heap.size ((w.alloc o).alloc o') w1) : w.heap.size + 1 < w1.heap.size := by have := b.size; simp at this; omega
theorem two_below {w w1 : World} {o o' : Obj} (b : Below ((w.alloc o).alloc o').heap.size ((w.alloc o).alloc o') w1) : Below w.heap.size w w1 := (two_new w o o').trans (b.mono (by simp; omega))
/-- a boxed token keeps its cells -/
def FourIs (w : World) (g : Nat) (a0 a1 a2 a3 : Value) : Prop := w.cell? ⟨g, 0, none⟩ = some a0 ∧ w.cell? ⟨g, 1, none⟩ = some a1 ∧ w.cell? ⟨g, 2, none⟩ = some a2 ∧ w.cell? ⟨g, 3, none⟩ = some a3 ∧ g < w.heap.size
theorem FourIs.on {w w1 : World} {g : Nat} {a0 a1 a2 a3 : Value} (h : FourIs w g a0 a1 a2 a3) (b : Below w.heap.size w w1) : FourIs w1 g a0 a1 a2 a3 := by
  obtain ⟨h0, h1, h2, h3, hg⟩ := h
  have hc := (bcell b).1
  exact ⟨(hc _ _ hg).trans h0, (hc _ _ hg).trans h1, (hc _ _ hg).trans h2, (hc _ _ hg).trans h3, Nat.lt_of_lt_of_le hg b.size⟩
theorem box_four {w w1 : World} {a0 a1 a2 a3 : Value} {t : TypeId} (b : Below (w.alloc (.cells #[a0, a1, a2, a3] t)).heap.size (w.alloc (.cells #[a0, a1, a2, a3] t)) w1) : FourIs w1 w.heap.size a0 a1 a2 a3 ∧ Below w.heap.size w w1 := by
  have h : FourIs (w.alloc (.cells #[a0, a1, a2, a3] t)) w.heap.size a0 a1 a2 a3 := by
    refine ⟨?_, ?_, ?_, ?_, ?_⟩ <;> simp [go_sem]
  exact ⟨h.on b, (one_new2 w _).trans (b.mono (by simp))⟩
def SaysI (w : World) (n : Int) (e : Ending) (w' : World) : Prop := e = .returned (.int .i64 n) ∧ Below w.heap.size w w'
/-- the cells of two tokens of the call's own are there -/
def Four (w1 : World) (b : Nat) : Prop := (w1.cell? ⟨b, 0, none⟩).isSome = true ∧ (w1.cell? ⟨b, 1, none⟩).isSome = true ∧ (w1.cell? ⟨b, 2, none⟩).isSome = true ∧ (w1.cell? ⟨b, 3, none⟩).isSome = true
theorem four_set {w1 : World} {b : Nat} (h : Four w1 b) (p : Addr) (v : Value) : Four (w1.setCell p v) b := by
  obtain ⟨h0, h1, h2, h3⟩ := h
  have q : ∀ a : Addr, (w1.cell? a).isSome = true → ((w1.setCell p v).cell? a).isSome = true := fun a ha => by
    by_cases e : p = a
    · subst e; rw [World.cell?_setCell_same' _ _ _ ha]; rfl
    · rw [World.cell?_setCell_other _ _ _ _ e]; exact ha
  exact ⟨q _ h0, q _ h1, q _ h2, q _ h3⟩
theorem read4 {w1 : World} {b : Nat} (h : Four w1 b) (v0 v1 v2 v3 : Value) (W : World) (hW : W = (((w1.setCell ⟨b, 0, none⟩ v0).setCell ⟨b, 1, none⟩ v1).setCell ⟨b, 2, none⟩ v2).setCell ⟨b, 3, none⟩ v3) :
    W.cell? ⟨b, 0, none⟩ = some v0 ∧ W.cell? ⟨b, 1, none⟩ = some v1 ∧ W.cell? ⟨b, 2, none⟩ = some v2 ∧ W.cell? ⟨b, 3, none⟩ = some v3 := by
  obtain ⟨h0, h1, h2, h3⟩ := h
  subst hW
  refine ⟨?_, ?_, ?_, ?_⟩ <;> simp [go_sem, World.cell?_setCell_other, World.cell?_setCell_same', h0, h1, h2, h3]
theorem set4 {n : Nat} {w w1 : World} (h : Below n w w1) (b : Nat) (hb : n ≤ b) (v0 v1 v2 v3 : Value) : Below n w ((((w1.setCell ⟨b, 0, none⟩ v0).setCell ⟨b, 1, none⟩ v1).setCell ⟨b, 2, none⟩ v2).setCell ⟨b, 3, none⟩ v3) :=
  (((h.setCell hb _).setCell hb _).setCell hb _).setCell hb _
theorem set2 {n : Nat} {w w1 : World} (h : Below n w w1) (b : Nat) (hb : n ≤ b) (v0 v1 : Value) : Below n w ((w1.setCell ⟨b, 0, none⟩ v0).setCell ⟨b, 1, none⟩ v1) :=
  (h.setCell hb _).setCell hb _
end Go.Proofs.Ytgnobmmlmmbfcaa
