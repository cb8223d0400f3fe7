/- Lists of tokens that are values of slots: comparing, marking, asking, whatever their length. -/
import Derived.Test.YtnenfpbiobmlcaaDoorTkn
namespace Go.Proofs.YtnenfpbiobmlcaaDoor
set_option maxRecDepth 100000
open Go.RowKit
set_option linter.unusedVariables false

/-- a slice holds a list of tokens -/
def SlT (w : World) (v : Value) (l : List Tok) : Prop :=
  (l = [] ∧ ∃ ad c, v = .slice ad 0 c) ∨ (∃ g c, v = .slice (some ⟨g, 0, none⟩) l.length c ∧ ToksAt w g l ∧ g < w.heap.size)
theorem SlT.below {w w' : World} {v : Value} {l : List Tok} (h : SlT w v l) (hb : Below w.heap.size w w') : SlT w' v l := by
  rcases h with h | ⟨g, c, hv, ht, hg⟩
  · exact .inl h
  · exact .inr ⟨g, c, hv, ht.below hb hg, Nat.lt_of_lt_of_le hg hb.size⟩
/-- the same where only what lies behind a place was written -/
theorem SlT.deep {wo w w' : World} {v : Value} {l : List Tok} {B : Nat} (ho : SlT wo v l) (hB : wo.heap.size ≤ B) (h1 : Below wo.heap.size wo w) (hb : Below B w w') : SlT w' v l :=
  ho.below (h1.trans (hb.mono hB))
theorem OwnK.slt {w : World} {B n : Nat} {v : Value} {l : List Tok} (h : OwnK w B v n l) : SlT w v l := by
  have hl := h.len
  rcases Nat.eq_zero_or_pos n with hn | hn
  · refine .inl ⟨List.eq_nil_of_length_eq_zero (by omega), ?_⟩
    rcases h.2 with ⟨hv, _⟩ | ⟨g, cap, cur, hv, _⟩
    · exact ⟨none, 0, hv⟩
    · subst hn; exact ⟨_, _, hv⟩
  · obtain ⟨g, cap, hv⟩ := h.form hn
    subst hv
    exact .inr ⟨g, cap, by rw [hl], h.toks, (World.ownsRow.lt h g rfl).2⟩
/-- two cells of the call's own -/
def Two (w : World) (g : Nat) (a b : Value) : Prop := w.cell? ⟨g, 0, none⟩ = some a ∧ w.cell? ⟨g, 1, none⟩ = some b
theorem Two.below {w w' : World} {g B : Nat} {a b : Value} (h : Two w g a b) (hb : Below B w w') (hg : g < B) : Two w' g a b :=
  ⟨(hb.cell (p := ⟨g, 0, none⟩) hg).trans h.1, (hb.cell (p := ⟨g, 1, none⟩) hg).trans h.2⟩
theorem two_cells {w wr : World} {a b : Value} {T : TypeId} (h : w.alloc (.cells #[a, b] T) = wr) : Two wr w.heap.size a b ∧ Below w.heap.size w wr ∧ w.heap.size < wr.heap.size := by
  subst h
  exact ⟨⟨by simp [go_sem], by simp [go_sem]⟩, one_new2 _ _, by simp⟩
theorem eqTokenS_any (v v' : Value) (l : List Tok) (w : World) (h : Hid (SlT w v l)) (h' : Hid (SlT w v' l)) (hm : l.length ≤ 1048576) :
    Calls Tryd.prog 20 #[v, v'] w (SaysB w true) := by
  rcases h.out with ⟨hl, ad, c, hv⟩ | ⟨g, c, hv, ht, hg⟩
  · rcases h'.out with ⟨_, ad', c', hv'⟩ | ⟨g', c', hv', _, _⟩
    · rw [hv, hv']; exact eqTokenS_none _ _ _ _ w
    · rw [hv, hv', hl]; exact eqTokenS_none _ _ _ _ w
  · rcases h'.out with ⟨hl, ad', c', hv'⟩ | ⟨g', c', hv', ht', hg'⟩
    · rw [hv, hv', hl]; exact eqTokenS_none _ _ _ _ w
    · rw [hv, hv']; exact eqTokenS_same g g' l.length c c' l w ht ht' rfl hg hg' hm
/-- what marking leaves -/
def SaysMark (w : World) (v : Value) (B n : Nat) (e : Ending) (w' : World) : Prop := e = .returned (.int .i64 (4 * (n : Int) + 1)) ∧ SlT w' v (marksT n) ∧ Below B w w'
theorem markTokenS_any (v : Value) (B n : Nat) (l : List Tok) (w : World) (HO : Hid (OwnK w B v n l)) (hB : B ≤ w.heap.size) (hm : n ≤ 600) :
    Calls Tryd.prog 21 #[v, .int .i64 1] w (SaysMark w v B n) := by
  rcases Nat.eq_zero_or_pos n with hn | hn
  · subst hn
    obtain ⟨hl, ad, c, hv⟩ : l = [] ∧ ∃ ad c, v = .slice ad 0 c := by
      rcases HO.out.slt with h | ⟨g, c, hv, _⟩
      · exact h
      · have := HO.out.len
        have hl : l = [] := List.eq_nil_of_length_eq_zero this
        subst hl
        exact ⟨rfl, _, _, hv⟩
    rw [hv]
    exact (markTokenS_none ad c w).mono fun e w' ⟨he, hw⟩ => ⟨by rw [he]; rfl, .inl ⟨rfl, ad, c, rfl⟩, by rw [← hw]; exact Below.refl _ _⟩
  · obtain ⟨g, cap, hv⟩ := HO.out.form hn
    have ho := HO.out
    rw [hv] at ho ⊢
    have hg := World.ownsRow.lt ho g rfl
    have ho' : OwnK w g (.slice (some ⟨g, 0, none⟩) n cap) n l := by
      obtain ⟨h1, h2⟩ := ho
      refine ⟨h1, ?_⟩
      rcases h2 with h2 | ⟨g', cap', cur, a, b, c, d⟩
      · exact .inl h2
      · cases a
        exact .inr ⟨g, cap, cur, rfl, Nat.le_refl _, c, d⟩
    exact (markTokenS_own g n cap l w ho' hm).mono fun e w' ⟨he, hk, hO⟩ => ⟨he, hk.slt, hO.1.mono hg.1⟩
def SaysHeld (w : World) (n : Nat) (e : Ending) (w' : World) : Prop := e = .returned (.int .i64 (4 * (n : Int) + 1)) ∧ Below w.heap.size w w'
theorem heldTokenS_any (v : Value) (n : Nat) (w : World) (h : Hid (SlT w v (marksT n))) (hm : n ≤ 600) :
    Calls Tryd.prog 22 #[v, .int .i64 1] w (SaysHeld w n) := by
  rcases h.out with ⟨hl, ad, c, hv⟩ | ⟨g, c, hv, ht, hg⟩
  · have hn : n = 0 := by have := congrArg List.length hl; rw [marksT_length] at this; exact this
    subst hn
    rw [hv]
    exact (heldTokenS_none ad c w).mono fun e w' ⟨he, hw⟩ => ⟨by rw [he]; rfl, by rw [← hw]; exact Below.refl _ _⟩
  · rw [hv, marksT_length]
    exact heldTokenS_own g n c w ht hg hm
theorem tkGo_len (s : ByteArray) : ∀ (m i : Nat) (acc : List Tok), acc.length ≤ 600 → (tkGo s m i acc).l.length ≤ 600
  | 0, _, _, _ => by simp [tkGo]
  | m + 1, i, acc, h => by
    rw [tkGo]
    split
    · simp
    · split
      · exact h
      · split
        · simp
        · exact tkGo_len s m _ _ (by simp; omega)
theorem tkT_len (s : ByteArray) : (tkT s).l.length ≤ 600 := by
  unfold tkT
  split
  · exact tkGo_len s 601 0 [] (by simp)
  · simp
end Go.Proofs.YtnenfpbiobmlcaaDoor
