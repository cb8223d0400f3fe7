/- Marking and asking a slice of the call's own: contracts of markByteS, heldByteS, and eqByteS of two empty slices. -/
import Derived.Test.YtgnobmmlmmbfcaaByt
namespace Go.Proofs.Ytgnobmmlmmbfcaa
open Go.RowKit

/-- the marks 1, 2, .. as bytes, ahead of the old bytes -/
def marks (n : Nat) : List Int := (List.range n).map (fun i : Nat => ((i : Int) + 1) % 256)
def markTo (zs : List Int) (k : Nat) : List Int := marks k ++ zs.drop k
theorem marks_length (n : Nat) : (marks n).length = n := by simp [marks]
theorem marks_succ (n : Nat) : marks (n + 1) = marks n ++ [((n : Int) + 1) % 256] := by simp [marks, List.range_succ]
theorem markTo_zero (zs : List Int) : markTo zs 0 = zs := by simp [markTo, marks]
theorem markTo_all (zs : List Int) : markTo zs zs.length = marks zs.length := by simp [markTo]
theorem markTo_set (zs : List Int) (k : Nat) (h : k < zs.length) : (markTo zs k).set k (((k : Int) + 1) % 256) = markTo zs (k + 1) := by
  unfold markTo
  rw [List.set_append_right _ _ (by rw [marks_length]; exact Nat.le_refl _), marks_length, Nat.sub_self, List.drop_eq_getElem_cons h, List.set_cons_zero, marks_succ, List.append_assoc]
  rfl
theorem markTo_length (zs : List Int) (k : Nat) (h : k ≤ zs.length) : (markTo zs k).length = zs.length := by simp [markTo, marks_length]; omega
theorem marks_get (n k : Nat) (h : k < n) : (marks n).getD k 0 = ((k : Int) + 1) % 256 := by
  simp [marks, List.getD_eq_getElem?_getD, h]

/-- only block g was written -/
def OnlyBlock (g : Nat) (w w' : World) : Prop := Below g w w' ∧ w'.heap.size = w.heap.size ∧ ∀ k, k ≠ g → w'.heap[k]? = w.heap[k]?
theorem OnlyBlock.refl (g : Nat) (w : World) : OnlyBlock g w w := ⟨Below.refl _ _, rfl, fun _ _ => rfl⟩
theorem OnlyBlock.store {g : Nat} {w w' : World} (h : OnlyBlock g w w') (k : Nat) (v : Value) : OnlyBlock g w (w'.setCell ⟨g, k, none⟩ v) :=
  ⟨h.1.setCell (Nat.le_refl _) v, by rw [← h.2.1]; simp, fun j hj => by rw [Below.heap_setCell _ _ _ _ (by exact hj)]; exact h.2.2 j hj⟩
theorem OwnB.other {w w' : World} {B g g' n cap : Nat} {zs : List Int} (h : OwnB w B g n cap zs) (hb : OnlyBlock g' w w') (hg : g ≠ g') : OwnB w' B g n cap zs := by
  obtain ⟨h1, h2⟩ := h
  refine ⟨h1, ?_⟩
  rcases h2 with h2 | ⟨g1, cap', cur, a, b, c, d⟩
  · exact .inl h2
  · cases a
    exact .inr ⟨g, cap, cur, rfl, b, by rw [hb.2.2 g hg]; exact c, d⟩

theorem OwnB.self {w : World} {B g n cap : Nat} {zs : List Int} (h : OwnB w B g n cap zs) : OwnB w g g n cap zs := by
  obtain ⟨h1, h2⟩ := h
  refine ⟨h1, ?_⟩
  rcases h2 with ⟨a, _⟩ | ⟨g1, cap', cur, a, b, c, d⟩
  · cases a
  · cases a
    exact .inr ⟨g, cap, cur, rfl, Nat.le_refl _, c, d⟩
def MarkRel (w : World) (g n cap : Nat) (zs : List Int) (m i : Value) (wr : World) : Prop :=
  ∃ k : Nat, k ≤ n ∧ i = .int .i64 k ∧ m = .int .i64 (k + 1) ∧ OwnB wr g g n cap (markTo zs k) ∧ OnlyBlock g w wr
/-- what marking leaves -/
def Marked (w : World) (g n cap : Nat) (e : Ending) (w' : World) : Prop :=
  e = .returned (.int .i64 (n + 1)) ∧ OwnB w' g g n cap (marks n) ∧ OnlyBlock g w w'

def OwnV (w : World) (B : Nat) (v : Value) (n : Nat) (zs : List Int) : Prop := w.ownsRow B 5 1 v n (bv zs)
theorem OwnV.snoc {w wr w1 : World} {B n : Nat} {v v' : Value} {zs : List Int} {c : Int} {o : Obj} (h : OwnV wr B v n zs) (hB : B ≤ wr.heap.size) (hb : Below B w wr)
    (h' : w1.ownsRow B 5 1 v' (n + 1) (bv zs ++ [.int .u8 c])) (hg : (wr.alloc o).grownBy w1 v.ownBlock) : OwnV w1 B v' (n + 1) (zs ++ [c]) ∧ Below B w w1 :=
  ⟨by unfold OwnV; simpa [bv] using h', (hb.alloc hB o).grown hg (by simp; omega) (fun j hj => (World.ownsRow.lt h j hj).1)⟩
theorem OwnV.some {w : World} {B n : Nat} {v : Value} {zs : List Int} (h : OwnV w B v n zs) (hn : 0 < n) : ∃ g cap, v = .slice (some ⟨g, 0, none⟩) n cap ∧ OwnB w B g n cap zs := by
  rcases h.2 with ⟨_, h0⟩ | ⟨g, cap, cur, hv, _⟩
  · omega
  · subst hv
    exact ⟨g, cap, rfl, h⟩

/-- bytes were made: a slice of the call's own -/
def Gives (w : World) (n : Nat) (zs : List Int) (e : Ending) (w' : World) : Prop :=
  ∃ g cap, e = .returned (.tuple #[.slice (some ⟨g, 0, none⟩) n cap, .bool true]) ∧ OwnB w' w.heap.size g n cap zs ∧ Below w.heap.size w w'
/-- nothing was made -/
def GivesNone (w : World) (e : Ending) (w' : World) : Prop := e = .returned (.tuple #[.slice none 0 0, .bool false]) ∧ w = w'
def GivesRow (w : World) (n : Nat) (zs : List Int) (e : Ending) (w' : World) : Prop :=
  ∃ g cap, e = .returned (.slice (some ⟨g, 0, none⟩) n cap) ∧ OwnB w' w.heap.size g n cap zs ∧ Below w.heap.size w w'

theorem one_new (w : World) (v : Value) (t : TypeId) : ∀ j u, [v][j]? = some u → (w.alloc (.cells #[v] t)).cell? ((⟨w.heap.size, 0, none⟩ : Addr).add j) = some u := by
  intro j u hj
  match j, hj with
  | 0, hj => simp at hj; subst hj; simp [Addr.add]
end Go.Proofs.Ytgnobmmlmmbfcaa
