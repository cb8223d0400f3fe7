/- Tokens and faults compared by the laws; a token and a fault in memory of the call's own. -/
import Derived.Test.YtnenfpbiobmlcaaDoorTkb
namespace Go.Proofs.YtnenfpbiobmlcaaDoor
set_option maxRecDepth 100000
open Go.RowKit

theorem eqToken_same (k a v : Int) (s : ByteArray) (w : World) :
    Calls Tryd.prog 16 #[.agg #[.int .i64 k, .int .i64 a, .string s, .int .i64 v], .agg #[.int .i64 k, .int .i64 a, .string s, .int .i64 v]] w (SaysB w true) := by
  go_enter Tryd.func16, Tryd.ntmps16
  go_wp2
  go_ret
  exact ⟨rfl, two_new _ _ _⟩
theorem eqFault_same (k a : Int) (w : World) :
    Calls Tryd.prog 17 #[.agg #[.int .i64 k, .int .i64 a], .agg #[.int .i64 k, .int .i64 a]] w (SaysB w true) := by
  go_enter Tryd.func17, Tryd.ntmps17
  go_wp2
  go_ret
  exact ⟨rfl, two_new _ _ _⟩
/-- a token in block g, a fault in the block behind it -/
def Pair (w : World) (g : Nat) (k b t v f x : Value) : Prop :=
  (w.cell? ⟨g, 0, none⟩ = some k ∧ w.cell? ⟨g, 1, none⟩ = some b ∧ w.cell? ⟨g, 2, none⟩ = some t ∧ w.cell? ⟨g, 3, none⟩ = some v) ∧ (w.cell? ⟨g + 1, 0, none⟩ = some f ∧ w.cell? ⟨g + 1, 1, none⟩ = some x)
theorem Pair.below {w w' : World} {B g : Nat} {k b t v f x : Value} (h : Pair w g k b t v f x) (hb : Below B w w') (hg : g + 1 < B) : Pair w' g k b t v f x := by
  obtain ⟨⟨h0, h1, h2, h3⟩, h4, h5⟩ := h
  exact ⟨⟨(hb.cell (p := ⟨g, 0, none⟩) (by simp; omega)).trans h0, (hb.cell (p := ⟨g, 1, none⟩) (by simp; omega)).trans h1, (hb.cell (p := ⟨g, 2, none⟩) (by simp; omega)).trans h2, (hb.cell (p := ⟨g, 3, none⟩) (by simp; omega)).trans h3⟩, (hb.cell (p := ⟨g + 1, 0, none⟩) (by simp; omega)).trans h4, (hb.cell (p := ⟨g + 1, 1, none⟩) (by simp; omega)).trans h5⟩
theorem pair_new {w1 wr : World} {k b t v f x : Value} {T T' : TypeId} (h : (w1.alloc (.cells #[k, b, t, v] T)).alloc (.cells #[f, x] T') = wr) : Pair wr w1.heap.size k b t v f x ∧ Below w1.heap.size w1 wr ∧ w1.heap.size + 1 < wr.heap.size := by
  subst h
  refine ⟨⟨⟨?_, ?_, ?_, ?_⟩, ?_, ?_⟩, two_new _ _ _, by simp⟩ <;> simp [go_sem]
/-- the same behind two allocations, cell by cell: for the walk -/
theorem pair_later {w2 : World} {g : Nat} {k b t v f x : Value} (h : Pair w2 g k b t v f x) (hz : g + 1 < w2.heap.size) :
    ((∀ o o', ((w2.alloc o).alloc o').cell? ⟨g, 0, none⟩ = some k) ∧ (∀ o o', ((w2.alloc o).alloc o').cell? ⟨g, 1, none⟩ = some b) ∧ (∀ o o', ((w2.alloc o).alloc o').cell? ⟨g, 2, none⟩ = some t) ∧ (∀ o o', ((w2.alloc o).alloc o').cell? ⟨g, 3, none⟩ = some v)) ∧
    ((∀ o o', ((w2.alloc o).alloc o').cell? ⟨g + 1, 0, none⟩ = some f) ∧ (∀ o o', ((w2.alloc o).alloc o').cell? ⟨g + 1, 1, none⟩ = some x)) :=
  have q := fun o o' => h.below (two_new w2 o o') hz
  ⟨⟨fun o o' => (q o o').1.1, fun o o' => (q o o').1.2.1, fun o o' => (q o o').1.2.2.1, fun o o' => (q o o').1.2.2.2⟩, fun o o' => (q o o').2.1, fun o o' => (q o o').2.2⟩
theorem taV_form (s : ByteArray) (a : Int) : ∃ (k b v n f g : Int) (t : ByteArray) (o : Bool), taV s a = .tuple #[.agg #[.int .i64 k, .int .i64 b, .string t, .int .i64 v], .int .i64 n, .agg #[.int .i64 f, .int .i64 g], .bool o] := by
  unfold taV
  split
  · exact ⟨_, _, _, _, _, _, _, _, rfl⟩
  · exact ⟨0, 0, 0, 0, 0, 0, ⟨#[]⟩, false, rfl⟩
end Go.Proofs.YtnenfpbiobmlcaaDoor
