/- Slices of strings of the call's own: contracts of the comparing, marking and asking functions of the laws. Marking and asking a slice of strings of the call's own. -/
import Derived.Test.YtkpocljlmbihcaaDoorMark
import Derived.Laws.BytesArg
import Derived.Deep.RegionWith
namespace Go.Proofs.YtkpocljlmbihcaaDoor
set_option maxRecDepth 100000
open Go.RowKit

theorem infoStr : (Tryd.prog.info? 9).map (fun i => (i.zero, i.size, i.bytes)) = some (some (.string ⟨#[]⟩), 1, 16) := by kernel_rfl
/-- the cells of a list of strings -/
def sv (l : List ByteArray) : List Value := l.map Value.string
theorem sv_length (l : List ByteArray) : (sv l).length = l.length := by simp [sv]
theorem sv_get (l : List ByteArray) (i : Nat) (h : i < l.length) : (sv l)[i]? = some (.string (l.getD i ⟨#[]⟩)) := by simp [sv, h]
theorem sv_set (l : List ByteArray) (k : Nat) (c : ByteArray) : (sv l).set k (.string c) = sv (l.set k c) := by simp [sv, List.map_set]
def OwnS (w : World) (B g n cap : Nat) (l : List ByteArray) : Prop := w.ownsRow B 9 1 (.slice (some ⟨g, 0, none⟩) n cap) n (sv l)
theorem OwnS.len {w : World} {B g n cap : Nat} {l : List ByteArray} (h : OwnS w B g n cap l) : l.length = n := by
  have := h.1; rw [sv_length] at this; omega
theorem OwnS.lt {w : World} {B g n cap : Nat} {l : List ByteArray} (h : OwnS w B g n cap l) : B ≤ g ∧ g < w.heap.size := World.ownsRow.lt h g rfl
theorem OwnS.block {w w' : World} {B g n cap : Nat} {l : List ByteArray} (h : OwnS w B g n cap l) (hb : w'.heap[g]? = w.heap[g]?) : OwnS w' B g n cap l := by
  obtain ⟨h1, h2⟩ := h
  refine ⟨h1, ?_⟩
  rcases h2 with h2 | ⟨g', cap', cur, a, b, c, d⟩
  · exact .inl h2
  · cases a
    exact .inr ⟨g, cap, cur, rfl, b, by rw [hb]; exact c, d⟩
theorem OwnS.below {w w' : World} {B B' g n cap : Nat} {l : List ByteArray} (h : OwnS w B g n cap l) (hb : Below B' w w') (hg : g < B') : OwnS w' B g n cap l := h.block (hb.block g hg)
theorem OwnS.base {w : World} {B B' g n cap : Nat} {l : List ByteArray} (h : OwnS w B g n cap l) (hB : B' ≤ B) : OwnS w B' g n cap l := by
  obtain ⟨h1, h2⟩ := h
  refine ⟨h1, ?_⟩
  rcases h2 with h2 | ⟨g', cap', cur, a, b, c, d⟩
  · exact .inl h2
  · exact .inr ⟨g', cap', cur, a, Nat.le_trans hB b, c, d⟩
theorem OwnS.self {w : World} {B g n cap : Nat} {l : List ByteArray} (h : OwnS w B g n cap l) : OwnS w g g n cap l := by
  obtain ⟨h1, h2⟩ := h
  refine ⟨h1, ?_⟩
  rcases h2 with ⟨a, _⟩ | ⟨g1, cap', cur, a, b, c, d⟩
  · cases a
  · cases a
    exact .inr ⟨g, cap, cur, rfl, Nat.le_refl _, c, d⟩
theorem OwnS.cell {w : World} {B g n cap : Nat} {l : List ByteArray} (h : OwnS w B g n cap l) (k : Nat) (hk : k < n) : w.cell? ⟨g, k, none⟩ = some (.string (l.getD k ⟨#[]⟩)) := by
  have hl := h.len
  rw [World.ownsRow.cellAt h k (by omega), sv_get _ _ (by omega)]
theorem OwnS.store {w : World} {B g n cap : Nat} {l : List ByteArray} (h : OwnS w B g n cap l) (k : Nat) (c : ByteArray) : OwnS (w.setCell ⟨g, k, none⟩ (.string c)) B g n cap (l.set k c) := by
  have := (World.ownsRow.stored h k (.string c)).1
  rw [sv_set] at this
  exact this
/-- a slice of the call's own, or nil -/
def OwnZ (w : World) (B : Nat) (v : Value) (n : Nat) (l : List ByteArray) : Prop := w.ownsRow B 9 1 v n (sv l)
theorem OwnZ.snoc {w wr w1 : World} {B n : Nat} {v v' : Value} {l : List ByteArray} {c : ByteArray} {o : Obj} (h : OwnZ wr B v n l) (hB : B ≤ wr.heap.size) (hb : Below B w wr)
    (h' : w1.ownsRow B 9 1 v' (n + 1) (sv l ++ [.string c])) (hg : (wr.alloc o).grownBy w1 v.ownBlock) : OwnZ w1 B v' (n + 1) (l ++ [c]) ∧ Below B w w1 :=
  ⟨by unfold OwnZ; simpa [sv] using h', (hb.alloc hB o).grown hg (by simp; omega) (fun j hj => (World.ownsRow.lt h j hj).1)⟩
theorem OwnZ.some {w : World} {B n : Nat} {v : Value} {l : List ByteArray} (h : OwnZ w B v n l) (hn : 0 < n) : ∃ g cap, v = .slice (some ⟨g, 0, none⟩) n cap ∧ OwnS w B g n cap l := by
  rcases h.2 with ⟨_, h0⟩ | ⟨g, cap, cur, hv, _⟩
  · omega
  · subst hv
    exact ⟨g, cap, rfl, h⟩
theorem OwnZ.below {w w' : World} {B B' n : Nat} {v : Value} {l : List ByteArray} (h : OwnZ w B v n l) (hb : Below B' w w') (hB : w.heap.size ≤ B') : OwnZ w' B v n l := by
  obtain ⟨h1, h2⟩ := h
  refine ⟨h1, ?_⟩
  rcases h2 with h2 | ⟨g, cap, cur, a, b, c, d⟩
  · exact .inl h2
  · have hlt : g < w.heap.size := (World.ownsRow.lt (show w.ownsRow B 9 1 v n (sv l) from ⟨h1, .inr ⟨g, cap, cur, a, b, c, d⟩⟩) g (by rw [a]; rfl)).2
    exact .inr ⟨g, cap, cur, a, b, by rw [hb.block g (by omega)]; exact c, d⟩
/-- only block g was written, new ones may have come -/
def OnlyGrown (g : Nat) (w w' : World) : Prop := Below g w w' ∧ ∀ j, j ≠ g → j < w.heap.size → w'.heap[j]? = w.heap[j]?
theorem OnlyGrown.refl (g : Nat) (w : World) : OnlyGrown g w w := ⟨Below.refl _ _, fun _ _ _ => rfl⟩
theorem OnlyGrown.step {g : Nat} {w wr w1 : World} (h : OnlyGrown g w wr) (hg : g < wr.heap.size) (hb : Below wr.heap.size wr w1) (k : Nat) (v : Value) : OnlyGrown g w (w1.setCell ⟨g, k, none⟩ v) :=
  ⟨(h.1.trans (hb.mono (by omega))).setCell (Nat.le_refl _) v, fun j hj hl => by
    rw [Below.heap_setCell _ _ _ _ (by exact hj), hb.block j (Nat.lt_of_lt_of_le hl h.1.size)]
    exact h.2 j hj hl⟩
theorem OwnS.only {w w' : World} {B g g' n cap : Nat} {l : List ByteArray} (h : OwnS w B g n cap l) (hb : OnlyGrown g' w w') (hg : g ≠ g') : OwnS w' B g n cap l := h.block (hb.2 g hg h.lt.2)

theorem conv_one (w : World) (z : Int) : (convert 84 9 (.slice (some ⟨w.heap.size, 0, none⟩) 1 1)).run Tryd.prog (w.alloc (.cells #[.int .u8 z] 5)) = .ok (.string (strOfNums [z])) (w.alloc (.cells #[.int .u8 z] 5)) :=
  run_convert_bytes_arg (w.alloc (.cells #[.int .u8 z] 5)) 84 5 Tryd.underlying84 Tryd.underlying5 w.heap.size 0 1 1 [z] rfl
    (fun i hi => by
      obtain rfl : i = 0 := by omega
      rw [World.cell?_alloc_at _ _ _ _ rfl]
      rfl) 9 Tryd.underlying9
theorem str_two (a b : Int) : (strOfNums [a] ++ strOfNums [b] : ByteArray) = strOfNums [a, b] := by
  apply ByteArray.ext
  simp [strOfNums, ByteArray.data_append]
end Go.Proofs.YtkpocljlmbihcaaDoor

namespace Go.Proofs.YtkpocljlmbihcaaDoor
open Go.RowKit

def mkS (k : Int) : ByteArray := strOfNums [109, 48 + k]
def marksS (n : Nat) : List ByteArray := (List.range n).map fun i : Nat => mkS ((i : Int) + 1)
def markToS (l : List ByteArray) (k : Nat) : List ByteArray := marksS k ++ l.drop k
theorem marksS_length (n : Nat) : (marksS n).length = n := by simp [marksS]
theorem marksS_succ (n : Nat) : marksS (n + 1) = marksS n ++ [mkS ((n : Int) + 1)] := by simp [marksS, List.range_succ]
theorem markToS_zero (l : List ByteArray) : markToS l 0 = l := by simp [markToS, marksS]
theorem markToS_all (l : List ByteArray) : markToS l l.length = marksS l.length := by simp [markToS]
theorem markToS_set (l : List ByteArray) (k : Nat) (h : k < l.length) : (markToS l k).set k (mkS ((k : Int) + 1)) = markToS l (k + 1) := by
  unfold markToS
  rw [List.set_append_right _ _ (by rw [marksS_length]; exact Nat.le_refl _), marksS_length, Nat.sub_self, List.drop_eq_getElem_cons h, List.set_cons_zero, marksS_succ, List.append_assoc]
  rfl
theorem marksS_get (n k : Nat) (h : k < n) : (marksS n).getD k ⟨#[]⟩ = mkS ((k : Int) + 1) := by
  simp [marksS, List.getD_eq_getElem?_getD, h]
def MarkRelS (w : World) (g n cap : Nat) (l : List ByteArray) (m i : Value) (wr : World) : Prop :=
  ∃ k : Nat, k ≤ n ∧ i = .int .i64 k ∧ m = .int .i64 (k + 1) ∧ OwnS wr g g n cap (markToS l k) ∧ OnlyGrown g w wr
end Go.Proofs.YtkpocljlmbihcaaDoor
