/- Lists of tokens compared by the laws. Lists of tokens marked and asked by the laws. Lists of tokens that are values of slots: comparing, marking, asking, whatever their length. -/
import Derived.Test.YtdmcgjohpnojkaaDoorTkd
import Derived.Deep.RegionWith
namespace Go.Proofs.YtdmcgjohpnojkaaDoor
set_option maxRecDepth 100000
open Go.RowKit

def tok0 : Tok := ⟨0, 0, ⟨#[]⟩, 0⟩
/-- the cells of a list of tokens lie from the start of a block on -/
def ToksAt (w : World) (g : Nat) (l : List Tok) : Prop := ∀ i j, j < 4 → i < l.length → w.cell? ⟨g, i * 4 + j, none⟩ = (tkC (l.getD i tok0))[j]?
theorem ToksAt.below {w w' : World} {g B : Nat} {l : List Tok} (h : ToksAt w g l) (hb : Below B w w') (hg : g < B) : ToksAt w' g l := fun i j hj hi => (hb.cell (p := ⟨g, i * 4 + j, none⟩) hg).trans (h i j hj hi)
theorem OwnK.toks {w : World} {B g n cap : Nat} {l : List Tok} (h : OwnK w B (.slice (some ⟨g, 0, none⟩) n cap) n l) : ToksAt w g l := by
  intro i j hj hi
  have hl := h.len
  rw [World.ownsRow.cellAt h (i * 4 + j) (by omega), tkCs_get l i j hj hi]
  rfl
theorem ToksAt.four {w : World} {g : Nat} {l : List Tok} (h : ToksAt w g l) (i : Nat) (hi : i < l.length) (x : Tok) (hx : l.getD i tok0 = x) :
    w.cell? ⟨g, i * 4, none⟩ = some (.int .i64 x.k) ∧ w.cell? ⟨g, i * 4 + 1, none⟩ = some (.int .i64 x.a) ∧ w.cell? ⟨g, i * 4 + 2, none⟩ = some (.string x.t) ∧ w.cell? ⟨g, i * 4 + 3, none⟩ = some (.int .i64 x.v) := by
  subst hx
  exact ⟨(h i 0 (by decide) hi), (h i 1 (by decide) hi), (h i 2 (by decide) hi), (h i 3 (by decide) hi)⟩
def EqTRel (w : World) (n : Nat) (i : Value) (wr : World) : Prop := ∃ k : Nat, k ≤ n ∧ i = .int .i64 k ∧ Below w.heap.size w wr

/-! Marks. -/
/-- the digits of a number in front of a text -/
def mtF : Nat → Nat → ByteArray → ByteArray
  | 0, _, o => o
  | f + 1, k, o => if k = 0 then o else mtF f (k / 10) (strOfNums [48 + ((k % 10 : Nat) : Int)] ++ o)
/-- the text that marks with a number -/
def mtS (k : Nat) : ByteArray := (⟨#[109]⟩ : ByteArray) ++ mtF k k ⟨#[]⟩
def MtRel (w : World) (R : ByteArray) (i o : Value) (wr : World) : Prop := ∃ (f : Nat) (k : Int) (t : ByteArray), 0 ≤ k ∧ k.toNat ≤ f ∧ i = .int .i64 k ∧ o = .string t ∧ t.size + k ≤ 1000000 ∧ Hid (mtF f k.toNat t = R) ∧ Below w.heap.size w wr
theorem conv_any (w : World) (z : Int) : (convert 22 9 (.slice (some ⟨w.heap.size, 0, none⟩) 1 1)).run Tryd.prog (w.alloc (.cells #[.int .u8 z] 5)) = .ok (.string (strOfNums [z])) (w.alloc (.cells #[.int .u8 z] 5)) :=
  run_convert_bytes_arg (w.alloc (.cells #[.int .u8 z] 5)) 22 5 Tryd.underlying22 Tryd.underlying5 w.heap.size 0 1 1 [z] rfl
    (fun i hi => by
      obtain rfl : i = 0 := by omega
      rw [World.cell?_alloc_at _ _ _ _ rfl]
      rfl) 9 Tryd.underlying9
theorem str_one (z : Int) : (strOfNums [z]).size = 1 := by rw [strOfNums_size]; rfl
end Go.Proofs.YtdmcgjohpnojkaaDoor

namespace Go.Proofs.YtdmcgjohpnojkaaDoor
open Go.RowKit
set_option linter.unusedVariables false

def mk4 (i : Nat) : Tok := ⟨4 * (i : Int) + 1, 4 * (i : Int) + 1 + 1, mtS (4 * (i : Int) + 1 + 1 + 1).toNat, 4 * (i : Int) + 1 + 1 + 1 + 1⟩
def marksT (n : Nat) : List Tok := (List.range n).map mk4
def markToT (l : List Tok) (k : Nat) : List Tok := marksT k ++ l.drop k
theorem marksT_length (n : Nat) : (marksT n).length = n := by simp [marksT]
theorem marksT_succ (n : Nat) : marksT (n + 1) = marksT n ++ [mk4 n] := by simp [marksT, List.range_succ]
theorem markToT_zero (l : List Tok) : markToT l 0 = l := by simp [markToT, marksT]
theorem markToT_all (l : List Tok) : markToT l l.length = marksT l.length := by simp [markToT]
theorem markToT_set (l : List Tok) (k : Nat) (h : k < l.length) : (markToT l k).set k (mk4 k) = markToT l (k + 1) := by
  unfold markToT
  rw [List.set_append_right _ _ (by rw [marksT_length]; exact Nat.le_refl _), marksT_length, Nat.sub_self, List.drop_eq_getElem_cons h, List.set_cons_zero, marksT_succ, List.append_assoc]
  rfl
theorem marksT_get (n k : Nat) (h : k < n) : (marksT n).getD k tok0 = mk4 k := by simp [marksT, List.getD_eq_getElem?_getD, h]
theorem tkCs_set : ∀ (l : List Tok) (k : Nat) (x : Tok), k < l.length →
    ((((tkCs l).set (k * 4) (.int .i64 x.k)).set (k * 4 + 1) (.int .i64 x.a)).set (k * 4 + 2) (.string x.t)).set (k * 4 + 3) (.int .i64 x.v) = tkCs (l.set k x)
  | [], k, x, h => absurd h (by simp)
  | y :: r, 0, x, _ => by simp [tkCs, tkC]
  | y :: r, k + 1, x, h => by
    have hc : ∀ z : Tok, ∀ q : List Tok, tkCs (z :: q) = .int .i64 z.k :: .int .i64 z.a :: .string z.t :: .int .i64 z.v :: tkCs q := fun z q => by simp [tkCs, tkC]
    have ih := tkCs_set r k x (by simpa using h)
    rw [List.set_cons_succ, hc, hc, ← ih]
    have e0 : (k + 1) * 4 = k * 4 + 4 := by omega
    have e1 : (k + 1) * 4 + 1 = k * 4 + 1 + 4 := by omega
    have e2 : (k + 1) * 4 + 2 = k * 4 + 2 + 4 := by omega
    have e3 : (k + 1) * 4 + 3 = k * 4 + 3 + 4 := by omega
    rw [e1, e2, e3, e0]
    rfl
theorem raw_below {w w' : World} {B g n cap : Nat} {xs : List Value} (h : w.ownsRow g 32 4 (.slice (some ⟨g, 0, none⟩) n cap) n xs) (hb : Below B w w') (hg : g < B) : w'.ownsRow g 32 4 (.slice (some ⟨g, 0, none⟩) n cap) n xs := by
  obtain ⟨h1, h2⟩ := h
  refine ⟨h1, ?_⟩
  rcases h2 with h2 | ⟨g', cap', cur, a, b, c, d⟩
  · exact .inl h2
  · cases a
    exact .inr ⟨g, cap, cur, rfl, b, by rw [hb.block g hg]; exact c, d⟩
/-- behind two marks and a call -/
theorem mark_mid {wr w1 : World} {g n cap k : Nat} {L : List Tok} {a b : Value} (h : OwnK wr g (.slice (some ⟨g, 0, none⟩) n cap) n L) (hk : k < n) (x : Tok) (hx : L.getD k tok0 = x)
    (b1 : Below ((wr.setCell ⟨g, k * 4, none⟩ a).setCell ⟨g, k * 4 + 1, none⟩ b).heap.size ((wr.setCell ⟨g, k * 4, none⟩ a).setCell ⟨g, k * 4 + 1, none⟩ b) w1) :
    w1.cell? ⟨g, k * 4 + 2, none⟩ = some (.string x.t) ∧ w1.cell? ⟨g, k * 4 + 3, none⟩ = some (.int .i64 x.v) ∧ w1.frozen? ⟨g, k * 4 + 2, none⟩ = false ∧ w1.frozen? ⟨g, k * 4 + 3, none⟩ = false ∧
    w1.ownsRow g 32 4 (.slice (some ⟨g, 0, none⟩) n cap) n (((tkCs L).set (k * 4) a).set (k * 4 + 1) b) := by
  have hg := (World.ownsRow.lt h g rfl).2
  have hl := h.len
  have h2 := (World.ownsRow.stored (World.ownsRow.stored h (k * 4) a).1 (k * 4 + 1) b).1
  have h3 := raw_below h2 b1 (by simpa using hg)
  have g2 := tkCs_get L k 2 (by decide) (by omega)
  have g3 := tkCs_get L k 3 (by decide) (by omega)
  subst hx
  refine ⟨?_, ?_, World.ownsRow.frozenAt h3 _, World.ownsRow.frozenAt h3 _, h3⟩
  · rw [World.ownsRow.cellAt h3 _ (by omega), List.getElem?_set_ne (by omega), List.getElem?_set_ne (by omega), g2]; rfl
  · rw [World.ownsRow.cellAt h3 _ (by omega), List.getElem?_set_ne (by omega), List.getElem?_set_ne (by omega), g3]; rfl
theorem OnlyGrown.set {g : Nat} {w wr : World} (h : OnlyGrown g w wr) (hg : g < wr.heap.size) (k : Nat) (v : Value) : OnlyGrown g w (wr.setCell ⟨g, k, none⟩ v) := h.step hg (Below.refl _ _) k v
/-- a mark is made -/
theorem mark_done {w wr w1 : World} {g n cap k : Nat} {l : List Tok} {m : Int} (h : OwnK wr g (.slice (some ⟨g, 0, none⟩) n cap) n (markToT l k)) (hl : k < l.length) (hm : m = 4 * (k : Int) + 1)
    (h1 : w1.ownsRow g 32 4 (.slice (some ⟨g, 0, none⟩) n cap) n (((tkCs (markToT l k)).set (k * 4) (.int .i64 m)).set (k * 4 + 1) (.int .i64 (m + 1)))) (hO : OnlyGrown g w wr)
    (b1 : Below ((wr.setCell ⟨g, k * 4, none⟩ (.int .i64 m)).setCell ⟨g, k * 4 + 1, none⟩ (.int .i64 (m + 1))).heap.size ((wr.setCell ⟨g, k * 4, none⟩ (.int .i64 m)).setCell ⟨g, k * 4 + 1, none⟩ (.int .i64 (m + 1))) w1) :
    OwnK ((w1.setCell ⟨g, k * 4 + 2, none⟩ (.string (mtS (m + 1 + 1).toNat))).setCell ⟨g, k * 4 + 3, none⟩ (.int .i64 (m + 1 + 1 + 1))) g (.slice (some ⟨g, 0, none⟩) n cap) n (markToT l (k + 1)) ∧
    OnlyGrown g w ((w1.setCell ⟨g, k * 4 + 2, none⟩ (.string (mtS (m + 1 + 1).toNat))).setCell ⟨g, k * 4 + 3, none⟩ (.int .i64 (m + 1 + 1 + 1))) := by
  have hg := (World.ownsRow.lt h g rfl).2
  have hlen : k < (markToT l k).length := by simp [markToT, marksT_length]; omega
  refine ⟨?_, ?_⟩
  · have h3 := (World.ownsRow.stored (World.ownsRow.stored h1 (k * 4 + 2) (.string (mtS (m + 1 + 1).toNat))).1 (k * 4 + 3) (.int .i64 (m + 1 + 1 + 1))).1
    have e := tkCs_set (markToT l k) k (mk4 k) hlen
    rw [markToT_set l k hl] at e
    subst hm
    unfold OwnK
    rw [← e]
    exact h3
  · have q := ((hO.set hg (k * 4) (.int .i64 m)).set (by simpa using hg) (k * 4 + 1) (.int .i64 (m + 1)))
    have q2 := q.step (by simpa using hg) b1 (k * 4 + 2) (.string (mtS (m + 1 + 1).toNat))
    exact q2.set (by have := b1.size; simp at this ⊢; omega) _ _
def MarkRelT (w : World) (g n cap : Nat) (l : List Tok) (m i : Value) (wr : World) : Prop :=
  ∃ (k : Nat) (q : Int), k ≤ n ∧ i = .int .i64 k ∧ m = .int .i64 q ∧ Hid (q = 4 * (k : Int) + 1) ∧ 1 ≤ q ∧ q ≤ 2401 ∧ OwnK wr g (.slice (some ⟨g, 0, none⟩) n cap) n (markToT l k) ∧ OnlyGrown g w wr
end Go.Proofs.YtdmcgjohpnojkaaDoor

namespace Go.Proofs.YtdmcgjohpnojkaaDoor
open Go.RowKit
set_option linter.unusedVariables false

/-- a slice holds a list of tokens -/
def SlT (w : World) (v : Value) (l : List Tok) : Prop :=
  (l = [] ∧ ∃ ad c, v = .slice ad 0 c) ∨ (∃ g c, v = .slice (some ⟨g, 0, none⟩) l.length c ∧ ToksAt w g l ∧ g < w.heap.size)
theorem SlT.below {w w' : World} {v : Value} {l : List Tok} (h : SlT w v l) (hb : Below w.heap.size w w') : SlT w' v l := by
  rcases h with h | ⟨g, c, hv, ht, hg⟩
  · exact .inl h
  · exact .inr ⟨g, c, hv, ht.below hb hg, Nat.lt_of_lt_of_le hg hb.size⟩
/-- the same where only what lies behind a place was written -/
theorem SlT.deep {wo w w' : World} {v : Value} {l : List Tok} {B : Nat} (ho : SlT wo v l) (hB : wo.heap.size ≤ B) (h1 : Below wo.heap.size wo w) (hb : Below B w w') : SlT w' v l :=
  ho.below (h1.trans (hb.mono hB))
theorem OwnK.slt {w : World} {B n : Nat} {v : Value} {l : List Tok} (h : OwnK w B v n l) : SlT w v l := by
  have hl := h.len
  rcases Nat.eq_zero_or_pos n with hn | hn
  · refine .inl ⟨List.eq_nil_of_length_eq_zero (by omega), ?_⟩
    rcases h.2 with ⟨hv, _⟩ | ⟨g, cap, cur, hv, _⟩
    · exact ⟨none, 0, hv⟩
    · subst hn; exact ⟨_, _, hv⟩
  · obtain ⟨g, cap, hv⟩ := h.form hn
    subst hv
    exact .inr ⟨g, cap, by rw [hl], h.toks, (World.ownsRow.lt h g rfl).2⟩
/-- two cells of the call's own -/
def Two (w : World) (g : Nat) (a b : Value) : Prop := w.cell? ⟨g, 0, none⟩ = some a ∧ w.cell? ⟨g, 1, none⟩ = some b
theorem Two.below {w w' : World} {g B : Nat} {a b : Value} (h : Two w g a b) (hb : Below B w w') (hg : g < B) : Two w' g a b :=
  ⟨(hb.cell (p := ⟨g, 0, none⟩) hg).trans h.1, (hb.cell (p := ⟨g, 1, none⟩) hg).trans h.2⟩
theorem two_cells {w wr : World} {a b : Value} {T : TypeId} (h : w.alloc (.cells #[a, b] T) = wr) : Two wr w.heap.size a b ∧ Below w.heap.size w wr ∧ w.heap.size < wr.heap.size := by
  subst h
  exact ⟨⟨by simp [go_sem], by simp [go_sem]⟩, one_new2 _ _, by simp⟩
theorem tkGo_len (s : ByteArray) : ∀ (m i : Nat) (acc : List Tok), acc.length ≤ 600 → (tkGo s m i acc).l.length ≤ 600
  | 0, _, _, _ => by simp [tkGo]
  | m + 1, i, acc, h => by
    rw [tkGo]
    split
    · simp
    · split
      · exact h
      · split
        · simp
        · exact tkGo_len s m _ _ (by simp; omega)
theorem tkT_len (s : ByteArray) : (tkT s).l.length ≤ 600 := by
  unfold tkT
  split
  · exact tkGo_len s 601 0 [] (by simp)
  · simp
end Go.Proofs.YtdmcgjohpnojkaaDoor
