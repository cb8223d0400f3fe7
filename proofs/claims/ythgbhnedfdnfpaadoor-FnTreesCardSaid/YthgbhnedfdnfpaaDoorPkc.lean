import Derived.Test.YthgbhnedfdnfpaaDoorPka
import Derived.LoopTactic
import Derived.WalkSmall
import Derived.Deep.QuietTactic
import Derived.BigQuiet
import Derived.Laws.Bits64b
/- Slices of bytes: what reads as a list of bytes, what the call made itself, and the contracts of the copying, comparing, marking and asking functions of the laws. -/
namespace Go.Proofs.YthgbhnedfdnfpaaDoor
set_option maxRecDepth 100000
open Go.RowKit

theorem infoU8 : (Tryd.prog.info? 5).map (fun i => (i.zero, i.size, i.bytes)) = some (some (.int .u8 0), 1, 1) := by kernel_rfl

/-- the cells of a list of bytes -/
def bv (zs : List Int) : List Value := zs.map (Value.int .u8)
theorem bv_length (zs : List Int) : (bv zs).length = zs.length := by simp [bv]
theorem bv_get (zs : List Int) (i : Nat) (h : i < zs.length) : (bv zs)[i]? = some (.int .u8 (zs.getD i 0)) := by
  simp [bv, h]

/-- in world w, the bytes zs lie from cell off of block b on -/
def Row (w : World) (b off : Nat) (zs : List Int) : Prop :=
  (∀ i, i < zs.length → w.cell? ⟨b, off + i, none⟩ = some (.int .u8 (zs.getD i 0))) ∧ ∀ n ∈ zs, 0 ≤ n ∧ n ≤ 255

/-- a slice of n bytes of the call's own: block g, the bytes zs -/
def OwnB (w : World) (B g n cap : Nat) (zs : List Int) : Prop :=
  w.ownsRow B 5 1 (.slice (some ⟨g, 0, none⟩) n cap) n (bv zs)

theorem OwnB.len {w : World} {B g n cap : Nat} {zs : List Int} (h : OwnB w B g n cap zs) : zs.length = n := by
  have := h.1; rw [bv_length] at this; omega
theorem OwnB.lt {w : World} {B g n cap : Nat} {zs : List Int} (h : OwnB w B g n cap zs) : B ≤ g ∧ g < w.heap.size := World.ownsRow.lt h g rfl
theorem OwnB.row {w : World} {B g n cap : Nat} {zs : List Int} (h : OwnB w B g n cap zs) (hr : ∀ n ∈ zs, 0 ≤ n ∧ n ≤ 255) : Row w g 0 zs := by
  refine ⟨fun i hi => ?_, hr⟩
  have hl := h.len
  have := World.ownsRow.cellAt h i (by omega)
  rw [Nat.zero_add, this, bv_get _ _ hi]
theorem OwnB.below {w w' : World} {B B' g n cap : Nat} {zs : List Int} (h : OwnB w B g n cap zs) (hb : Below B' w w') (hg : g < B') : OwnB w' B g n cap zs := by
  obtain ⟨h1, h2⟩ := h
  refine ⟨h1, ?_⟩
  rcases h2 with h2 | ⟨g', cap', cur, a, b, c, d⟩
  · exact .inl h2
  · cases a
    exact .inr ⟨g, cap, cur, rfl, b, by rw [hb.block g hg]; exact c, d⟩
theorem OwnB.base {w : World} {B B' g n cap : Nat} {zs : List Int} (h : OwnB w B g n cap zs) (hB : B' ≤ B) : OwnB w B' g n cap zs := by
  obtain ⟨h1, h2⟩ := h
  refine ⟨h1, ?_⟩
  rcases h2 with h2 | ⟨g', cap', cur, a, b, c, d⟩
  · exact .inl h2
  · exact .inr ⟨g', cap', cur, a, Nat.le_trans hB b, c, d⟩
theorem Row.below {w w' : World} {b off B : Nat} {zs : List Int} (h : Row w b off zs) (hb : Below B w w') (hB : b < B) : Row w' b off zs :=
  ⟨fun i hi => (hb.cell (p := ⟨b, off + i, none⟩) hB).trans (h.1 i hi), h.2⟩
theorem Row.drewN {w : World} {b off : Nat} {zs : List Int} (h : Row w b off zs) (q : Nat) : Row (w.drewN q) b off zs := h
theorem Row.at {w : World} {b off : Nat} {zs : List Int} (h : Row w b off zs) (k : Nat) (hk : k < zs.length) :
    ∃ c, Hid (c = zs.getD k 0) ∧ 0 ≤ c ∧ c ≤ 255 ∧ w.cell? ⟨b, off + k, none⟩ = some (.int .u8 c) := by
  refine ⟨zs.getD k 0, rfl, ?_, ?_, h.1 k hk⟩
  · exact (h.2 _ (by rw [List.getD_eq_getElem?_getD, List.getElem?_eq_getElem hk]; exact List.getElem_mem hk)).1
  · exact (h.2 _ (by rw [List.getD_eq_getElem?_getD, List.getElem?_eq_getElem hk]; exact List.getElem_mem hk)).2

/-- what a slice that came in reads as: nothing, or a row of bytes -/
def In (w : World) (a : Option Addr) (zs : List Int) : Prop :=
  zs = [] ∨ ∃ b off, a = some ⟨b, off, none⟩ ∧ Row w b off zs

/-- a copy was made: a new block that holds the bytes -/
def Made (w : World) (n : Nat) (zs : List Int) (e : Ending) (w' : World) : Prop :=
  e = .returned (.slice (some ⟨w.heap.size, 0, none⟩) n n) ∧ OwnB w' w.heap.size w.heap.size n n zs ∧ Below w.heap.size w w'

def fillTo (zs : List Int) (k : Nat) : List Int := zs.take k ++ List.replicate (zs.length - k) 0
theorem fillTo_zero (zs : List Int) : fillTo zs 0 = List.replicate zs.length 0 := by simp [fillTo]
theorem fillTo_all (zs : List Int) : fillTo zs zs.length = zs := by simp [fillTo]
theorem fillTo_set (zs : List Int) (k : Nat) (h : k < zs.length) : (fillTo zs k).set k (zs.getD k 0) = fillTo zs (k + 1) := by
  obtain ⟨m, hm⟩ : ∃ m, zs.length - k = m + 1 := ⟨zs.length - k - 1, by omega⟩
  have e1 : (zs.take k).length = k := by simp; omega
  unfold fillTo
  rw [hm, List.set_append_right _ _ (by omega), e1, Nat.sub_self, List.replicate_succ, List.set_cons_zero, show zs.length - (k + 1) = m by omega, List.take_succ_eq_append_getElem h, List.append_assoc, List.getD_eq_getElem?_getD, List.getElem?_eq_getElem h]
  rfl
theorem bv_set (zs : List Int) (k : Nat) (c : Int) : (bv zs).set k (.int .u8 c) = bv (zs.set k c) := by simp [bv, List.map_set]
theorem fillTo_length (zs : List Int) (k : Nat) (h : k ≤ zs.length) : (fillTo zs k).length = zs.length := by simp [fillTo]; omega
theorem OwnB.store {w : World} {B g n cap : Nat} {zs : List Int} (h : OwnB w B g n cap zs) (k : Nat) (c : Int) : OwnB (w.setCell ⟨g, k, none⟩ (.int .u8 c)) B g n cap (zs.set k c) := by
  have := (World.ownsRow.stored h k (.int .u8 c)).1
  rw [bv_set] at this
  exact this
theorem OwnB.cell {w : World} {B g n cap : Nat} {zs : List Int} (h : OwnB w B g n cap zs) (k : Nat) (hk : k < n) : w.cell? ⟨g, k, none⟩ = some (.int .u8 (zs.getD k 0)) := by
  have hl := h.len
  rw [World.ownsRow.cellAt h k (by omega), bv_get _ _ (by omega)]

theorem madeB {w : World} {B g n : Nat} (h : w.ownsRow B 5 1 (.slice (some ⟨g, 0, none⟩) n n) n (madeCells (Value.int .u8 0).cells (n * 1)).toList) : OwnB w B g n n (List.replicate n 0) := by
  have e : (madeCells (Value.int .u8 0).cells (n * 1)).toList = bv (List.replicate n 0) := by
    rw [Nat.mul_one, bv, List.map_replicate]
    exact toList_madeCells_one _ n
  rw [e] at h
  exact h

/-- at each round's head of the copying loop -/
def CopyRel (w : World) (n : Nat) (zs : List Int) (i : Value) (wr : World) : Prop :=
  ∃ k : Nat, k ≤ n ∧ i = .int .i64 k ∧ OwnB wr w.heap.size w.heap.size n n (fillTo zs k) ∧ Below w.heap.size w wr

/-- the world with some draws more -/
def Drawn (w w' : World) : Prop := ∃ q, w' = w.drewN q
theorem Drawn.below {w w' : World} (h : Drawn w w') (B : Nat) : Below B w w' := by obtain ⟨q, rfl⟩ := h; exact below_drewN (Below.refl _ _) q
def EqRel (w : World) (n : Nat) (i : Value) (wr : World) : Prop := ∃ k q : Nat, k ≤ n ∧ i = .int .i64 k ∧ wr = w.drewN q
def SaysDrawn (w : World) (b : Bool) (e : Ending) (w' : World) : Prop := e = .returned (.bool b) ∧ Drawn w w'

theorem laidOut : laidOutB Tryd.prog = true := by kernel_rfl
theorem own : ownKnob Tryd.prog.godebug = none := by kernel_rfl

/-- WHAT THE WALK IS TOLD OF A SLICE OF INTEGERS THAT CAME IN: it is nil; or it leads to a row of 'cap' cells, the numbers 'zs' (the first 'len' are its elements, the rest its spare room), each fitting its kind. -/
def IsRow (k : IntKind) (w : World) (a : Option Addr) (len cap : Nat) (zs : List Int) : Prop :=
  (a = none ∧ len = 0 ∧ cap = 0 ∧ zs = []) ∨
  ∃ x, a = some x ∧ len ≤ cap ∧ cap ≤ maxLen ∧ zs.length = cap ∧ (∀ i, i < zs.length → w.cell? (x.add i) = some (.int k (zs.getD i 0))) ∧ ∀ n ∈ zs, (Lit.int k n).wf = true
theorem wf_u8 {n : Int} (h : (Lit.int .u8 n).wf = true) : 0 ≤ n ∧ n ≤ 255 := by
  have h' : (decide (IntKind.u8.min ≤ n) && decide (n ≤ IntKind.u8.max)) = true := h
  have e1 : IntKind.u8.min = 0 := by decide
  have e2 : IntKind.u8.max = 255 := by decide
  rw [e1, e2] at h'
  simp at h'
  exact h'
theorem IsRow.view {w : World} {a : Option Addr} {len cap : Nat} {zs : List Int} (h : IsRow .u8 w a len cap zs) : len ≤ maxLen ∧ ∃ ys, Hid (ys.length = len) ∧ Hid (In w a ys) := by
  rcases h with ⟨rfl, rfl, rfl, rfl⟩ | ⟨x, rfl, hl, hm, hz, hcell, hwf⟩
  · exact ⟨Nat.zero_le _, [], rfl, .inl rfl⟩
  · refine ⟨Nat.le_trans hl hm, zs.take len, by unfold Hid; simp; omega, ?_⟩
    rcases Nat.eq_zero_or_pos len with rfl | hp
    · exact .inl (by simp)
    · obtain ⟨b, off, spot⟩ := x
      have hspot : spot = none := by simpa [Addr.add] using World.cell?_spot (hcell 0 (by omega))
      subst hspot
      refine .inr ⟨b, off, rfl, fun i hi => ?_, fun n hn => wf_u8 (hwf n (List.mem_of_mem_take hn))⟩
      simp at hi
      have := hcell i (by omega)
      rw [show (⟨b, off, none⟩ : Addr).add i = ⟨b, off + i, none⟩ by unfold Addr.add; split <;> simp_all] at this
      rw [this]
      simp [List.getD_eq_getElem?_getD]
      rw [List.getElem?_take, if_pos (by omega)]
theorem In.below {w w' : World} {a : Option Addr} {zs : List Int} (h : In w a zs) (hb : Below w.heap.size w w') : In w' a zs := by
  by_cases e : zs = []
  · exact .inl e
  · rcases h with h | ⟨b, off, rfl, hr⟩
    · exact absurd h e
    · have hp : 0 < zs.length := List.length_pos_iff.2 e
      exact .inr ⟨b, off, rfl, hr.below hb (World.block_lt_of_cell? w _ (hr.1 0 hp))⟩
theorem In.range {w : World} {a : Option Addr} {zs : List Int} (h : In w a zs) : ∀ n ∈ zs, 0 ≤ n ∧ n ≤ 255 := by
  rcases h with rfl | ⟨b, off, rfl, hr⟩
  · intro n hn; cases hn
  · exact hr.2
end Go.Proofs.YthgbhnedfdnfpaaDoor

/- Marking and asking a slice of the call's own: contracts of markByteS, heldByteS, and eqByteS of two empty slices. -/
namespace Go.Proofs.YthgbhnedfdnfpaaDoor
set_option maxRecDepth 100000
open Go.RowKit

/-- the marks 1, 2, .. as bytes, ahead of the old bytes -/
def marks (n : Nat) : List Int := (List.range n).map (fun i : Nat => ((i : Int) + 1) % 256)
def markTo (zs : List Int) (k : Nat) : List Int := marks k ++ zs.drop k
theorem marks_length (n : Nat) : (marks n).length = n := by simp [marks]
theorem marks_succ (n : Nat) : marks (n + 1) = marks n ++ [((n : Int) + 1) % 256] := by simp [marks, List.range_succ]
theorem markTo_zero (zs : List Int) : markTo zs 0 = zs := by simp [markTo, marks]
theorem markTo_all (zs : List Int) : markTo zs zs.length = marks zs.length := by simp [markTo]
theorem markTo_set (zs : List Int) (k : Nat) (h : k < zs.length) : (markTo zs k).set k (((k : Int) + 1) % 256) = markTo zs (k + 1) := by
  unfold markTo
  rw [List.set_append_right _ _ (by rw [marks_length]; exact Nat.le_refl _), marks_length, Nat.sub_self, List.drop_eq_getElem_cons h, List.set_cons_zero, marks_succ, List.append_assoc]
  rfl
theorem markTo_length (zs : List Int) (k : Nat) (h : k ≤ zs.length) : (markTo zs k).length = zs.length := by simp [markTo, marks_length]; omega
theorem marks_get (n k : Nat) (h : k < n) : (marks n).getD k 0 = ((k : Int) + 1) % 256 := by
  simp [marks, List.getD_eq_getElem?_getD, h]

/-- only block g was written -/
def OnlyBlock (g : Nat) (w w' : World) : Prop := Below g w w' ∧ w'.heap.size = w.heap.size ∧ ∀ k, k ≠ g → w'.heap[k]? = w.heap[k]?
theorem OnlyBlock.refl (g : Nat) (w : World) : OnlyBlock g w w := ⟨Below.refl _ _, rfl, fun _ _ => rfl⟩
theorem OnlyBlock.store {g : Nat} {w w' : World} (h : OnlyBlock g w w') (k : Nat) (v : Value) : OnlyBlock g w (w'.setCell ⟨g, k, none⟩ v) :=
  ⟨h.1.setCell (Nat.le_refl _) v, by rw [← h.2.1]; simp, fun j hj => by rw [Below.heap_setCell _ _ _ _ (by exact hj)]; exact h.2.2 j hj⟩
theorem OwnB.other {w w' : World} {B g g' n cap : Nat} {zs : List Int} (h : OwnB w B g n cap zs) (hb : OnlyBlock g' w w') (hg : g ≠ g') : OwnB w' B g n cap zs := by
  obtain ⟨h1, h2⟩ := h
  refine ⟨h1, ?_⟩
  rcases h2 with h2 | ⟨g1, cap', cur, a, b, c, d⟩
  · exact .inl h2
  · cases a
    exact .inr ⟨g, cap, cur, rfl, b, by rw [hb.2.2 g hg]; exact c, d⟩

theorem OwnB.self {w : World} {B g n cap : Nat} {zs : List Int} (h : OwnB w B g n cap zs) : OwnB w g g n cap zs := by
  obtain ⟨h1, h2⟩ := h
  refine ⟨h1, ?_⟩
  rcases h2 with ⟨a, _⟩ | ⟨g1, cap', cur, a, b, c, d⟩
  · cases a
  · cases a
    exact .inr ⟨g, cap, cur, rfl, Nat.le_refl _, c, d⟩
def MarkRel (w : World) (g n cap : Nat) (zs : List Int) (m i : Value) (wr : World) : Prop :=
  ∃ k : Nat, k ≤ n ∧ i = .int .i64 k ∧ m = .int .i64 (k + 1) ∧ OwnB wr g g n cap (markTo zs k) ∧ OnlyBlock g w wr
/-- what marking leaves -/
def Marked (w : World) (g n cap : Nat) (e : Ending) (w' : World) : Prop :=
  e = .returned (.int .i64 (n + 1)) ∧ OwnB w' g g n cap (marks n) ∧ OnlyBlock g w w'

def OwnV (w : World) (B : Nat) (v : Value) (n : Nat) (zs : List Int) : Prop := w.ownsRow B 5 1 v n (bv zs)
theorem OwnV.snoc {w wr w1 : World} {B n : Nat} {v v' : Value} {zs : List Int} {c : Int} {o : Obj} (h : OwnV wr B v n zs) (hB : B ≤ wr.heap.size) (hb : Below B w wr)
    (h' : w1.ownsRow B 5 1 v' (n + 1) (bv zs ++ [.int .u8 c])) (hg : (wr.alloc o).grownBy w1 v.ownBlock) : OwnV w1 B v' (n + 1) (zs ++ [c]) ∧ Below B w w1 :=
  ⟨by unfold OwnV; simpa [bv] using h', (hb.alloc hB o).grown hg (by simp; omega) (fun j hj => (World.ownsRow.lt h j hj).1)⟩
theorem OwnV.some {w : World} {B n : Nat} {v : Value} {zs : List Int} (h : OwnV w B v n zs) (hn : 0 < n) : ∃ g cap, v = .slice (some ⟨g, 0, none⟩) n cap ∧ OwnB w B g n cap zs := by
  rcases h.2 with ⟨_, h0⟩ | ⟨g, cap, cur, hv, _⟩
  · omega
  · subst hv
    exact ⟨g, cap, rfl, h⟩

/-- bytes were made: a slice of the call's own -/
def Gives (w : World) (n : Nat) (zs : List Int) (e : Ending) (w' : World) : Prop :=
  ∃ g cap, e = .returned (.tuple #[.slice (some ⟨g, 0, none⟩) n cap, .bool true]) ∧ OwnB w' w.heap.size g n cap zs ∧ Below w.heap.size w w'
/-- nothing was made -/
def GivesNone (w : World) (e : Ending) (w' : World) : Prop := e = .returned (.tuple #[.slice none 0 0, .bool false]) ∧ w = w'
def GivesRow (w : World) (n : Nat) (zs : List Int) (e : Ending) (w' : World) : Prop :=
  ∃ g cap, e = .returned (.slice (some ⟨g, 0, none⟩) n cap) ∧ OwnB w' w.heap.size g n cap zs ∧ Below w.heap.size w w'

theorem one_new (w : World) (v : Value) (t : TypeId) : ∀ j u, [v][j]? = some u → (w.alloc (.cells #[v] t)).cell? ((⟨w.heap.size, 0, none⟩ : Addr).add j) = some u := by
  intro j u hj
  match j, hj with
  | 0, hj => simp at hj; subst hj; simp [Addr.add]
end Go.Proofs.YthgbhnedfdnfpaaDoor

/- The cursor from which a law's arguments are drawn: contracts of next, pick, one, among. -/
namespace Go.Proofs.YthgbhnedfdnfpaaDoor
set_option maxRecDepth 100000
open Go.RowKit

/-- the cursor in block bc: the bytes that it reads, where it is, its seed -/
def CurAt (w : World) (bc : Nat) (a : Option Addr) (n cap t : Nat) : Prop :=
  ∃ s : Int, w.heap[bc]? = some (.cells #[.slice a n cap, .int .i64 t, .int .u64 s] 60 (0, 0))
/-- what it reads lies ahead of it -/
def Ahead (bc : Nat) (a : Option Addr) (zs : List Int) : Prop := zs ≠ [] → ∀ b off, a = some ⟨b, off, none⟩ → b < bc
theorem In.ahead {w : World} {a : Option Addr} {zs : List Int} (h : In w a zs) : Ahead w.heap.size a zs := fun e b off ha => by
  rcases h with h | ⟨b1, off1, rfl, hr⟩
  · exact absurd h e
  · cases ha
    exact World.block_lt_of_cell? w _ (hr.1 0 (List.length_pos_iff.2 e))
theorem Ahead.mono {B B' : Nat} {a : Option Addr} {zs : List Int} (h : Ahead B a zs) (hB : B ≤ B') : Ahead B' a zs := fun e b off ha => Nat.lt_of_lt_of_le (h e b off ha) hB
def Nexts (w : World) (bc : Nat) (a : Option Addr) (n cap t : Nat) (e : Ending) (w' : World) : Prop :=
  ∃ r : Int, e = .returned (.int .i64 r) ∧ 0 ≤ r ∧ r ≤ 255 ∧ CurAt w' bc a n cap (t + 1) ∧ OnlyBlock bc w w'
theorem OnlyBlock.drewN {g : Nat} {w w' : World} (h : OnlyBlock g w w') (q : Nat) : OnlyBlock g w (w'.drewN q) := ⟨below_drewN h.1 q, h.2.1, h.2.2⟩
theorem OnlyBlock.trans {g : Nat} {w w' w'' : World} (h : OnlyBlock g w w') (k : OnlyBlock g w' w'') : OnlyBlock g w w'' := ⟨h.1.trans k.1, k.2.1.trans h.2.1, fun j hj => (k.2.2 j hj).trans (h.2.2 j hj)⟩
theorem In.only {w w' : World} {g : Nat} {a : Option Addr} {zs : List Int} (h : In w a zs) (hb : OnlyBlock g w w') (hA : Ahead g a zs) : In w' a zs := by
  by_cases e : zs = []
  · exact .inl e
  · rcases h with h | ⟨b, off, rfl, hr⟩
    · exact .inl h
    · exact .inr ⟨b, off, rfl, hr.below hb.1 (hA e b off rfl)⟩
theorem bits_255 (X : Int) : 0 ≤ bits .and .u64 X 255 ∧ bits .and .u64 X 255 ≤ 255 := by
  have h255 : (BitVec.ofInt 64 255).toNat = 2 ^ 8 - 1 := by decide
  have key : (BitVec.ofInt 64 X &&& BitVec.ofInt 64 255).toNat = (X % ((2 ^ 64 : Nat) : Int)).toNat % 2 ^ 8 := by
    rw [BitVec.toNat_and, BitVec.toNat_ofInt, h255, Nat.and_two_pow_sub_one_eq_mod]
  have e : bits .and .u64 X 255 = IntKind.u64.wrap ((BitVec.ofInt 64 X &&& BitVec.ofInt 64 255).toNat : Nat) := rfl
  rw [e, key, IntKind.wrap_u64]
  omega

theorem cur_two {w : World} {bc n cap t : Nat} {a : Option Addr} {s : Int} (hs : w.heap[bc]? = some (.cells #[.slice a n cap, .int .i64 t, .int .u64 s] 60 (0, 0))) (s' : Int) :
    CurAt ((w.setCell ⟨bc, 1, none⟩ (.int .i64 ((t : Int) + 1))).setCell ⟨bc, 2, none⟩ (.int .u64 s')) bc a n cap (t + 1) ∧ OnlyBlock bc w ((w.setCell ⟨bc, 1, none⟩ (.int .i64 ((t : Int) + 1))).setCell ⟨bc, 2, none⟩ (.int .u64 s')) :=
  ⟨⟨s', heap_setCell_same _ bc 2 _ _ _ (heap_setCell_same w bc 1 _ _ _ hs)⟩, ((OnlyBlock.refl bc w).store 1 _).store 2 _⟩

set_option maxHeartbeats 1600000 in
theorem next_in (w : World) (bc b off n cap t : Nat) (zs : List Int) (HC : Hid (CurAt w bc (some ⟨b, off, none⟩) n cap t)) (hb : b < bc) (HL : Hid (zs.length = n)) (HR : Hid (Row w b off zs)) (ht : t < n) (hn : n ≤ 9223372036854775807) :
    Calls Tryd.prog 75 #[.pointer (some ⟨bc, 0, none⟩)] w (Nexts w bc (some ⟨b, off, none⟩) n cap t) := by
  obtain ⟨s, hs⟩ := HC.out
  have HH := Lib.hid hs
  have c0 : w.cell? ⟨bc, 0, none⟩ = some (.slice (some ⟨b, off, none⟩) n cap) := by rw [cell_of_row w bc 0 _ _ (0, 0) hs]; rfl
  have c1 : w.cell? ⟨bc, 1, none⟩ = some (.int .i64 t) := by rw [cell_of_row w bc 1 _ _ (0, 0) hs]; rfl
  have c2 : w.cell? ⟨bc, 2, none⟩ = some (.int .u64 s) := by rw [cell_of_row w bc 2 _ _ (0, 0) hs]; rfl
  have f1 : w.frozen? ⟨bc, 1, none⟩ = false := frozen_of_row w bc 1 _ _ hs
  have f2 : w.frozen? ⟨bc, 2, none⟩ = false := frozen_of_row w bc 2 _ _ hs
  clear hs
  obtain ⟨c, HV, h0, h1, hcell⟩ := HR.out.at t (by have := HL.out; omega)
  have hne : bc ≠ b := by omega
  have ht' : (t : Int) < n := by omega
  have e1 : IntKind.i64.wrap (t : Int) = t := IntWalk.i64_in _ (by omega)
  go_enter Tryd.func75, Tryd.ntmps75
  go_wp2_with fail
  go_quiet (fail)
  go_wp2_with fail
  go_quiet (fail)
  go_wp2_with fail
  go_quiet (fail)
  go_wp2
  go_ret
  exact ⟨c, rfl, h0, h1, (cur_two HH.out _).1, ((((OnlyBlock.refl bc w).drewN _).store 1 _).store 2 _).drewN _⟩

set_option maxHeartbeats 1600000 in
theorem next_out (w : World) (bc n cap t : Nat) (a : Option Addr) (HC : Hid (CurAt w bc a n cap t)) (ht : n ≤ t) (ht2 : t ≤ 1048576) :
    Calls Tryd.prog 75 #[.pointer (some ⟨bc, 0, none⟩)] w (Nexts w bc a n cap t) := by
  obtain ⟨s, hs⟩ := HC.out
  have HH := Lib.hid hs
  have c0 : w.cell? ⟨bc, 0, none⟩ = some (.slice a n cap) := by rw [cell_of_row w bc 0 _ _ (0, 0) hs]; rfl
  have c1 : w.cell? ⟨bc, 1, none⟩ = some (.int .i64 t) := by rw [cell_of_row w bc 1 _ _ (0, 0) hs]; rfl
  have c2 : w.cell? ⟨bc, 2, none⟩ = some (.int .u64 s) := by rw [cell_of_row w bc 2 _ _ (0, 0) hs]; rfl
  have f1 : w.frozen? ⟨bc, 1, none⟩ = false := frozen_of_row w bc 1 _ _ hs
  have f2 : w.frozen? ⟨bc, 2, none⟩ = false := frozen_of_row w bc 2 _ _ hs
  clear hs
  have d1 : decide (t < n) = false := by simp; omega
  have d2 : decide ((t : Int) + 1 ≤ n) = false := by simp; omega
  have d3 : (n : Int) < (t : Int) + 1 := by omega
  go_enter Tryd.func75, Tryd.ntmps75
  go_wp2_with fail
  go_quiet (fail)
  go_wp2_with fail
  go_quiet (fail)
  go_wp2
  go_ret
  exact ⟨_, ret_int (IntWalk.wrap64_in _ (by have := bits_255 (IntKind.u64.wrap (IntKind.u64.wrap (IntKind.u64.wrap (s * 6364136223846793005)) + 1442695040888963407) / 1099511627776); omega)), (bits_255 _).1, (bits_255 _).2, (cur_two HH.out _).1, ((((OnlyBlock.refl bc w).drewN _).store 1 _).store 2 _).drewN _⟩

/-- the next byte, or a number of the seed's: whatever lies there -/
theorem next_any (w : World) (bc n cap t : Nat) (a : Option Addr) (zs : List Int) (HC : Hid (CurAt w bc a n cap t)) (hA : Ahead bc a zs) (HL : Hid (zs.length = n)) (HI : Hid (In w a zs)) (hn : n ≤ 9223372036854775807) (ht2 : t ≤ 1048576) :
    Calls Tryd.prog 75 #[.pointer (some ⟨bc, 0, none⟩)] w (Nexts w bc a n cap t) := by
  by_cases h : t < n
  · rcases HI.out with h0 | ⟨b, off, rfl, hr⟩
    · have := HL.out; rw [h0] at this; simp at this; omega
    · exact next_in w bc b off n cap t zs HC (hA (fun e => by have := HL.out; rw [e] at this; simp at this; omega) b off rfl) HL hr h hn
  · exact next_out w bc n cap t a HC (by omega) ht2

/-- the cursor has moved on by some places: a number below m was picked -/
def Picks (w : World) (bc : Nat) (a : Option Addr) (n cap t : Nat) (m : Int) (e : Ending) (w' : World) : Prop :=
  ∃ (r : Int) (t' : Nat), e = .returned (.int .i64 r) ∧ 0 ≤ r ∧ r < m ∧ t' ≤ t + 2 ∧ CurAt w' bc a n cap t' ∧ OnlyBlock bc w w'

set_option maxHeartbeats 1600000 in
theorem pick_any (w : World) (bc n cap t : Nat) (a : Option Addr) (zs : List Int) (m : Int) (hm : 1 < m) (hm2 : m ≤ 1000000) (HC : Hid (CurAt w bc a n cap t)) (hA : Hid (Ahead bc a zs)) (HL : Hid (zs.length = n)) (HI : Hid (In w a zs)) (hn : n ≤ 9223372036854775807) (ht2 : t ≤ 1000000) :
    Calls Tryd.prog 57 #[.pointer (some ⟨bc, 0, none⟩), .int .i64 m] w (Picks w bc a n cap t m) := by
  have d1 := not_le hm
  rcases Int.lt_or_le 200 m with hg | hg
  · have d2 := is_lt hg
    go_enter Tryd.func57, Tryd.ntmps57
    go_wp2_with (go_at_call 75; refine (next_any _ _ _ _ t _ zs HC hA.out HL HI hn (by omega)).mono ?_; rintro e v1 ⟨r1, rfl, r10, r11, c, o⟩; have C1 := Lib.hid c; have O1 := Lib.hid o; clear c o)
    go_wp2_with (go_at_call 75; refine (next_any _ _ _ _ (t + 1) _ zs C1 hA.out HL (Lib.hid (HI.out.only O1.out hA.out)) hn (by omega)).mono ?_; rintro e v2 ⟨r2, rfl, r20, r21, c, o⟩; have C2 := Lib.hid c; have O2 := Lib.hid o; clear c o)
    go_ret
    exact ⟨_, _, rfl, Int.emod_nonneg _ (by omega), Int.emod_lt_of_pos _ (by omega), by omega, C2.out, O1.out.trans O2.out⟩
  · have d2 := not_lt hg
    go_enter Tryd.func57, Tryd.ntmps57
    go_wp2_with (go_at_call 75; refine (next_any _ _ _ _ t _ zs HC hA.out HL HI hn (by omega)).mono ?_; rintro e v1 ⟨r1, rfl, r10, r11, c, o⟩; have C1 := Lib.hid c; have O1 := Lib.hid o; clear c o)
    go_ret
    exact ⟨_, _, rfl, Int.emod_nonneg _ (by omega), Int.emod_lt_of_pos _ (by omega), by omega, C1.out, O1.out⟩
end Go.Proofs.YthgbhnedfdnfpaaDoor
