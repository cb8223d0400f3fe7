/- Slices of integers: what reads as a list of integers, what the call made itself, and the contracts of the copying and comparing functions of the laws. -/
import Derived.Test.YtgnobmmlmmbfcaaByt
namespace Go.Proofs.Ytgnobmmlmmbfcaa
open Go.RowKit

theorem infoI : (Try.prog.info? 3).map (fun i => (i.zero, i.size, i.bytes)) = some (some (.int .i64 0), 1, 8) := by kernel_rfl

/-- the cells of a list of bytes -/
def iv (zs : List Int) : List Value := zs.map (Value.int .i64)
theorem iv_length (zs : List Int) : (iv zs).length = zs.length := by simp [iv]
theorem iv_get (zs : List Int) (i : Nat) (h : i < zs.length) : (iv zs)[i]? = some (.int .i64 (zs.getD i 0)) := by
  simp [iv, h]

/-- in world w, the bytes zs lie from cell off of block b on -/
def RowI (w : World) (b off : Nat) (zs : List Int) : Prop :=
  (∀ i, i < zs.length → w.cell? ⟨b, off + i, none⟩ = some (.int .i64 (zs.getD i 0))) ∧ ∀ n ∈ zs, -9223372036854775808 ≤ n ∧ n ≤ 9223372036854775807

/-- a slice of n bytes of the call's own: block g, the bytes zs -/
def OwnI (w : World) (B g n cap : Nat) (zs : List Int) : Prop :=
  w.ownsRow B 3 1 (.slice (some ⟨g, 0, none⟩) n cap) n (iv zs)

theorem OwnI.len {w : World} {B g n cap : Nat} {zs : List Int} (h : OwnI w B g n cap zs) : zs.length = n := by
  have := h.1; rw [iv_length] at this; omega
theorem OwnI.lt {w : World} {B g n cap : Nat} {zs : List Int} (h : OwnI w B g n cap zs) : B ≤ g ∧ g < w.heap.size := World.ownsRow.lt h g rfl
theorem OwnI.row {w : World} {B g n cap : Nat} {zs : List Int} (h : OwnI w B g n cap zs) (hr : ∀ n ∈ zs, -9223372036854775808 ≤ n ∧ n ≤ 9223372036854775807) : RowI w g 0 zs := by
  refine ⟨fun i hi => ?_, hr⟩
  have hl := h.len
  have := World.ownsRow.cellAt h i (by omega)
  rw [Nat.zero_add, this, iv_get _ _ hi]
theorem OwnI.below {w w' : World} {B B' g n cap : Nat} {zs : List Int} (h : OwnI w B g n cap zs) (hb : Below B' w w') (hg : g < B') : OwnI w' B g n cap zs := by
  obtain ⟨h1, h2⟩ := h
  refine ⟨h1, ?_⟩
  rcases h2 with h2 | ⟨g', cap', cur, a, b, c, d⟩
  · exact .inl h2
  · cases a
    exact .inr ⟨g, cap, cur, rfl, b, by rw [hb.block g hg]; exact c, d⟩
theorem OwnI.base {w : World} {B B' g n cap : Nat} {zs : List Int} (h : OwnI w B g n cap zs) (hB : B' ≤ B) : OwnI w B' g n cap zs := by
  obtain ⟨h1, h2⟩ := h
  refine ⟨h1, ?_⟩
  rcases h2 with h2 | ⟨g', cap', cur, a, b, c, d⟩
  · exact .inl h2
  · exact .inr ⟨g', cap', cur, a, Nat.le_trans hB b, c, d⟩
theorem RowI.below {w w' : World} {b off B : Nat} {zs : List Int} (h : RowI w b off zs) (hb : Below B w w') (hB : b < B) : RowI w' b off zs :=
  ⟨fun i hi => (hb.cell (p := ⟨b, off + i, none⟩) hB).trans (h.1 i hi), h.2⟩
theorem RowI.drewN {w : World} {b off : Nat} {zs : List Int} (h : RowI w b off zs) (q : Nat) : RowI (w.drewN q) b off zs := h
theorem RowI.at {w : World} {b off : Nat} {zs : List Int} (h : RowI w b off zs) (k : Nat) (hk : k < zs.length) :
    ∃ c, Hid (c = zs.getD k 0) ∧ -9223372036854775808 ≤ c ∧ c ≤ 9223372036854775807 ∧ w.cell? ⟨b, off + k, none⟩ = some (.int .i64 c) := by
  refine ⟨zs.getD k 0, rfl, ?_, ?_, h.1 k hk⟩
  · exact (h.2 _ (by rw [List.getD_eq_getElem?_getD, List.getElem?_eq_getElem hk]; exact List.getElem_mem hk)).1
  · exact (h.2 _ (by rw [List.getD_eq_getElem?_getD, List.getElem?_eq_getElem hk]; exact List.getElem_mem hk)).2

/-- what a slice that came in reads as: nothing, or a row of bytes -/
def InI (w : World) (a : Option Addr) (zs : List Int) : Prop :=
  zs = [] ∨ ∃ b off, a = some ⟨b, off, none⟩ ∧ RowI w b off zs

/-- a copy was made: a new block that holds the bytes -/
def MadeI (w : World) (n : Nat) (zs : List Int) (e : Ending) (w' : World) : Prop :=
  e = .returned (.slice (some ⟨w.heap.size, 0, none⟩) n n) ∧ OwnI w' w.heap.size w.heap.size n n zs ∧ Below w.heap.size w w'

theorem iv_set (zs : List Int) (k : Nat) (c : Int) : (iv zs).set k (.int .i64 c) = iv (zs.set k c) := by simp [iv, List.map_set]
theorem OwnI.store {w : World} {B g n cap : Nat} {zs : List Int} (h : OwnI w B g n cap zs) (k : Nat) (c : Int) : OwnI (w.setCell ⟨g, k, none⟩ (.int .i64 c)) B g n cap (zs.set k c) := by
  have := (World.ownsRow.stored h k (.int .i64 c)).1
  rw [iv_set] at this
  exact this
theorem OwnI.cell {w : World} {B g n cap : Nat} {zs : List Int} (h : OwnI w B g n cap zs) (k : Nat) (hk : k < n) : w.cell? ⟨g, k, none⟩ = some (.int .i64 (zs.getD k 0)) := by
  have hl := h.len
  rw [World.ownsRow.cellAt h k (by omega), iv_get _ _ (by omega)]

theorem madeI {w : World} {B g n : Nat} (h : w.ownsRow B 3 1 (.slice (some ⟨g, 0, none⟩) n n) n (madeCells (Value.int .i64 0).cells (n * 1)).toList) : OwnI w B g n n (List.replicate n 0) := by
  have e : (madeCells (Value.int .i64 0).cells (n * 1)).toList = iv (List.replicate n 0) := by
    rw [Nat.mul_one, iv, List.map_replicate]
    exact toList_madeCells_one _ n
  rw [e] at h
  exact h

/-- at each round's head of the copying loop -/
def CopyRelI (w : World) (n : Nat) (zs : List Int) (i : Value) (wr : World) : Prop :=
  ∃ k : Nat, k ≤ n ∧ i = .int .i64 k ∧ OwnI wr w.heap.size w.heap.size n n (fillTo zs k) ∧ Below w.heap.size w wr

def EqRelI (w : World) (n : Nat) (i : Value) (wr : World) : Prop := ∃ k q : Nat, k ≤ n ∧ i = .int .i64 k ∧ wr = w.drewN q

theorem wf_i64 {n : Int} (h : (Lit.int .i64 n).wf = true) : -9223372036854775808 ≤ n ∧ n ≤ 9223372036854775807 := by
  have h' : (decide (IntKind.i64.min ≤ n) && decide (n ≤ IntKind.i64.max)) = true := h
  have e1 : IntKind.i64.min = -9223372036854775808 := by decide
  have e2 : IntKind.i64.max = 9223372036854775807 := by decide
  rw [e1, e2] at h'
  simp at h'
  exact h'
theorem IsRow.viewI {w : World} {a : Option Addr} {len cap : Nat} {zs : List Int} (h : IsRow .i64 w a len cap zs) : len ≤ maxLen ∧ ∃ ys, Hid (ys.length = len) ∧ Hid (InI w a ys) := by
  rcases h with ⟨rfl, rfl, rfl, rfl⟩ | ⟨x, rfl, hl, hm, hz, hcell, hwf⟩
  · exact ⟨Nat.zero_le _, [], rfl, .inl rfl⟩
  · refine ⟨Nat.le_trans hl hm, zs.take len, by unfold Hid; simp; omega, ?_⟩
    rcases Nat.eq_zero_or_pos len with rfl | hp
    · exact .inl (by simp)
    · obtain ⟨b, off, spot⟩ := x
      have hspot : spot = none := by simpa [Addr.add] using World.cell?_spot (hcell 0 (by omega))
      subst hspot
      refine .inr ⟨b, off, rfl, fun i hi => ?_, fun n hn => wf_i64 (hwf n (List.mem_of_mem_take hn))⟩
      simp at hi
      have := hcell i (by omega)
      rw [show (⟨b, off, none⟩ : Addr).add i = ⟨b, off + i, none⟩ by unfold Addr.add; split <;> simp_all] at this
      rw [this]
      simp [List.getD_eq_getElem?_getD]
      rw [List.getElem?_take, if_pos (by omega)]
theorem InI.below {w w' : World} {a : Option Addr} {zs : List Int} (h : InI w a zs) (hb : Below w.heap.size w w') : InI w' a zs := by
  by_cases e : zs = []
  · exact .inl e
  · rcases h with h | ⟨b, off, rfl, hr⟩
    · exact absurd h e
    · have hp : 0 < zs.length := List.length_pos_iff.2 e
      exact .inr ⟨b, off, rfl, hr.below hb (World.block_lt_of_cell? w _ (hr.1 0 hp))⟩
theorem InI.range {w : World} {a : Option Addr} {zs : List Int} (h : InI w a zs) : ∀ n ∈ zs, -9223372036854775808 ≤ n ∧ n ≤ 9223372036854775807 := by
  rcases h with rfl | ⟨b, off, rfl, hr⟩
  · intro n hn; cases hn
  · exact hr.2
end Go.Proofs.Ytgnobmmlmmbfcaa
