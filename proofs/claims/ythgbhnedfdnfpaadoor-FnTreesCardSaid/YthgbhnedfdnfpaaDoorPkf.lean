import Derived.Test.YthgbhnedfdnfpaaDoorPkb
import Derived.Deep.OwnRows
import Derived.Lib.SmallJoins
import Derived.Deep.Slices
import Derived.Test.YthgbhnedfdnfpaaDoorPke
import Derived.Deep.RegionWith
import Derived.WalkSmall
import Derived.Deep.RegionHeld3
import Derived.Deep.QuietTactic
import Derived.Test.YthgbhnedfdnfpaaDoorPkd
import Derived.LoopTactic
import Derived.WalkMore
import Derived.BigQuiet
/- Rows of cells in memory; arguments that are structs of integers or slices of such: opened. -/
namespace Go.Proofs.YthgbhnedfdnfpaaDoor
set_option maxRecDepth 100000
open Go.RowKit
set_option linter.unusedVariables false

def SaysT2 (w : World) (r1 r2 : Value) (e : Ending) (w' : World) : Prop := e = .returned (.tuple #[r1, r2]) ∧ Below w.heap.size w w'
theorem ret_ib {a b : Int} {p q : Bool} (h : a = b) (h' : p = q) : Ending.returned (.tuple #[.int .i64 a, .bool p]) = .returned (.tuple #[.int .i64 b, .bool q]) := by rw [h, h']
theorem ret_bb {a b : Bool} {p q : Bool} (h : a = b) (h' : p = q) : Ending.returned (.tuple #[.bool a, .bool p]) = .returned (.tuple #[.bool b, .bool q]) := by rw [h, h']
/-! Rows of cells. -/
def AtC (w : World) (g : Nat) (xs : List Value) : Prop := ∀ j, j < xs.length → w.cell? ⟨g, j, none⟩ = xs[j]?
theorem AtC.below {w w' : World} {g B : Nat} {xs : List Value} (h : AtC w g xs) (hb : Below B w w') (hg : g < B) : AtC w' g xs := fun j hj => (hb.cell (p := ⟨g, j, none⟩) hg).trans (h j hj)
theorem AtC.at {w : World} {g : Nat} {xs : List Value} (h : AtC w g xs) (j : Nat) {u : Value} (hu : xs[j]? = some u) : w.cell? ⟨g, j, none⟩ = some u := by
  rw [h j (by have := List.getElem?_eq_some_iff.1 hu; exact this.1)]; exact hu
/-- a slice's address leads to a row -/
def InX (w : World) (ad : Option Addr) (n : Nat) (xs : List Value) : Prop := 0 < n → ∃ g, ad = some ⟨g, 0, none⟩ ∧ AtC w g xs ∧ g < w.heap.size
theorem InX.below {w w' : World} {ad : Option Addr} {n : Nat} {xs : List Value} (h : InX w ad n xs) (hb : Below w.heap.size w w') : InX w' ad n xs := fun hn => by
  obtain ⟨g, ha, ht, hg⟩ := h hn
  exact ⟨g, ha, ht.below hb hg, Nat.lt_of_lt_of_le hg hb.size⟩
/-- a row of the call's own, or nil -/
theorem own_below {w w' : World} {B B' n z : Nat} {T : TypeId} {v : Value} {xs : List Value} (h : w.ownsRow B T z v n xs) (hb : Below B' w w') (hB : ∀ g, v.ownBlock = some g → g < B') : w'.ownsRow B T z v n xs := by
  have h0 := h
  obtain ⟨h1, h2⟩ := h
  refine ⟨h1, ?_⟩
  rcases h2 with h2 | ⟨g, cap, cur, a, b, c, d⟩
  · exact .inl h2
  · exact .inr ⟨g, cap, cur, a, b, by rw [hb.block g (hB g (by rw [a]; rfl))]; exact c, d⟩
theorem own_low {w w' : World} {B B' n z : Nat} {T : TypeId} {v : Value} {xs : List Value} (h : w.ownsRow B T z v n xs) (hb : Below B' w w') (hB : w.heap.size ≤ B') : w'.ownsRow B T z v n xs :=
  own_below h hb (fun g hg => Nat.lt_of_lt_of_le (World.ownsRow.lt h g hg).2 hB)
theorem own_base {w : World} {B B' n z : Nat} {T : TypeId} {v : Value} {xs : List Value} (h : w.ownsRow B T z v n xs) (hB : B' ≤ B) : w.ownsRow B' T z v n xs := by
  obtain ⟨h1, h2⟩ := h
  refine ⟨h1, ?_⟩
  rcases h2 with h2 | ⟨g', cap', cur, a, b, c, d⟩
  · exact .inl h2
  · exact .inr ⟨g', cap', cur, a, Nat.le_trans hB b, c, d⟩
theorem own_set {w : World} {B n z : Nat} {T : TypeId} {v : Value} {xs : List Value} (h : w.ownsRow B T z v n xs) {p : Addr} (hp : p.block < B) (u : Value) : (w.setCell p u).ownsRow B T z v n xs := by
  obtain ⟨h1, h2⟩ := h
  refine ⟨h1, ?_⟩
  rcases h2 with h2 | ⟨g', cap', cur, a, b, c, d⟩
  · exact .inl h2
  · exact .inr ⟨g', cap', cur, a, b, by rw [Go.Deep.blk_setCell_other _ _ _ _ (by omega)]; exact c, d⟩
theorem own_in {w : World} {B n z : Nat} {T : TypeId} {v : Value} {xs : List Value} (h : w.ownsRow B T z v n xs) : ∃ ad c, v = .slice ad n c ∧ InX w ad n xs := by
  have h0 := h
  rcases h.2 with ⟨hv, hn⟩ | ⟨g, cap, cur, hv, _⟩
  · subst hn; exact ⟨none, 0, hv, fun h => absurd h (by omega)⟩
  · refine ⟨_, _, hv, fun _ => ⟨g, rfl, fun j hj => ?_, (World.ownsRow.lt h0 g (by rw [hv]; rfl)).2⟩⟩
    subst hv
    exact World.ownsRow.cellAt h0 j (by rw [← h0.1]; exact hj)

theorem one_int (w : World) (v : Value) (t : TypeId) : ∀ j u, [v][j]? = some u → (w.alloc (.cells #[v] t)).cell? ((⟨w.heap.size, 0, none⟩ : Addr).add j) = some u := by
  intro j u hu
  match j, hu with
  | 0, hu => simp at hu; subst hu; simp [Addr.add]
theorem own_inx {w : World} {B n z g c : Nat} {T : TypeId} {xs : List Value} (h : w.ownsRow B T z (.slice (some ⟨g, 0, none⟩) n c) n xs) : InX w (some ⟨g, 0, none⟩) n xs := by
  obtain ⟨ad, c', e, hi⟩ := own_in h
  cases e
  exact hi
/-- a row of cells from a place on -/
def OffC (w : World) (b off : Nat) (xs : List Value) : Prop := ∀ j, j < xs.length → w.cell? ⟨b, off + j, none⟩ = xs[j]?
/-- an argument's slice leads to a row -/
def ArgX (w : World) (ad : Option Addr) (n : Nat) (xs : List Value) : Prop := 0 < n → ∃ b off, ad = some ⟨b, off, none⟩ ∧ OffC w b off xs ∧ b < w.heap.size
theorem OffC.below {w w' : World} {b off B : Nat} {xs : List Value} (h : OffC w b off xs) (hb : Below B w w') (hg : b < B) : OffC w' b off xs := fun j hj => (hb.cell (p := ⟨b, off + j, none⟩) hg).trans (h j hj)
theorem ArgX.below {w w' : World} {ad : Option Addr} {n : Nat} {xs : List Value} (h : ArgX w ad n xs) (hb : Below w.heap.size w w') : ArgX w' ad n xs := fun hn => by
  obtain ⟨b, off, ha, ht, hg⟩ := h hn
  exact ⟨b, off, ha, ht.below hb hg, Nat.lt_of_lt_of_le hg hb.size⟩
theorem OffC.at {w : World} {b off : Nat} {xs : List Value} (h : OffC w b off xs) (j : Nat) {u : Value} (hu : xs[j]? = some u) : w.cell? ⟨b, off + j, none⟩ = some u := by
  rw [h j (by have := List.getElem?_eq_some_iff.1 hu; exact this.1)]; exact hu
/-- a row of the call's own, cell by cell -/
theorem own_cell {w : World} {B g n c z : Nat} {T : TypeId} {xs : List Value} (h : w.ownsRow B T z (.slice (some ⟨g, 0, none⟩) n c) n xs) (j : Nat) (hj : j < n * z) : ∃ u, w.cell? ⟨g, j, none⟩ = some u :=
  ⟨xs[j]'(by rw [h.1]; exact hj), by rw [World.ownsRow.cellAt h j hj]; exact List.getElem?_eq_getElem _⟩
theorem own_store {w : World} {B g n c z : Nat} {T : TypeId} {xs : List Value} (h : w.ownsRow B T z (.slice (some ⟨g, 0, none⟩) n c) n xs) (j : Nat) (v : Value) : (w.setCell ⟨g, j, none⟩ v).ownsRow B T z (.slice (some ⟨g, 0, none⟩) n c) n (xs.set j v) := (World.ownsRow.stored h j v).1
/-- the first cells are there -/
def GotX (ys xs : List Value) (m : Nat) : Prop := ∀ j, j < m → xs[j]? = ys[j]?
theorem got_all {ys xs : List Value} (h : GotX ys xs ys.length) (hl : xs.length = ys.length) : xs = ys := by
  apply List.ext_getElem?
  intro m
  by_cases hm : m < ys.length
  · exact h m hm
  · rw [List.getElem?_eq_none (by omega), List.getElem?_eq_none (by omega)]
/-- what is left of a measure -/
def lessN (r : Int) (n : Nat) : Int := if r - n < 0 then -1 else r - n
theorem lessN_neg {r : Int} {n : Nat} (h : r - n < 0) : lessN r n = -1 := if_pos h
theorem lessN_pos {r : Int} {n : Nat} (h : ¬ r - n < 0) : lessN r n = r - n := if_neg h
open Go.Joins Go.ChangeShapes Go.WideShapes Go.Deep
section
variable {H : Type} {enc : TypeId × Value → H} {w : World} {base : Nat} {spare : Nat → Bool} {held : Bool}
/-- a struct of integers -/
theorem open_ints_struct {t : TypeId} {fs : Array Field} {fuel : Nat} {cs : List Value} {x : DataW H × List MemPlace} (ht : Tryd.prog.underlying t = some (.struct fs)) (hf : ∀ i, i < fs.size → ∃ f, fs[i]? = some f ∧ f.type = 3 ∧ f.offset = i)
    (h : DataW.trod enc Tryd.prog w base spare held fuel t cs = some x) : ∃ f : Nat → Int, ∀ j, j < fs.size → cs[j]? = some (.int .i64 (f j)) := by
  obtain ⟨xs, n, _, _, hl, hlen, hg⟩ := DataW.trod_struct ht h
  have each : ∀ j : Nat, ∃ y : Int, j < fs.size → cs[j]? = some (.int .i64 y) := by
    intro j
    by_cases hj : j < fs.size
    · obtain ⟨f, hfi, hty, hof⟩ := hf j hj
      have q := hg j f hfi
      rw [hty, hof, show Tryd.prog.cellsOf 3 = 1 by kernel_rfl, List.getElem?_eq_getElem (show j < xs.length by omega)] at q
      obtain ⟨k, e0, _, _⟩ := DataW.trod_int (P := Tryd.prog) (t := 3) Tryd.underlying3 q
      refine ⟨k, fun _ => ?_⟩
      have := congrArg (fun l => l[0]?) e0
      simpa [List.getElem?_take, List.getElem?_drop] using this
    · exact ⟨0, fun h => absurd h hj⟩
  obtain ⟨f, hf⟩ := Classical.axiomOfChoice each
  exact ⟨f, hf⟩
/-- a slice of structs of integers -/
theorem open_rows {z : Nat} {tS tE : TypeId} {fs : Array Field} (hu : Tryd.prog.underlying tS = some (.slice tE)) (hC : Tryd.prog.cellsOf tE = z) (hz : fs.size = z) (h0 : 0 < z) (ht : Tryd.prog.underlying tE = some (.struct fs)) (hf : ∀ i, i < fs.size → ∃ f, fs[i]? = some f ∧ f.type = 3 ∧ f.offset = i)
    {fuel : Nat} {cs : List Value} {x : DataW H × List MemPlace} (h : DataW.trod enc Tryd.prog w base spare held fuel tS cs = some x) :
    ∃ (a : Option Addr) (len cap : Nat) (F : Nat → Nat → Int), cs = [.slice a len cap] ∧ len ≤ maxLen ∧
      (0 < len → ∃ b off, a = some ⟨b, off, none⟩ ∧ (∀ i j, i < len → j < z → w.cell? ⟨b, off + (i * z + j), none⟩ = some (.int .i64 (F i j))) ∧ b < w.heap.size) := by
  rcases open_slice hu h with ⟨h0, _⟩ | ⟨a, len, cap, m, n, D, Pl, hcs, hb, hl, hm, hmm, hx, hi⟩
  · exact ⟨none, 0, 0, fun _ _ => 0, h0, Nat.zero_le _, fun h => absurd h (by omega)⟩
  · have hlm : len ≤ m := by rw [hmm]; split <;> omega
    have each : ∀ i : Nat, ∃ y : Nat → Int, i < len → ∀ j, j < z → w.cell? (a.add (i * z + j)) = some (.int .i64 (y j)) := by
      intro i
      by_cases hil : i < len
      · obtain ⟨cs', hc, hT⟩ := hi i (by omega)
        rw [hC] at hc
        obtain ⟨_, hcl, hat⟩ := World.cells?_some hc
        obtain ⟨f, hfj⟩ := open_ints_struct ht hf hT
        refine ⟨f, fun _ j hj => ?_⟩
        rw [← add_add, hat j hj]
        exact hfj j (by omega)
      · exact ⟨fun _ => 0, fun h => absurd h hil⟩
    obtain ⟨F, hF⟩ := Classical.axiomOfChoice each
    refine ⟨some a, len, cap, F, hcs, Nat.le_trans hl hm, fun hn => ?_⟩
    obtain ⟨b, off, spot⟩ := a
    have h00 := hF 0 hn 0 h0
    have hspot : spot = none := World.cell?_spot (show w.cell? ⟨b, off, spot⟩ = some (.int .i64 (F 0 0)) by rw [Nat.zero_mul] at h00; exact h00)
    subst hspot
    refine ⟨b, off, rfl, fun i j hi' hj => ?_, ?_⟩
    · rw [← add_plain]; exact hF i hi' j hj
    · exact World.block_lt_of_cell? w ⟨b, off + (0 * z + 0), none⟩ (by rw [← add_plain]; exact h00)
end
end Go.Proofs.YthgbhnedfdnfpaaDoor

/- Rows of cells, classes and filters in memory: what a configuration's value holds. -/
namespace Go.Proofs.YthgbhnedfdnfpaaDoor
set_option maxRecDepth 100000
open Go.RowKit
set_option linter.unusedVariables false

/-! Classes. -/
def clsC (x : Cls) : List Value := [.int .i64 x.i, .int .i64 x.p, .int .i64 x.r, .int .i64 x.e, .int .i64 x.b, .int .i64 x.u, .int .i64 x.o, .int .i64 x.l]
def clsV (x : Cls) : Value := .agg #[.int .i64 x.i, .int .i64 x.p, .int .i64 x.r, .int .i64 x.e, .int .i64 x.b, .int .i64 x.u, .int .i64 x.o, .int .i64 x.l]
def clsCs (l : List Cls) : List Value := l.flatMap clsC
theorem clsCs_cons (x : Cls) (r : List Cls) : clsCs (x :: r) = clsC x ++ clsCs r := by simp [clsCs]
theorem clsCs_append (l m : List Cls) : clsCs (l ++ m) = clsCs l ++ clsCs m := by simp [clsCs]
theorem clsCs_length (l : List Cls) : (clsCs l).length = l.length * 8 := by
  unfold clsCs
  induction l with
  | nil => rfl
  | cons x r ih => simp [clsC] at *; omega
theorem clsCs_get : ∀ (l : List Cls) (i j : Nat), j < 8 → i < l.length → (clsCs l)[i * 8 + j]? = (clsC (l.getD i cls0))[j]?
  | [], i, j, _, h => absurd h (by simp)
  | x :: r, 0, j, hj, _ => by
    rw [clsCs_cons, List.getElem?_append_left (by simp [clsC]; omega)]
    simp
  | x :: r, i + 1, j, hj, h => by
    have e : (i + 1) * 8 + j - (clsC x).length = i * 8 + j := by simp [clsC]; omega
    rw [clsCs_cons, List.getElem?_append_right (by simp [clsC]; omega), e, clsCs_get r i j hj (by simpa using h)]
    simp
/-- the cells of a class of a row -/
def Eight (w : World) (g k : Nat) (x : Cls) : Prop := w.cell? ⟨g, k * 8, none⟩ = some (.int .i64 x.i) ∧ w.cell? ⟨g, k * 8 + 1, none⟩ = some (.int .i64 x.p) ∧ w.cell? ⟨g, k * 8 + 2, none⟩ = some (.int .i64 x.r) ∧ w.cell? ⟨g, k * 8 + 3, none⟩ = some (.int .i64 x.e) ∧
  w.cell? ⟨g, k * 8 + 4, none⟩ = some (.int .i64 x.b) ∧ w.cell? ⟨g, k * 8 + 5, none⟩ = some (.int .i64 x.u) ∧ w.cell? ⟨g, k * 8 + 6, none⟩ = some (.int .i64 x.o) ∧ w.cell? ⟨g, k * 8 + 7, none⟩ = some (.int .i64 x.l)
theorem AtC.cls {w : World} {g : Nat} {l : List Cls} (h : AtC w g (clsCs l)) (k : Nat) (hk : k < l.length) (x : Cls) (hx : l.getD k cls0 = x) : Eight w g k x := by
  subst hx
  have q := fun j (hj : j < 8) => clsCs_get l k j hj hk
  exact ⟨h.at _ ((q 0 (by decide)).trans rfl), h.at _ ((q 1 (by decide)).trans rfl), h.at _ ((q 2 (by decide)).trans rfl), h.at _ ((q 3 (by decide)).trans rfl), h.at _ ((q 4 (by decide)).trans rfl), h.at _ ((q 5 (by decide)).trans rfl), h.at _ ((q 6 (by decide)).trans rfl), h.at _ ((q 7 (by decide)).trans rfl)⟩
/-- the same behind an allocation: for the walk -/
def EightA (w : World) (g k : Nat) (x : Cls) : Prop := ∀ o, Eight (w.alloc o) g k x
theorem Eight.later {w : World} {g k : Nat} {x : Cls} (h : Eight w g k x) (hg : g < w.heap.size) :
    (∀ o, (w.alloc o).cell? ⟨g, k * 8, none⟩ = some (.int .i64 x.i)) ∧ (∀ o, (w.alloc o).cell? ⟨g, k * 8 + 1, none⟩ = some (.int .i64 x.p)) ∧ (∀ o, (w.alloc o).cell? ⟨g, k * 8 + 2, none⟩ = some (.int .i64 x.r)) ∧ (∀ o, (w.alloc o).cell? ⟨g, k * 8 + 3, none⟩ = some (.int .i64 x.e)) ∧
    (∀ o, (w.alloc o).cell? ⟨g, k * 8 + 4, none⟩ = some (.int .i64 x.b)) ∧ (∀ o, (w.alloc o).cell? ⟨g, k * 8 + 5, none⟩ = some (.int .i64 x.u)) ∧ (∀ o, (w.alloc o).cell? ⟨g, k * 8 + 6, none⟩ = some (.int .i64 x.o)) ∧ (∀ o, (w.alloc o).cell? ⟨g, k * 8 + 7, none⟩ = some (.int .i64 x.l)) := by
  obtain ⟨h0, h1, h2, h3, h4, h5, h6, h7⟩ := h
  have q := fun o => (bcell (one_new2 w o)).1
  exact ⟨fun o => (q o g _ hg).trans h0, fun o => (q o g _ hg).trans h1, fun o => (q o g _ hg).trans h2, fun o => (q o g _ hg).trans h3, fun o => (q o g _ hg).trans h4, fun o => (q o g _ hg).trans h5, fun o => (q o g _ hg).trans h6, fun o => (q o g _ hg).trans h7⟩

/-! Filters. -/
def fltC (x : Flt) : List Value := [.int .i64 x.o, .int .i64 x.f, .int .i64 x.m, .int .i64 x.v, .int .i64 x.t]
def fltV (x : Flt) : Value := .agg #[.int .i64 x.o, .int .i64 x.f, .int .i64 x.m, .int .i64 x.v, .int .i64 x.t]
def fltCs (l : List Flt) : List Value := l.flatMap fltC
theorem fltCs_cons (x : Flt) (r : List Flt) : fltCs (x :: r) = fltC x ++ fltCs r := by simp [fltCs]
theorem fltCs_append (l m : List Flt) : fltCs (l ++ m) = fltCs l ++ fltCs m := by simp [fltCs]
theorem fltCs_length (l : List Flt) : (fltCs l).length = l.length * 5 := by
  unfold fltCs
  induction l with
  | nil => rfl
  | cons x r ih => simp [fltC] at *; omega
theorem fltCs_get : ∀ (l : List Flt) (i j : Nat), j < 5 → i < l.length → (fltCs l)[i * 5 + j]? = (fltC (l.getD i flt0))[j]?
  | [], i, j, _, h => absurd h (by simp)
  | x :: r, 0, j, hj, _ => by
    rw [fltCs_cons, List.getElem?_append_left (by simp [fltC]; omega)]
    simp
  | x :: r, i + 1, j, hj, h => by
    have e : (i + 1) * 5 + j - (fltC x).length = i * 5 + j := by simp [fltC]; omega
    rw [fltCs_cons, List.getElem?_append_right (by simp [fltC]; omega), e, fltCs_get r i j hj (by simpa using h)]
    simp
def Five (w : World) (g k : Nat) (x : Flt) : Prop := w.cell? ⟨g, k * 5, none⟩ = some (.int .i64 x.o) ∧ w.cell? ⟨g, k * 5 + 1, none⟩ = some (.int .i64 x.f) ∧ w.cell? ⟨g, k * 5 + 2, none⟩ = some (.int .i64 x.m) ∧ w.cell? ⟨g, k * 5 + 3, none⟩ = some (.int .i64 x.v) ∧ w.cell? ⟨g, k * 5 + 4, none⟩ = some (.int .i64 x.t)
theorem AtC.flt {w : World} {g : Nat} {l : List Flt} (h : AtC w g (fltCs l)) (k : Nat) (hk : k < l.length) (x : Flt) (hx : l.getD k flt0 = x) : Five w g k x := by
  subst hx
  have q := fun j (hj : j < 5) => fltCs_get l k j hj hk
  exact ⟨h.at _ ((q 0 (by decide)).trans rfl), h.at _ ((q 1 (by decide)).trans rfl), h.at _ ((q 2 (by decide)).trans rfl), h.at _ ((q 3 (by decide)).trans rfl), h.at _ ((q 4 (by decide)).trans rfl)⟩
theorem Five.later {w : World} {g k : Nat} {x : Flt} (h : Five w g k x) (hg : g < w.heap.size) :
    (∀ o, (w.alloc o).cell? ⟨g, k * 5, none⟩ = some (.int .i64 x.o)) ∧ (∀ o, (w.alloc o).cell? ⟨g, k * 5 + 1, none⟩ = some (.int .i64 x.f)) ∧ (∀ o, (w.alloc o).cell? ⟨g, k * 5 + 2, none⟩ = some (.int .i64 x.m)) ∧ (∀ o, (w.alloc o).cell? ⟨g, k * 5 + 3, none⟩ = some (.int .i64 x.v)) ∧ (∀ o, (w.alloc o).cell? ⟨g, k * 5 + 4, none⟩ = some (.int .i64 x.t)) := by
  obtain ⟨h0, h1, h2, h3, h4⟩ := h
  have q := fun o => (bcell (one_new2 w o)).1
  exact ⟨fun o => (q o g _ hg).trans h0, fun o => (q o g _ hg).trans h1, fun o => (q o g _ hg).trans h2, fun o => (q o g _ hg).trans h3, fun o => (q o g _ hg).trans h4⟩

/-! Configurations. -/
/-- a value is a configuration, its lists in memory -/
def CfgV (w : World) (v : Value) (c : Cfg) : Prop :=
  ∃ ac cc af cf, v = .agg #[.string c.s, .slice ac c.cs.length cc, .slice af c.fs.length cf, .int .i64 c.d] ∧ InX w ac c.cs.length (clsCs c.cs) ∧ InX w af c.fs.length (fltCs c.fs)
theorem CfgV.below {w w' : World} {v : Value} {c : Cfg} (h : CfgV w v c) (hb : Below w.heap.size w w') : CfgV w' v c := by
  obtain ⟨ac, cc, af, cf, hv, hc, hf⟩ := h
  exact ⟨ac, cc, af, cf, hv, hc.below hb, hf.below hb⟩
end Go.Proofs.YthgbhnedfdnfpaaDoor

/- Worlds that differ from one only behind it: what a region that draws its order keeps. -/
namespace Go.Proofs.YthgbhnedfdnfpaaDoor
set_option maxRecDepth 100000
open Go.RowKit
set_option linter.unusedVariables false

/-- only what lies behind the box was written -/
def BX (wb w' : World) : Prop := Below wb.heap.size wb w'
theorem BX.drew0 (wb : World) : BX wb wb.drew := below_drewN (Below.refl _ _) 1
theorem undrew {X w1 : World} (b : Below X.drew.heap.size X.drew w1) : Below X.heap.size X w1 := (show Below X.heap.size X X.drew from below_drewN (Below.refl _ _) 1).trans b
theorem BX.refl (wb : World) : BX wb wb := Below.refl _ _
theorem BX.alloc {wb w' : World} (h : BX wb w') (o : Obj) : BX wb (w'.alloc o) := Below.alloc h h.size o
theorem BX.call {wb w' w1 : World} (h : BX wb w') (b : Below w'.heap.size w' w1) : BX wb w1 := Below.trans h (b.mono h.size)
theorem BX.call' {wb w' w1 : World} (b : Below w'.heap.size w' w1) (h : BX wb w') : BX wb w1 := h.call b
theorem BX.set {wb w' : World} {b o : Nat} (h : BX wb w') (hb : wb.heap.size ≤ b) (v : Value) : BX wb (w'.setCell ⟨b, o, none⟩ v) := Below.setCell h hb v
theorem BX.size {wb w' : World} (h : BX wb w') : wb.heap.size ≤ w'.heap.size := Below.size h
theorem BX.size1 {wb w' : World} (h : BX wb w') : wb.heap.size ≤ w'.heap.size + 1 := Nat.le_succ_of_le (Below.size h)
theorem BX.drew {wb w' : World} (h : BX wb w') : BX wb w'.drew := below_drewN h 1
/-- An operation of a region that draws its order, taken first: its slot's number written out. -/
theorem held_take {P : Program} {ops : Array Oper} {Q : Exit → Act → World → Prop} {md : Region.Mode} {S : World → Prop} {i d : Nat} {oi : Oper} {v : Value} {fuel : Nat} {listed : Array Bool} {a : Act} {w : World} (hi : ops[i]? = Option.some oi) (hd : oi.dst = Option.some d)
    (hs : Region.noSelect ops = true) (hf : Region.free md ops listed i = true) (hr : (Region.ready md ops listed).contains i = true)
    (hQ : ∀ c a w, Q (.panic c) (a.put oi.dst v) w → Q (.panic c) a w) (hw : Region.wanted oi (yielded ops a.tmps) = true) (hv : ∀ w, S w → (execOp a.eval oi).run P w = .ok (.value v) w) (hS : S w)
    (h : wpAnyH P md ops Q S fuel (listed.setIfInBounds i true) (a.put (Option.some d) v) w) : wpAnyH P md ops Q S (fuel + 1) listed a w :=
  wpAnyH_take hi hs hf hr hQ (.inl ⟨hw, hv⟩) hS (by rw [hd]; exact h)
/-- The same of one that is not wanted. -/
theorem held_skip {P : Program} {ops : Array Oper} {Q : Exit → Act → World → Prop} {md : Region.Mode} {S : World → Prop} {i d : Nat} {oi : Oper} {fuel : Nat} {listed : Array Bool} {a : Act} {w : World} (hi : ops[i]? = Option.some oi) (hd : oi.dst = Option.some d)
    (hs : Region.noSelect ops = true) (hf : Region.free md ops listed i = true) (hr : (Region.ready md ops listed).contains i = true)
    (hQ : ∀ c a w, Q (.panic c) (a.put oi.dst undef) w → Q (.panic c) a w) (hw : Region.wanted oi (yielded ops a.tmps) = false) (hS : S w)
    (h : wpAnyH P md ops Q S fuel (listed.setIfInBounds i true) (a.put (Option.some d) undef) w) : wpAnyH P md ops Q S (fuel + 1) listed a w :=
  wpAnyH_take hi hs hf hr hQ (.inr ⟨hw, rfl⟩) hS (by rw [hd]; exact h)
end Go.Proofs.YthgbhnedfdnfpaaDoor

/- Rows of integers of the call's own: marked, held, compared; only one block written. -/
namespace Go.Proofs.YthgbhnedfdnfpaaDoor
set_option maxRecDepth 100000
open Go.RowKit
set_option linter.unusedVariables false

def nv (ks : List Nat) : List Value := ks.map (fun k : Nat => Value.int .i64 (k : Int))
theorem nv_length (ks : List Nat) : (nv ks).length = ks.length := by simp [nv]
theorem nv_snoc (ks : List Nat) (k : Nat) : nv (ks ++ [k]) = nv ks ++ [.int .i64 (k : Int)] := by simp [nv]
theorem nv_get (ks : List Nat) (j : Nat) (h : j < ks.length) : (nv ks)[j]? = some (.int .i64 ((ks.getD j 0 : Nat) : Int)) := by simp [nv, h]
theorem AtC.nat {w : World} {g : Nat} {ks : List Nat} (h : AtC w g (nv ks)) (k : Nat) (hk : k < ks.length) (j : Nat) (hj : ks.getD k 0 = j) : w.cell? ⟨g, k, none⟩ = some (.int .i64 (j : Int)) := by
  subst hj
  exact h.at k (nv_get ks k hk)
def EqNRel (w : World) (n : Nat) (i : Value) (wr : World) : Prop := ∃ k : Nat, k ≤ n ∧ i = .int .i64 k ∧ Below w.heap.size w wr
/-- only one block was written -/
def Onl (w w' : World) (p : Option Nat) : Prop := ∀ g, p ≠ some g → w'.heap[g]? = w.heap[g]?
theorem onl_set {w w1 : World} {g : Nat} (h : Onl w w1 (some g)) (j : Nat) (v : Value) : Onl w (w1.setCell ⟨g, j, none⟩ v) (some g) := fun g' hg => by
  rw [Go.Deep.blk_setCell_other _ _ _ _ (fun q => hg (by rw [q]))]; exact h g' hg
def SaysMk (w : World) (B : Nat) (v : Value) (r : Int) (e : Ending) (w' : World) : Prop := e = .returned (.int .i64 r) ∧ Below B w w' ∧ Onl w w' v.ownBlock
theorem own_onl {w w' : World} {B n z : Nat} {T : TypeId} {v : Value} {xs : List Value} {p : Option Nat} (h : w.ownsRow B T z v n xs) (ho : Onl w w' p) (hp : ∀ g, v.ownBlock = some g → p ≠ some g) : w'.ownsRow B T z v n xs := by
  obtain ⟨h1, h2⟩ := h
  refine ⟨h1, ?_⟩
  rcases h2 with h2 | ⟨g', cap', cur, a, b, c, d⟩
  · exact .inl h2
  · exact .inr ⟨g', cap', cur, a, b, by rw [ho g' (hp g' (by rw [a]; rfl))]; exact c, d⟩
theorem own_heap {w w' : World} {B n z : Nat} {T : TypeId} {v : Value} {xs : List Value} (h : w.ownsRow B T z v n xs) (ho : ∀ g, v.ownBlock = some g → w'.heap[g]? = w.heap[g]?) : w'.ownsRow B T z v n xs := by
  obtain ⟨h1, h2⟩ := h
  refine ⟨h1, ?_⟩
  rcases h2 with h2 | ⟨g', cap', cur, a, b, c, d⟩
  · exact .inl h2
  · exact .inr ⟨g', cap', cur, a, b, by rw [ho g' (by rw [a]; rfl)]; exact c, d⟩
theorem cell_heap {w w' : World} {g : Nat} (h : w'.heap[g]? = w.heap[g]?) (o : Nat) : w'.cell? ⟨g, o, none⟩ = w.cell? ⟨g, o, none⟩ := by simp only [World.cell?, h]
theorem heap_alloc_lt (w : World) (o : Obj) (g : Nat) (h : g < w.heap.size) : (w.alloc o).heap[g]? = w.heap[g]? := (one_new2 w o).block g h
def mkI (n : Nat) : List Value := (List.range n).map (fun j : Nat => Value.int .i64 (1 + (j : Int)))
theorem mkI_length (n : Nat) : (mkI n).length = n := by simp [mkI]
theorem mkI_get (n j : Nat) (h : j < n) : (mkI n)[j]? = some (Value.int .i64 (1 + (j : Int))) := by simp [mkI, h]
end Go.Proofs.YthgbhnedfdnfpaaDoor
