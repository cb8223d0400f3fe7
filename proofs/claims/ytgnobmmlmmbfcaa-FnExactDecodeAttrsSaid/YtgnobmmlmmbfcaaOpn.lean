/- Rows of cells in memory; arguments that are structs of integers or slices of such: opened. -/
import Derived.Test.YtgnobmmlmmbfcaaKwk
import Derived.Deep.OwnRows
import Derived.Lib.SmallJoins
import Derived.Deep.Slices
namespace Go.Proofs.Ytgnobmmlmmbfcaa
open Go.RowKit
set_option linter.unusedVariables false

def SaysT2 (w : World) (r1 r2 : Value) (e : Ending) (w' : World) : Prop := e = .returned (.tuple #[r1, r2]) ∧ Below w.heap.size w w'
theorem ret_ib {a b : Int} {p q : Bool} (h : a = b) (h' : p = q) : Ending.returned (.tuple #[.int .i64 a, .bool p]) = .returned (.tuple #[.int .i64 b, .bool q]) := by rw [h, h']
theorem ret_bb {a b : Bool} {p q : Bool} (h : a = b) (h' : p = q) : Ending.returned (.tuple #[.bool a, .bool p]) = .returned (.tuple #[.bool b, .bool q]) := by rw [h, h']
/-! Rows of cells. -/
def AtC (w : World) (g : Nat) (xs : List Value) : Prop := ∀ j, j < xs.length → w.cell? ⟨g, j, none⟩ = xs[j]?
theorem AtC.below {w w' : World} {g B : Nat} {xs : List Value} (h : AtC w g xs) (hb : Below B w w') (hg : g < B) : AtC w' g xs := fun j hj => (hb.cell (p := ⟨g, j, none⟩) hg).trans (h j hj)
theorem AtC.at {w : World} {g : Nat} {xs : List Value} (h : AtC w g xs) (j : Nat) {u : Value} (hu : xs[j]? = some u) : w.cell? ⟨g, j, none⟩ = some u := by
  rw [h j (by have := List.getElem?_eq_some_iff.1 hu; exact this.1)]; exact hu
/-- a slice's address leads to a row -/
def InX (w : World) (ad : Option Addr) (n : Nat) (xs : List Value) : Prop := 0 < n → ∃ g, ad = some ⟨g, 0, none⟩ ∧ AtC w g xs ∧ g < w.heap.size
theorem InX.below {w w' : World} {ad : Option Addr} {n : Nat} {xs : List Value} (h : InX w ad n xs) (hb : Below w.heap.size w w') : InX w' ad n xs := fun hn => by
  obtain ⟨g, ha, ht, hg⟩ := h hn
  exact ⟨g, ha, ht.below hb hg, Nat.lt_of_lt_of_le hg hb.size⟩
/-- a row of the call's own, or nil -/
theorem own_below {w w' : World} {B B' n z : Nat} {T : TypeId} {v : Value} {xs : List Value} (h : w.ownsRow B T z v n xs) (hb : Below B' w w') (hB : ∀ g, v.ownBlock = some g → g < B') : w'.ownsRow B T z v n xs := by
  have h0 := h
  obtain ⟨h1, h2⟩ := h
  refine ⟨h1, ?_⟩
  rcases h2 with h2 | ⟨g, cap, cur, a, b, c, d⟩
  · exact .inl h2
  · exact .inr ⟨g, cap, cur, a, b, by rw [hb.block g (hB g (by rw [a]; rfl))]; exact c, d⟩
theorem own_low {w w' : World} {B B' n z : Nat} {T : TypeId} {v : Value} {xs : List Value} (h : w.ownsRow B T z v n xs) (hb : Below B' w w') (hB : w.heap.size ≤ B') : w'.ownsRow B T z v n xs :=
  own_below h hb (fun g hg => Nat.lt_of_lt_of_le (World.ownsRow.lt h g hg).2 hB)
theorem own_base {w : World} {B B' n z : Nat} {T : TypeId} {v : Value} {xs : List Value} (h : w.ownsRow B T z v n xs) (hB : B' ≤ B) : w.ownsRow B' T z v n xs := by
  obtain ⟨h1, h2⟩ := h
  refine ⟨h1, ?_⟩
  rcases h2 with h2 | ⟨g', cap', cur, a, b, c, d⟩
  · exact .inl h2
  · exact .inr ⟨g', cap', cur, a, Nat.le_trans hB b, c, d⟩
theorem own_set {w : World} {B n z : Nat} {T : TypeId} {v : Value} {xs : List Value} (h : w.ownsRow B T z v n xs) {p : Addr} (hp : p.block < B) (u : Value) : (w.setCell p u).ownsRow B T z v n xs := by
  obtain ⟨h1, h2⟩ := h
  refine ⟨h1, ?_⟩
  rcases h2 with h2 | ⟨g', cap', cur, a, b, c, d⟩
  · exact .inl h2
  · exact .inr ⟨g', cap', cur, a, b, by rw [Go.Deep.blk_setCell_other _ _ _ _ (by omega)]; exact c, d⟩
theorem own_in {w : World} {B n z : Nat} {T : TypeId} {v : Value} {xs : List Value} (h : w.ownsRow B T z v n xs) : ∃ ad c, v = .slice ad n c ∧ InX w ad n xs := by
  have h0 := h
  rcases h.2 with ⟨hv, hn⟩ | ⟨g, cap, cur, hv, _⟩
  · subst hn; exact ⟨none, 0, hv, fun h => absurd h (by omega)⟩
  · refine ⟨_, _, hv, fun _ => ⟨g, rfl, fun j hj => ?_, (World.ownsRow.lt h0 g (by rw [hv]; rfl)).2⟩⟩
    subst hv
    exact World.ownsRow.cellAt h0 j (by rw [← h0.1]; exact hj)

theorem one_int (w : World) (v : Value) (t : TypeId) : ∀ j u, [v][j]? = some u → (w.alloc (.cells #[v] t)).cell? ((⟨w.heap.size, 0, none⟩ : Addr).add j) = some u := by
  intro j u hu
  match j, hu with
  | 0, hu => simp at hu; subst hu; simp [Addr.add]
theorem own_inx {w : World} {B n z g c : Nat} {T : TypeId} {xs : List Value} (h : w.ownsRow B T z (.slice (some ⟨g, 0, none⟩) n c) n xs) : InX w (some ⟨g, 0, none⟩) n xs := by
  obtain ⟨ad, c', e, hi⟩ := own_in h
  cases e
  exact hi
/-- a row of cells from a place on -/
def OffC (w : World) (b off : Nat) (xs : List Value) : Prop := ∀ j, j < xs.length → w.cell? ⟨b, off + j, none⟩ = xs[j]?
/-- an argument's slice leads to a row -/
def ArgX (w : World) (ad : Option Addr) (n : Nat) (xs : List Value) : Prop := 0 < n → ∃ b off, ad = some ⟨b, off, none⟩ ∧ OffC w b off xs ∧ b < w.heap.size
theorem OffC.below {w w' : World} {b off B : Nat} {xs : List Value} (h : OffC w b off xs) (hb : Below B w w') (hg : b < B) : OffC w' b off xs := fun j hj => (hb.cell (p := ⟨b, off + j, none⟩) hg).trans (h j hj)
theorem ArgX.below {w w' : World} {ad : Option Addr} {n : Nat} {xs : List Value} (h : ArgX w ad n xs) (hb : Below w.heap.size w w') : ArgX w' ad n xs := fun hn => by
  obtain ⟨b, off, ha, ht, hg⟩ := h hn
  exact ⟨b, off, ha, ht.below hb hg, Nat.lt_of_lt_of_le hg hb.size⟩
theorem OffC.at {w : World} {b off : Nat} {xs : List Value} (h : OffC w b off xs) (j : Nat) {u : Value} (hu : xs[j]? = some u) : w.cell? ⟨b, off + j, none⟩ = some u := by
  rw [h j (by have := List.getElem?_eq_some_iff.1 hu; exact this.1)]; exact hu
/-- a row of the call's own, cell by cell -/
theorem own_cell {w : World} {B g n c z : Nat} {T : TypeId} {xs : List Value} (h : w.ownsRow B T z (.slice (some ⟨g, 0, none⟩) n c) n xs) (j : Nat) (hj : j < n * z) : ∃ u, w.cell? ⟨g, j, none⟩ = some u :=
  ⟨xs[j]'(by rw [h.1]; exact hj), by rw [World.ownsRow.cellAt h j hj]; exact List.getElem?_eq_getElem _⟩
theorem own_store {w : World} {B g n c z : Nat} {T : TypeId} {xs : List Value} (h : w.ownsRow B T z (.slice (some ⟨g, 0, none⟩) n c) n xs) (j : Nat) (v : Value) : (w.setCell ⟨g, j, none⟩ v).ownsRow B T z (.slice (some ⟨g, 0, none⟩) n c) n (xs.set j v) := (World.ownsRow.stored h j v).1
/-- the first cells are there -/
def GotX (ys xs : List Value) (m : Nat) : Prop := ∀ j, j < m → xs[j]? = ys[j]?
theorem got_all {ys xs : List Value} (h : GotX ys xs ys.length) (hl : xs.length = ys.length) : xs = ys := by
  apply List.ext_getElem?
  intro m
  by_cases hm : m < ys.length
  · exact h m hm
  · rw [List.getElem?_eq_none (by omega), List.getElem?_eq_none (by omega)]
/-- what is left of a measure -/
def lessN (r : Int) (n : Nat) : Int := if r - n < 0 then -1 else r - n
theorem lessN_neg {r : Int} {n : Nat} (h : r - n < 0) : lessN r n = -1 := if_pos h
theorem lessN_pos {r : Int} {n : Nat} (h : ¬ r - n < 0) : lessN r n = r - n := if_neg h
open Go.Joins Go.ChangeShapes Go.WideShapes Go.Deep
section
variable {H : Type} {enc : TypeId × Value → H} {w : World} {base : Nat} {spare : Nat → Bool} {held : Bool}
/-- a struct of integers -/
theorem open_ints_struct {t : TypeId} {fs : Array Field} {fuel : Nat} {cs : List Value} {x : DataW H × List MemPlace} (ht : Try.prog.underlying t = some (.struct fs)) (hf : ∀ i, i < fs.size → ∃ f, fs[i]? = some f ∧ f.type = 3 ∧ f.offset = i)
    (h : DataW.trod enc Try.prog w base spare held fuel t cs = some x) : ∃ f : Nat → Int, ∀ j, j < fs.size → cs[j]? = some (.int .i64 (f j)) := by
  obtain ⟨xs, n, _, _, hl, hlen, hg⟩ := DataW.trod_struct ht h
  have each : ∀ j : Nat, ∃ y : Int, j < fs.size → cs[j]? = some (.int .i64 y) := by
    intro j
    by_cases hj : j < fs.size
    · obtain ⟨f, hfi, hty, hof⟩ := hf j hj
      have q := hg j f hfi
      rw [hty, hof, show Try.prog.cellsOf 3 = 1 by kernel_rfl, List.getElem?_eq_getElem (show j < xs.length by omega)] at q
      obtain ⟨k, e0, _, _⟩ := DataW.trod_int (P := Try.prog) (t := 3) Try.underlying3 q
      refine ⟨k, fun _ => ?_⟩
      have := congrArg (fun l => l[0]?) e0
      simpa [List.getElem?_take, List.getElem?_drop] using this
    · exact ⟨0, fun h => absurd h hj⟩
  obtain ⟨f, hf⟩ := Classical.axiomOfChoice each
  exact ⟨f, hf⟩
/-- a slice of structs of integers -/
theorem open_rows {z : Nat} {tS tE : TypeId} {fs : Array Field} (hu : Try.prog.underlying tS = some (.slice tE)) (hC : Try.prog.cellsOf tE = z) (hz : fs.size = z) (h0 : 0 < z) (ht : Try.prog.underlying tE = some (.struct fs)) (hf : ∀ i, i < fs.size → ∃ f, fs[i]? = some f ∧ f.type = 3 ∧ f.offset = i)
    {fuel : Nat} {cs : List Value} {x : DataW H × List MemPlace} (h : DataW.trod enc Try.prog w base spare held fuel tS cs = some x) :
    ∃ (a : Option Addr) (len cap : Nat) (F : Nat → Nat → Int), cs = [.slice a len cap] ∧ len ≤ maxLen ∧
      (0 < len → ∃ b off, a = some ⟨b, off, none⟩ ∧ (∀ i j, i < len → j < z → w.cell? ⟨b, off + (i * z + j), none⟩ = some (.int .i64 (F i j))) ∧ b < w.heap.size) := by
  rcases open_slice hu h with ⟨h0, _⟩ | ⟨a, len, cap, m, n, D, Pl, hcs, hb, hl, hm, hmm, hx, hi⟩
  · exact ⟨none, 0, 0, fun _ _ => 0, h0, Nat.zero_le _, fun h => absurd h (by omega)⟩
  · have hlm : len ≤ m := by rw [hmm]; split <;> omega
    have each : ∀ i : Nat, ∃ y : Nat → Int, i < len → ∀ j, j < z → w.cell? (a.add (i * z + j)) = some (.int .i64 (y j)) := by
      intro i
      by_cases hil : i < len
      · obtain ⟨cs', hc, hT⟩ := hi i (by omega)
        rw [hC] at hc
        obtain ⟨_, hcl, hat⟩ := World.cells?_some hc
        obtain ⟨f, hfj⟩ := open_ints_struct ht hf hT
        refine ⟨f, fun _ j hj => ?_⟩
        rw [← add_add, hat j hj]
        exact hfj j (by omega)
      · exact ⟨fun _ => 0, fun h => absurd h hil⟩
    obtain ⟨F, hF⟩ := Classical.axiomOfChoice each
    refine ⟨some a, len, cap, F, hcs, Nat.le_trans hl hm, fun hn => ?_⟩
    obtain ⟨b, off, spot⟩ := a
    have h00 := hF 0 hn 0 h0
    have hspot : spot = none := World.cell?_spot (show w.cell? ⟨b, off, spot⟩ = some (.int .i64 (F 0 0)) by rw [Nat.zero_mul] at h00; exact h00)
    subst hspot
    refine ⟨b, off, rfl, fun i j hi' hj => ?_, ?_⟩
    · rw [← add_plain]; exact hF i hi' j hj
    · exact World.block_lt_of_cell? w ⟨b, off + (0 * z + 0), none⟩ (by rw [← add_plain]; exact h00)
end
end Go.Proofs.Ytgnobmmlmmbfcaa
