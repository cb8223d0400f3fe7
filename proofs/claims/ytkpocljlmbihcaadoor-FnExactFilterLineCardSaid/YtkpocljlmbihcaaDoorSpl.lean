/- The table of units: what its cells hold; facts out of the rows' conditions; a world for the witness with the tables in place. Units: contracts of splitUnit. -/
import Derived.Test.YtkpocljlmbihcaaDoorDig
import Derived.ChangeSame
import Derived.Stop.LaidErr
import Derived.Test.YtkpocljlmbihcaaDoorRdl
import Derived.Deep.QuietTactic
import Derived.BigQuiet
namespace Go.Proofs.YtkpocljlmbihcaaDoor
set_option maxRecDepth 100000
open Go.RowKit

/-- the table of units is in its place -/
def Units (w : World) : Prop := w.cell? ⟨1, 0, none⟩ = some (.string ⟨#[109]⟩) ∧ w.cell? ⟨1, 1, none⟩ = some (.int .i64 1000000) ∧
  w.cell? ⟨1, 2, none⟩ = some (.string ⟨#[107]⟩) ∧ w.cell? ⟨1, 3, none⟩ = some (.int .i64 1000)
theorem Units.below {w w' : World} (h : Units w) (hb : Below w.heap.size w w') : Units w' :=
  ⟨(hb.cell (p := ⟨1, 0, none⟩) (World.block_lt_of_cell? w _ h.1)).trans h.1, (hb.cell (p := ⟨1, 1, none⟩) (World.block_lt_of_cell? w _ h.2.1)).trans h.2.1,
   (hb.cell (p := ⟨1, 2, none⟩) (World.block_lt_of_cell? w _ h.2.2.1)).trans h.2.2.1, (hb.cell (p := ⟨1, 3, none⟩) (World.block_lt_of_cell? w _ h.2.2.2)).trans h.2.2.2⟩
theorem Units.drewN {w : World} (h : Units w) (q : Nat) : Units (w.drewN q) := h
theorem Units.pos {w : World} (h : Units w) : 1 < w.heap.size := World.block_lt_of_cell? w _ h.1

theorem gUni : Tryd.prog.globalNamed "loop.example/g00838/impl.units" = some 1 := by kernel_rfl
theorem tUni : (Tryd.prog.globals[1]?).map (·.type) = some 104 := by kernel_rfl
theorem cUnis : Tryd.prog.cellsOf 104 = 4 := by kernel_rfl
theorem cUni : Tryd.prog.cellsOf 103 = 2 := by kernel_rfl
theorem cInt : Tryd.prog.cellsOf 3 = 1 := by kernel_rfl
theorem list_four {α : Type} {l : List α} (h : l.length = 4) : ∃ a b c d, l = [a, b, c, d] := by
  match l, h with
  | [a, b, c, d], _ => exact ⟨a, b, c, d, rfl⟩
theorem cells_unit {H : Type} {enc : TypeId × Value → H} {w : World} {base : Nat} {sp : Nat → Bool} {held : Bool} {fuel : Nat} {c0 c1 : Value} {s0 : List UInt8} {n0 : Int} {p : List MemPlace}
    (h : DataW.trod enc Tryd.prog w base sp held fuel 103 [c0, c1] = some (.agg [.lit (.string s0), .lit (.int .i64 n0)], p)) : c0 = .string ⟨s0.toArray⟩ ∧ c1 = .int .i64 n0 := by
  obtain ⟨y0, y1, n, e0, _, g0, g1⟩ := Go.ChangeShapes.trod_struct2 Tryd.underlying103 h
  have g0' : DataW.trod enc Tryd.prog w base sp held n 9 [c0] = some y0 := by simpa [cStr] using g0
  have g1' : DataW.trod enc Tryd.prog w base sp held n 3 [c1] = some y1 := by simpa [cInt] using g1
  obtain ⟨b0, q0, f0, _⟩ := DataW.trod_string Tryd.underlying9 g0'
  obtain ⟨b1, q1, f1, _⟩ := DataW.trod_int Tryd.underlying3 g1'
  simp at q0 q1
  subst q0 q1
  rw [f0, f1] at e0
  simp at e0
  obtain ⟨⟨r0, r1⟩, _⟩ := e0
  rw [r0, r1]
  exact ⟨rfl, rfl⟩
theorem cells_units {H : Type} {enc : TypeId × Value → H} {w : World} {base : Nat} {sp : Nat → Bool} {held : Bool} {fuel : Nat} {cs : List Value} {s0 s1 : List UInt8} {n0 n1 : Int} {p : List MemPlace}
    (h : DataW.trod enc Tryd.prog w base sp held fuel 104 cs = some (.agg [.agg [.lit (.string s0), .lit (.int .i64 n0)], .agg [.lit (.string s1), .lit (.int .i64 n1)]], p)) :
    cs = [.string ⟨s0.toArray⟩, .int .i64 n0, .string ⟨s1.toArray⟩, .int .i64 n1] := by
  obtain ⟨xs, m1, rfl, hx1, hlen, hn3, hel⟩ := DataW.trod_array Tryd.underlying104 h
  simp only [Prod.mk.injEq, DataW.agg.injEq] at hx1
  rw [cUni] at hel
  rw [cUnis] at hlen
  have h0 := hel 0 (by decide)
  have h1 := hel 1 (by decide)
  obtain ⟨c0, c1, c2, c3, rfl⟩ := list_four hlen
  match xs, hn3, hx1, h0, h1 with
  | [x0, x1], _, hx1, h0, h1 =>
    simp only [List.map_cons, List.map_nil, List.cons.injEq, and_true] at hx1
    obtain ⟨⟨r0, r1⟩, _⟩ := hx1
    obtain ⟨u0, v0⟩ := x0
    obtain ⟨u1, v1⟩ := x1
    simp only at r0 r1
    subst r0 r1
    have h0' : DataW.trod enc Tryd.prog w base sp held m1 103 [c0, c1] = some (.agg [.lit (.string s0), .lit (.int .i64 n0)], v0) := by simpa using h0
    have h1' : DataW.trod enc Tryd.prog w base sp held m1 103 [c2, c3] = some (.agg [.lit (.string s1), .lit (.int .i64 n1)], v1) := by simpa using h1
    obtain ⟨rfl, rfl⟩ := cells_unit h0'
    obtain ⟨rfl, rfl⟩ := cells_unit h1'
    rfl
theorem units_of_head {W : World} {r : List (String × DataW Unit)} (h : laidMet Tryd.prog (("loop.example/g00838/impl.units", Rows.laid_loop_example_g00838_impl_units) :: r) W) : Units W := by
  obtain ⟨ps, ⟨g', t', cs, fuel, p, q, hg', ht', hvar, hd, _, _⟩, _⟩ := h
  obtain rfl := Option.some.inj (gUni.symm.trans hg')
  obtain rfl := Option.some.inj (tUni.symm.trans ht')
  have hcs := cells_units hd
  have hc : ∀ i, W.cell? ⟨1, i, none⟩ = cs.toList[i]? := fun i => by rw [World.var?_cell gUni hvar i]; simp
  rw [hcs] at hc
  exact ⟨by rw [hc 0]; rfl, by rw [hc 1]; rfl, by rw [hc 2]; rfl, by rw [hc 3]; rfl⟩
theorem dig_of_head {W : World} {r : List (String × DataW Unit)} (h : laidMet Tryd.prog (("loop.example/g00838/impl.digits", Rows.laid_loop_example_g00838_impl_digits) :: r) W) : Dig W := by
  obtain ⟨ps, ⟨g', t', cs, fuel, p, q, hg', ht', hvar, hd, _, _⟩, _⟩ := h
  obtain rfl := Option.some.inj (gDig.symm.trans hg')
  obtain rfl := Option.some.inj (tDig.symm.trans ht')
  have hcs := cells_two hd
  have hc : ∀ i, W.cell? ⟨2, i, none⟩ = cs.toList[i]? := fun i => by rw [World.var?_cell gDig hvar i]; simp
  rw [hcs] at hc
  exact ⟨by rw [hc 0]; rfl, by rw [hc 1]; rfl⟩

/-- a world for the witness: the settled one, the tables in their places -/
noncomputable def laidWorld2 (os : Os) : World :=
  { laidWorld os with heap := ((((laidWorld os).heap.modify 1 fun
      | .cells _ t frozen => .cells #[.string ⟨#[109]⟩, .int .i64 1000000, .string ⟨#[107]⟩, .int .i64 1000] t frozen
      | o => o).modify 4 fun
      | .cells _ t frozen => .cells #[.int .u64 1, .int .u64 10, .int .u64 100, .int .u64 1000, .int .u64 10000, .int .u64 100000, .int .u64 1000000, .int .u64 10000000, .int .u64 100000000, .int .u64 1000000000, .int .u64 10000000000, .int .u64 100000000000, .int .u64 1000000000000, .int .u64 10000000000000, .int .u64 100000000000000, .int .u64 1000000000000000, .int .u64 10000000000000000, .int .u64 100000000000000000, .int .u64 1000000000000000000, .int .u64 10000000000000000000] t frozen
      | o => o).modify 6 fun
      | .cells _ t frozen => .cells #[.int .u8 0, .int .u8 1, .int .u8 28, .int .u8 2, .int .u8 29, .int .u8 14, .int .u8 24, .int .u8 3, .int .u8 30, .int .u8 22, .int .u8 20, .int .u8 15, .int .u8 25, .int .u8 17, .int .u8 4, .int .u8 8, .int .u8 31, .int .u8 27, .int .u8 13, .int .u8 23, .int .u8 21, .int .u8 19, .int .u8 16, .int .u8 7, .int .u8 26, .int .u8 12, .int .u8 18, .int .u8 6, .int .u8 11, .int .u8 5, .int .u8 10, .int .u8 9] t frozen
      | o => o).modify 7 fun
      | .cells _ t frozen => .cells #[.int .u8 0, .int .u8 1, .int .u8 56, .int .u8 2, .int .u8 57, .int .u8 49, .int .u8 28, .int .u8 3, .int .u8 61, .int .u8 58, .int .u8 42, .int .u8 50, .int .u8 38, .int .u8 29, .int .u8 17, .int .u8 4, .int .u8 62, .int .u8 47, .int .u8 59, .int .u8 36, .int .u8 45, .int .u8 43, .int .u8 51, .int .u8 22, .int .u8 53, .int .u8 39, .int .u8 33, .int .u8 30, .int .u8 24, .int .u8 18, .int .u8 12, .int .u8 5, .int .u8 63, .int .u8 55, .int .u8 48, .int .u8 27, .int .u8 60, .int .u8 41, .int .u8 37, .int .u8 16, .int .u8 46, .int .u8 35, .int .u8 44, .int .u8 21, .int .u8 52, .int .u8 32, .int .u8 23, .int .u8 11, .int .u8 54, .int .u8 26, .int .u8 40, .int .u8 15, .int .u8 34, .int .u8 20, .int .u8 31, .int .u8 10, .int .u8 25, .int .u8 14, .int .u8 19, .int .u8 9, .int .u8 13, .int .u8 8, .int .u8 7, .int .u8 6] t frozen
      | o => o }
end Go.Proofs.YtkpocljlmbihcaaDoor

namespace Go.Proofs.YtkpocljlmbihcaaDoor
open Go.RowKit

/-- what stands before the last byte -/
def initL (l : List UInt8) : List UInt8 := l.take (l.length - 1)
theorem trim_yes {l : List UInt8} {c : UInt8} (h : Lib.hasSuffix l [c] = true) : Lib.trimSuffix l [c] = initL l := by unfold Lib.trimSuffix initL; rw [if_pos h]; rfl
/-- a text and a number -/
def SaysUnit (w : World) (u : ByteArray) (f : Int) (e : Ending) (w' : World) : Prop := e = .returned (.tuple #[.string u, .int .i64 f]) ∧ Below w.heap.size w w'
theorem unit_cells (w w1 : World) (b : ByteArray) (n : Int) (ty : TypeId) (h : w1 = w.alloc (.cells #[.string b, .int .i64 n] ty)) :
    w1.cell? ⟨w.heap.size, 0, none⟩ = some (.string b) ∧ w1.cell? ⟨w.heap.size, 1, none⟩ = some (.int .i64 n) := by
  subst h
  constructor <;> rw [World.cell?_alloc_at _ _ _ _ rfl] <;> rfl

theorem unit_below (w w1 : World) (b : ByteArray) (n : Int) (ty : TypeId) (h : w1 = w.alloc (.cells #[.string b, .int .i64 n] ty)) : Below w.heap.size w w1 := by
  subst h
  exact (Below.refl _ _).alloc (Nat.le_refl _) _
theorem unit_at0 (w : World) : (Instr.index 104 (.agg #[.string ⟨#[109]⟩, .int .i64 1000000, .string ⟨#[107]⟩, .int .i64 1000]) (.int .i64 0)).run Tryd.prog w = .ok (.agg #[.string ⟨#[109]⟩, .int .i64 1000000]) w := by kernel_rfl
theorem unit_at1 (w : World) : (Instr.index 104 (.agg #[.string ⟨#[109]⟩, .int .i64 1000000, .string ⟨#[107]⟩, .int .i64 1000]) (.int .i64 1)).run Tryd.prog w = .ok (.agg #[.string ⟨#[107]⟩, .int .i64 1000]) w := by kernel_rfl

end Go.Proofs.YtkpocljlmbihcaaDoor
