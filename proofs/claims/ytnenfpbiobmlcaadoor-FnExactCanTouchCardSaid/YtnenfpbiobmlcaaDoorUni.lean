/- The table of units: what its cells hold; facts out of the rows' conditions; a world for the witness with the tables in place. -/
import Derived.Test.YtnenfpbiobmlcaaDoorDig
import Derived.ChangeSame
import Derived.Stop.LaidErr
namespace Go.Proofs.YtnenfpbiobmlcaaDoor
set_option maxRecDepth 100000
open Go.RowKit

/-- the table of units is in its place -/
def Units (w : World) : Prop := w.cell? ⟨3, 0, none⟩ = some (.string ⟨#[109]⟩) ∧ w.cell? ⟨3, 1, none⟩ = some (.int .i64 1000000) ∧
  w.cell? ⟨3, 2, none⟩ = some (.string ⟨#[107]⟩) ∧ w.cell? ⟨3, 3, none⟩ = some (.int .i64 1000)
theorem Units.below {w w' : World} (h : Units w) (hb : Below w.heap.size w w') : Units w' :=
  ⟨(hb.cell (p := ⟨3, 0, none⟩) (World.block_lt_of_cell? w _ h.1)).trans h.1, (hb.cell (p := ⟨3, 1, none⟩) (World.block_lt_of_cell? w _ h.2.1)).trans h.2.1,
   (hb.cell (p := ⟨3, 2, none⟩) (World.block_lt_of_cell? w _ h.2.2.1)).trans h.2.2.1, (hb.cell (p := ⟨3, 3, none⟩) (World.block_lt_of_cell? w _ h.2.2.2)).trans h.2.2.2⟩
theorem Units.drewN {w : World} (h : Units w) (q : Nat) : Units (w.drewN q) := h
theorem Units.pos {w : World} (h : Units w) : 3 < w.heap.size := World.block_lt_of_cell? w _ h.1

theorem gUni : Tryd.prog.globalNamed "loop.example/g00838/impl.units" = some 3 := by kernel_rfl
theorem tUni : (Tryd.prog.globals[3]?).map (·.type) = some 112 := by kernel_rfl
theorem cUnis : Tryd.prog.cellsOf 112 = 4 := by kernel_rfl
theorem cUni : Tryd.prog.cellsOf 111 = 2 := by kernel_rfl
theorem cInt : Tryd.prog.cellsOf 3 = 1 := by kernel_rfl
theorem list_four {α : Type} {l : List α} (h : l.length = 4) : ∃ a b c d, l = [a, b, c, d] := by
  match l, h with
  | [a, b, c, d], _ => exact ⟨a, b, c, d, rfl⟩
theorem cells_unit {H : Type} {enc : TypeId × Value → H} {w : World} {base : Nat} {sp : Nat → Bool} {held : Bool} {fuel : Nat} {c0 c1 : Value} {s0 : List UInt8} {n0 : Int} {p : List MemPlace}
    (h : DataW.trod enc Tryd.prog w base sp held fuel 111 [c0, c1] = some (.agg [.lit (.string s0), .lit (.int .i64 n0)], p)) : c0 = .string ⟨s0.toArray⟩ ∧ c1 = .int .i64 n0 := by
  obtain ⟨y0, y1, n, e0, _, g0, g1⟩ := Go.ChangeShapes.trod_struct2 Tryd.underlying111 h
  have g0' : DataW.trod enc Tryd.prog w base sp held n 9 [c0] = some y0 := by simpa [cStr] using g0
  have g1' : DataW.trod enc Tryd.prog w base sp held n 3 [c1] = some y1 := by simpa [cInt] using g1
  obtain ⟨b0, q0, f0, _⟩ := DataW.trod_string Tryd.underlying9 g0'
  obtain ⟨b1, q1, f1, _⟩ := DataW.trod_int Tryd.underlying3 g1'
  simp at q0 q1
  subst q0 q1
  rw [f0, f1] at e0
  simp at e0
  obtain ⟨⟨r0, r1⟩, _⟩ := e0
  rw [r0, r1]
  exact ⟨rfl, rfl⟩
theorem cells_units {H : Type} {enc : TypeId × Value → H} {w : World} {base : Nat} {sp : Nat → Bool} {held : Bool} {fuel : Nat} {cs : List Value} {s0 s1 : List UInt8} {n0 n1 : Int} {p : List MemPlace}
    (h : DataW.trod enc Tryd.prog w base sp held fuel 112 cs = some (.agg [.agg [.lit (.string s0), .lit (.int .i64 n0)], .agg [.lit (.string s1), .lit (.int .i64 n1)]], p)) :
    cs = [.string ⟨s0.toArray⟩, .int .i64 n0, .string ⟨s1.toArray⟩, .int .i64 n1] := by
  obtain ⟨xs, m1, rfl, hx1, hlen, hn3, hel⟩ := DataW.trod_array Tryd.underlying112 h
  simp only [Prod.mk.injEq, DataW.agg.injEq] at hx1
  rw [cUni] at hel
  rw [cUnis] at hlen
  have h0 := hel 0 (by decide)
  have h1 := hel 1 (by decide)
  obtain ⟨c0, c1, c2, c3, rfl⟩ := list_four hlen
  match xs, hn3, hx1, h0, h1 with
  | [x0, x1], _, hx1, h0, h1 =>
    simp only [List.map_cons, List.map_nil, List.cons.injEq, and_true] at hx1
    obtain ⟨⟨r0, r1⟩, _⟩ := hx1
    obtain ⟨u0, v0⟩ := x0
    obtain ⟨u1, v1⟩ := x1
    simp only at r0 r1
    subst r0 r1
    have h0' : DataW.trod enc Tryd.prog w base sp held m1 111 [c0, c1] = some (.agg [.lit (.string s0), .lit (.int .i64 n0)], v0) := by simpa using h0
    have h1' : DataW.trod enc Tryd.prog w base sp held m1 111 [c2, c3] = some (.agg [.lit (.string s1), .lit (.int .i64 n1)], v1) := by simpa using h1
    obtain ⟨rfl, rfl⟩ := cells_unit h0'
    obtain ⟨rfl, rfl⟩ := cells_unit h1'
    rfl
theorem units_of_head {W : World} {r : List (String × DataW Unit)} (h : laidMet Tryd.prog (("loop.example/g00838/impl.units", Rows.laid_loop_example_g00838_impl_units) :: r) W) : Units W := by
  obtain ⟨ps, ⟨g', t', cs, fuel, p, q, hg', ht', hvar, hd, _, _⟩, _⟩ := h
  obtain rfl := Option.some.inj (gUni.symm.trans hg')
  obtain rfl := Option.some.inj (tUni.symm.trans ht')
  have hcs := cells_units hd
  have hc : ∀ i, W.cell? ⟨3, i, none⟩ = cs.toList[i]? := fun i => by rw [World.var?_cell gUni hvar i]; simp
  rw [hcs] at hc
  exact ⟨by rw [hc 0]; rfl, by rw [hc 1]; rfl, by rw [hc 2]; rfl, by rw [hc 3]; rfl⟩
theorem dig_of_head {W : World} {r : List (String × DataW Unit)} (h : laidMet Tryd.prog (("loop.example/g00838/impl.digits", Rows.laid_loop_example_g00838_impl_digits) :: r) W) : Dig W := by
  obtain ⟨ps, ⟨g', t', cs, fuel, p, q, hg', ht', hvar, hd, _, _⟩, _⟩ := h
  obtain rfl := Option.some.inj (gDig.symm.trans hg')
  obtain rfl := Option.some.inj (tDig.symm.trans ht')
  have hcs := cells_two hd
  have hc : ∀ i, W.cell? ⟨2, i, none⟩ = cs.toList[i]? := fun i => by rw [World.var?_cell gDig hvar i]; simp
  rw [hcs] at hc
  exact ⟨by rw [hc 0]; rfl, by rw [hc 1]; rfl⟩

end Go.Proofs.YtnenfpbiobmlcaaDoor
