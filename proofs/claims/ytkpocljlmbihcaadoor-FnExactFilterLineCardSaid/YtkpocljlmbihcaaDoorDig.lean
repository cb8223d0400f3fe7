/- The table of digits: what its cells hold, what a digit's value is, and contracts of the functions that read it. -/
import Derived.Test.YtkpocljlmbihcaaDoorShelf
import Derived.Test.YtkpocljlmbihcaaDoorMark
import Derived.OpenVars
import Derived.Lib.LaidTab
import Derived.LaidMore
import Derived.OpenShut
namespace Go.Proofs.YtkpocljlmbihcaaDoor
set_option maxRecDepth 100000
open Go.RowKit

def decB : ByteArray := ⟨#[48, 49, 50, 51, 52, 53, 54, 55, 56, 57]⟩
def hexB : ByteArray := ⟨#[48, 49, 50, 51, 52, 53, 54, 55, 56, 57, 97, 98, 99, 100, 101, 102]⟩
/-- the table of digits is in its place -/
def Dig (w : World) : Prop := w.cell? ⟨2, 0, none⟩ = some (.string decB) ∧ w.cell? ⟨2, 1, none⟩ = some (.string hexB)
theorem Dig.below {w w' : World} (h : Dig w) (hb : Below w.heap.size w w') : Dig w' :=
  ⟨(hb.cell (p := ⟨2, 0, none⟩) (World.block_lt_of_cell? w _ h.1)).trans h.1, (hb.cell (p := ⟨2, 1, none⟩) (World.block_lt_of_cell? w _ h.2)).trans h.2⟩
theorem Dig.drewN {w : World} (h : Dig w) (q : Nat) : Dig (w.drewN q) := h
theorem Dig.pos {w : World} (h : Dig w) : 2 < w.heap.size := World.block_lt_of_cell? w _ h.1

/-! From the row's condition. -/
theorem gDig : Tryd.prog.globalNamed "loop.example/g00838/impl.digits" = some 2 := by kernel_rfl
theorem tDig : (Tryd.prog.globals[2]?).map (·.type) = some 121 := by kernel_rfl
theorem cDig : Tryd.prog.cellsOf 121 = 2 := by kernel_rfl
theorem cStr : Tryd.prog.cellsOf 9 = 1 := by kernel_rfl
theorem list_two {α : Type} {l : List α} (h : l.length = 2) : ∃ a b, l = [a, b] := by
  match l, h with
  | [a, b], _ => exact ⟨a, b, rfl⟩
theorem cells_two {H : Type} {enc : TypeId × Value → H} {w : World} {base : Nat} {sp : Nat → Bool} {held : Bool} {fuel : Nat} {cs : List Value} {s0 s1 : List UInt8} {p : List MemPlace}
    (h : DataW.trod enc Tryd.prog w base sp held fuel 121 cs = some (.agg [.lit (.string s0), .lit (.string s1)], p)) : cs = [.string ⟨s0.toArray⟩, .string ⟨s1.toArray⟩] := by
  obtain ⟨xs, m1, rfl, hx1, hlen, hn3, hel⟩ := DataW.trod_array Tryd.underlying121 h
  simp only [Prod.mk.injEq, DataW.agg.injEq] at hx1
  rw [cStr] at hel
  rw [cDig] at hlen
  have h0 := hel 0 (by decide)
  have h1 := hel 1 (by decide)
  match xs, hn3, hx1, h0, h1 with
  | [x0, x1], _, hx1, h0, h1 =>
    simp only [List.map_cons, List.map_nil, List.cons.injEq, and_true] at hx1
    obtain ⟨b0, e0, f0, _⟩ := DataW.trod_string Tryd.underlying9 (show DataW.trod _ Tryd.prog w _ _ _ m1 9 _ = some x0 from h0)
    obtain ⟨b1, e1, f1, _⟩ := DataW.trod_string Tryd.underlying9 (show DataW.trod _ Tryd.prog w _ _ _ m1 9 _ = some x1 from h1)
    obtain ⟨c0, c1, rfl⟩ := list_two hlen
    simp at e0 e1
    subst e0 e1
    rw [f0, f1] at hx1
    simp only [DataW.lit.injEq, Lit.string.injEq] at hx1
    obtain ⟨⟨r0, r1⟩, _⟩ := hx1
    rw [r0, r1]
theorem dig_of_laid {W : World} (h : laidMetH Tryd.prog [("loop.example/g00838/impl.digits", Rows.laid_loop_example_g00838_impl_digits)] W) : Dig W := by
  have h' : laidMet Tryd.prog [("loop.example/g00838/impl.digits", Rows.laid_loop_example_g00838_impl_digits)] W := h
  obtain ⟨ps, ⟨g', t', cs, fuel, p, q, hg', ht', hvar, hd, _, _⟩, _⟩ := h'
  obtain rfl := Option.some.inj (gDig.symm.trans hg')
  obtain rfl := Option.some.inj (tDig.symm.trans ht')
  have hcs := cells_two hd
  have hc : ∀ i, W.cell? ⟨2, i, none⟩ = cs.toList[i]? := fun i => by rw [World.var?_cell gDig hvar i]; simp
  rw [hcs] at hc
  exact ⟨by rw [hc 0]; rfl, by rw [hc 1]; rfl⟩

/-- a world for the witness: the settled one, the table in its place -/
noncomputable def laidWorld (os : Os) : World :=
  { World.holding Tryd.prog os ⟨#[], #[], []⟩ with heap := (World.holding Tryd.prog os ⟨#[], #[], []⟩).heap.modify 2 fun
      | .cells _ t frozen => .cells #[.string decB, .string hexB] t frozen
      | o => o }
end Go.Proofs.YtkpocljlmbihcaaDoor
