/- The table of units: what its cells hold; facts out of the rows' conditions; a world for the witness with the tables in place. Units: contracts of splitUnit. -/
import Derived.Test.YtdfkehgkonadhaaDoorDig
import Derived.ChangeSame
import Derived.Stop.LaidErr
import Derived.Test.YtdfkehgkonadhaaDoorRdl
import Derived.Deep.QuietTactic
import Derived.BigQuiet
namespace Go.Proofs.YtdfkehgkonadhaaDoor
set_option maxRecDepth 100000
open Go.RowKit

theorem cInt : Tryd.prog.cellsOf 3 = 1 := by kernel_rfl
theorem list_four {α : Type} {l : List α} (h : l.length = 4) : ∃ a b c d, l = [a, b, c, d] := by
  match l, h with
  | [a, b, c, d], _ => exact ⟨a, b, c, d, rfl⟩
theorem dig_of_head {W : World} {r : List (String × DataW Unit)} (h : laidMet Tryd.prog (("loop.example/g00838/impl.digits", Rows.laid_loop_example_g00838_impl_digits) :: r) W) : Dig W := by
  obtain ⟨ps, ⟨g', t', cs, fuel, p, q, hg', ht', hvar, hd, _, _⟩, _⟩ := h
  obtain rfl := Option.some.inj (gDig.symm.trans hg')
  obtain rfl := Option.some.inj (tDig.symm.trans ht')
  have hcs := cells_two hd
  have hc : ∀ i, W.cell? ⟨1, i, none⟩ = cs.toList[i]? := fun i => by rw [World.var?_cell gDig hvar i]; simp
  rw [hcs] at hc
  exact ⟨by rw [hc 0]; rfl, by rw [hc 1]; rfl⟩

end Go.Proofs.YtdfkehgkonadhaaDoor

namespace Go.Proofs.YtdfkehgkonadhaaDoor
open Go.RowKit

/-- what stands before the last byte -/
def initL (l : List UInt8) : List UInt8 := l.take (l.length - 1)
theorem trim_yes {l : List UInt8} {c : UInt8} (h : Lib.hasSuffix l [c] = true) : Lib.trimSuffix l [c] = initL l := by unfold Lib.trimSuffix initL; rw [if_pos h]; rfl
/-- a text and a number -/
def SaysUnit (w : World) (u : ByteArray) (f : Int) (e : Ending) (w' : World) : Prop := e = .returned (.tuple #[.string u, .int .i64 f]) ∧ Below w.heap.size w w'
theorem unit_cells (w w1 : World) (b : ByteArray) (n : Int) (ty : TypeId) (h : w1 = w.alloc (.cells #[.string b, .int .i64 n] ty)) :
    w1.cell? ⟨w.heap.size, 0, none⟩ = some (.string b) ∧ w1.cell? ⟨w.heap.size, 1, none⟩ = some (.int .i64 n) := by
  subst h
  constructor <;> rw [World.cell?_alloc_at _ _ _ _ rfl] <;> rfl

theorem unit_below (w w1 : World) (b : ByteArray) (n : Int) (ty : TypeId) (h : w1 = w.alloc (.cells #[.string b, .int .i64 n] ty)) : Below w.heap.size w w1 := by
  subst h
  exact (Below.refl _ _).alloc (Nat.le_refl _) _
end Go.Proofs.YtdfkehgkonadhaaDoor
