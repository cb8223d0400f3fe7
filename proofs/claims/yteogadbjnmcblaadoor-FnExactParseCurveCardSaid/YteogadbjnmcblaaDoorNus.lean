/- The units in the model: contracts of nuUnits and nuSize. -/
import Derived.Test.YteogadbjnmcblaaDoorMark
import Derived.Deep.RegionWith
namespace Go.Proofs.YteogadbjnmcblaaDoor
set_option maxRecDepth 100000
open Go.RowKit

def UnitsAt (w : World) (g : Nat) : Prop := w.cell? ⟨g, 0, none⟩ = some (.string ⟨#[109]⟩) ∧ w.cell? ⟨g, 1, none⟩ = some (.string ⟨#[107]⟩) ∧ w.cell? ⟨g, 2, none⟩ = some (.string ⟨#[]⟩)
theorem units_new (w : World) (ty : TypeId) : UnitsAt (w.alloc (.cells #[.string ⟨#[109]⟩, .string ⟨#[107]⟩, .string ⟨#[]⟩] ty)) w.heap.size := by
  refine ⟨?_, ?_, ?_⟩ <;> rw [World.cell?_alloc_at _ _ _ _ rfl] <;> rfl
theorem nuUnits_any (w : World) :
    Calls Tryd.prog 36 #[] w fun e w' => e = .returned (.slice (some ⟨w.heap.size, 0, none⟩) 3 3) ∧ UnitsAt w' w.heap.size ∧ Below w.heap.size w w' := by
  go_enter Tryd.func36, Tryd.ntmps36
  go_wp2
  go_ret
  exact ⟨rfl, units_new _ _, (Below.refl _ _).alloc (Nat.le_refl _) _⟩
def SaysSz (w : World) (n : Int) (e : Ending) (w' : World) : Prop := e = .returned (.int .i64 n) ∧ Below w.heap.size w w'
theorem sz_cells (w : World) (ty : TypeId) (j : Nat) (h : j < 3) : (w.alloc (.cells #[.int .i64 1000000, .int .i64 1000, .int .i64 1] ty)).cell? ⟨w.heap.size, j, none⟩ = some ([Value.int .i64 1000000, .int .i64 1000, .int .i64 1].getD j .nilIface) := by
  rw [World.cell?_alloc_at _ _ _ _ rfl]
  rcases (show j = 0 ∨ j = 1 ∨ j = 2 by omega) with rfl | rfl | rfl <;> rfl
theorem nuSize_0 (w : World) : Calls Tryd.prog 38 #[.int .i64 0] w (SaysSz w 1000000) := by
  go_enter Tryd.func38, Tryd.ntmps38
  go_wp2
  go_ret
  exact ⟨rfl, (Below.refl _ _).alloc (Nat.le_refl _) _⟩
theorem nuSize_1 (w : World) : Calls Tryd.prog 38 #[.int .i64 1] w (SaysSz w 1000) := by
  go_enter Tryd.func38, Tryd.ntmps38
  go_wp2
  go_ret
  exact ⟨rfl, (Below.refl _ _).alloc (Nat.le_refl _) _⟩
theorem nuSize_2 (w : World) : Calls Tryd.prog 38 #[.int .i64 2] w (SaysSz w 1) := by
  go_enter Tryd.func38, Tryd.ntmps38
  go_wp2
  go_ret
  exact ⟨rfl, (Below.refl _ _).alloc (Nat.le_refl _) _⟩

end Go.Proofs.YteogadbjnmcblaaDoor
