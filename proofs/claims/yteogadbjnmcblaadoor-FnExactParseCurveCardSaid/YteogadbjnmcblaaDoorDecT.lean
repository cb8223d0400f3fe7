/- DecimalAt: contracts of program and model. -/
import Derived.Test.YteogadbjnmcblaaDoorNumT
namespace Go.Proofs.YteogadbjnmcblaaDoor
set_option maxRecDepth 100000
open Go.RowKit

theorem ret_three {a a' b b' c c' : Value} (h : a = a') (h' : b = b') (h'' : c = c') : Ending.returned (.tuple #[a, b, c]) = .returned (.tuple #[a', b', c']) := by rw [h, h', h'']
theorem sub_run (s : ByteArray) (k0 c : Nat) (hc : k0 + c ≤ s.size) : ∃ u : ByteArray, u.size = c ∧ u.data.toList = (s.data.toList.drop k0).take c ∧
    ∀ w, (Instr.slice 9 (.string s) (some (.int .i64 (k0 : Int))) (some (.int .i64 ((k0 : Int) + (c : Int)))) none).run Tryd.prog w = .ok (.string u) w := by
  have hd := Lib.extract_data s k0 (k0 + c)
  rw [Nat.add_sub_cancel_left] at hd
  refine ⟨s.extract k0 (k0 + c), ?_, hd, fun w => ?_⟩
  · have := congrArg List.length hd
    simp at this
    simp
    omega
  · rw [run_slice_string w 9 s .i64 .i64 (k0 : Int) ((k0 : Int) + (c : Int)) Tryd.underlying9 (by omega) (by omega) (by omega)]
    rfl
theorem Drawn.dig {w w' : World} (h : Drawn w w') (hd : Dig w) : Dig w' := by obtain ⟨q, rfl⟩ := h; exact hd
theorem Drawn.trans {a b c : World} (h : Drawn a b) (k : Drawn b c) : Drawn a c := by
  obtain ⟨q, rfl⟩ := h
  obtain ⟨r, rfl⟩ := k
  exact ⟨q + r, by simp⟩
def SaysThree (w : World) (a b : Int) (ok : Bool) (e : Ending) (w' : World) : Prop := e = .returned (.tuple #[.int .i64 a, .int .i64 b, .bool ok]) ∧ Drawn w w'

/-! The program. -/
end Go.Proofs.YteogadbjnmcblaaDoor
