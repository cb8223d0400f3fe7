/- HexAt: contracts of program and model, and both together. -/
import Derived.Test.YtkpocljlmbihcaaDoorDecS
namespace Go.Proofs.YtkpocljlmbihcaaDoor
set_option maxRecDepth 100000
open Go.RowKit

theorem from_run (s : ByteArray) (k0 : Nat) (hk : k0 ≤ s.size) : ∃ u : ByteArray, Hid (u.data.toList = s.data.toList.drop k0) ∧
    ∀ w, (Instr.slice 9 (.string s) (some (.int .i64 (k0 : Int))) none none).run Tryd.prog w = .ok (.string u) w := by
  have hd := Lib.extract_data s k0 s.size
  refine ⟨s.extract k0 s.size, ?_, fun w => ?_⟩
  · unfold Hid
    rw [hd, List.take_of_length_le]
    simp
  · rw [run_slice_string_l w 9 s Tryd.underlying9 .i64 (k0 : Int) (by omega) (by omega)]
    rfl
/-- the prefix is there -/
def Pfx (s : ByteArray) (k0 : Nat) : Prop := Lib.hasPrefix (s.data.toList.drop k0) [48, 120] = true

theorem sub_run2 (s : ByteArray) (k0 c : Nat) (hc : k0 + 2 + c ≤ s.size) : ∃ u : ByteArray, u.size = c ∧ u.data.toList = (s.data.toList.drop (k0 + 2)).take c ∧
    ∀ w, (Instr.slice 9 (.string s) (some (.int .i64 ((k0 : Int) + 2))) (some (.int .i64 ((k0 : Int) + 2 + (c : Int)))) none).run Tryd.prog w = .ok (.string u) w := by
  obtain ⟨u, a, b, h⟩ := sub_run s (k0 + 2) c hc
  have e1 : ((k0 + 2 : Nat) : Int) = (k0 : Int) + 2 := by omega
  rw [e1] at h
  exact ⟨u, a, b, h⟩
theorem pfx_two (s : ByteArray) (k0 : Nat) (u : ByteArray) (hu : u.data.toList = (s.data.toList.drop k0).take 2) : (u.toList == [48, 120]) = Lib.hasPrefix (s.data.toList.drop k0) [48, 120] := by
  rw [ByteArray.toList_eq, hu]
  unfold Lib.hasPrefix
  generalize s.data.toList.drop k0 = l
  match l with
  | [] => rfl
  | [a] => simp [List.isPrefixOf]
  | a :: b :: r =>
    simp only [List.take_succ_cons, List.take_zero, List.isPrefixOf]
    rw [Bool.eq_iff_iff]
    simp
    constructor
    · rintro ⟨rfl, rfl⟩; exact ⟨rfl, rfl⟩
    · rintro ⟨rfl, rfl⟩; exact ⟨rfl, rfl⟩
theorem pfx_size (s : ByteArray) (k0 : Nat) (h : Pfx s k0) : k0 + 2 ≤ s.size := by
  unfold Pfx Lib.hasPrefix at h
  have := (List.isPrefixOf_iff_prefix.1 h).length_le
  simp at this
  omega

/-! The program. -/
/-! The model. -/
end Go.Proofs.YtkpocljlmbihcaaDoor
