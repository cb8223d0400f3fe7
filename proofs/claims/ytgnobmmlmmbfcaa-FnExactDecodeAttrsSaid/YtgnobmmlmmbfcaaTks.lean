/- Space skipped: contracts of spaceSize and SkipSpace, program and model. -/
import Derived.Test.YtgnobmmlmmbfcaaKwd
import Derived.Laws.RangeAny
import Derived.Laws.Runes
import Derived.LoopTactic
import Derived.WalkMore
import Derived.Deep.RegionWith
namespace Go.Proofs.Ytgnobmmlmmbfcaa
open Go.RowKit
set_option linter.unusedVariables false

/-- a number, memory made -/
def SaysN (w : World) (n : Int) (e : Ending) (w' : World) : Prop := e = .returned (.int .i64 n) ∧ Below w.heap.size w w'
theorem byte_at (s : ByteArray) (k : Nat) (h : k < s.size) (m : Int) (hm : m = k) (w : World) : (Instr.index 9 (.string s) (.int .i64 m)).run Try.prog w = .ok (.int .u8 (s[k]'h).toNat) w := by
  subst hm
  rw [run_index_string w 9 s .i64 (k : Int) Try.underlying9, dif_pos (by omega)]
  rfl
/-- what stands from an index on -/
theorem rest_at (s : ByteArray) (k : Nat) (h : k ≤ s.size) : ∃ u : ByteArray, u.data.toList = s.data.toList.drop k ∧ u.size + k = s.size ∧ (∀ w, (Instr.slice 9 (.string s) (some (.int .i64 (k : Int))) none none).run Try.prog w = .ok (.string u) w) := by
  refine ⟨s.extract k s.size, ?_, ?_, fun w => ?_⟩
  · rw [Lib.extract_data, List.take_of_length_le]
    simp
  · simp; omega
  · rw [run_slice_string_l w 9 s Try.underlying9 .i64 (k : Int) (by omega) (by omega)]
    rfl
def SpRel (w : World) (s : ByteArray) (N : Nat) (c : Value) (wr : World) : Prop :=
  ∃ (k : Nat) (b : Bool), k ≤ s.size ∧ c = .bool b ∧ wr = w.iter s k ∧ Hid (k + skL b (s.data.toList.drop k) = N)
theorem below_iter (w : World) (s : ByteArray) (k : Nat) : Below w.heap.size w (w.iter s k) := (Below.refl _ _).alloc (Nat.le_refl _) _
def SkRel (s : ByteArray) (N : Nat) (v : Value) : Prop := ∃ k : Nat, k ≤ s.size ∧ v = .int .i64 k ∧ Hid (k + skL false (s.data.toList.drop k) = N)
def SkIn (s : ByteArray) (N k0 : Nat) (v : Value) : Prop := ∃ k : Nat, k0 ≤ k ∧ k ≤ s.size ∧ v = .int .i64 k ∧ Hid (k + skL true (s.data.toList.drop k) = N)
theorem plain35 : plainB 35 = true := by decide
end Go.Proofs.Ytgnobmmlmmbfcaa
