/- strings.IndexRune in a row of ASCII bytes, at whatever rune: the digit's value, or -1. -/
import Derived.Test.YtkpocljlmbihcaaDoorDigN
import Derived.Laws.RangeAny
import Derived.Laws.Runes
import Derived.LoopTactic
import Derived.WalkMore
namespace Go.Proofs.YtkpocljlmbihcaaDoor
set_option maxRecDepth 100000
open Go.RowKit
set_option linter.unusedVariables false

/-- a short row of ASCII bytes -/
def Asc (s : ByteArray) : Prop := ∀ b ∈ s.data.toList, b.toNat < 128
theorem asc_dec : Asc decB := by unfold Asc decB; decide
theorem asc_hex : Asc hexB := by unfold Asc hexB; decide
theorem asc_at {s : ByteArray} (h : Asc s) (k : Nat) (hk : k < s.size) : (s[k]'hk).toNat < 128 := h _ (by
  have : s[k] = s.data.toList[k]'(by simpa using hk) := rfl
  rw [this]; exact List.getElem_mem _)
theorem index_high {l : List UInt8} {c : UInt8} (h : ∀ b ∈ l, b ≠ c) : Lib.indexByte l c = -1 := by
  induction l with
  | nil => rfl
  | cons b r ih =>
    have h1 : (b == c) = false := by simpa using h b (by simp)
    rw [Lib.indexByte, h1, ih (fun x hx => h x (by simp [hx]))]
    rfl

/-- the answer -1 -/
def SaysNone (w : World) (e : Ending) (w' : World) : Prop := e = .returned (.int .i64 (-1)) ∧ Below w.heap.size w w'

/-- a valid rune that is not ASCII: its last byte is not there -/
theorem rune_tail (s : ByteArray) (m : Nat) (mi mj : Int) (hmi : mi = m) (hmj : mj = (m : Int) + 1) (hs : Asc s) (hm : m < s.size) (hz2 : s.size ≤ 64) : ∃ (d : UInt8) (u : ByteArray), d.toNat < 128 ∧ Hid (Asc u) ∧
    (∀ w, (Instr.index 9 (.string s) (.int .i64 mi)).run Tryd.prog w = .ok (.int .u8 d.toNat) w) ∧
    (∀ w, (Instr.slice 9 (.string s) (some (.int .i64 mj)) none none).run Tryd.prog w = .ok (.string u) w) := by
  subst hmi hmj
  refine ⟨s[m], s.extract (m + 1) s.size, asc_at hs m hm, ?_, fun w => ?_, fun w => ?_⟩
  · intro b hb
    exact hs b (mem_extract hb)
  · rw [run_index_string w 9 s .i64 (m : Int) Tryd.underlying9, dif_pos (by omega)]
    rfl
  · rw [run_slice_string_l w 9 s Tryd.underlying9 .i64 ((m : Int) + 1) (by omega) (by omega)]
    rfl
theorem size_cases {n : Nat} (h : 2 ≤ n) (h4 : n ≤ 4) : n = 1 + 1 ∨ n = 2 + 1 ∨ n = 3 + 1 := by omega
end Go.Proofs.YtkpocljlmbihcaaDoor
