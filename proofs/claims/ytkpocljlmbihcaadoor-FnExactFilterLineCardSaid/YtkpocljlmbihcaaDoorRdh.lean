/- Hexadecimal texts read: contracts of ReadHex, program and model. -/
import Derived.Test.YtkpocljlmbihcaaDoorRdg
import Derived.Test.YtkpocljlmbihcaaDoorRdm
import Derived.Test.YtkpocljlmbihcaaDoorHxaT
namespace Go.Proofs.YtkpocljlmbihcaaDoor
set_option maxRecDepth 100000
open Go.RowKit

/-- the value of a hexadecimal text -/
def rhx (l : List UInt8) : Option Int := if Lib.hasPrefix l [48, 120] then rdT 16 65535 (l.drop 2) else none
theorem rhx_no {l : List UInt8} (h : Lib.hasPrefix l [48, 120] = false) : rhx l = none := by unfold rhx; rw [h]; rfl
theorem rhx_yes {l : List UInt8} (h : Lib.hasPrefix l [48, 120] = true) : rhx l = rdT 16 65535 (l.drop 2) := by unfold rhx; rw [if_pos h]
theorem rdN_nonneg (b lim : Int) (hb : 0 ≤ b) : ∀ (l : List UInt8) (n v : Int), 0 ≤ n → rdN b lim l n = Option.some v → 0 ≤ v
  | [], n, v, h, e => by
    have := Option.some.inj e
    omega
  | c :: r, n, v, h, e => by
    rw [rdN] at e
    split at e
    · rename_i g
      refine rdN_nonneg b lim hb r _ v ?_ e
      have := Int.mul_nonneg h hb
      omega
    · cases e
theorem rdT_nonneg (b lim : Int) (hb : 0 ≤ b) (l : List UInt8) (v : Int) (e : rdT b lim l = Option.some v) : 0 ≤ v := by
  unfold rdT at e
  split at e
  · cases e
  · exact rdN_nonneg b lim hb l 0 v (by omega) e
theorem rdN_le (b lim : Int) : ∀ (l : List UInt8) (n v : Int), n ≤ lim → rdN b lim l n = Option.some v → v ≤ lim
  | [], n, v, h, e => by
    have := Option.some.inj e
    omega
  | c :: r, n, v, h, e => by
    rw [rdN] at e
    split at e
    · rename_i g
      exact rdN_le b lim r _ v g.2 e
    · cases e
theorem rdT_le (b lim : Int) (hl : 0 ≤ lim) (l : List UInt8) (v : Int) (e : rdT b lim l = Option.some v) : v ≤ lim := by
  unfold rdT at e
  split at e
  · cases e
  · exact rdN_le b lim l 0 v hl e
theorem rhx_nonneg (l : List UInt8) (v : Int) (e : rhx l = Option.some v) : 0 ≤ v := by
  unfold rhx at e
  split at e
  · exact rdT_nonneg 16 65535 (by omega) _ v e
  · cases e
theorem rhx_le (l : List UInt8) (v : Int) (e : rhx l = Option.some v) : v ≤ 65535 := by
  unfold rhx at e
  split at e
  · exact rdT_le 16 65535 (by omega) _ v e
  · cases e
theorem pfx_len {l : List UInt8} (h : Lib.hasPrefix l [48, 120] = true) : 2 ≤ l.length := by
  unfold Lib.hasPrefix at h
  simpa using (List.isPrefixOf_iff_prefix.1 h).length_le
theorem two_run (s : ByteArray) (hk : 2 ≤ s.size) : ∃ u t : ByteArray, u.data.toList = s.data.toList.drop 2 ∧ t.data.toList = s.data.toList.take 2 ∧
    (∀ w, (Instr.slice 9 (.string s) (some (.int .i64 2)) none none).run Tryd.prog w = .ok (.string u) w) ∧
    (∀ w, (Instr.slice 9 (.string s) none (some (.int .i64 2)) none).run Tryd.prog w = .ok (.string t) w) := by
  refine ⟨s.extract 2 s.size, s.extract 0 2, ?_, ?_, fun w => ?_, fun w => ?_⟩
  · rw [Lib.extract_data, List.take_of_length_le]
    simp
  · rw [Lib.extract_data]
    simp
  · rw [run_slice_string_l w 9 s Tryd.underlying9 .i64 2 (by omega) (by omega)]
    rfl
  · rw [run_slice_string_h w 9 s Tryd.underlying9 .i64 2 (by omega) (by omega)]
    rfl

/-- a pair of a number and a truth value -/
def SaysPair (w : World) (r : Int) (ok : Bool) (e : Ending) (w' : World) : Prop := e = .returned (.tuple #[.int .i64 r, .bool ok]) ∧ Below w.heap.size w w'
theorem opt_ways (o : Option Int) (h : ∀ v, o = Option.some v → 0 ≤ v) : (o = none) ∨ ∃ v, o = Option.some v ∧ 0 ≤ v := by
  cases o with
  | none => exact .inl rfl
  | some v => exact .inr ⟨v, rfl, h v rfl⟩
end Go.Proofs.YtkpocljlmbihcaaDoor
