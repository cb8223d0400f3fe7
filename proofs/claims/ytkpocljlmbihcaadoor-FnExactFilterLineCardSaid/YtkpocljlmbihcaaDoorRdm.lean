/- Digits of a row: contracts of the model's nuDigits. -/
import Derived.Test.YtkpocljlmbihcaaDoorRdl
namespace Go.Proofs.YtkpocljlmbihcaaDoor
set_option maxRecDepth 100000
open Go.RowKit

/-- the number, or -1 -/
def optM (o : Option Int) : Int := o.getD (-1)
def SaysInt (w : World) (n : Int) (e : Ending) (w' : World) : Prop := e = .returned (.int .i64 n) ∧ w = w'
/-- how far the model is: the number is within the limit, or beyond it -/
def NdSt (b lim : Int) (s : ByteArray) (o : Option Int) (k : Nat) (t : Int) : Prop := (t ≤ lim ∧ Hid (rdN b lim (s.data.toList.drop k) t = o)) ∨ (lim < t ∧ Hid (o = none))
def NdRel (b lim : Int) (s : ByteArray) (o : Option Int) (n i : Value) : Prop :=
  ∃ (k : Nat) (t : Int), k ≤ s.size ∧ i = .int .i64 k ∧ n = .int .i64 t ∧ 0 ≤ t ∧ t ≤ 20000000000 ∧ NdSt b lim s o k t
theorem nd_big {b lim : Int} {s : ByteArray} {o : Option Int} {k : Nat} {t : Int} (h : NdSt b lim s o k t) (c : lim < t) : optM o = -1 := by
  rcases h with ⟨h, _⟩ | ⟨_, h⟩
  · omega
  · rw [h.out]; rfl
theorem nd_good {b lim : Int} {s : ByteArray} {o : Option Int} {k : Nat} {t : Int} (h : NdSt b lim s o k t) (c : t ≤ lim) : rdN b lim (s.data.toList.drop k) t = o := by
  rcases h with ⟨_, h⟩ | ⟨h, _⟩
  · exact h.out
  · omega
theorem nd_none {b lim : Int} {s : ByteArray} {o : Option Int} {k : Nat} {t : Int} (h : NdSt b lim s o k t) (e : rdN b lim (s.data.toList.drop k) t = none) : optM o = -1 := by
  rcases h with ⟨_, h⟩ | ⟨_, h⟩
  · rw [← h.out, e]; rfl
  · rw [h.out]; rfl
theorem nd_step (b lim : Int) (s : ByteArray) (k : Nat) (t d : Int) (o : Option Int) (hlt : k < s.size) (hd : dg b ((s[k]'hlt).toNat : Int) = d) (d0 : 0 ≤ d) (h : rdN b lim (s.data.toList.drop k) t = o) : NdSt b lim s o (k + 1) (t * b + d) := by
  by_cases c : t * b + d ≤ lim
  · exact .inl ⟨c, by unfold Hid; rw [← rdN_yes b lim s k t d hlt hd ⟨d0, c⟩]; exact h⟩
  · exact .inr ⟨by omega, by unfold Hid; rw [← h]; exact rdN_no b lim s k t d hlt hd (by omega)⟩
theorem byte_ways (y : Int) : y < 48 ∨ (48 ≤ y ∧ y ≤ 57) ∨ (57 < y ∧ y < 97) ∨ (97 ≤ y ∧ y ≤ 102) ∨ 102 < y := by omega
theorem dg_10_bad {y : Int} (h : y < 48 ∨ 57 < y) : dg 10 y = -1 := by
  unfold dg dv
  rw [if_neg (show ¬ (48 ≤ y ∧ y ≤ 57) by omega)]
  split <;> split <;> omega
theorem dg_16_bad {y : Int} (h : y < 48 ∨ (57 < y ∧ y < 97) ∨ 102 < y) : dg 16 y = -1 := by
  unfold dg dv
  rw [if_neg (show ¬ (48 ≤ y ∧ y ≤ 57) by omega), if_neg (show ¬ (97 ≤ y ∧ y ≤ 102) by omega)]
  rfl
theorem dg_10_low {y : Int} (h : 48 ≤ y) (h2 : y ≤ 57) : dg 10 y = y - 48 := by
  unfold dg dv
  rw [if_pos (show 48 ≤ y ∧ y ≤ 57 by omega), if_pos (by omega)]
theorem dg_16_low {y : Int} (h : 48 ≤ y) (h2 : y ≤ 57) : dg 16 y = y - 48 := by
  unfold dg dv
  rw [if_pos (show 48 ≤ y ∧ y ≤ 57 by omega), if_pos (by omega)]
theorem dg_16_high {y : Int} (h : 97 ≤ y) (h2 : y ≤ 102) : dg 16 y = y - 97 + 10 := by
  unfold dg dv
  rw [if_neg (show ¬ (48 ≤ y ∧ y ≤ 57) by omega), if_pos (show 97 ≤ y ∧ y ≤ 102 by omega), if_pos (by omega)]
  omega
theorem nth_byte (s : ByteArray) (k : Nat) (h : k < s.size) (w : World) : (Instr.index 9 (.string s) (.int .i64 (k : Int))).run Tryd.prog w = .ok (.int .u8 (s[k]'h).toNat) w := by
  rw [run_index_string w 9 s .i64 (k : Int) Tryd.underlying9, dif_pos (by omega)]
  rfl

end Go.Proofs.YtkpocljlmbihcaaDoor
