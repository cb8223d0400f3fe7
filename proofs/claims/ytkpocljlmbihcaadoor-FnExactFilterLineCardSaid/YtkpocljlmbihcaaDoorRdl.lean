/- Digits of a row: what they stand for, and facts for the walks of readDigits and of the model's nuDigits. -/
import Derived.Test.YtkpocljlmbihcaaDoorRun
import Derived.Test.YtkpocljlmbihcaaDoorDigV
namespace Go.Proofs.YtkpocljlmbihcaaDoor
set_option maxRecDepth 100000
open Go.RowKit

/-- the number of a list of digits to a base, none if it becomes greater than a limit -/
def rdN (b lim : Int) : List UInt8 → Int → Option Int
  | [], n => Option.some n
  | c :: r, n => if 0 ≤ dg b (c.toNat : Int) ∧ n * b + dg b (c.toNat : Int) ≤ lim then rdN b lim r (n * b + dg b (c.toNat : Int)) else none
/-- the same, without needless zeros -/
def rdT (b lim : Int) (l : List UInt8) : Option Int := if l = [] ∨ (1 < l.length ∧ l.head? = Option.some 48) then none else rdN b lim l 0
def optR (o : Option Int) : Int := o.getD 0
def optK (o : Option Int) : Bool := o.isSome
theorem opt_none {o : Option Int} (h : o = none) : optR o = 0 ∧ optK o = false := by subst h; exact ⟨rfl, rfl⟩
theorem opt_some {o : Option Int} {s : Int} (h : o = Option.some s) : optR o = s ∧ optK o = true := by subst h; exact ⟨rfl, rfl⟩
theorem rdN_yes (b lim : Int) (s : ByteArray) (k : Nat) (t d : Int) (h : k < s.size) (hd : dg b ((s[k]'h).toNat : Int) = d) (g : 0 ≤ d ∧ t * b + d ≤ lim) : rdN b lim (s.data.toList.drop k) t = rdN b lim (s.data.toList.drop (k + 1)) (t * b + d) := by
  rw [drop_at s k h, rdN, hd, if_pos g]
theorem rdN_no (b lim : Int) (s : ByteArray) (k : Nat) (t d : Int) (h : k < s.size) (hd : dg b ((s[k]'h).toNat : Int) = d) (g : ¬ (0 ≤ d ∧ t * b + d ≤ lim)) : rdN b lim (s.data.toList.drop k) t = none := by
  rw [drop_at s k h, rdN, hd, if_neg g]
theorem rdN_end (b lim : Int) (s : ByteArray) (k : Nat) (t : Int) (h : s.size ≤ k) : rdN b lim (s.data.toList.drop k) t = Option.some t := by
  rw [List.drop_eq_nil_of_le (by simpa using h)]; rfl
theorem dg_high (b c : Int) (h : 128 ≤ c) : dg b c = -1 := by
  have e : dv c = -1 := by
    unfold dv
    rw [if_neg (by omega), if_neg (by omega)]
  unfold dg
  rw [e]
  split <;> rfl

/-- what begins a text of digits -/
inductive DigHead (s : ByteArray) : Prop
  | none (h : s.size = 0)
  | zero (h : 1 < s.size) (e : (s[0]'(by omega)).toNat = 48)
  | one (h : s.size = 1)
  | more (h : 1 < s.size) (e : (s[0]'(by omega)).toNat ≠ 48)
theorem dig_head (s : ByteArray) : DigHead s := by
  rcases Nat.eq_zero_or_pos s.size with h | h
  · exact .none h
  · rcases Nat.lt_or_ge 1 s.size with h1 | h1
    · by_cases e : (s[0]'(by omega)).toNat = 48
      · exact .zero h1 e
      · exact .more h1 e
    · exact .one (by omega)
theorem size_data (s : ByteArray) : s.size = s.data.toList.length := Lib.size_eq s
theorem head_at (s : ByteArray) (h : 0 < s.size) : s.data.toList.head? = Option.some (s[0]'h) := by
  have := drop_at s 0 h
  rw [List.drop_zero] at this
  rw [this]; rfl
theorem rdT_nil (b lim : Int) (s : ByteArray) (h : s.size = 0) : rdT b lim s.data.toList = none := by
  unfold rdT
  rw [if_pos (.inl (List.eq_nil_of_length_eq_zero (by rw [← size_data]; exact h)))]
theorem rdT_zero (b lim : Int) (s : ByteArray) (h : 1 < s.size) (e : (s[0]'(by omega)).toNat = 48) : rdT b lim s.data.toList = none := by
  unfold rdT
  refine if_pos (.inr ⟨by rw [← size_data]; exact h, ?_⟩)
  rw [head_at s (by omega)]
  congr 1
  exact UInt8.toNat_inj.1 e
theorem rdT_go (b lim : Int) (s : ByteArray) (h : 0 < s.size) (e : 1 < s.size → (s[0]'h).toNat ≠ 48) : rdT b lim s.data.toList = rdN b lim (s.data.toList.drop 0) 0 := by
  unfold rdT
  rw [if_neg, List.drop_zero]
  rintro (h1 | ⟨h1, h2⟩)
  · have q : s.size = 0 := by rw [size_data, h1]; rfl
    omega
  · rw [head_at s h] at h2
    refine e (by rw [size_data]; exact h1) ?_
    rw [Option.some.inj h2]
    rfl
theorem empty_tests {s : ByteArray} (h : s.size = 0) : (s.toList == []) = true ∧ s.toList.isEmpty = true := by
  have e : s.toList = [] := by rw [ByteArray.toList_eq]; exact List.eq_nil_of_length_eq_zero (by rw [← size_data]; exact h)
  rw [e]; exact ⟨rfl, rfl⟩
theorem full_tests {s : ByteArray} (h : 0 < s.size) : (s.toList == []) = false ∧ s.toList.isEmpty = false := by
  have e : s.toList ≠ [] := by
    rw [ByteArray.toList_eq]
    intro e
    have q : s.size = 0 := by rw [size_data, e]; rfl
    omega
  cases hl : s.toList with
  | nil => exact absurd hl e
  | cons a r => exact ⟨rfl, rfl⟩
theorem first_byte (s : ByteArray) (h : 0 < s.size) (w : World) : (Instr.index 9 (.string s) (.int .i64 0)).run Tryd.prog w = .ok (.int .u8 (s[0]'h).toNat) w := by
  rw [run_index_string w 9 s .i64 0 Tryd.underlying9, dif_pos (by omega)]
  rfl

def SaysRd (w : World) (o : Option Int) (e : Ending) (w' : World) : Prop := e = .returned (.tuple #[.int .i64 (optR o), .bool (optK o)]) ∧ Below w.heap.size w w'
def RdRel (w : World) (b lim : Int) (s : ByteArray) (o : Option Int) (n : Value) (wr : World) : Prop :=
  ∃ (k : Nat) (t : Int), k ≤ s.size ∧ n = .int .i64 t ∧ wr = w.iter s k ∧ 0 ≤ t ∧ t ≤ lim ∧ Hid (rdN b lim (s.data.toList.drop k) t = o)
theorem Dig.iter {w : World} (h : Dig w) (s : ByteArray) (k : Nat) : Dig (w.iter s k) := h.below ((Below.refl _ _).alloc (Nat.le_refl _) _)
theorem iter_below (w : World) (s : ByteArray) (k : Nat) : Below w.heap.size w (w.iter s k) := (Below.refl _ _).alloc (Nat.le_refl _) _

end Go.Proofs.YtkpocljlmbihcaaDoor
