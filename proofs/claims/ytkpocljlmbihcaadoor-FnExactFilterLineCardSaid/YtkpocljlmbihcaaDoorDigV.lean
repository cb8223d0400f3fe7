/- The numbers that digits stand for: contracts of digitsValue, scDigit and scNumber. -/
import Derived.Test.YtkpocljlmbihcaaDoorDigN
namespace Go.Proofs.YtkpocljlmbihcaaDoor
set_option maxRecDepth 100000
open Go.RowKit

/-- the number of a list of digits -/
def dval (b : Int) (l : List UInt8) : Int := l.foldl (fun a c => a * b + dg b (c.toNat : Int)) 0
theorem dval_snoc (b : Int) (l : List UInt8) (c : UInt8) : dval b (l ++ [c]) = dval b l * b + dg b (c.toNat : Int) := by simp [dval]
theorem dval_dvN (b : Int) (l : List UInt8) (h : ∀ c ∈ l, 0 ≤ dg b (c.toNat : Int)) : dval b l = dvN b l 0 := by
  have gen : ∀ (l : List UInt8) (n : Int), (∀ c ∈ l, 0 ≤ dg b (c.toNat : Int)) → l.foldl (fun a c => a * b + dg b (c.toNat : Int)) n = dvN b l n := by
    intro l
    induction l with
    | nil => intro n _; rfl
    | cons c r ih =>
      intro n hl
      simp only [List.foldl_cons, dvN, if_pos (hl c (by simp))]
      exact ih _ (fun x hx => hl x (by simp [hx]))
  exact gen l 0 h
theorem digits_of (b : Int) (l : List UInt8) : ∀ c ∈ l.take (dlen b l), 0 ≤ dg b (c.toNat : Int) := by
  induction l with
  | nil => intro c hc; simp at hc
  | cons x r ih =>
    intro c hc
    by_cases hd : 0 ≤ dg b (x.toNat : Int)
    · simp only [dlen, if_pos hd, List.take_succ_cons, List.mem_cons] at hc
      rcases hc with rfl | hc
      · exact hd
      · exact ih c hc
    · simp [dlen, if_neg hd] at hc
theorem take_byte (s : ByteArray) (k : Nat) (h : k < s.size) : s.data.toList.take (k + 1) = s.data.toList.take k ++ [s[k]] := by
  rw [List.take_succ_eq_append_getElem (by simpa using h)]; rfl
theorem mem_byte (s : ByteArray) (k : Nat) (h : k < s.size) : s[k] ∈ s.data.toList := by
  have : s[k] = s.data.toList[k]'(by simpa using h) := rfl
  rw [this]
  exact List.getElem_mem _

def ValRel (w : World) (b : Int) (s : ByteArray) (n i : Value) (wr : World) : Prop :=
  ∃ (k q : Nat) (t : Int), k ≤ s.size ∧ i = .int .i64 k ∧ n = .int .i64 t ∧ wr = w.drewN q ∧ 0 ≤ t ∧ t < b ^ k ∧ t = dval b (s.data.toList.take k)
theorem pow_dec (k : Nat) (h : k < 10) : (10 : Int) ^ k ≤ 68719476736 := by
  rcases (show k = 0 ∨ k = 1 ∨ k = 2 ∨ k = 3 ∨ k = 4 ∨ k = 5 ∨ k = 6 ∨ k = 7 ∨ k = 8 ∨ k = 9 by omega) with rfl | rfl | rfl | rfl | rfl | rfl | rfl | rfl | rfl | rfl <;> decide
theorem pow_hex (k : Nat) (h : k < 10) : (16 : Int) ^ k ≤ 68719476736 := by
  rcases (show k = 0 ∨ k = 1 ∨ k = 2 ∨ k = 3 ∨ k = 4 ∨ k = 5 ∨ k = 6 ∨ k = 7 ∨ k = 8 ∨ k = 9 by omega) with rfl | rfl | rfl | rfl | rfl | rfl | rfl | rfl | rfl | rfl <;> decide
theorem dv_cases (c : Int) : (c < 48 ∧ dv c = -1) ∨ (48 ≤ c ∧ c ≤ 57 ∧ dv c = c - 48) ∨ (57 < c ∧ c < 97 ∧ dv c = -1) ∨ (97 ≤ c ∧ c ≤ 102 ∧ dv c = c - 87) ∨ (102 < c ∧ dv c = -1) := by
  unfold dv
  split
  · omega
  · split <;> omega
end Go.Proofs.YtkpocljlmbihcaaDoor
