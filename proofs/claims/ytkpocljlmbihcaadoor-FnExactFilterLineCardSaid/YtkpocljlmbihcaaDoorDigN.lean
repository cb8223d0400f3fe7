/- Digits in a text: what they stand for, and contracts of the functions that look for them. -/
import Derived.Test.YtkpocljlmbihcaaDoorHexO
import Derived.Test.YtkpocljlmbihcaaDoorBad
import Derived.Lib.Bytealg
namespace Go.Proofs.YtkpocljlmbihcaaDoor
set_option maxRecDepth 100000
open Go.RowKit

/-- a digit's value, or -1 -/
def dv (c : Int) : Int := if 48 ≤ c ∧ c ≤ 57 then c - 48 else if 97 ≤ c ∧ c ≤ 102 then c - 87 else -1
def dg (b c : Int) : Int := if dv c < b then dv c else -1
theorem dg_bd (b c : Int) : -1 ≤ dg b c ∧ dg b c < b ∨ dg b c = -1 := by
  unfold dg
  split
  · left
    refine ⟨?_, by assumption⟩
    unfold dv
    split
    · omega
    · split <;> omega
  · right; rfl
theorem dg_lt (b c : Int) (hb : 0 < b) : -1 ≤ dg b c ∧ dg b c < b := by
  rcases dg_bd b c with h | h
  · exact h
  · omega

/-- how many digits begin a list -/
def dlen (b : Int) : List UInt8 → Nat
  | [] => 0
  | c :: r => if 0 ≤ dg b (c.toNat : Int) then dlen b r + 1 else 0
/-- the number of the digits that begin a list, behind a number -/
def dvN (b : Int) : List UInt8 → Int → Int
  | [], n => n
  | c :: r, n => if 0 ≤ dg b (c.toNat : Int) then dvN b r (n * b + dg b (c.toNat : Int)) else n
/-- the same, but it stops to grow above a bound -/
def satN (b bound : Int) : List UInt8 → Int → Int
  | [], n => n
  | c :: r, n => if 0 ≤ dg b (c.toNat : Int) then satN b bound r (if n ≤ bound then b * n + dg b (c.toNat : Int) else n) else n
theorem dlen_le (b : Int) (l : List UInt8) : dlen b l ≤ l.length := by
  induction l with
  | nil => exact Nat.le_refl _
  | cons c r ih => unfold dlen; split <;> simp; omega
theorem satN_stuck (b bound : Int) (l : List UInt8) (n : Int) (h : bound < n) : satN b bound l n = n := by
  induction l with
  | nil => rfl
  | cons c r ih => unfold satN; rw [if_neg (show ¬ n ≤ bound by omega), ih]; split <;> rfl
theorem dvN_ge (b : Int) (hb : 1 ≤ b) (l : List UInt8) : ∀ n : Int, 0 ≤ n → n * b ^ (dlen b l) ≤ dvN b l n ∧ n ≤ dvN b l n := by
  induction l with
  | nil => intro n h; simp [dvN, dlen]
  | cons c r ih =>
    intro n h
    unfold dvN dlen
    split
    · rename_i hd
      have h1 := ih (n * b + dg b (c.toNat : Int)) (by have := Int.mul_nonneg h (show (0 : Int) ≤ b by omega); omega)
      have hp : (0 : Int) < b ^ (dlen b r) := Int.pow_pos (by omega)
      have e : (n * b + dg b (c.toNat : Int)) * b ^ (dlen b r) = n * b ^ (dlen b r + 1) + dg b (c.toNat : Int) * b ^ (dlen b r) := by rw [Int.pow_succ]; grind
      have h2 := Int.mul_nonneg hd (Int.le_of_lt hp)
      have h3 : n * 1 ≤ n * b := Int.mul_le_mul_of_nonneg_left hb h
      refine ⟨by rw [e] at h1; omega, by omega⟩
    · simp
theorem dvN_lt (b : Int) (hb : 1 ≤ b) (l : List UInt8) : ∀ n : Int, 0 ≤ n → dvN b l n < (n + 1) * b ^ (dlen b l) := by
  induction l with
  | nil => intro n h; simp [dvN, dlen]; omega
  | cons c r ih =>
    intro n h
    unfold dvN dlen
    split
    · rename_i hd
      have h1 := ih (n * b + dg b (c.toNat : Int)) (by have := Int.mul_nonneg h (show (0 : Int) ≤ b by omega); omega)
      have hp : (0 : Int) < b ^ (dlen b r) := Int.pow_pos (by omega)
      have hl := (dg_lt b (c.toNat : Int) (by omega)).2
      have h2 : (n * b + dg b (c.toNat : Int) + 1) * b ^ (dlen b r) ≤ (n + 1) * b * b ^ (dlen b r) := Int.mul_le_mul_of_nonneg_right (by rw [Int.add_mul]; omega) (Int.le_of_lt hp)
      rw [Int.pow_succ]
      have e : (n + 1) * b * b ^ (dlen b r) = (n + 1) * (b ^ (dlen b r) * b) := by grind
      omega
    · simp; omega
theorem sat_or (b bound : Int) (hb : 1 ≤ b) (l : List UInt8) : ∀ n : Int, 0 ≤ n → satN b bound l n = dvN b l n ∨ (bound < satN b bound l n ∧ bound < dvN b l n) := by
  induction l with
  | nil => intro n _; exact .inl rfl
  | cons c r ih =>
    intro n h
    by_cases hn : n ≤ bound
    · unfold satN dvN
      split
      · simp only [Int.mul_comm b n]
        exact ih _ (by have := Int.mul_nonneg h (show (0 : Int) ≤ b by omega); omega)
      · exact .inl rfl
    · right
      rw [satN_stuck b bound (c :: r) n (by omega)]
      have := (dvN_ge b hb (c :: r) n h).2
      omega
theorem dvN_take (b : Int) (l : List UInt8) : ∀ n : Int, dvN b (l.take (dlen b l)) n = dvN b l n := by
  induction l with
  | nil => intro n; rfl
  | cons c r ih =>
    intro n
    by_cases hd : 0 ≤ dg b (c.toNat : Int)
    · simp only [dlen, dvN, if_pos hd, List.take_succ_cons]
      exact ih _
    · simp only [dlen, dvN, if_neg hd, List.take_zero]
theorem dlen_take (b : Int) (l : List UInt8) : dlen b (l.take (dlen b l)) = dlen b l := by
  induction l with
  | nil => rfl
  | cons c r ih =>
    by_cases hd : 0 ≤ dg b (c.toNat : Int)
    · simp only [dlen, if_pos hd, List.take_succ_cons, ih]
    · simp only [dlen, if_neg hd, List.take_zero]

/-! The library's search in the two rows of digits. -/
theorem dec_all : ∀ c : Fin 256, Lib.indexByte decB.data.toList (c.val).toUInt8 = dg 10 (c.val : Int) := by decide +kernel
theorem hex_all : ∀ c : Fin 256, Lib.indexByte hexB.data.toList (c.val).toUInt8 = dg 16 (c.val : Int) := by decide +kernel
def SaysIntD (w : World) (n : Int) (e : Ending) (w' : World) : Prop := e = .returned (.int .i64 n) ∧ Drawn w w'
def EndRel (w : World) (b : Int) (s : ByteArray) (k0 : Nat) (v : Value) (wr : World) : Prop :=
  ∃ k q : Nat, k ≤ s.size ∧ v = .int .i64 k ∧ wr = w.drewN q ∧ k + dlen b (s.data.toList.drop k) = k0 + dlen b (s.data.toList.drop k0)
theorem dlen_more (b : Int) (s : ByteArray) (k : Nat) (h : k < s.size) (hp : 0 ≤ dg b (s[k].toNat : Int)) : dlen b (s.data.toList.drop k) = dlen b (s.data.toList.drop (k + 1)) + 1 := by
  rw [drop_at s k h, dlen, if_pos hp]
theorem dlen_stop (b : Int) (s : ByteArray) (k : Nat) (h : k < s.size) (hp : ¬ 0 ≤ dg b (s[k].toNat : Int)) : dlen b (s.data.toList.drop k) = 0 := by
  rw [drop_at s k h, dlen, if_neg hp]
theorem dlen_end (b : Int) (s : ByteArray) (k : Nat) (h : s.size ≤ k) : dlen b (s.data.toList.drop k) = 0 := by
  rw [List.drop_eq_nil_of_le (by simpa using h)]; rfl
end Go.Proofs.YtkpocljlmbihcaaDoor
