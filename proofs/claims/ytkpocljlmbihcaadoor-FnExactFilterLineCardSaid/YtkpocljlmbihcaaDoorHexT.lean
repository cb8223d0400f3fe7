/- Hexadecimal texts of numbers: contracts of HexOf, program and model. -/
import Derived.Test.YtkpocljlmbihcaaDoorDig
import Derived.Laws.BytesArg
namespace Go.Proofs.YtkpocljlmbihcaaDoor
set_option maxRecDepth 100000
open Go.RowKit

/-- the digit of a number below 16, as a byte -/
def hdI (k : Int) : Int := if k < 10 then 48 + k else 87 + k
/-- the digits of a number, the highest first -/
def hexN (n : Nat) : List Int := if n < 16 then [hdI n] else hexN (n / 16) ++ [hdI ((n % 16 : Nat) : Int)]
termination_by n
decreasing_by omega
/-- the digits of a number, as many as asked -/
def hexC (n : Nat) : Nat → List Int
  | 0 => []
  | c + 1 => hexC (n / 16) c ++ [hdI ((n % 16 : Nat) : Int)]
theorem hexC_eq (c : Nat) : ∀ n : Nat, n < 16 ^ (c + 1) → (c = 0 ∨ 16 ^ c ≤ n) → hexC n (c + 1) = hexN n := by
  induction c with
  | zero =>
    intro n h _
    have h' : n < 16 := by simpa using h
    rw [hexN, if_pos h', hexC, hexC, Nat.mod_eq_of_lt h']
    rfl
  | succ c ih =>
    intro n h h2
    have h3 : 16 ^ (c + 1) ≤ n := h2.resolve_left (by omega)
    have h4 : 16 ≤ n := Nat.le_trans (by rw [Nat.pow_succ]; have := Nat.pow_pos (n := c) (a := 16) (by omega); omega) h3
    rw [hexN, if_neg (by omega), hexC, ih (n / 16)]
    · rw [Nat.div_lt_iff_lt_mul (by omega), ← Nat.pow_succ]; exact h
    · by_cases e : c = 0
      · exact .inl e
      · right
        rw [Nat.le_div_iff_mul_le (by omega), ← Nat.pow_succ]
        exact h3
/-- the text -/
def hexStr (n : Nat) : ByteArray := strOfNums (48 :: 120 :: hexN n)
theorem strOfNums_append (a b : List Int) : strOfNums a ++ strOfNums b = strOfNums (a ++ b) := by
  apply ByteArray.ext
  simp [strOfNums, ByteArray.data_append]

theorem sl16 (w : World) : ∀ (k : Nat), k < 16 → (Instr.slice 9 (.string ⟨#[48, 49, 50, 51, 52, 53, 54, 55, 56, 57, 97, 98, 99, 100, 101, 102]⟩) (some (.int .i64 (k : Int))) (some (.int .i64 ((k : Int) + 1))) none).run Tryd.prog w = .ok (.string (strOfNums [hdI (k : Int)])) w
  | 0, _ => by kernel_rfl
  | 1, _ => by kernel_rfl
  | 2, _ => by kernel_rfl
  | 3, _ => by kernel_rfl
  | 4, _ => by kernel_rfl
  | 5, _ => by kernel_rfl
  | 6, _ => by kernel_rfl
  | 7, _ => by kernel_rfl
  | 8, _ => by kernel_rfl
  | 9, _ => by kernel_rfl
  | 10, _ => by kernel_rfl
  | 11, _ => by kernel_rfl
  | 12, _ => by kernel_rfl
  | 13, _ => by kernel_rfl
  | 14, _ => by kernel_rfl
  | 15, _ => by kernel_rfl
  | k + 16, h => absurd h (by omega)

theorem hexN_small (n : Nat) (h : n < 16) : hexN n = [hdI n] := by rw [hexN, if_pos h]
theorem hexN_big (n : Nat) (h : 16 ≤ n) : hexN n = hexN (n / 16) ++ [hdI ((n : Int) % 16)] := by rw [hexN, if_neg (by omega)]; rfl
theorem hexN_length (n : Nat) : (hexN n).length ≤ n + 1 := by
  induction n using Nat.strongRecOn with
  | _ n ih =>
    by_cases h : n < 16
    · rw [hexN_small n h]; simp
    · rw [hexN_big n (by omega)]
      have := ih (n / 16) (by omega)
      simp
      omega
theorem str_ret {a b : ByteArray} (h : a = b) : Ending.returned (.string a) = .returned (.string b) := by rw [h]

end Go.Proofs.YtkpocljlmbihcaaDoor
