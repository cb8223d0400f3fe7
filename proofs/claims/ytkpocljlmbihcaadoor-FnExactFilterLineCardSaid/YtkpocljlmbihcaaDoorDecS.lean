/- The model's numbers: contracts of scNumber, scDecimal, and DecimalAt of program and model. DecimalAt: contracts of program and model. DecimalAt: the model's side, and both together. -/
import Derived.Test.YtkpocljlmbihcaaDoorDigV
namespace Go.Proofs.YtkpocljlmbihcaaDoor
set_option maxRecDepth 100000
open Go.RowKit

def SaysTwo (w : World) (n : Int) (k : Nat) (e : Ending) (w' : World) : Prop := e = .returned (.tuple #[.int .i64 n, .int .i64 (k : Int)]) ∧ w = w'
def NumRel (b bound : Int) (s : ByteArray) (k0 : Nat) (x n : Value) : Prop :=
  ∃ (k : Nat) (t : Int), k ≤ s.size ∧ x = .int .i64 k ∧ n = .int .i64 t ∧ 0 ≤ t ∧ t ≤ 68719476735 ∧ satN b bound (s.data.toList.drop k) t = satN b bound (s.data.toList.drop k0) 0 ∧ k + dlen b (s.data.toList.drop k) = k0 + dlen b (s.data.toList.drop k0)
theorem sat_small (b bound : Int) (s : ByteArray) (k : Nat) (t : Int) (h : k < s.size) (hp : 0 ≤ dg b (s[k].toNat : Int)) (ht : t ≤ bound) : satN b bound (s.data.toList.drop k) t = satN b bound (s.data.toList.drop (k + 1)) (b * t + dg b (s[k].toNat : Int)) := by
  rw [drop_at s k h, satN, if_pos hp, if_pos ht]
theorem sat_big (b bound : Int) (s : ByteArray) (k : Nat) (t : Int) (h : k < s.size) (hp : 0 ≤ dg b (s[k].toNat : Int)) (ht : bound < t) : satN b bound (s.data.toList.drop k) t = satN b bound (s.data.toList.drop (k + 1)) t := by
  rw [drop_at s k h, satN, if_pos hp, if_neg (by omega)]
theorem sat_stop (b bound : Int) (s : ByteArray) (k : Nat) (t : Int) (h : k < s.size) (hp : ¬ 0 ≤ dg b (s[k].toNat : Int)) : satN b bound (s.data.toList.drop k) t = t := by
  rw [drop_at s k h, satN, if_neg hp]
theorem sat_end (b bound : Int) (s : ByteArray) (k : Nat) (t : Int) (h : s.size ≤ k) : satN b bound (s.data.toList.drop k) t = t := by
  rw [List.drop_eq_nil_of_le (by simpa using h)]; rfl
end Go.Proofs.YtkpocljlmbihcaaDoor

namespace Go.Proofs.YtkpocljlmbihcaaDoor
open Go.RowKit

theorem ret_three {a a' b b' c c' : Value} (h : a = a') (h' : b = b') (h'' : c = c') : Ending.returned (.tuple #[a, b, c]) = .returned (.tuple #[a', b', c']) := by rw [h, h', h'']
theorem sub_run (s : ByteArray) (k0 c : Nat) (hc : k0 + c ≤ s.size) : ∃ u : ByteArray, u.size = c ∧ u.data.toList = (s.data.toList.drop k0).take c ∧
    ∀ w, (Instr.slice 9 (.string s) (some (.int .i64 (k0 : Int))) (some (.int .i64 ((k0 : Int) + (c : Int)))) none).run Tryd.prog w = .ok (.string u) w := by
  have hd := Lib.extract_data s k0 (k0 + c)
  rw [Nat.add_sub_cancel_left] at hd
  refine ⟨s.extract k0 (k0 + c), ?_, hd, fun w => ?_⟩
  · have := congrArg List.length hd
    simp at this
    simp
    omega
  · rw [run_slice_string w 9 s .i64 .i64 (k0 : Int) ((k0 : Int) + (c : Int)) Tryd.underlying9 (by omega) (by omega) (by omega)]
    rfl
theorem Drawn.dig {w w' : World} (h : Drawn w w') (hd : Dig w) : Dig w' := by obtain ⟨q, rfl⟩ := h; exact hd
theorem Drawn.trans {a b c : World} (h : Drawn a b) (k : Drawn b c) : Drawn a c := by
  obtain ⟨q, rfl⟩ := h
  obtain ⟨r, rfl⟩ := k
  exact ⟨q + r, by simp⟩
def SaysThree (w : World) (a b : Int) (ok : Bool) (e : Ending) (w' : World) : Prop := e = .returned (.tuple #[.int .i64 a, .int .i64 b, .bool ok]) ∧ Drawn w w'

/-! The program. -/
end Go.Proofs.YtkpocljlmbihcaaDoor

namespace Go.Proofs.YtkpocljlmbihcaaDoor
open Go.RowKit

def AtBad (n a : Int) : Prop := 4000 < n ∨ (n ≤ 4000 ∧ a < 0) ∨ (n ≤ 4000 ∧ 0 ≤ a ∧ n < a)
def SaysTwoI (w : World) (n k : Int) (e : Ending) (w' : World) : Prop := e = .returned (.tuple #[.int .i64 n, .int .i64 k]) ∧ w = w'
def SaysThreeS (w : World) (a b : Int) (ok : Bool) (e : Ending) (w' : World) : Prop := e = .returned (.tuple #[.int .i64 a, .int .i64 b, .bool ok]) ∧ w = w'
/-- the first digit is not 0: as many digits, so great a number -/
theorem first_ge (s : ByteArray) (k0 c : Nat) (hk0 : k0 < s.size) (HC : dlen 10 (s.data.toList.drop k0) = c) (h0 : 10 < c) (b3 : (s[k0].toNat : Int) ≠ 48) : 1000000000 < dvN 10 (s.data.toList.drop k0) 0 := by
  rw [drop_at s k0 hk0] at HC ⊢
  unfold dlen at HC
  unfold dvN
  by_cases hd : 0 ≤ dg 10 (s[k0].toNat : Int)
  · rw [if_pos hd] at HC ⊢
    have h1 := (dvN_ge 10 (by omega) (s.data.toList.drop (k0 + 1)) (0 * 10 + dg 10 (s[k0].toNat : Int)) (by omega)).1
    have hne : 1 ≤ dg 10 (s[k0].toNat : Int) := by
      unfold dg at hd ⊢
      have := dv_cases (s[k0].toNat : Int)
      split at hd
      · rename_i h
        rw [if_pos h]
        omega
      · omega
    have hp : ((10 ^ 10 : Nat) : Int) ≤ ((10 ^ (dlen 10 (s.data.toList.drop (k0 + 1))) : Nat) : Int) := Int.ofNat_le.2 (Nat.pow_le_pow_right (by omega) (by omega))
    rw [Int.natCast_pow, Int.natCast_pow] at hp
    have e10 : ((10 : Nat) : Int) ^ 10 = 10000000000 := rfl
    rw [e10] at hp
    have hc10 : ((10 : Nat) : Int) = 10 := rfl
    rw [hc10] at hp
    have hm : 1 * (10 : Int) ^ (dlen 10 (s.data.toList.drop (k0 + 1))) ≤ dg 10 (s[k0].toNat : Int) * 10 ^ (dlen 10 (s.data.toList.drop (k0 + 1))) := Int.mul_le_mul_of_nonneg_right hne (by omega)
    rw [Int.zero_mul, Int.zero_add] at h1 ⊢
    omega
  · rw [if_neg hd] at HC
    omega

theorem dlen_room (b : Int) (s : ByteArray) (k : Nat) (h : k ≤ s.size) : k + dlen b (s.data.toList.drop k) ≤ s.size := by
  have := dlen_le b (s.data.toList.drop k)
  simp at this
  omega
end Go.Proofs.YtkpocljlmbihcaaDoor
