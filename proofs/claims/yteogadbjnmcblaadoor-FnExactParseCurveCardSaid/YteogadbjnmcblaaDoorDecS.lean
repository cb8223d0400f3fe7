/- DecimalAt: the model's side, and both together. -/
import Derived.Test.YteogadbjnmcblaaDoorDecT
namespace Go.Proofs.YteogadbjnmcblaaDoor
set_option maxRecDepth 100000
open Go.RowKit

def AtBad (n a : Int) : Prop := 4000 < n ∨ (n ≤ 4000 ∧ a < 0) ∨ (n ≤ 4000 ∧ 0 ≤ a ∧ n < a)
def SaysTwoI (w : World) (n k : Int) (e : Ending) (w' : World) : Prop := e = .returned (.tuple #[.int .i64 n, .int .i64 k]) ∧ w = w'
def SaysThreeS (w : World) (a b : Int) (ok : Bool) (e : Ending) (w' : World) : Prop := e = .returned (.tuple #[.int .i64 a, .int .i64 b, .bool ok]) ∧ w = w'
/-- the first digit is not 0: as many digits, so great a number -/
theorem first_ge (s : ByteArray) (k0 c : Nat) (hk0 : k0 < s.size) (HC : dlen 10 (s.data.toList.drop k0) = c) (h0 : 10 < c) (b3 : (s[k0].toNat : Int) ≠ 48) : 1000000000 < dvN 10 (s.data.toList.drop k0) 0 := by
  rw [drop_at s k0 hk0] at HC ⊢
  unfold dlen at HC
  unfold dvN
  by_cases hd : 0 ≤ dg 10 (s[k0].toNat : Int)
  · rw [if_pos hd] at HC ⊢
    have h1 := (dvN_ge 10 (by omega) (s.data.toList.drop (k0 + 1)) (0 * 10 + dg 10 (s[k0].toNat : Int)) (by omega)).1
    have hne : 1 ≤ dg 10 (s[k0].toNat : Int) := by
      unfold dg at hd ⊢
      have := dv_cases (s[k0].toNat : Int)
      split at hd
      · rename_i h
        rw [if_pos h]
        omega
      · omega
    have hp : ((10 ^ 10 : Nat) : Int) ≤ ((10 ^ (dlen 10 (s.data.toList.drop (k0 + 1))) : Nat) : Int) := Int.ofNat_le.2 (Nat.pow_le_pow_right (by omega) (by omega))
    rw [Int.natCast_pow, Int.natCast_pow] at hp
    have e10 : ((10 : Nat) : Int) ^ 10 = 10000000000 := rfl
    rw [e10] at hp
    have hc10 : ((10 : Nat) : Int) = 10 := rfl
    rw [hc10] at hp
    have hm : 1 * (10 : Int) ^ (dlen 10 (s.data.toList.drop (k0 + 1))) ≤ dg 10 (s[k0].toNat : Int) * 10 ^ (dlen 10 (s.data.toList.drop (k0 + 1))) := Int.mul_le_mul_of_nonneg_right hne (by omega)
    rw [Int.zero_mul, Int.zero_add] at h1 ⊢
    omega
  · rw [if_neg hd] at HC
    omega

theorem dlen_room (b : Int) (s : ByteArray) (k : Nat) (h : k ≤ s.size) : k + dlen b (s.data.toList.drop k) ≤ s.size := by
  have := dlen_le b (s.data.toList.drop k)
  simp at this
  omega
end Go.Proofs.YteogadbjnmcblaaDoor
