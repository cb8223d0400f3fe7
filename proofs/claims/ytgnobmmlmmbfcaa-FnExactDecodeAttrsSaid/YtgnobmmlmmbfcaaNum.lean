/- Contracts of the small functions of chapter 1 that only compute with numbers. -/
import Derived.Test.YtgnobmmlmmbfcaaRows
import Derived.WalkKit
import Derived.Lib.Hide
namespace Go.Proofs.Ytgnobmmlmmbfcaa
open Go.RowKit
theorem ret_bool {a b : Bool} (h : a = b) : Ending.returned (.bool a) = .returned (.bool b) := by rw [h]
theorem ret_int {k : IntKind} {a b : Int} (h : a = b) : Ending.returned (.int k a) = .returned (.int k b) := by rw [h]
theorem is_le {a b : Int} (h : a ≤ b) : decide (a ≤ b) = true := by simp; omega
theorem is_lt {a b : Int} (h : a < b) : decide (a < b) = true := by simp; omega
theorem not_le {a b : Int} (h : b < a) : decide (a ≤ b) = false := by simp; omega
theorem not_lt {a b : Int} (h : b ≤ a) : decide (a < b) = false := by simp; omega

def inB (n lo hi : Int) : Bool := decide (lo ≤ n) && decide (n ≤ hi)
theorem inB_true {n lo hi : Int} (h : lo ≤ n) (h2 : n ≤ hi) : inB n lo hi = true := by unfold inB; simp [h, h2]
theorem inB_low {n lo hi : Int} (h : n < lo) : inB n lo hi = false := by unfold inB; simp; omega
theorem inB_high {n lo hi : Int} (h : hi < n) : inB n lo hi = false := by unfold inB; simp; omega

theorem areBytes_true (a : Option Addr) (n c : Nat) (w : World) (h : (n : Int) ≤ 4000) :
    Calls Try.prog 29 #[.slice a n c] w fun e w' => e = .returned (.bool true) ∧ w = w' := by
  go_enter Try.func29, Try.ntmps29
  go_wp2
  go_ret
  exact ⟨rfl, rfl⟩
theorem areBytes_false (a : Option Addr) (n c : Nat) (w : World) (h : (4000 : Int) < n) :
    Calls Try.prog 29 #[.slice a n c] w fun e w' => e = .returned (.bool false) ∧ w = w' := by
  have d := not_le h
  go_enter Try.func29, Try.ntmps29
  go_wp2
  go_ret
  exact ⟨rfl, rfl⟩

/-! Bytes that may be in a text. -/
def plainB (c : Int) : Bool := (decide (32 ≤ c) && decide (c ≤ 126)) || c == 9 || c == 10
theorem plain_cases {c : Int} (h : plainB c = true) : (32 ≤ c ∧ c ≤ 126) ∨ c = 9 ∨ c = 10 := by
  unfold plainB at h; simp at h; omega
theorem plain_not {c : Int} (h : plainB c = false) : (c == 9) = false ∧ (c == 10) = false ∧ (c < 32 ∨ 126 < c) := by
  unfold plainB at h; simp at h; simp; omega
theorem ret_pair {a a' b b' : Value} (h : a = a') (h' : b = b') : Ending.returned (.tuple #[a, b]) = .returned (.tuple #[a', b']) := by rw [h, h']
/-! Aligned numbers. -/
def alnB (n b : Int) : Bool := decide (0 ≤ n ∧ n ≤ 1000000 ∧ 1 ≤ b ∧ b ≤ 16)
def alR (n b : Int) : Int := if 0 ≤ n ∧ n ≤ 1000000 ∧ 1 ≤ b ∧ b ≤ 16 then (n + b - 1) / b * b else 0
theorem al_not {n b : Int} (h : ¬ (0 ≤ n ∧ n ≤ 1000000 ∧ 1 ≤ b ∧ b ≤ 16)) : alnB n b = false ∧ alR n b = 0 := by
  unfold alnB alR; exact ⟨decide_eq_false h, if_neg h⟩
theorem al_yes {n b : Int} (h : 0 ≤ n ∧ n ≤ 1000000 ∧ 1 ≤ b ∧ b ≤ 16) : alnB n b = true ∧ alR n b = (n + b - 1) / b * b := by
  unfold alnB alR; exact ⟨decide_eq_true h, if_pos h⟩
theorem quo_mul (n b : Int) (h0 : 0 ≤ n) (h1 : n ≤ 1000000) (h2 : 1 ≤ b) (h3 : b ≤ 16) : 0 ≤ (n + b - 1) / b ∧ (n + b - 1) / b ≤ 1000015 ∧ 0 ≤ (n + b - 1) / b * b ∧ (n + b - 1) / b * b ≤ 1000015 ∧ n ≤ (n + b - 1) / b * b ∧ (n + b - 1) / b * b < n + b := by
  have e := Int.mul_ediv_add_emod (n + b - 1) b
  have r := Int.emod_nonneg (n + b - 1) (b := b) (by omega)
  have r2 := Int.emod_lt_of_pos (n + b - 1) (b := b) (by omega)
  have q := Int.ediv_nonneg (a := n + b - 1) (b := b) (by omega) (by omega)
  have m : (n + b - 1) / b * 1 ≤ (n + b - 1) / b * b := Int.mul_le_mul_of_nonneg_left h2 q
  rw [Int.mul_comm] at e
  omega
theorem al_ways {n b : Int} (h : ¬ (0 ≤ n ∧ n ≤ 1000000 ∧ 1 ≤ b ∧ b ≤ 16)) : n < 0 ∨ (0 ≤ n ∧ 1000000 < n) ∨ (0 ≤ n ∧ n ≤ 1000000 ∧ b < 1) ∨ (0 ≤ n ∧ n ≤ 1000000 ∧ 1 ≤ b ∧ 16 < b) := by omega
theorem implAlignUp_any (n b : Int) (w : World) :
    Calls Try.prog 27 #[.int .i64 n, .int .i64 b] w fun e w' => e = .returned (.tuple #[.int .i64 (alR n b), .bool (alnB n b)]) ∧ w = w' := by
  by_cases h : 0 ≤ n ∧ n ≤ 1000000 ∧ 1 ≤ b ∧ b ≤ 16
  · have H : Hid (alnB n b = true ∧ alR n b = (n + b - 1) / b * b) := Lib.hid (al_yes h)
    obtain ⟨h0, h1, h2, h3⟩ := h
    obtain ⟨q0, q1, q2, q3, q4, q5⟩ := quo_mul n b h0 h1 h2 h3
    have t0 := not_lt h0
    have t1 := not_lt h1
    have t2 := not_lt h2
    have t3 := not_lt h3
    go_enter Try.func27, Try.ntmps27
    go_wp2
    go_ret2
    exact ⟨ret_pair (by rw [H.out.2]; rfl) (by rw [H.out.1]; rfl), rfl⟩
  · have H : Hid (alnB n b = false ∧ alR n b = 0) := Lib.hid (al_not h)
    rcases al_ways h with a | ⟨a, a'⟩ | ⟨a, a', a''⟩ | ⟨a, a', a'', a3⟩ <;> clear h
    · have t0 := is_lt a
      go_enter Try.func27, Try.ntmps27
      go_wp2
      go_ret2
      exact ⟨ret_pair (by rw [H.out.2]; rfl) (by rw [H.out.1]; rfl), rfl⟩
    · have t0 := not_lt a
      have t1 := is_lt a'
      go_enter Try.func27, Try.ntmps27
      go_wp2
      go_ret2
      exact ⟨ret_pair (by rw [H.out.2]; rfl) (by rw [H.out.1]; rfl), rfl⟩
    · have t0 := not_lt a
      have t1 := not_lt a'
      have t2 := is_lt a''
      go_enter Try.func27, Try.ntmps27
      go_wp2
      go_ret2
      exact ⟨ret_pair (by rw [H.out.2]; rfl) (by rw [H.out.1]; rfl), rfl⟩
    · have t0 := not_lt a
      have t1 := not_lt a'
      have t2 := not_lt a''
      have t3 := is_lt a3
      go_enter Try.func27, Try.ntmps27
      go_wp2
      go_ret2
      exact ⟨ret_pair (by rw [H.out.2]; rfl) (by rw [H.out.1]; rfl), rfl⟩
end Go.Proofs.Ytgnobmmlmmbfcaa
