/- Contracts of the small functions of chapter 1 that only compute with numbers. -/
import Derived.Test.YtkpocljlmbihcaaDoorRows
import Derived.WalkKit
import Derived.Lib.Hide
namespace Go.Proofs.YtkpocljlmbihcaaDoor
set_option maxRecDepth 100000
open Go.RowKit
theorem ret_bool {a b : Bool} (h : a = b) : Ending.returned (.bool a) = .returned (.bool b) := by rw [h]
theorem ret_int {k : IntKind} {a b : Int} (h : a = b) : Ending.returned (.int k a) = .returned (.int k b) := by rw [h]
theorem is_le {a b : Int} (h : a ≤ b) : decide (a ≤ b) = true := by simp; omega
theorem is_lt {a b : Int} (h : a < b) : decide (a < b) = true := by simp; omega
theorem not_le {a b : Int} (h : b < a) : decide (a ≤ b) = false := by simp; omega
theorem not_lt {a b : Int} (h : b ≤ a) : decide (a < b) = false := by simp; omega

def inB (n lo hi : Int) : Bool := decide (lo ≤ n) && decide (n ≤ hi)
theorem inB_true {n lo hi : Int} (h : lo ≤ n) (h2 : n ≤ hi) : inB n lo hi = true := by unfold inB; simp [h, h2]
theorem inB_low {n lo hi : Int} (h : n < lo) : inB n lo hi = false := by unfold inB; simp; omega
theorem inB_high {n lo hi : Int} (h : hi < n) : inB n lo hi = false := by unfold inB; simp; omega

theorem l1In_any (n lo hi : Int) (w : World) :
    Calls Tryd.prog 26 #[.int .i64 n, .int .i64 lo, .int .i64 hi] w fun e w' => e = .returned (.bool (inB n lo hi)) ∧ w = w' := by
  rcases Int.lt_or_le n lo with c0 | c0
  · have H : Hid (inB n lo hi = false) := Lib.hid (inB_low c0)
    go_enter Tryd.func26, Tryd.ntmps26
    go_wp2
    go_ret
    exact ⟨ret_bool (by rw [H.out]), rfl⟩
  rcases Int.lt_or_le hi n with c1 | c1
  · have H : Hid (inB n lo hi = false) := Lib.hid (inB_high c1)
    have d := not_le c1
    go_enter Tryd.func26, Tryd.ntmps26
    go_wp2
    go_ret
    exact ⟨ret_bool (by rw [H.out]), rfl⟩
  · have H : Hid (inB n lo hi = true) := Lib.hid (inB_true c0 c1)
    go_enter Tryd.func26, Tryd.ntmps26
    go_wp2
    go_ret
    exact ⟨ret_bool (by rw [H.out]), rfl⟩

theorem l1In_true (n lo hi : Int) (w : World) (c0 : lo ≤ n) (c1 : n ≤ hi) :
    Calls Tryd.prog 26 #[.int .i64 n, .int .i64 lo, .int .i64 hi] w fun e w' => e = .returned (.bool true) ∧ w = w' :=
  (l1In_any n lo hi w).mono fun _ _ ⟨a, b⟩ => ⟨by rw [a, inB_true c0 c1], b⟩
theorem l1In_false (n lo hi : Int) (w : World) (c : n < lo ∨ hi < n) :
    Calls Tryd.prog 26 #[.int .i64 n, .int .i64 lo, .int .i64 hi] w fun e w' => e = .returned (.bool false) ∧ w = w' :=
  (l1In_any n lo hi w).mono fun _ _ ⟨a, b⟩ => ⟨by rcases c with c | c <;> rw [a]; rw [inB_low c]; rw [inB_high c], b⟩


/-! Bytes that may be in a text. -/
def plainB (c : Int) : Bool := (decide (32 ≤ c) && decide (c ≤ 126)) || c == 9 || c == 10
theorem plain_cases {c : Int} (h : plainB c = true) : (32 ≤ c ∧ c ≤ 126) ∨ c = 9 ∨ c = 10 := by
  unfold plainB at h; simp at h; omega
theorem plain_not {c : Int} (h : plainB c = false) : (c == 9) = false ∧ (c == 10) = false ∧ (c < 32 ∨ 126 < c) := by
  unfold plainB at h; simp at h; simp; omega
theorem ret_pair {a a' b b' : Value} (h : a = a') (h' : b = b') : Ending.returned (.tuple #[a, b]) = .returned (.tuple #[a', b']) := by rw [h, h']
end Go.Proofs.YtkpocljlmbihcaaDoor
