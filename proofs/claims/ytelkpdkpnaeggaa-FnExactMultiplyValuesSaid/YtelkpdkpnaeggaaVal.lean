/- Values: contracts of the functions of chapter 2 that only compute with numbers: isValue, MultiplyValues, ScaleValue, programs and models. -/
import Derived.Test.YtelkpdkpnaeggaaNum
namespace Go.Proofs.Ytelkpdkpnaeggaa
open Go.RowKit

theorem isValue_true (n : Int) (w : World) (h0 : 0 ≤ n) (h1 : n ≤ 1000000000) :
    Calls Try.prog 45 #[.int .i64 n] w fun e w' => e = .returned (.bool true) ∧ w = w' := by
  go_enter Try.func45, Try.ntmps45
  go_wp2
  go_ret
  exact ⟨rfl, rfl⟩
theorem isValue_false (n : Int) (w : World) (h : n < 0 ∨ 1000000000 < n) :
    Calls Try.prog 45 #[.int .i64 n] w fun e w' => e = .returned (.bool false) ∧ w = w' := by
  rcases Int.lt_or_le n 0 with c | c
  · have d : decide ((0 : Int) ≤ n) = false := not_le c
    clear h
    go_enter Try.func45, Try.ntmps45
    go_wp2
    go_ret
    exact ⟨rfl, rfl⟩
  · have h' : 1000000000 < n := by omega
    have d := not_le h'
    clear h
    go_enter Try.func45, Try.ntmps45
    go_wp2
    go_ret
    exact ⟨rfl, rfl⟩
theorem nuValue_true (n : Int) (w : World) (h0 : 0 ≤ n) (h1 : n ≤ 1000000000) :
    Calls Try.prog 46 #[.int .i64 n] w fun e w' => e = .returned (.bool true) ∧ w = w' := by
  go_enter Try.func46, Try.ntmps46
  go_wp2_with (go_at_call 34; refine (l1In_true _ _ _ _ h0 h1).mono ?_; rintro e w' ⟨rfl, rfl⟩)
  go_ret
  exact ⟨rfl, rfl⟩
theorem nuValue_false (n : Int) (w : World) (h : n < 0 ∨ 1000000000 < n) :
    Calls Try.prog 46 #[.int .i64 n] w fun e w' => e = .returned (.bool false) ∧ w = w' := by
  go_enter Try.func46, Try.ntmps46
  go_wp2_with (go_at_call 34; refine (l1In_false _ _ _ _ h).mono ?_; rintro e w' ⟨rfl, rfl⟩)
  go_ret
  exact ⟨rfl, rfl⟩

/-- both functions say the same -/
def SaysNum (f : FuncId) (args : Array Value) (r : Int) (ok : Bool) : Prop :=
  ∀ w, Calls Try.prog f args w fun e w' => e = .returned (.tuple #[.int .i64 r, .bool ok]) ∧ w = w'

theorem mul_ranges {a b : Int} (a0 : 0 ≤ a) (a1 : a ≤ 1000000000) (b0 : 0 ≤ b) (b1 : b ≤ 1000000000) : 0 ≤ a * b ∧ a * b ≤ 1000000000000000000 := by
  have h := Int.mul_nonneg a0 b0
  have h1 : a * b ≤ 1000000000 * b := Int.mul_le_mul_of_nonneg_right a1 b0
  omega
theorem mul_div {a b : Int} (b0 : 0 < b) : 1000000000 / b < a ↔ 1000000000 < a * b := by
  rw [Int.ediv_lt_iff_lt_mul b0]
theorem multiply_both (a b : Int) : ∃ (r : Int) (ok : Bool), Hid (SaysNum 27 #[.int .i64 a, .int .i64 b] r ok) ∧ Hid (SaysNum 26 #[.int .i64 a, .int .i64 b] r ok) := by
  by_cases ha : a < 0 ∨ 1000000000 < a
  · refine ⟨0, false, fun w => ?_, fun w => ?_⟩
    · go_enter Try.func27, Try.ntmps27
      go_wp2_with (go_at_call 45; refine (isValue_false _ _ ha).mono ?_; rintro e w' ⟨rfl, rfl⟩)
      go_ret2
      exact ⟨rfl, rfl⟩
    · go_enter Try.func26, Try.ntmps26
      go_wp2_with (go_at_call 46; refine (nuValue_false _ _ ha).mono ?_; rintro e w' ⟨rfl, rfl⟩)
      go_ret2
      exact ⟨rfl, rfl⟩
  obtain ⟨a0, a1⟩ : 0 ≤ a ∧ a ≤ 1000000000 := by omega
  clear ha
  by_cases hb : b < 0 ∨ 1000000000 < b
  · refine ⟨0, false, fun w => ?_, fun w => ?_⟩
    · have HB := Lib.hid hb
      clear hb
      go_enter Try.func27, Try.ntmps27
      go_wp2_with (first | (go_at_call 45; (with_reducible refine (isValue_true a _ a0 a1).mono ?_); rintro e w' ⟨rfl, rfl⟩) | (go_at_call 45; (with_reducible refine (isValue_false b _ HB.out).mono ?_); rintro e w' ⟨rfl, rfl⟩))
      go_ret2
      exact ⟨rfl, rfl⟩
    · have HB := Lib.hid hb
      clear hb
      go_enter Try.func26, Try.ntmps26
      go_wp2_with (first | (go_at_call 46; (with_reducible refine (nuValue_true a _ a0 a1).mono ?_); rintro e w' ⟨rfl, rfl⟩) | (go_at_call 46; (with_reducible refine (nuValue_false b _ HB.out).mono ?_); rintro e w' ⟨rfl, rfl⟩))
      go_ret2
      exact ⟨rfl, rfl⟩
  obtain ⟨b0, b1⟩ : 0 ≤ b ∧ b ≤ 1000000000 := by omega
  clear hb
  obtain ⟨p0, p1⟩ := mul_ranges a0 a1 b0 b1
  rcases Int.lt_or_le 1000000000 (a * b) with hp | hp
  · refine ⟨0, false, fun w => ?_, fun w => ?_⟩
    · go_enter Try.func27, Try.ntmps27
      go_wp2_with (first | (go_at_call 45; (with_reducible refine (isValue_true a _ a0 a1).mono ?_); rintro e w' ⟨rfl, rfl⟩) | (go_at_call 45; (with_reducible refine (isValue_true b _ b0 b1).mono ?_); rintro e w' ⟨rfl, rfl⟩) | (go_at_call 45; (with_reducible refine (isValue_false (a * b) _ (.inr hp)).mono ?_); rintro e w' ⟨rfl, rfl⟩))
      go_ret2
      exact ⟨rfl, rfl⟩
    · have hb0 : 0 < b := by rcases Int.lt_or_eq_of_le b0 with h | h; exact h; subst h; simp at hp
      have d0 := is_lt hb0
      have d1 := is_lt ((mul_div (a := a) hb0).2 hp)
      go_enter Try.func26, Try.ntmps26
      go_wp2_with (first | (go_at_call 46; (with_reducible refine (nuValue_true a _ a0 a1).mono ?_); rintro e w' ⟨rfl, rfl⟩) | (go_at_call 46; (with_reducible refine (nuValue_true b _ b0 b1).mono ?_); rintro e w' ⟨rfl, rfl⟩))
      go_ret2
      exact ⟨rfl, rfl⟩
  · refine ⟨a * b, true, fun w => ?_, fun w => ?_⟩
    · go_enter Try.func27, Try.ntmps27
      go_wp2_with (first | (go_at_call 45; (with_reducible refine (isValue_true a _ a0 a1).mono ?_); rintro e w' ⟨rfl, rfl⟩) | (go_at_call 45; (with_reducible refine (isValue_true b _ b0 b1).mono ?_); rintro e w' ⟨rfl, rfl⟩) | (go_at_call 45; (with_reducible refine (isValue_true (a * b) _ p0 hp).mono ?_); rintro e w' ⟨rfl, rfl⟩))
      go_ret2
      exact ⟨rfl, rfl⟩
    · rcases Int.lt_or_eq_of_le b0 with hb0 | hb0
      · have d0 := is_lt hb0
        have d1 : decide (1000000000 / b < a) = false := by rw [decide_eq_false]; rw [mul_div hb0]; omega
        go_enter Try.func26, Try.ntmps26
        go_wp2_with (first | (go_at_call 46; (with_reducible refine (nuValue_true a _ a0 a1).mono ?_); rintro e w' ⟨rfl, rfl⟩) | (go_at_call 46; (with_reducible refine (nuValue_true b _ b0 b1).mono ?_); rintro e w' ⟨rfl, rfl⟩))
        go_ret2
        exact ⟨rfl, rfl⟩
      · have d0 := not_lt (Int.le_of_eq hb0.symm)
        clear hb0
        go_enter Try.func26, Try.ntmps26
        go_wp2_with (first | (go_at_call 46; (with_reducible refine (nuValue_true a _ a0 a1).mono ?_); rintro e w' ⟨rfl, rfl⟩) | (go_at_call 46; (with_reducible refine (nuValue_true b _ b0 b1).mono ?_); rintro e w' ⟨rfl, rfl⟩))
        go_ret2
        exact ⟨rfl, rfl⟩

/-- what is divided -/
def scX (n m d : Int) (up : Bool) : Int := if up then n * m + d - 1 else n * m
theorem scX_ranges {n m d : Int} (n0 : 0 ≤ n) (n1 : n ≤ 1000000000) (m0 : 0 ≤ m) (m1 : m ≤ 1000000) (d0 : 1 ≤ d) (d1 : d ≤ 1000000) :
    0 ≤ n * m ∧ n * m ≤ 1000000000000000 ∧ 0 ≤ n * m + d - 1 ∧ 0 ≤ n * m / d ∧ n * m / d ≤ 1000000000000000 ∧ 0 ≤ (n * m + (d - 1)) / d ∧ (n * m + (d - 1)) / d ≤ 1000001000000000 := by
  have h := Int.mul_nonneg n0 m0
  have h1 : n * m ≤ 1000000000 * m := Int.mul_le_mul_of_nonneg_right n1 m0
  have h2 : n * m / d ≤ n * m := Int.ediv_le_self _ h
  have h3 : (n * m + (d - 1)) / d ≤ n * m + (d - 1) := Int.ediv_le_self _ (by omega)
  have h4 := Int.ediv_nonneg (a := n * m) (b := d) h (by omega)
  have h5 := Int.ediv_nonneg (a := n * m + (d - 1)) (b := d) (by omega) (by omega)
  omega
def ScGood (n m d : Int) : Prop := (0 ≤ n ∧ n ≤ 1000000000) ∧ (0 ≤ m ∧ m ≤ 1000000) ∧ (1 ≤ d ∧ d ≤ 1000000)
theorem scale_ways {n m d : Int} (h : ¬ ScGood n m d) : (n < 0 ∨ 1000000000 < n) ∨ ((0 ≤ n ∧ n ≤ 1000000000) ∧ (m < 0 ∨ (0 ≤ m ∧ 1000000 < m))) ∨ ((0 ≤ n ∧ n ≤ 1000000000) ∧ (0 ≤ m ∧ m ≤ 1000000) ∧ (d < 1 ∨ (1 ≤ d ∧ 1000000 < d))) := by
  unfold ScGood at h; omega
theorem implScale_bad (n m d : Int) (up : Bool) (h : ¬ ScGood n m d) : SaysNum 29 #[.int .i64 n, .int .i64 m, .int .i64 d, .bool up] 0 false := by
  intro w
  rcases scale_ways h with a | ⟨⟨a, a'⟩, b⟩ | ⟨⟨a, a'⟩, ⟨b, b'⟩, c⟩ <;> clear h
  · go_enter Try.func29, Try.ntmps29
    go_wp2_with (go_at_call 45; refine (isValue_false _ _ a).mono ?_; rintro e w' ⟨rfl, rfl⟩)
    go_ret2
    exact ⟨rfl, rfl⟩
  · rcases b with b | ⟨b, b'⟩
    · have t := is_lt b
      go_enter Try.func29, Try.ntmps29
      go_wp2_with (go_at_call 45; refine (isValue_true _ _ a a').mono ?_; rintro e w' ⟨rfl, rfl⟩)
      go_ret2
      exact ⟨rfl, rfl⟩
    · have t := not_lt b
      have t2 := is_lt b'
      go_enter Try.func29, Try.ntmps29
      go_wp2_with (go_at_call 45; refine (isValue_true _ _ a a').mono ?_; rintro e w' ⟨rfl, rfl⟩)
      go_ret2
      exact ⟨rfl, rfl⟩
  · have t := not_lt b
    have t2 := not_lt b'
    rcases c with c | ⟨c, c'⟩
    · have t3 := is_lt c
      go_enter Try.func29, Try.ntmps29
      go_wp2_with (go_at_call 45; refine (isValue_true _ _ a a').mono ?_; rintro e w' ⟨rfl, rfl⟩)
      go_ret2
      exact ⟨rfl, rfl⟩
    · have t3 := not_lt c
      have t4 := is_lt c'
      go_enter Try.func29, Try.ntmps29
      go_wp2_with (go_at_call 45; refine (isValue_true _ _ a a').mono ?_; rintro e w' ⟨rfl, rfl⟩)
      go_ret2
      exact ⟨rfl, rfl⟩
theorem specScale_bad (n m d : Int) (up : Bool) (h : ¬ ScGood n m d) : SaysNum 28 #[.int .i64 n, .int .i64 m, .int .i64 d, .bool up] 0 false := by
  intro w
  rcases scale_ways h with a | ⟨⟨a, a'⟩, b⟩ | ⟨⟨a, a'⟩, ⟨b, b'⟩, c⟩ <;> clear h
  · go_enter Try.func28, Try.ntmps28
    go_wp2_with (go_at_call 46; refine (nuValue_false _ _ a).mono ?_; rintro e w' ⟨rfl, rfl⟩)
    go_ret2
    exact ⟨rfl, rfl⟩
  · have HB : Hid (m < 0 ∨ 1000000 < m) := Lib.hid (by omega)
    clear b
    go_enter Try.func28, Try.ntmps28
    go_wp2_with (first | (go_at_call 46; refine (nuValue_true _ _ a a').mono ?_; rintro e w' ⟨rfl, rfl⟩) | (go_at_call 34; refine (l1In_false _ _ _ _ HB.out).mono ?_; rintro e w' ⟨rfl, rfl⟩))
    go_ret2
    exact ⟨rfl, rfl⟩
  · have HC : Hid (d < 1 ∨ 1000000 < d) := Lib.hid (by omega)
    clear c
    go_enter Try.func28, Try.ntmps28
    go_wp2_with (first | (go_at_call 46; refine (nuValue_true _ _ a a').mono ?_; rintro e w' ⟨rfl, rfl⟩) | (go_at_call 34; (with_reducible refine (l1In_true m _ _ _ b b').mono ?_); rintro e w' ⟨rfl, rfl⟩) | (go_at_call 34; (with_reducible refine (l1In_false d _ _ _ HC.out).mono ?_); rintro e w' ⟨rfl, rfl⟩))
    go_ret2
    exact ⟨rfl, rfl⟩
theorem nuScale_up (n m d : Int) (w : World) (n0 : 0 ≤ n) (n1 : n ≤ 1000000000) (m0 : 0 ≤ m) (m1 : m ≤ 1000000) (d0 : 1 ≤ d) (d1 : d ≤ 1000000) :
    Calls Try.prog 47 #[.int .i64 n, .int .i64 m, .int .i64 d, .bool true] w fun e w' => e = .returned (.int .i64 ((n * m + (d - 1)) / d)) ∧ w = w' := by
  obtain ⟨q0, q1, q2, q3, q4, q5, q6⟩ := scX_ranges n0 n1 m0 m1 d0 d1
  go_enter Try.func47, Try.ntmps47
  go_wp2
  go_ret
  exact ⟨rfl, rfl⟩
theorem nuScale_down (n m d : Int) (w : World) (n0 : 0 ≤ n) (n1 : n ≤ 1000000000) (m0 : 0 ≤ m) (m1 : m ≤ 1000000) (d0 : 1 ≤ d) (d1 : d ≤ 1000000) :
    Calls Try.prog 47 #[.int .i64 n, .int .i64 m, .int .i64 d, .bool false] w fun e w' => e = .returned (.int .i64 (n * m / d)) ∧ w = w' := by
  obtain ⟨q0, q1, q2, q3, q4, q5, q6⟩ := scX_ranges n0 n1 m0 m1 d0 d1
  go_enter Try.func47, Try.ntmps47
  go_wp2
  go_ret
  exact ⟨rfl, rfl⟩
theorem scale_both (n m d : Int) (up : Bool) : ∃ (r : Int) (ok : Bool), Hid (SaysNum 29 #[.int .i64 n, .int .i64 m, .int .i64 d, .bool up] r ok) ∧ Hid (SaysNum 28 #[.int .i64 n, .int .i64 m, .int .i64 d, .bool up] r ok) := by
  by_cases h : ScGood n m d
  · obtain ⟨⟨n0, n1⟩, ⟨m0, m1⟩, d0, d1⟩ := h
    obtain ⟨q0, q1, q2, q3, q4, q5, q6⟩ := scX_ranges n0 n1 m0 m1 d0 d1
    have t0 := not_lt m0
    have t1 := not_lt m1
    have t2 := not_lt d0
    have t3 := not_lt d1
    cases up
    · rcases Int.lt_or_le 1000000000 (n * m / d) with hp | hp
      · refine ⟨0, false, fun w => ?_, fun w => ?_⟩
        · go_enter Try.func29, Try.ntmps29
          go_wp2_with (first | (go_at_call 45; (with_reducible refine (isValue_true n _ n0 n1).mono ?_); rintro e w' ⟨rfl, rfl⟩) | (go_at_call 45; (with_reducible refine (isValue_false (n * m / d) _ (.inr hp)).mono ?_); rintro e w' ⟨rfl, rfl⟩))
          go_ret2
          exact ⟨rfl, rfl⟩
        · have t4 := is_lt hp
          go_enter Try.func28, Try.ntmps28
          go_wp2_with (first | (go_at_call 46; refine (nuValue_true _ _ n0 n1).mono ?_; rintro e w' ⟨rfl, rfl⟩) | (go_at_call 34; (with_reducible refine (l1In_true m _ _ _ m0 m1).mono ?_); rintro e w' ⟨rfl, rfl⟩) | (go_at_call 34; (with_reducible refine (l1In_true d _ _ _ d0 d1).mono ?_); rintro e w' ⟨rfl, rfl⟩) | (go_at_call 47; refine (nuScale_down _ _ _ _ n0 n1 m0 m1 d0 d1).mono ?_; rintro e w' ⟨rfl, rfl⟩))
          go_ret2
          exact ⟨rfl, rfl⟩
      · refine ⟨n * m / d, true, fun w => ?_, fun w => ?_⟩
        · go_enter Try.func29, Try.ntmps29
          go_wp2_with (first | (go_at_call 45; (with_reducible refine (isValue_true n _ n0 n1).mono ?_); rintro e w' ⟨rfl, rfl⟩) | (go_at_call 45; (with_reducible refine (isValue_true (n * m / d) _ q3 hp).mono ?_); rintro e w' ⟨rfl, rfl⟩))
          go_ret2
          exact ⟨rfl, rfl⟩
        · have t4 := not_lt hp
          go_enter Try.func28, Try.ntmps28
          go_wp2_with (first | (go_at_call 46; refine (nuValue_true _ _ n0 n1).mono ?_; rintro e w' ⟨rfl, rfl⟩) | (go_at_call 34; (with_reducible refine (l1In_true m _ _ _ m0 m1).mono ?_); rintro e w' ⟨rfl, rfl⟩) | (go_at_call 34; (with_reducible refine (l1In_true d _ _ _ d0 d1).mono ?_); rintro e w' ⟨rfl, rfl⟩) | (go_at_call 47; refine (nuScale_down _ _ _ _ n0 n1 m0 m1 d0 d1).mono ?_; rintro e w' ⟨rfl, rfl⟩))
          go_ret2
          exact ⟨rfl, rfl⟩
    · rcases Int.lt_or_le 1000000000 ((n * m + (d - 1)) / d) with hp | hp
      · refine ⟨0, false, fun w => ?_, fun w => ?_⟩
        · go_enter Try.func29, Try.ntmps29
          go_wp2_with (first | (go_at_call 45; (with_reducible refine (isValue_true n _ n0 n1).mono ?_); rintro e w' ⟨rfl, rfl⟩) | (go_at_call 45; (with_reducible refine (isValue_false ((n * m + (d - 1)) / d) _ (.inr hp)).mono ?_); rintro e w' ⟨rfl, rfl⟩))
          go_ret2
          exact ⟨rfl, rfl⟩
        · have t4 := is_lt hp
          go_enter Try.func28, Try.ntmps28
          go_wp2_with (first | (go_at_call 46; refine (nuValue_true _ _ n0 n1).mono ?_; rintro e w' ⟨rfl, rfl⟩) | (go_at_call 34; (with_reducible refine (l1In_true m _ _ _ m0 m1).mono ?_); rintro e w' ⟨rfl, rfl⟩) | (go_at_call 34; (with_reducible refine (l1In_true d _ _ _ d0 d1).mono ?_); rintro e w' ⟨rfl, rfl⟩) | (go_at_call 47; refine (nuScale_up _ _ _ _ n0 n1 m0 m1 d0 d1).mono ?_; rintro e w' ⟨rfl, rfl⟩))
          go_ret2
          exact ⟨rfl, rfl⟩
      · refine ⟨(n * m + (d - 1)) / d, true, fun w => ?_, fun w => ?_⟩
        · go_enter Try.func29, Try.ntmps29
          go_wp2_with (first | (go_at_call 45; (with_reducible refine (isValue_true n _ n0 n1).mono ?_); rintro e w' ⟨rfl, rfl⟩) | (go_at_call 45; (with_reducible refine (isValue_true ((n * m + (d - 1)) / d) _ q5 hp).mono ?_); rintro e w' ⟨rfl, rfl⟩))
          go_ret2
          exact ⟨rfl, rfl⟩
        · have t4 := not_lt hp
          go_enter Try.func28, Try.ntmps28
          go_wp2_with (first | (go_at_call 46; refine (nuValue_true _ _ n0 n1).mono ?_; rintro e w' ⟨rfl, rfl⟩) | (go_at_call 34; (with_reducible refine (l1In_true m _ _ _ m0 m1).mono ?_); rintro e w' ⟨rfl, rfl⟩) | (go_at_call 34; (with_reducible refine (l1In_true d _ _ _ d0 d1).mono ?_); rintro e w' ⟨rfl, rfl⟩) | (go_at_call 47; refine (nuScale_up _ _ _ _ n0 n1 m0 m1 d0 d1).mono ?_; rintro e w' ⟨rfl, rfl⟩))
          go_ret2
          exact ⟨rfl, rfl⟩
  · exact ⟨0, false, implScale_bad n m d up h, specScale_bad n m d up h⟩
end Go.Proofs.Ytelkpdkpnaeggaa
