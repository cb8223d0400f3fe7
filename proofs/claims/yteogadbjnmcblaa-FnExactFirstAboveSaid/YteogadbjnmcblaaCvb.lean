/- Curves: validity, values, shapes, short forms: contracts of both sides. -/
import Derived.Test.YteogadbjnmcblaaCvm
import Derived.Test.YteogadbjnmcblaaIsi
namespace Go.Proofs.Yteogadbjnmcblaa
open Go.RowKit
set_option linter.unusedVariables false

theorem cv_goodR (c : Cv) : goodV c = (inB c.f 0 100000 && (inB c.l 0 10000 && inB c.s 0 100000)) := rfl
set_option maxHeartbeats 1600000 in
theorem cuGood_any (c : Cv) (w : World) : Calls Try.prog 38 #[cvV c] w (SaysB w (goodV c)) := by
  have HX := Lib.hid (cv_goodR c)
  have H2 := Lib.hid (fun w => l1In_any c.f 0 100000 w)
  have H3 := Lib.hid (fun w => l1In_any c.l 0 10000 w)
  have H4 := Lib.hid (fun w => l1In_any c.s 0 100000 w)
  generalize inB c.f 0 100000 = b2 at HX H2
  generalize inB c.l 0 10000 = b3 at HX H3
  generalize inB c.s 0 100000 = b4 at HX H4
  generalize goodV c = B at HX ⊢
  obtain ⟨xf, xl, xs⟩ := c
  unfold cvV
  simp only at H2 H3 H4 ⊢
  go_enter Try.func38, Try.ntmps38
  go_wp2_with (first | (go_at_call 44; (with_reducible refine (H2.out _).mono ?_); rintro e w' ⟨rfl, rfl⟩) | (go_at_call 44; (with_reducible refine (H3.out _).mono ?_); rintro e w' ⟨rfl, rfl⟩) | (go_at_call 44; (with_reducible refine (H4.out _).mono ?_); rintro e w' ⟨rfl, rfl⟩))
  all_goals
    go_ret
    exact ⟨ret_bool (by rw [HX.out]; simp_all), one_new2 _ _⟩
set_option maxHeartbeats 1600000 in
theorem implIsCurve_any (c : Cv) (w : World) : Calls Try.prog 15 #[cvV c] w (SaysB w (goodV c)) := by
  have HX := Lib.hid (cv_goodR c)
  have H2 := Lib.hid (fun w => isIn_any c.f 0 100000 w)
  have H3 := Lib.hid (fun w => isIn_any c.l 0 10000 w)
  have H4 := Lib.hid (fun w => isIn_any c.s 0 100000 w)
  generalize inB c.f 0 100000 = b2 at HX H2
  generalize inB c.l 0 10000 = b3 at HX H3
  generalize inB c.s 0 100000 = b4 at HX H4
  generalize goodV c = B at HX ⊢
  obtain ⟨xf, xl, xs⟩ := c
  unfold cvV
  simp only at H2 H3 H4 ⊢
  go_enter Try.func15, Try.ntmps15
  go_wp2_with (first | (go_at_call 39; (with_reducible refine (H2.out _).mono ?_); rintro e w' ⟨rfl, rfl⟩) | (go_at_call 39; (with_reducible refine (H3.out _).mono ?_); rintro e w' ⟨rfl, rfl⟩) | (go_at_call 39; (with_reducible refine (H4.out _).mono ?_); rintro e w' ⟨rfl, rfl⟩))
  all_goals
    go_ret
    exact ⟨ret_bool (by rw [HX.out]; simp_all), one_new2 _ _⟩
theorem specIsCurve_any (c : Cv) (w : World) : Calls Try.prog 13 #[cvV c] w (SaysB w (goodV c)) := by
  have H := Lib.hid (fun w => cuGood_any c w)
  generalize goodV c = B at H ⊢
  obtain ⟨xf, xl, xs⟩ := c
  unfold cvV at H ⊢
  simp only at H ⊢
  go_enter Try.func13, Try.ntmps13
  go_wp2_with (go_at_call 38; refine (H.out _).mono ?_; rintro e w1 ⟨rfl, b1⟩; have B1 := Lib.hid (box_three b1).2; clear b1)
  go_ret
  exact ⟨rfl, B1.out⟩
theorem cuTime_any (t : Int) (w : World) : Calls Try.prog 40 #[.int .i64 t] w fun e w' => e = .returned (.bool (inB t 0 100000)) ∧ w = w' := by
  have H := Lib.hid (fun w => l1In_any t 0 100000 w)
  generalize inB t 0 100000 = B at H ⊢
  go_enter Try.func40, Try.ntmps40
  go_wp2_with (go_at_call 44; refine (H.out _).mono ?_; rintro e w' ⟨rfl, rfl⟩)
  go_ret
  exact ⟨rfl, rfl⟩
theorem isTime_any (t : Int) (w : World) : Calls Try.prog 42 #[.int .i64 t] w fun e w' => e = .returned (.bool (inB t 0 100000)) ∧ w = w' := by
  have H := Lib.hid (fun w => isIn_any t 0 100000 w)
  generalize inB t 0 100000 = B at H ⊢
  go_enter Try.func42, Try.ntmps42
  go_wp2_with (go_at_call 39; refine (H.out _).mono ?_; rintro e w' ⟨rfl, rfl⟩)
  go_ret
  exact ⟨rfl, rfl⟩
set_option maxHeartbeats 1600000 in
theorem cuAt_any (c : Cv) (t : Int) (w : World) (h : CvOk c) (h0 : 0 ≤ t) (h1 : t ≤ 100000) : Calls Try.prog 41 #[cvV c, .int .i64 t] w (SaysI w (atV c t)) := by
  have f0 := h.f0; have f1 := h.f1; have l0 := h.l0; have l1 := h.l1; have s0 := h.s0; have s1 := h.s1
  rcases Int.lt_or_le c.l t with q | q
  · have HX := Lib.hid (atV_out q)
    obtain ⟨p0, p1⟩ := mul_rng f0 f1 l0 (Int.le_refl c.l)
    obtain ⟨p2, p3⟩ := mul_rng s0 s1 (show 0 ≤ t - c.l by omega) (Int.le_refl _)
    have d := not_le q
    generalize atV c t = A at HX ⊢
    obtain ⟨xf, xl, xs⟩ := c
    unfold cvV
    simp only at f0 f1 l0 l1 s0 s1 q p0 p1 p2 p3 d HX ⊢
    clear h
    go_enter Try.func41, Try.ntmps41
    go_wp2_with fail
    go_ret
    exact ⟨ret_int HX.out.symm, one_new2 _ _⟩
  · have HX := Lib.hid (atV_in q)
    obtain ⟨p0, p1⟩ := mul_rng f0 f1 h0 (Int.le_refl t)
    have d := is_le q
    generalize atV c t = A at HX ⊢
    obtain ⟨xf, xl, xs⟩ := c
    unfold cvV
    simp only at f0 f1 l0 l1 s0 s1 q p0 p1 d HX ⊢
    clear h
    go_enter Try.func41, Try.ntmps41
    go_wp2_with fail
    go_ret
    exact ⟨ret_int HX.out.symm, one_new2 _ _⟩
set_option maxHeartbeats 1600000 in
theorem valueAt_any (c : Cv) (t : Int) (w : World) (h : CvOk c) (h0 : 0 ≤ t) (h1 : t ≤ 100000) : Calls Try.prog 43 #[cvV c, .int .i64 t] w (SaysI w (atV c t)) := by
  have f0 := h.f0; have f1 := h.f1; have l0 := h.l0; have l1 := h.l1; have s0 := h.s0; have s1 := h.s1
  rcases Int.lt_or_le c.l t with q | q
  · have HX := Lib.hid (atV_out q)
    obtain ⟨p0, p1⟩ := mul_rng f0 f1 l0 (Int.le_refl c.l)
    obtain ⟨p2, p3⟩ := mul_rng s0 s1 (show 0 ≤ t - c.l by omega) (Int.le_refl _)
    have d := not_le q
    have d2 := is_lt q
    have d3 := not_lt (Int.le_of_lt q)
    generalize atV c t = A at HX ⊢
    obtain ⟨xf, xl, xs⟩ := c
    unfold cvV
    simp only at f0 f1 l0 l1 s0 s1 q p0 p1 p2 p3 d d2 d3 HX ⊢
    clear h
    go_enter Try.func43, Try.ntmps43
    go_wp2_with fail
    go_ret
    exact ⟨ret_int HX.out.symm, one_new2 _ _⟩
  · have HX := Lib.hid (atV_in q)
    obtain ⟨p0, p1⟩ := mul_rng f0 f1 h0 (Int.le_refl t)
    have d := is_le q
    have d2 := not_lt q
    generalize atV c t = A at HX ⊢
    obtain ⟨xf, xl, xs⟩ := c
    unfold cvV
    simp only at f0 f1 l0 l1 s0 s1 q p0 p1 d d2 HX ⊢
    clear h
    go_enter Try.func43, Try.ntmps43
    go_wp2_with fail
    go_ret
    exact ⟨ret_int HX.out.symm, one_new2 _ _⟩
end Go.Proofs.Yteogadbjnmcblaa
