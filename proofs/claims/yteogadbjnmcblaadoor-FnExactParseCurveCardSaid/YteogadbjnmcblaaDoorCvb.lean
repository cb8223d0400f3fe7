/- Curves: validity, values, shapes, short forms: contracts of both sides. -/
import Derived.Test.YteogadbjnmcblaaDoorCvm
import Derived.Test.YteogadbjnmcblaaDoorIsi
namespace Go.Proofs.YteogadbjnmcblaaDoor
set_option maxRecDepth 100000
open Go.RowKit
set_option linter.unusedVariables false

theorem cv_goodR (c : Cv) : goodV c = (inB c.f 0 100000 && (inB c.l 0 10000 && inB c.s 0 100000)) := rfl
set_option maxHeartbeats 1600000 in
theorem cuGood_any (c : Cv) (w : World) : Calls Tryd.prog 11 #[cvV c] w (SaysB w (goodV c)) := by
  have HX := Lib.hid (cv_goodR c)
  have H2 := Lib.hid (fun w => l1In_any c.f 0 100000 w)
  have H3 := Lib.hid (fun w => l1In_any c.l 0 10000 w)
  have H4 := Lib.hid (fun w => l1In_any c.s 0 100000 w)
  generalize inB c.f 0 100000 = b2 at HX H2
  generalize inB c.l 0 10000 = b3 at HX H3
  generalize inB c.s 0 100000 = b4 at HX H4
  generalize goodV c = B at HX ⊢
  obtain ⟨xf, xl, xs⟩ := c
  unfold cvV
  simp only at H2 H3 H4 ⊢
  go_enter Tryd.func11, Tryd.ntmps11
  go_wp2_with (first | (go_at_call 19; (with_reducible refine (H2.out _).mono ?_); rintro e w' ⟨rfl, rfl⟩) | (go_at_call 19; (with_reducible refine (H3.out _).mono ?_); rintro e w' ⟨rfl, rfl⟩) | (go_at_call 19; (with_reducible refine (H4.out _).mono ?_); rintro e w' ⟨rfl, rfl⟩))
  all_goals
    go_ret
    exact ⟨ret_bool (by rw [HX.out]; simp_all), one_new2 _ _⟩
set_option maxHeartbeats 1600000 in
theorem implIsCurve_any (c : Cv) (w : World) : Calls Tryd.prog 13 #[cvV c] w (SaysB w (goodV c)) := by
  have HX := Lib.hid (cv_goodR c)
  have H2 := Lib.hid (fun w => isIn_any c.f 0 100000 w)
  have H3 := Lib.hid (fun w => isIn_any c.l 0 10000 w)
  have H4 := Lib.hid (fun w => isIn_any c.s 0 100000 w)
  generalize inB c.f 0 100000 = b2 at HX H2
  generalize inB c.l 0 10000 = b3 at HX H3
  generalize inB c.s 0 100000 = b4 at HX H4
  generalize goodV c = B at HX ⊢
  obtain ⟨xf, xl, xs⟩ := c
  unfold cvV
  simp only at H2 H3 H4 ⊢
  go_enter Tryd.func13, Tryd.ntmps13
  go_wp2_with (first | (go_at_call 21; (with_reducible refine (H2.out _).mono ?_); rintro e w' ⟨rfl, rfl⟩) | (go_at_call 21; (with_reducible refine (H3.out _).mono ?_); rintro e w' ⟨rfl, rfl⟩) | (go_at_call 21; (with_reducible refine (H4.out _).mono ?_); rintro e w' ⟨rfl, rfl⟩))
  all_goals
    go_ret
    exact ⟨ret_bool (by rw [HX.out]; simp_all), one_new2 _ _⟩
end Go.Proofs.YteogadbjnmcblaaDoor
