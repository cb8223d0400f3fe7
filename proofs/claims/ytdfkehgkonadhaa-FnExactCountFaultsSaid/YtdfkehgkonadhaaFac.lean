/- Faults: validity, whether one fits a text: contracts of both sides. -/
import Derived.Test.YtdfkehgkonadhaaFam
import Derived.Test.YtdfkehgkonadhaaIsi
namespace Go.Proofs.Ytdfkehgkonadhaa
open Go.RowKit
set_option linter.unusedVariables false

theorem fa_goodR (x : Fa) : goodF x = (inB x.k 1 7 && inB x.a 0 6000) := rfl
set_option maxHeartbeats 1600000 in
theorem erGood_any (x : Fa) (w : World) : Calls Try.prog 24 #[faV x] w (SaysB w (goodF x)) := by
  have HX := Lib.hid (fa_goodR x)
  have H2 := Lib.hid (fun w => l1In_any x.k 1 7 w)
  have H3 := Lib.hid (fun w => l1In_any x.a 0 6000 w)
  generalize inB x.k 1 7 = b2 at HX H2
  generalize inB x.a 0 6000 = b3 at HX H3
  generalize goodF x = B at HX ⊢
  obtain ⟨xk, xa⟩ := x
  unfold faV
  simp only at H2 H3 ⊢
  go_enter Try.func24, Try.ntmps24
  go_wp2_with (first | (go_at_call 32; (with_reducible refine (H2.out _).mono ?_); rintro e w' ⟨rfl, rfl⟩) | (go_at_call 32; (with_reducible refine (H3.out _).mono ?_); rintro e w' ⟨rfl, rfl⟩))
  all_goals
    go_ret
    exact ⟨ret_bool (by rw [HX.out]; simp_all), one_new2 _ _⟩
set_option maxHeartbeats 1600000 in
theorem implIsFault_any (x : Fa) (w : World) : Calls Try.prog 9 #[faV x] w (SaysB w (goodF x)) := by
  have HX := Lib.hid (fa_goodR x)
  have H2 := Lib.hid (fun w => isIn_any x.k 1 7 w)
  have H3 := Lib.hid (fun w => isIn_any x.a 0 6000 w)
  generalize inB x.k 1 7 = b2 at HX H2
  generalize inB x.a 0 6000 = b3 at HX H3
  generalize goodF x = B at HX ⊢
  obtain ⟨xk, xa⟩ := x
  unfold faV
  simp only at H2 H3 ⊢
  go_enter Try.func9, Try.ntmps9
  go_wp2_with (first | (go_at_call 25; (with_reducible refine (H2.out _).mono ?_); rintro e w' ⟨rfl, rfl⟩) | (go_at_call 25; (with_reducible refine (H3.out _).mono ?_); rintro e w' ⟨rfl, rfl⟩))
  all_goals
    go_ret
    exact ⟨ret_bool (by rw [HX.out]; simp_all), one_new2 _ _⟩
theorem specIsFault_any (x : Fa) (w : World) : Calls Try.prog 7 #[faV x] w (SaysB w (goodF x)) := by
  have H := Lib.hid (fun w => erGood_any x w)
  generalize goodF x = B at H ⊢
  obtain ⟨xk, xa⟩ := x
  unfold faV at H ⊢
  simp only at H ⊢
  go_enter Try.func7, Try.ntmps7
  go_wp2_with (go_at_call 24; refine (H.out _).mono ?_; rintro e w1 ⟨rfl, b1⟩; have B1 := Lib.hid (box_two b1).2; clear b1)
  go_ret
  exact ⟨rfl, B1.out⟩
/-- a text is short enough -/
def linB (s : ByteArray) : Bool := decide ((s.size : Int) ≤ 6000)
theorem erText_any (s : ByteArray) (w : World) : Calls Try.prog 26 #[.string s] w fun e w' => e = .returned (.bool (linB s)) ∧ w = w' := by
  have H : Hid (linB s = decide ((s.size : Int) ≤ 6000)) := Lib.hid rfl
  generalize linB s = B at H ⊢
  go_enter Try.func26, Try.ntmps26
  go_wp2
  go_ret
  exact ⟨ret_bool H.out.symm, rfl⟩
theorem hasLines_any (s : ByteArray) (w : World) : Calls Try.prog 27 #[.string s] w fun e w' => e = .returned (.bool (linB s)) ∧ w = w' := by
  have H : Hid (linB s = decide ((s.size : Int) ≤ 6000)) := Lib.hid rfl
  generalize linB s = B at H ⊢
  go_enter Try.func27, Try.ntmps27
  go_wp2
  go_ret
  exact ⟨ret_bool H.out.symm, rfl⟩
def resFits1 (x : Fa) (s : ByteArray) : Bool := goodF x && (linB s && decide (x.a ≤ (s.size : Int)))
def resFits2 (x : Fa) (s : ByteArray) : Bool := goodF x && linB s
set_option maxHeartbeats 1600000 in
theorem specFaultFits_any (x : Fa) (s : ByteArray) (w : World) : Calls Try.prog 10 #[faV x, .string s] w (SaysT2 w (.bool (resFits1 x s)) (.bool (resFits2 x s))) := by
  have HG := Lib.hid (fun w => erGood_any x w)
  have HL := Lib.hid (fun w => erText_any s w)
  have H1 : Hid (resFits1 x s = (goodF x && (linB s && decide (x.a ≤ (s.size : Int))))) := Lib.hid rfl
  have H2 : Hid (resFits2 x s = (goodF x && linB s)) := Lib.hid rfl
  generalize resFits1 x s = r1 at H1 ⊢
  generalize resFits2 x s = r2 at H2 ⊢
  generalize goodF x = g at HG H1 H2
  generalize linB s = l at HL H1 H2
  obtain ⟨xk, xa⟩ := x
  unfold faV at HG ⊢
  simp only at HG H1 ⊢
  cases g <;> cases l <;>
  · go_enter Try.func10, Try.ntmps10
    go_wp2_with (go_at_call 24; refine (HG.out _).mono ?_; rintro e w1 ⟨rfl, b1⟩; have B1 := Lib.hid (box_two b1).2; obtain ⟨c0, c1, cl⟩ := (box_two b1).1; clear b1)
    try go_wp2_with (go_at_call 26; refine (HL.out _).mono ?_; rintro e w2 ⟨rfl, rfl⟩)
    go_ret2
    exact ⟨ret_bb (by rw [H1.out]; simp) (by rw [H2.out]; simp), B1.out⟩
set_option maxHeartbeats 1600000 in
theorem implFaultFits_any (x : Fa) (s : ByteArray) (w : World) : Calls Try.prog 11 #[faV x, .string s] w (SaysT2 w (.bool (resFits1 x s)) (.bool (resFits2 x s))) := by
  have HG := Lib.hid (fun w => implIsFault_any x w)
  have HL := Lib.hid (fun w => hasLines_any s w)
  have H1 : Hid (resFits1 x s = (goodF x && (linB s && decide (x.a ≤ (s.size : Int))))) := Lib.hid rfl
  have H2 : Hid (resFits2 x s = (goodF x && linB s)) := Lib.hid rfl
  generalize resFits1 x s = r1 at H1 ⊢
  generalize resFits2 x s = r2 at H2 ⊢
  generalize goodF x = g at HG H1 H2
  generalize linB s = l at HL H1 H2
  obtain ⟨xk, xa⟩ := x
  unfold faV at HG ⊢
  simp only at HG H1 ⊢
  cases g <;> cases l <;>
  · go_enter Try.func11, Try.ntmps11
    go_wp2_with (go_at_call 9; refine (HG.out _).mono ?_; rintro e w1 ⟨rfl, b1⟩; have B1 := Lib.hid (box_two b1).2; obtain ⟨c0, c1, cl⟩ := (box_two b1).1; clear b1)
    try go_wp2_with (go_at_call 27; refine (HL.out _).mono ?_; rintro e w2 ⟨rfl, rfl⟩)
    go_ret2
    exact ⟨ret_bb (by rw [H1.out]; simp) (by rw [H2.out]; simp), B1.out⟩
end Go.Proofs.Ytdfkehgkonadhaa
