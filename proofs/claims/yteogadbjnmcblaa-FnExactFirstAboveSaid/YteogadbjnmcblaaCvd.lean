/- Curves: values, shapes, short forms, the same curves: contracts of both sides (written by tools/gen_cvd.py). -/
import Derived.Test.YteogadbjnmcblaaCvb
import Derived.Deep.RegionHeld3
namespace Go.Proofs.Yteogadbjnmcblaa
open Go.RowKit
set_option linter.unusedVariables false

def resCurveAt1 (c : Cv) (t : Int) : Int := if goodV c && inB t 0 100000 then atV c t else 0
def resCurveAt2 (c : Cv) (t : Int) : Bool := goodV c && inB t 0 100000
theorem ca_no {c : Cv} {t : Int} (h : (goodV c && inB t 0 100000) = false) : resCurveAt1 c t = 0 ∧ resCurveAt2 c t = false := by unfold resCurveAt1 resCurveAt2; rw [h]; exact ⟨rfl, rfl⟩
theorem ca_yes {c : Cv} {t : Int} (h : (goodV c && inB t 0 100000) = true) : resCurveAt1 c t = atV c t ∧ resCurveAt2 c t = true := by unfold resCurveAt1 resCurveAt2; rw [h]; exact ⟨rfl, rfl⟩
def resCurveShape1 (c : Cv) : Int := if goodV c then shp c else 0
theorem cs_no {c : Cv} (h : goodV c = false) : resCurveShape1 c = 0 := by unfold resCurveShape1; rw [h]; rfl
theorem cs_yes {c : Cv} (h : goodV c = true) : resCurveShape1 c = shp c := by unfold resCurveShape1; rw [h]; rfl
def resShortCurve1 (c : Cv) : Cv := if goodV c then shortV c else cv0
theorem sc_no {c : Cv} (h : goodV c = false) : resShortCurve1 c = cv0 := by unfold resShortCurve1; rw [h]; rfl
theorem sc_yes {c : Cv} (h : goodV c = true) : resShortCurve1 c = shortV c := by unfold resShortCurve1; rw [h]; rfl
def resSameCurve1 (a b : Cv) : Bool := (goodV a && goodV b) && eqV (shortV a) (shortV b)
def resSameCurve2 (a b : Cv) : Bool := goodV a && goodV b
set_option maxHeartbeats 1600000 in
theorem specCurveAt_any (c : Cv) (t : Int) (w : World) : Calls Try.prog 16 #[cvV c, .int .i64 t] w (SaysT2 w (.int .i64 (resCurveAt1 c t)) (.bool (resCurveAt2 c t))) := by
  have HG := Lib.hid (fun w => cuGood_any c w)
  have HT := Lib.hid (fun w => cuTime_any t w)
  cases hg : goodV c
  · rw [hg] at HG
    obtain ⟨x1, x2⟩ := ca_no (c := c) (t := t) (by rw [hg]; rfl)
    generalize resCurveAt1 c t = R1 at x1 ⊢
    generalize resCurveAt2 c t = R2 at x2 ⊢
    have HX1 := Lib.hid x1
    have HX2 := Lib.hid x2
    clear x1 x2
    clear hg
    obtain ⟨xf, xl, xs⟩ := c
    unfold cvV at HG ⊢
    simp only at HG ⊢
    have HQ := Lib.hid (fun w' (h : BX (w.alloc (Obj.cells #[.int .i64 xf, .int .i64 xl, .int .i64 xs] 25)) w') => ((three_is w (.int .i64 xf) (.int .i64 xl) (.int .i64 xs) 25).on h))
    have HE : Hid (∀ w', BX (w.alloc (Obj.cells #[.int .i64 xf, .int .i64 xl, .int .i64 xs] 25)) w' → Below w.heap.size w w') := Lib.hid (fun w' h => (one_new2 w _).trans (Below.mono h (by simp)))
    have X0 := Lib.hid (BX.refl (w.alloc (Obj.cells #[.int .i64 xf, .int .i64 xl, .int .i64 xs] 25)))
    go_enter Try.func16, Try.ntmps16
    go_wp2_with (go_at_call 38; refine (HG.out _).mono ?_; rintro e w1 ⟨rfl, b⟩; have X1 := Lib.hid (X0.out.call b); obtain ⟨c0, c1, c2, cl⟩ := HQ.out _ X1.out; clear b)
    go_ret2
    exact ⟨ret_ib HX1.out.symm HX2.out.symm, HE.out _ X1.out⟩
  cases ht : inB t 0 100000
  · rw [hg] at HG
    rw [ht] at HT
    obtain ⟨x1, x2⟩ := ca_no (c := c) (t := t) (by rw [hg, ht]; rfl)
    generalize resCurveAt1 c t = R1 at x1 ⊢
    generalize resCurveAt2 c t = R2 at x2 ⊢
    have HX1 := Lib.hid x1
    have HX2 := Lib.hid x2
    clear x1 x2
    clear hg ht
    obtain ⟨xf, xl, xs⟩ := c
    unfold cvV at HG ⊢
    simp only at HG ⊢
    have HQ := Lib.hid (fun w' (h : BX (w.alloc (Obj.cells #[.int .i64 xf, .int .i64 xl, .int .i64 xs] 25)) w') => ((three_is w (.int .i64 xf) (.int .i64 xl) (.int .i64 xs) 25).on h))
    have HE : Hid (∀ w', BX (w.alloc (Obj.cells #[.int .i64 xf, .int .i64 xl, .int .i64 xs] 25)) w' → Below w.heap.size w w') := Lib.hid (fun w' h => (one_new2 w _).trans (Below.mono h (by simp)))
    have X0 := Lib.hid (BX.refl (w.alloc (Obj.cells #[.int .i64 xf, .int .i64 xl, .int .i64 xs] 25)))
    go_enter Try.func16, Try.ntmps16
    go_wp2_with (go_at_call 38; refine (HG.out _).mono ?_; rintro e w1 ⟨rfl, b⟩; have X1 := Lib.hid (X0.out.call b); obtain ⟨c0, c1, c2, cl⟩ := HQ.out _ X1.out; clear b)
    go_wp2_with (go_at_call 40; refine (HT.out _).mono ?_; rintro e w' ⟨rfl, rfl⟩)
    go_ret2
    exact ⟨ret_ib HX1.out.symm HX2.out.symm, HE.out _ X1.out⟩
  · rw [hg] at HG
    rw [ht] at HT
    obtain ⟨x1, x2⟩ := ca_yes (c := c) (t := t) (by rw [hg, ht]; rfl)
    generalize resCurveAt1 c t = R1 at x1 ⊢
    generalize resCurveAt2 c t = R2 at x2 ⊢
    have HX1 := Lib.hid x1
    have HX2 := Lib.hid x2
    clear x1 x2
    have ht2 := inB_iff.1 ht
    have HA := Lib.hid (fun w => cuAt_any c t w (cvok hg) ht2.1 ht2.2)
    generalize atV c t = A at HA HX1
    clear hg ht ht2
    obtain ⟨xf, xl, xs⟩ := c
    unfold cvV at HG HA ⊢
    simp only at HG HA ⊢
    have HQ := Lib.hid (fun w' (h : BX (w.alloc (Obj.cells #[.int .i64 xf, .int .i64 xl, .int .i64 xs] 25)) w') => ((three_is w (.int .i64 xf) (.int .i64 xl) (.int .i64 xs) 25).on h))
    have HE : Hid (∀ w', BX (w.alloc (Obj.cells #[.int .i64 xf, .int .i64 xl, .int .i64 xs] 25)) w' → Below w.heap.size w w') := Lib.hid (fun w' h => (one_new2 w _).trans (Below.mono h (by simp)))
    have X0 := Lib.hid (BX.refl (w.alloc (Obj.cells #[.int .i64 xf, .int .i64 xl, .int .i64 xs] 25)))
    go_enter Try.func16, Try.ntmps16
    go_wp2_with (go_at_call 38; refine (HG.out _).mono ?_; rintro e w1 ⟨rfl, b⟩; have X1 := Lib.hid (X0.out.call b); obtain ⟨c0, c1, c2, cl⟩ := HQ.out _ X1.out; clear b)
    go_wp2_with (go_at_call 40; refine (HT.out _).mono ?_; rintro e w' ⟨rfl, rfl⟩)
    go_wp2_with (go_at_call 41; refine (HA.out _).mono ?_; rintro e w2 ⟨rfl, b⟩; have X2 := Lib.hid (X1.out.call b); clear c0 c1 c2 cl; obtain ⟨c0, c1, c2, cl⟩ := HQ.out _ X2.out; clear b)
    go_ret2
    exact ⟨ret_ib HX1.out.symm HX2.out.symm, HE.out _ X2.out⟩
set_option maxHeartbeats 1600000 in
theorem implCurveAt_any (c : Cv) (t : Int) (w : World) : Calls Try.prog 17 #[cvV c, .int .i64 t] w (SaysT2 w (.int .i64 (resCurveAt1 c t)) (.bool (resCurveAt2 c t))) := by
  have HG := Lib.hid (fun w => implIsCurve_any c w)
  have HT := Lib.hid (fun w => isTime_any t w)
  cases hg : goodV c
  · rw [hg] at HG
    obtain ⟨x1, x2⟩ := ca_no (c := c) (t := t) (by rw [hg]; rfl)
    generalize resCurveAt1 c t = R1 at x1 ⊢
    generalize resCurveAt2 c t = R2 at x2 ⊢
    have HX1 := Lib.hid x1
    have HX2 := Lib.hid x2
    clear x1 x2
    clear hg
    obtain ⟨xf, xl, xs⟩ := c
    unfold cvV at HG ⊢
    simp only at HG ⊢
    have HQ := Lib.hid (fun w' (h : BX (w.alloc (Obj.cells #[.int .i64 xf, .int .i64 xl, .int .i64 xs] 25)) w') => ((three_is w (.int .i64 xf) (.int .i64 xl) (.int .i64 xs) 25).on h))
    have HE : Hid (∀ w', BX (w.alloc (Obj.cells #[.int .i64 xf, .int .i64 xl, .int .i64 xs] 25)) w' → Below w.heap.size w w') := Lib.hid (fun w' h => (one_new2 w _).trans (Below.mono h (by simp)))
    have X0 := Lib.hid (BX.refl (w.alloc (Obj.cells #[.int .i64 xf, .int .i64 xl, .int .i64 xs] 25)))
    go_enter Try.func17, Try.ntmps17
    go_wp2_with (go_at_call 15; refine (HG.out _).mono ?_; rintro e w1 ⟨rfl, b⟩; have X1 := Lib.hid (X0.out.call b); obtain ⟨c0, c1, c2, cl⟩ := HQ.out _ X1.out; clear b)
    go_ret2
    exact ⟨ret_ib HX1.out.symm HX2.out.symm, HE.out _ X1.out⟩
  cases ht : inB t 0 100000
  · rw [hg] at HG
    rw [ht] at HT
    obtain ⟨x1, x2⟩ := ca_no (c := c) (t := t) (by rw [hg, ht]; rfl)
    generalize resCurveAt1 c t = R1 at x1 ⊢
    generalize resCurveAt2 c t = R2 at x2 ⊢
    have HX1 := Lib.hid x1
    have HX2 := Lib.hid x2
    clear x1 x2
    clear hg ht
    obtain ⟨xf, xl, xs⟩ := c
    unfold cvV at HG ⊢
    simp only at HG ⊢
    have HQ := Lib.hid (fun w' (h : BX (w.alloc (Obj.cells #[.int .i64 xf, .int .i64 xl, .int .i64 xs] 25)) w') => ((three_is w (.int .i64 xf) (.int .i64 xl) (.int .i64 xs) 25).on h))
    have HE : Hid (∀ w', BX (w.alloc (Obj.cells #[.int .i64 xf, .int .i64 xl, .int .i64 xs] 25)) w' → Below w.heap.size w w') := Lib.hid (fun w' h => (one_new2 w _).trans (Below.mono h (by simp)))
    have X0 := Lib.hid (BX.refl (w.alloc (Obj.cells #[.int .i64 xf, .int .i64 xl, .int .i64 xs] 25)))
    go_enter Try.func17, Try.ntmps17
    go_wp2_with (go_at_call 15; refine (HG.out _).mono ?_; rintro e w1 ⟨rfl, b⟩; have X1 := Lib.hid (X0.out.call b); obtain ⟨c0, c1, c2, cl⟩ := HQ.out _ X1.out; clear b)
    go_wp2_with (go_at_call 42; refine (HT.out _).mono ?_; rintro e w' ⟨rfl, rfl⟩)
    go_ret2
    exact ⟨ret_ib HX1.out.symm HX2.out.symm, HE.out _ X1.out⟩
  · rw [hg] at HG
    rw [ht] at HT
    obtain ⟨x1, x2⟩ := ca_yes (c := c) (t := t) (by rw [hg, ht]; rfl)
    generalize resCurveAt1 c t = R1 at x1 ⊢
    generalize resCurveAt2 c t = R2 at x2 ⊢
    have HX1 := Lib.hid x1
    have HX2 := Lib.hid x2
    clear x1 x2
    have ht2 := inB_iff.1 ht
    have HA := Lib.hid (fun w => valueAt_any c t w (cvok hg) ht2.1 ht2.2)
    generalize atV c t = A at HA HX1
    clear hg ht ht2
    obtain ⟨xf, xl, xs⟩ := c
    unfold cvV at HG HA ⊢
    simp only at HG HA ⊢
    have HQ := Lib.hid (fun w' (h : BX (w.alloc (Obj.cells #[.int .i64 xf, .int .i64 xl, .int .i64 xs] 25)) w') => ((three_is w (.int .i64 xf) (.int .i64 xl) (.int .i64 xs) 25).on h))
    have HE : Hid (∀ w', BX (w.alloc (Obj.cells #[.int .i64 xf, .int .i64 xl, .int .i64 xs] 25)) w' → Below w.heap.size w w') := Lib.hid (fun w' h => (one_new2 w _).trans (Below.mono h (by simp)))
    have X0 := Lib.hid (BX.refl (w.alloc (Obj.cells #[.int .i64 xf, .int .i64 xl, .int .i64 xs] 25)))
    go_enter Try.func17, Try.ntmps17
    go_wp2_with (go_at_call 15; refine (HG.out _).mono ?_; rintro e w1 ⟨rfl, b⟩; have X1 := Lib.hid (X0.out.call b); obtain ⟨c0, c1, c2, cl⟩ := HQ.out _ X1.out; clear b)
    go_wp2_with (go_at_call 42; refine (HT.out _).mono ?_; rintro e w' ⟨rfl, rfl⟩)
    go_wp2_with (go_at_call 43; refine (HA.out _).mono ?_; rintro e w2 ⟨rfl, b⟩; have X2 := Lib.hid (X1.out.call b); clear c0 c1 c2 cl; obtain ⟨c0, c1, c2, cl⟩ := HQ.out _ X2.out; clear b)
    go_ret2
    exact ⟨ret_ib HX1.out.symm HX2.out.symm, HE.out _ X2.out⟩
theorem shp_0 {c : Cv} (h : c.l = 0) : shp c = 0 := if_pos h
theorem shp_n {c : Cv} (h : c.l ≠ 0) : shp c = if c.f < c.s then -1 else if c.s < c.f then 1 else 0 := if_neg h
def sgnI (n : Int) : Int := if 0 < n then 1 else if n < 0 then -1 else 0
theorem shp_sgn {c : Cv} (h : c.l ≠ 0) : shp c = sgnI (c.f - c.s) := by
  rw [shp_n h]; unfold sgnI
  rcases Int.lt_trichotomy c.f c.s with q | q | q
  · rw [if_pos q, if_neg (by omega), if_pos (by omega)]
  · rw [if_neg (by omega), if_neg (by omega), if_neg (by omega), if_neg (by omega)]
  · rw [if_neg (by omega), if_pos q, if_pos (by omega)]
theorem shp_cmp {c : Cv} (h : c.l ≠ 0) : shp c = cmpI c.f c.s := by rw [shp_n h]; rfl
theorem l1SignI_any (n : Int) (w : World) : Calls Try.prog 59 #[.int .i64 n] w fun e w' => e = .returned (.int .i64 (sgnI n)) ∧ w = w' := by
  rcases Int.lt_trichotomy n 0 with q | q | q
  · have HX : Hid (sgnI n = -1) := Lib.hid (by unfold sgnI; rw [if_neg (by omega), if_pos q])
    have d := is_lt q
    have d2 := not_lt (Int.le_of_lt q)
    go_enter Try.func59, Try.ntmps59
    go_wp2
    go_ret
    exact ⟨ret_int HX.out.symm, rfl⟩
  · subst q
    go_enter Try.func59, Try.ntmps59
    go_wp2
    go_ret
    exact ⟨rfl, rfl⟩
  · have HX : Hid (sgnI n = 1) := Lib.hid (by unfold sgnI; rw [if_pos q])
    have d := is_lt q
    go_enter Try.func59, Try.ntmps59
    go_wp2
    go_ret
    exact ⟨ret_int HX.out.symm, rfl⟩
set_option maxHeartbeats 1600000 in
theorem cuShape_any (c : Cv) (w : World) (h : CvOk c) : Calls Try.prog 48 #[cvV c] w (SaysI w (shp c)) := by
  have f0 := h.f0; have f1 := h.f1; have s0 := h.s0; have s1 := h.s1
  by_cases hl : c.l = 0
  · have HX := Lib.hid (shp_0 hl)
    generalize shp c = S at HX ⊢
    obtain ⟨xf, xl, xs⟩ := c
    unfold cvV
    simp only at f0 f1 s0 s1 hl ⊢
    subst hl
    clear h
    go_enter Try.func48, Try.ntmps48
    go_wp2_with fail
    go_ret
    exact ⟨ret_int HX.out.symm, one_new2 _ _⟩
  · have HX := Lib.hid (shp_sgn hl)
    have HS := Lib.hid (fun w => l1SignI_any (c.f - c.s) w)
    have d : (c.l == 0) = false := by simpa using hl
    generalize sgnI (c.f - c.s) = S2 at HX HS
    generalize shp c = S at HX ⊢
    obtain ⟨xf, xl, xs⟩ := c
    unfold cvV
    simp only at f0 f1 s0 s1 d HS ⊢
    clear h hl
    go_enter Try.func48, Try.ntmps48
    go_wp2_with (go_at_call 59; refine (HS.out _).mono ?_; rintro e w' ⟨rfl, rfl⟩)
    go_ret
    exact ⟨ret_int HX.out.symm, one_new2 _ _⟩
set_option maxHeartbeats 1600000 in
theorem specCurveShape_any (c : Cv) (w : World) : Calls Try.prog 20 #[cvV c] w (SaysT2 w (.int .i64 (resCurveShape1 c)) (.bool (goodV c))) := by
  have HG := Lib.hid (fun w => cuGood_any c w)
  cases hg : goodV c
  · rw [hg] at HG
    have HX := Lib.hid (cs_no hg)
    generalize resCurveShape1 c = R at HX ⊢
    clear hg
    obtain ⟨xf, xl, xs⟩ := c
    unfold cvV at HG ⊢
    simp only at HG ⊢
    have HQ := Lib.hid (fun w' (h : BX (w.alloc (Obj.cells #[.int .i64 xf, .int .i64 xl, .int .i64 xs] 25)) w') => ((three_is w (.int .i64 xf) (.int .i64 xl) (.int .i64 xs) 25).on h))
    have HE : Hid (∀ w', BX (w.alloc (Obj.cells #[.int .i64 xf, .int .i64 xl, .int .i64 xs] 25)) w' → Below w.heap.size w w') := Lib.hid (fun w' h => (one_new2 w _).trans (Below.mono h (by simp)))
    have X0 := Lib.hid (BX.refl (w.alloc (Obj.cells #[.int .i64 xf, .int .i64 xl, .int .i64 xs] 25)))
    go_enter Try.func20, Try.ntmps20
    go_wp2_with (go_at_call 38; refine (HG.out _).mono ?_; rintro e w1 ⟨rfl, b⟩; have X1 := Lib.hid (X0.out.call b); obtain ⟨c0, c1, c2, cl⟩ := HQ.out _ X1.out; clear b)
    go_ret2
    exact ⟨ret_ib HX.out.symm rfl, HE.out _ X1.out⟩
  · rw [hg] at HG
    have HX := Lib.hid (cs_yes hg)
    have HS := Lib.hid (fun w => cuShape_any c w (cvok hg))
    generalize shp c = S at HX HS
    generalize resCurveShape1 c = R at HX ⊢
    clear hg
    obtain ⟨xf, xl, xs⟩ := c
    unfold cvV at HG HS ⊢
    simp only at HG HS ⊢
    have HQ := Lib.hid (fun w' (h : BX (w.alloc (Obj.cells #[.int .i64 xf, .int .i64 xl, .int .i64 xs] 25)) w') => ((three_is w (.int .i64 xf) (.int .i64 xl) (.int .i64 xs) 25).on h))
    have HE : Hid (∀ w', BX (w.alloc (Obj.cells #[.int .i64 xf, .int .i64 xl, .int .i64 xs] 25)) w' → Below w.heap.size w w') := Lib.hid (fun w' h => (one_new2 w _).trans (Below.mono h (by simp)))
    have X0 := Lib.hid (BX.refl (w.alloc (Obj.cells #[.int .i64 xf, .int .i64 xl, .int .i64 xs] 25)))
    go_enter Try.func20, Try.ntmps20
    go_wp2_with (go_at_call 38; refine (HG.out _).mono ?_; rintro e w1 ⟨rfl, b⟩; have X1 := Lib.hid (X0.out.call b); obtain ⟨c0, c1, c2, cl⟩ := HQ.out _ X1.out; clear b)
    go_wp2_with (go_at_call 48; refine (HS.out _).mono ?_; rintro e w2 ⟨rfl, b⟩; have X2 := Lib.hid (X1.out.call b); clear c0 c1 c2 cl; obtain ⟨c0, c1, c2, cl⟩ := HQ.out _ X2.out; clear b)
    go_ret2
    exact ⟨ret_ib HX.out.symm rfl, HE.out _ X2.out⟩
set_option maxHeartbeats 1600000 in
theorem implCurveShape_any (c : Cv) (w : World) : Calls Try.prog 21 #[cvV c] w (SaysT2 w (.int .i64 (resCurveShape1 c)) (.bool (goodV c))) := by
  have HG := Lib.hid (fun w => implIsCurve_any c w)
  cases hg : goodV c
  · rw [hg] at HG
    have HX := Lib.hid (cs_no hg)
    generalize resCurveShape1 c = R at HX ⊢
    clear hg
    obtain ⟨xf, xl, xs⟩ := c
    unfold cvV at HG ⊢
    simp only at HG ⊢
    have HQ := Lib.hid (fun w' (h : BX (w.alloc (Obj.cells #[.int .i64 xf, .int .i64 xl, .int .i64 xs] 25)) w') => ((three_is w (.int .i64 xf) (.int .i64 xl) (.int .i64 xs) 25).on h))
    have HE : Hid (∀ w', BX (w.alloc (Obj.cells #[.int .i64 xf, .int .i64 xl, .int .i64 xs] 25)) w' → Below w.heap.size w w') := Lib.hid (fun w' h => (one_new2 w _).trans (Below.mono h (by simp)))
    have X0 := Lib.hid (BX.refl (w.alloc (Obj.cells #[.int .i64 xf, .int .i64 xl, .int .i64 xs] 25)))
    go_enter Try.func21, Try.ntmps21
    go_wp2_with (go_at_call 15; refine (HG.out _).mono ?_; rintro e w1 ⟨rfl, b⟩; have X1 := Lib.hid (X0.out.call b); obtain ⟨c0, c1, c2, cl⟩ := HQ.out _ X1.out; clear b)
    go_ret2
    exact ⟨ret_ib HX.out.symm rfl, HE.out _ X1.out⟩
  · rw [hg] at HG
    by_cases hl : c.l = 0
    · have HX := Lib.hid ((cs_yes hg).trans (shp_0 hl))
      generalize resCurveShape1 c = R at HX ⊢
      clear hg
      obtain ⟨xf, xl, xs⟩ := c
      unfold cvV at HG ⊢
      simp only at hl HG ⊢
      subst hl
      have HQ := Lib.hid (fun w' (h : BX (w.alloc (Obj.cells #[.int .i64 xf, .int .i64 0, .int .i64 xs] 25)) w') => ((three_is w (.int .i64 xf) (.int .i64 0) (.int .i64 xs) 25).on h))
      have HE : Hid (∀ w', BX (w.alloc (Obj.cells #[.int .i64 xf, .int .i64 0, .int .i64 xs] 25)) w' → Below w.heap.size w w') := Lib.hid (fun w' h => (one_new2 w _).trans (Below.mono h (by simp)))
      have X0 := Lib.hid (BX.refl (w.alloc (Obj.cells #[.int .i64 xf, .int .i64 0, .int .i64 xs] 25)))
      go_enter Try.func21, Try.ntmps21
      go_wp2_with (go_at_call 15; refine (HG.out _).mono ?_; rintro e w1 ⟨rfl, b⟩; have X1 := Lib.hid (X0.out.call b); obtain ⟨c0, c1, c2, cl⟩ := HQ.out _ X1.out; clear b)
      go_ret2
      exact ⟨ret_ib HX.out.symm rfl, HE.out _ X1.out⟩
    · have HX := Lib.hid ((cs_yes hg).trans (shp_cmp hl))
      have HS := Lib.hid (fun w => cmpInt_any c.f c.s w)
      have d : (c.l == 0) = false := by simpa using hl
      generalize cmpI c.f c.s = S at HX HS
      generalize resCurveShape1 c = R at HX ⊢
      clear hg hl
      obtain ⟨xf, xl, xs⟩ := c
      unfold cvV at HG ⊢
      simp only at d HG HS ⊢
      have HQ := Lib.hid (fun w' (h : BX (w.alloc (Obj.cells #[.int .i64 xf, .int .i64 xl, .int .i64 xs] 25)) w') => ((three_is w (.int .i64 xf) (.int .i64 xl) (.int .i64 xs) 25).on h))
      have HE : Hid (∀ w', BX (w.alloc (Obj.cells #[.int .i64 xf, .int .i64 xl, .int .i64 xs] 25)) w' → Below w.heap.size w w') := Lib.hid (fun w' h => (one_new2 w _).trans (Below.mono h (by simp)))
      have X0 := Lib.hid (BX.refl (w.alloc (Obj.cells #[.int .i64 xf, .int .i64 xl, .int .i64 xs] 25)))
      go_enter Try.func21, Try.ntmps21
      go_wp2_with (go_at_call 15; refine (HG.out _).mono ?_; rintro e w1 ⟨rfl, b⟩; have X1 := Lib.hid (X0.out.call b); obtain ⟨c0, c1, c2, cl⟩ := HQ.out _ X1.out; clear b)
      go_wp2_with (go_at_call 49; refine (HS.out _).mono ?_; rintro e w' ⟨rfl, rfl⟩)
      go_ret2
      exact ⟨ret_ib HX.out.symm rfl, HE.out _ X1.out⟩
end Go.Proofs.Yteogadbjnmcblaa
