/- Curves: the same curves: contracts of both sides (written by tools/gen_cvg.py). -/
import Derived.Test.YteogadbjnmcblaaCvf
namespace Go.Proofs.Yteogadbjnmcblaa
open Go.RowKit
set_option linter.unusedVariables false

theorem same_no {a b : Cv} (h : (goodV a && goodV b) = false) : resSameCurve1 a b = false ∧ resSameCurve2 a b = false := by unfold resSameCurve1 resSameCurve2; rw [h]; exact ⟨rfl, rfl⟩
theorem same_yes {a b : Cv} (h : (goodV a && goodV b) = true) : resSameCurve1 a b = eqV (shortV a) (shortV b) ∧ resSameCurve2 a b = true := by unfold resSameCurve1 resSameCurve2; rw [h]; exact ⟨rfl, rfl⟩
theorem eqV_def (a b : Cv) : eqV a b = (a.f == b.f && (a.l == b.l && a.s == b.s)) := rfl
set_option maxHeartbeats 6400000 in
theorem specSameCurve_any (a b : Cv) (w : World) : Calls Try.prog 22 #[cvV a, cvV b] w (SaysT2 w (.bool (resSameCurve1 a b)) (.bool (resSameCurve2 a b))) := by
  have HA := Lib.hid (fun w => cuGood_any a w)
  have HB := Lib.hid (fun w => cuGood_any b w)
  cases ga : goodV a
  · rw [ga] at HA
    obtain ⟨x1, x2⟩ := same_no (a := a) (b := b) (by rw [ga]; rfl)
    have HX1 := Lib.hid x1
    have HX2 := Lib.hid x2
    generalize resSameCurve1 a b = R1 at HX1 ⊢
    generalize resSameCurve2 a b = R2 at HX2 ⊢
    clear x1 x2
    clear ga
    obtain ⟨xf, xl, xs⟩ := a
    obtain ⟨yf, yl, ys⟩ := b
    unfold cvV at HA ⊢
    simp only at HA ⊢
    have HBX : Hid (∀ w', BX ((w.alloc (Obj.cells #[.int .i64 xf, .int .i64 xl, .int .i64 xs] 25)).alloc (Obj.cells #[.int .i64 yf, .int .i64 yl, .int .i64 ys] 25)) w' → ThreeIs w' w.heap.size (.int .i64 xf) (.int .i64 xl) (.int .i64 xs)) := Lib.hid (fun w' h => ((three_is w (.int .i64 xf) (.int .i64 xl) (.int .i64 xs) 25).on (one_new2 _ _)).on h)
    have HBY : Hid (∀ w', BX ((w.alloc (Obj.cells #[.int .i64 xf, .int .i64 xl, .int .i64 xs] 25)).alloc (Obj.cells #[.int .i64 yf, .int .i64 yl, .int .i64 ys] 25)) w' → ThreeIs w' (w.heap.size + 1) (.int .i64 yf) (.int .i64 yl) (.int .i64 ys)) := Lib.hid (fun w' h => by have := ((three_is (w.alloc (Obj.cells #[.int .i64 xf, .int .i64 xl, .int .i64 xs] 25)) (.int .i64 yf) (.int .i64 yl) (.int .i64 ys) 25).on h); simpa using this)
    have HQ : Hid (∀ w', BX ((w.alloc (Obj.cells #[.int .i64 xf, .int .i64 xl, .int .i64 xs] 25)).alloc (Obj.cells #[.int .i64 yf, .int .i64 yl, .int .i64 ys] 25)) w' → w'.cell? ⟨w.heap.size, 0, none⟩ = some (.int .i64 xf) ∧ w'.cell? ⟨w.heap.size, 1, none⟩ = some (.int .i64 xl) ∧ w'.cell? ⟨w.heap.size, 2, none⟩ = some (.int .i64 xs) ∧ w'.cell? ⟨w.heap.size + 1, 0, none⟩ = some (.int .i64 yf) ∧ w'.cell? ⟨w.heap.size + 1, 1, none⟩ = some (.int .i64 yl) ∧ w'.cell? ⟨w.heap.size + 1, 2, none⟩ = some (.int .i64 ys)) := Lib.hid (fun w' h => ⟨(HBX.out w' h).1, (HBX.out w' h).2.1, (HBX.out w' h).2.2.1, (HBY.out w' h).1, (HBY.out w' h).2.1, (HBY.out w' h).2.2.1⟩)
    have HE : Hid (∀ w', BX ((w.alloc (Obj.cells #[.int .i64 xf, .int .i64 xl, .int .i64 xs] 25)).alloc (Obj.cells #[.int .i64 yf, .int .i64 yl, .int .i64 ys] 25)) w' → Below w.heap.size w w') := Lib.hid (fun w' h => (two_new w _ _).trans (Below.mono h (by simp; omega)))
    have X0 := Lib.hid (BX.refl ((w.alloc (Obj.cells #[.int .i64 xf, .int .i64 xl, .int .i64 xs] 25)).alloc (Obj.cells #[.int .i64 yf, .int .i64 yl, .int .i64 ys] 25)))
    go_enter Try.func22, Try.ntmps22
    go_wp2_with (go_at_call 38; refine (HA.out _).mono ?_; rintro e w1 ⟨rfl, b⟩; have X1 := Lib.hid (X0.out.call b); obtain ⟨c0, c1, c2, e0, e1, e2⟩ := HQ.out _ X1.out; clear b)
    go_ret2
    exact ⟨ret_bb HX1.out.symm HX2.out.symm, HE.out _ X1.out⟩
  cases gb : goodV b
  · rw [ga] at HA
    rw [gb] at HB
    obtain ⟨x1, x2⟩ := same_no (a := a) (b := b) (by rw [ga, gb]; rfl)
    have HX1 := Lib.hid x1
    have HX2 := Lib.hid x2
    generalize resSameCurve1 a b = R1 at HX1 ⊢
    generalize resSameCurve2 a b = R2 at HX2 ⊢
    clear x1 x2
    clear ga gb
    obtain ⟨xf, xl, xs⟩ := a
    obtain ⟨yf, yl, ys⟩ := b
    unfold cvV at HA HB ⊢
    simp only at HA HB ⊢
    have HBX : Hid (∀ w', BX ((w.alloc (Obj.cells #[.int .i64 xf, .int .i64 xl, .int .i64 xs] 25)).alloc (Obj.cells #[.int .i64 yf, .int .i64 yl, .int .i64 ys] 25)) w' → ThreeIs w' w.heap.size (.int .i64 xf) (.int .i64 xl) (.int .i64 xs)) := Lib.hid (fun w' h => ((three_is w (.int .i64 xf) (.int .i64 xl) (.int .i64 xs) 25).on (one_new2 _ _)).on h)
    have HBY : Hid (∀ w', BX ((w.alloc (Obj.cells #[.int .i64 xf, .int .i64 xl, .int .i64 xs] 25)).alloc (Obj.cells #[.int .i64 yf, .int .i64 yl, .int .i64 ys] 25)) w' → ThreeIs w' (w.heap.size + 1) (.int .i64 yf) (.int .i64 yl) (.int .i64 ys)) := Lib.hid (fun w' h => by have := ((three_is (w.alloc (Obj.cells #[.int .i64 xf, .int .i64 xl, .int .i64 xs] 25)) (.int .i64 yf) (.int .i64 yl) (.int .i64 ys) 25).on h); simpa using this)
    have HQ : Hid (∀ w', BX ((w.alloc (Obj.cells #[.int .i64 xf, .int .i64 xl, .int .i64 xs] 25)).alloc (Obj.cells #[.int .i64 yf, .int .i64 yl, .int .i64 ys] 25)) w' → w'.cell? ⟨w.heap.size, 0, none⟩ = some (.int .i64 xf) ∧ w'.cell? ⟨w.heap.size, 1, none⟩ = some (.int .i64 xl) ∧ w'.cell? ⟨w.heap.size, 2, none⟩ = some (.int .i64 xs) ∧ w'.cell? ⟨w.heap.size + 1, 0, none⟩ = some (.int .i64 yf) ∧ w'.cell? ⟨w.heap.size + 1, 1, none⟩ = some (.int .i64 yl) ∧ w'.cell? ⟨w.heap.size + 1, 2, none⟩ = some (.int .i64 ys)) := Lib.hid (fun w' h => ⟨(HBX.out w' h).1, (HBX.out w' h).2.1, (HBX.out w' h).2.2.1, (HBY.out w' h).1, (HBY.out w' h).2.1, (HBY.out w' h).2.2.1⟩)
    have HE : Hid (∀ w', BX ((w.alloc (Obj.cells #[.int .i64 xf, .int .i64 xl, .int .i64 xs] 25)).alloc (Obj.cells #[.int .i64 yf, .int .i64 yl, .int .i64 ys] 25)) w' → Below w.heap.size w w') := Lib.hid (fun w' h => (two_new w _ _).trans (Below.mono h (by simp; omega)))
    have X0 := Lib.hid (BX.refl ((w.alloc (Obj.cells #[.int .i64 xf, .int .i64 xl, .int .i64 xs] 25)).alloc (Obj.cells #[.int .i64 yf, .int .i64 yl, .int .i64 ys] 25)))
    go_enter Try.func22, Try.ntmps22
    go_wp2_with (go_at_call 38; refine (HA.out _).mono ?_; rintro e w1 ⟨rfl, b⟩; have X1 := Lib.hid (X0.out.call b); obtain ⟨c0, c1, c2, e0, e1, e2⟩ := HQ.out _ X1.out; clear b; refine Hid.out ?_)
    refine Lib.hid ?_
    go_wp2_with (go_at_call 38; refine (HB.out _).mono ?_; rintro e w2 ⟨rfl, b⟩; have X2 := Lib.hid (X1.out.call b); clear b)
    go_ret2
    exact ⟨ret_bb HX1.out.symm HX2.out.symm, HE.out _ X2.out⟩
  · rw [ga] at HA
    rw [gb] at HB
    obtain ⟨x1, x2⟩ := same_yes (a := a) (b := b) (by rw [ga, gb]; rfl)
    have HX1 := Lib.hid x1
    have HX2 := Lib.hid x2
    generalize resSameCurve1 a b = R1 at HX1 ⊢
    generalize resSameCurve2 a b = R2 at HX2 ⊢
    clear x1 x2
    have HSA := Lib.hid (fun w => cuShort_any a w (cvok ga))
    have HSB := Lib.hid (fun w => cuShort_any b w (cvok gb))
    generalize shortV a = u at HX1 HSA
    generalize shortV b = v at HX1 HSB
    clear ga gb
    obtain ⟨xf, xl, xs⟩ := a
    obtain ⟨yf, yl, ys⟩ := b
    obtain ⟨uf, ul, us⟩ := u
    obtain ⟨vf, vl, vs⟩ := v
    have HX3 := Lib.hid (HX1.out.trans (eqV_def _ _))
    unfold cvV at HA HB HSA HSB ⊢
    simp only at HA HB HSA HSB HX3 ⊢
    have HBX : Hid (∀ w', BX ((w.alloc (Obj.cells #[.int .i64 xf, .int .i64 xl, .int .i64 xs] 25)).alloc (Obj.cells #[.int .i64 yf, .int .i64 yl, .int .i64 ys] 25)) w' → ThreeIs w' w.heap.size (.int .i64 xf) (.int .i64 xl) (.int .i64 xs)) := Lib.hid (fun w' h => ((three_is w (.int .i64 xf) (.int .i64 xl) (.int .i64 xs) 25).on (one_new2 _ _)).on h)
    have HBY : Hid (∀ w', BX ((w.alloc (Obj.cells #[.int .i64 xf, .int .i64 xl, .int .i64 xs] 25)).alloc (Obj.cells #[.int .i64 yf, .int .i64 yl, .int .i64 ys] 25)) w' → ThreeIs w' (w.heap.size + 1) (.int .i64 yf) (.int .i64 yl) (.int .i64 ys)) := Lib.hid (fun w' h => by have := ((three_is (w.alloc (Obj.cells #[.int .i64 xf, .int .i64 xl, .int .i64 xs] 25)) (.int .i64 yf) (.int .i64 yl) (.int .i64 ys) 25).on h); simpa using this)
    have HQ : Hid (∀ w', BX ((w.alloc (Obj.cells #[.int .i64 xf, .int .i64 xl, .int .i64 xs] 25)).alloc (Obj.cells #[.int .i64 yf, .int .i64 yl, .int .i64 ys] 25)) w' → w'.cell? ⟨w.heap.size, 0, none⟩ = some (.int .i64 xf) ∧ w'.cell? ⟨w.heap.size, 1, none⟩ = some (.int .i64 xl) ∧ w'.cell? ⟨w.heap.size, 2, none⟩ = some (.int .i64 xs) ∧ w'.cell? ⟨w.heap.size + 1, 0, none⟩ = some (.int .i64 yf) ∧ w'.cell? ⟨w.heap.size + 1, 1, none⟩ = some (.int .i64 yl) ∧ w'.cell? ⟨w.heap.size + 1, 2, none⟩ = some (.int .i64 ys)) := Lib.hid (fun w' h => ⟨(HBX.out w' h).1, (HBX.out w' h).2.1, (HBX.out w' h).2.2.1, (HBY.out w' h).1, (HBY.out w' h).2.1, (HBY.out w' h).2.2.1⟩)
    have HE : Hid (∀ w', BX ((w.alloc (Obj.cells #[.int .i64 xf, .int .i64 xl, .int .i64 xs] 25)).alloc (Obj.cells #[.int .i64 yf, .int .i64 yl, .int .i64 ys] 25)) w' → Below w.heap.size w w') := Lib.hid (fun w' h => (two_new w _ _).trans (Below.mono h (by simp; omega)))
    have X0 := Lib.hid (BX.refl ((w.alloc (Obj.cells #[.int .i64 xf, .int .i64 xl, .int .i64 xs] 25)).alloc (Obj.cells #[.int .i64 yf, .int .i64 yl, .int .i64 ys] 25)))
    have HQ2 : Hid (∀ w', BX ((w.alloc (Obj.cells #[.int .i64 xf, .int .i64 xl, .int .i64 xs] 25)).alloc (Obj.cells #[.int .i64 yf, .int .i64 yl, .int .i64 ys] 25)) w' → w'.cell? ⟨w.heap.size, 0, none⟩ = some (.int .i64 xf) ∧ w'.cell? ⟨w.heap.size, 1, none⟩ = some (.int .i64 xl) ∧ w'.cell? ⟨w.heap.size, 2, none⟩ = some (.int .i64 xs) ∧ w'.cell? ⟨w.heap.size + 1, 0, none⟩ = some (.int .i64 yf) ∧ w'.cell? ⟨w.heap.size + 1, 1, none⟩ = some (.int .i64 yl) ∧ w'.cell? ⟨w.heap.size + 1, 2, none⟩ = some (.int .i64 ys) ∧ BX ((w.alloc (Obj.cells #[.int .i64 xf, .int .i64 xl, .int .i64 xs] 25)).alloc (Obj.cells #[.int .i64 yf, .int .i64 yl, .int .i64 ys] 25)) w') := Lib.hid (fun w' h => by obtain ⟨c0, c1, c2, e0, e1, e2⟩ := HQ.out w' h; exact ⟨c0, c1, c2, e0, e1, e2, h⟩)
    obtain ⟨p, hp⟩ : ∃ p, (uf == vf) = p := ⟨_, rfl⟩
    obtain ⟨q, hq⟩ : ∃ q, (ul == vl) = q := ⟨_, rfl⟩
    obtain ⟨r, hr⟩ : ∃ r, (us == vs) = r := ⟨_, rfl⟩
    rw [hp, hq, hr] at HX3
    have fin : (p = false ∨ (p = true ∧ q = false) ∨ (p = true ∧ q = true ∧ r = false) ∨ (p = true ∧ q = true ∧ r = true)) := by cases p <;> cases q <;> cases r <;> simp
    rcases fin with rfl | ⟨rfl, rfl⟩ | ⟨rfl, rfl, rfl⟩ | ⟨rfl, rfl, rfl⟩
    all_goals
      go_enter Try.func22, Try.ntmps22
      go_wp2_with (go_at_call 38; refine (HA.out _).mono ?_; rintro e w1 ⟨rfl, b⟩; have X1 := Lib.hid (X0.out.call b); obtain ⟨c0, c1, c2, e0, e1, e2⟩ := HQ.out _ X1.out; clear b; refine Hid.out ?_)
      refine Lib.hid ?_
      go_wp2_with (go_at_call 38; refine (HB.out _).mono ?_; rintro e w2 ⟨rfl, b⟩; have X2 := X1.out.call b; clear b c0 c1 c2 e0 e1 e2; refine Hid.out ?_)
      refine Lib.hid ?_
      go_wp2_with fail
      go_region_held3 (fun w' => w'.cell? ⟨w.heap.size, 0, none⟩ = some (.int .i64 xf) ∧ w'.cell? ⟨w.heap.size, 1, none⟩ = some (.int .i64 xl) ∧ w'.cell? ⟨w.heap.size, 2, none⟩ = some (.int .i64 xs) ∧ w'.cell? ⟨w.heap.size + 1, 0, none⟩ = some (.int .i64 yf) ∧ w'.cell? ⟨w.heap.size + 1, 1, none⟩ = some (.int .i64 yl) ∧ w'.cell? ⟨w.heap.size + 1, 2, none⟩ = some (.int .i64 ys) ∧ BX ((w.alloc (Obj.cells #[.int .i64 xf, .int .i64 xl, .int .i64 xs] 25)).alloc (Obj.cells #[.int .i64 yf, .int .i64 yl, .int .i64 ys] 25)) w')
        (first | (go_split_ands; refine HQ2.out _ ?_; repeat' (with_reducible first | exact BX.drew0 _ | exact BX.refl _ | assumption | refine BX.call' (by assumption) ?_ | refine BX.drew ?_)))
        (first | (go_at_call 50; (first | (with_reducible refine (HSA.out _).mono ?_) | (with_reducible refine (HSB.out _).mono ?_)); rintro e w3 ⟨rfl, b3⟩))
      all_goals
        go_split_ands
        go_wp2_with fail
        go_ret2
        exact ⟨ret_bb (by rw [HX3.out]; rfl) HX2.out.symm, HE.out _ (by assumption)⟩
set_option maxHeartbeats 6400000 in
theorem implSameCurve_any (a b : Cv) (w : World) : Calls Try.prog 23 #[cvV a, cvV b] w (SaysT2 w (.bool (resSameCurve1 a b)) (.bool (resSameCurve2 a b))) := by
  have HA := Lib.hid (fun w => implShortCurve_any a w)
  have HB := Lib.hid (fun w => implShortCurve_any b w)
  cases ga : goodV a
  · rw [ga] at HA
    obtain ⟨x1, x2⟩ := same_no (a := a) (b := b) (by rw [ga]; rfl)
    have HX1 := Lib.hid x1
    have HX2 := Lib.hid x2
    generalize resSameCurve1 a b = R1 at HX1 ⊢
    generalize resSameCurve2 a b = R2 at HX2 ⊢
    clear x1 x2
    generalize goodV b = gb at HB
    generalize resShortCurve1 a = u at HA
    generalize resShortCurve1 b = v at HB
    clear ga
    obtain ⟨xf, xl, xs⟩ := a
    obtain ⟨yf, yl, ys⟩ := b
    obtain ⟨uf, ul, us⟩ := u
    obtain ⟨vf, vl, vs⟩ := v
    unfold cvV at HA HB ⊢
    simp only at HA HB ⊢
    have HBX : Hid (∀ w', BX ((w.alloc (Obj.cells #[.int .i64 xf, .int .i64 xl, .int .i64 xs] 25)).alloc (Obj.cells #[.int .i64 yf, .int .i64 yl, .int .i64 ys] 25)) w' → ThreeIs w' w.heap.size (.int .i64 xf) (.int .i64 xl) (.int .i64 xs)) := Lib.hid (fun w' h => ((three_is w (.int .i64 xf) (.int .i64 xl) (.int .i64 xs) 25).on (one_new2 _ _)).on h)
    have HBY : Hid (∀ w', BX ((w.alloc (Obj.cells #[.int .i64 xf, .int .i64 xl, .int .i64 xs] 25)).alloc (Obj.cells #[.int .i64 yf, .int .i64 yl, .int .i64 ys] 25)) w' → ThreeIs w' (w.heap.size + 1) (.int .i64 yf) (.int .i64 yl) (.int .i64 ys)) := Lib.hid (fun w' h => by have := ((three_is (w.alloc (Obj.cells #[.int .i64 xf, .int .i64 xl, .int .i64 xs] 25)) (.int .i64 yf) (.int .i64 yl) (.int .i64 ys) 25).on h); simpa using this)
    have HQ : Hid (∀ w', BX ((w.alloc (Obj.cells #[.int .i64 xf, .int .i64 xl, .int .i64 xs] 25)).alloc (Obj.cells #[.int .i64 yf, .int .i64 yl, .int .i64 ys] 25)) w' → w'.cell? ⟨w.heap.size, 0, none⟩ = some (.int .i64 xf) ∧ w'.cell? ⟨w.heap.size, 1, none⟩ = some (.int .i64 xl) ∧ w'.cell? ⟨w.heap.size, 2, none⟩ = some (.int .i64 xs) ∧ w'.cell? ⟨w.heap.size + 1, 0, none⟩ = some (.int .i64 yf) ∧ w'.cell? ⟨w.heap.size + 1, 1, none⟩ = some (.int .i64 yl) ∧ w'.cell? ⟨w.heap.size + 1, 2, none⟩ = some (.int .i64 ys)) := Lib.hid (fun w' h => ⟨(HBX.out w' h).1, (HBX.out w' h).2.1, (HBX.out w' h).2.2.1, (HBY.out w' h).1, (HBY.out w' h).2.1, (HBY.out w' h).2.2.1⟩)
    have HE : Hid (∀ w', BX ((w.alloc (Obj.cells #[.int .i64 xf, .int .i64 xl, .int .i64 xs] 25)).alloc (Obj.cells #[.int .i64 yf, .int .i64 yl, .int .i64 ys] 25)) w' → Below w.heap.size w w') := Lib.hid (fun w' h => (two_new w _ _).trans (Below.mono h (by simp; omega)))
    have X0 := Lib.hid (BX.refl ((w.alloc (Obj.cells #[.int .i64 xf, .int .i64 xl, .int .i64 xs] 25)).alloc (Obj.cells #[.int .i64 yf, .int .i64 yl, .int .i64 ys] 25)))
    go_enter Try.func23, Try.ntmps23
    go_wp2_with (go_at_call 25; refine (HA.out _).mono ?_; rintro e w1 ⟨rfl, b⟩; have X1 := Lib.hid ((X0.out.call b).alloc (Obj.cells #[.int .i64 uf, .int .i64 ul, .int .i64 us] 25)); obtain ⟨c0, c1, c2, e0, e1, e2⟩ := HQ.out _ X1.out; clear b; refine Hid.out ?_)
    refine Lib.hid ?_
    have R1' := Lib.hid (three_is w1 (.int .i64 uf) (.int .i64 ul) (.int .i64 us) 25)
    go_wp2_with (go_at_call 25; refine (HB.out _).mono ?_; rintro e w2 ⟨rfl, b⟩; have X2 := Lib.hid ((X1.out.call b).alloc (Obj.cells #[.int .i64 vf, .int .i64 vl, .int .i64 vs] 25)); obtain ⟨d0, d1, d2, dl⟩ := (R1'.out.on b).on (one_new2 w2 (Obj.cells #[.int .i64 vf, .int .i64 vl, .int .i64 vs] 25)); clear b)
    go_ret2
    exact ⟨ret_bb HX1.out.symm HX2.out.symm, HE.out _ X2.out⟩
  cases gb : goodV b
  · rw [ga] at HA
    rw [gb] at HB
    obtain ⟨x1, x2⟩ := same_no (a := a) (b := b) (by rw [ga, gb]; rfl)
    have HX1 := Lib.hid x1
    have HX2 := Lib.hid x2
    generalize resSameCurve1 a b = R1 at HX1 ⊢
    generalize resSameCurve2 a b = R2 at HX2 ⊢
    clear x1 x2
    generalize resShortCurve1 a = u at HA
    generalize resShortCurve1 b = v at HB
    clear ga gb
    obtain ⟨xf, xl, xs⟩ := a
    obtain ⟨yf, yl, ys⟩ := b
    obtain ⟨uf, ul, us⟩ := u
    obtain ⟨vf, vl, vs⟩ := v
    unfold cvV at HA HB ⊢
    simp only at HA HB ⊢
    have HBX : Hid (∀ w', BX ((w.alloc (Obj.cells #[.int .i64 xf, .int .i64 xl, .int .i64 xs] 25)).alloc (Obj.cells #[.int .i64 yf, .int .i64 yl, .int .i64 ys] 25)) w' → ThreeIs w' w.heap.size (.int .i64 xf) (.int .i64 xl) (.int .i64 xs)) := Lib.hid (fun w' h => ((three_is w (.int .i64 xf) (.int .i64 xl) (.int .i64 xs) 25).on (one_new2 _ _)).on h)
    have HBY : Hid (∀ w', BX ((w.alloc (Obj.cells #[.int .i64 xf, .int .i64 xl, .int .i64 xs] 25)).alloc (Obj.cells #[.int .i64 yf, .int .i64 yl, .int .i64 ys] 25)) w' → ThreeIs w' (w.heap.size + 1) (.int .i64 yf) (.int .i64 yl) (.int .i64 ys)) := Lib.hid (fun w' h => by have := ((three_is (w.alloc (Obj.cells #[.int .i64 xf, .int .i64 xl, .int .i64 xs] 25)) (.int .i64 yf) (.int .i64 yl) (.int .i64 ys) 25).on h); simpa using this)
    have HQ : Hid (∀ w', BX ((w.alloc (Obj.cells #[.int .i64 xf, .int .i64 xl, .int .i64 xs] 25)).alloc (Obj.cells #[.int .i64 yf, .int .i64 yl, .int .i64 ys] 25)) w' → w'.cell? ⟨w.heap.size, 0, none⟩ = some (.int .i64 xf) ∧ w'.cell? ⟨w.heap.size, 1, none⟩ = some (.int .i64 xl) ∧ w'.cell? ⟨w.heap.size, 2, none⟩ = some (.int .i64 xs) ∧ w'.cell? ⟨w.heap.size + 1, 0, none⟩ = some (.int .i64 yf) ∧ w'.cell? ⟨w.heap.size + 1, 1, none⟩ = some (.int .i64 yl) ∧ w'.cell? ⟨w.heap.size + 1, 2, none⟩ = some (.int .i64 ys)) := Lib.hid (fun w' h => ⟨(HBX.out w' h).1, (HBX.out w' h).2.1, (HBX.out w' h).2.2.1, (HBY.out w' h).1, (HBY.out w' h).2.1, (HBY.out w' h).2.2.1⟩)
    have HE : Hid (∀ w', BX ((w.alloc (Obj.cells #[.int .i64 xf, .int .i64 xl, .int .i64 xs] 25)).alloc (Obj.cells #[.int .i64 yf, .int .i64 yl, .int .i64 ys] 25)) w' → Below w.heap.size w w') := Lib.hid (fun w' h => (two_new w _ _).trans (Below.mono h (by simp; omega)))
    have X0 := Lib.hid (BX.refl ((w.alloc (Obj.cells #[.int .i64 xf, .int .i64 xl, .int .i64 xs] 25)).alloc (Obj.cells #[.int .i64 yf, .int .i64 yl, .int .i64 ys] 25)))
    go_enter Try.func23, Try.ntmps23
    go_wp2_with (go_at_call 25; refine (HA.out _).mono ?_; rintro e w1 ⟨rfl, b⟩; have X1 := Lib.hid ((X0.out.call b).alloc (Obj.cells #[.int .i64 uf, .int .i64 ul, .int .i64 us] 25)); obtain ⟨c0, c1, c2, e0, e1, e2⟩ := HQ.out _ X1.out; clear b; refine Hid.out ?_)
    refine Lib.hid ?_
    have R1' := Lib.hid (three_is w1 (.int .i64 uf) (.int .i64 ul) (.int .i64 us) 25)
    go_wp2_with (go_at_call 25; refine (HB.out _).mono ?_; rintro e w2 ⟨rfl, b⟩; have X2 := Lib.hid ((X1.out.call b).alloc (Obj.cells #[.int .i64 vf, .int .i64 vl, .int .i64 vs] 25)); obtain ⟨d0, d1, d2, dl⟩ := (R1'.out.on b).on (one_new2 w2 (Obj.cells #[.int .i64 vf, .int .i64 vl, .int .i64 vs] 25)); clear b)
    go_ret2
    exact ⟨ret_bb HX1.out.symm HX2.out.symm, HE.out _ X2.out⟩
  · rw [ga, sc_yes ga] at HA
    rw [gb, sc_yes gb] at HB
    obtain ⟨x1, x2⟩ := same_yes (a := a) (b := b) (by rw [ga, gb]; rfl)
    have HX1 := Lib.hid x1
    have HX2 := Lib.hid x2
    generalize resSameCurve1 a b = R1 at HX1 ⊢
    generalize resSameCurve2 a b = R2 at HX2 ⊢
    clear x1 x2
    generalize shortV a = u at HX1 HA
    generalize shortV b = v at HX1 HB
    clear ga gb
    obtain ⟨xf, xl, xs⟩ := a
    obtain ⟨yf, yl, ys⟩ := b
    obtain ⟨uf, ul, us⟩ := u
    obtain ⟨vf, vl, vs⟩ := v
    have HX3 := Lib.hid (HX1.out.trans (eqV_def _ _))
    unfold cvV at HA HB ⊢
    simp only at HA HB HX3 ⊢
    have HBX : Hid (∀ w', BX ((w.alloc (Obj.cells #[.int .i64 xf, .int .i64 xl, .int .i64 xs] 25)).alloc (Obj.cells #[.int .i64 yf, .int .i64 yl, .int .i64 ys] 25)) w' → ThreeIs w' w.heap.size (.int .i64 xf) (.int .i64 xl) (.int .i64 xs)) := Lib.hid (fun w' h => ((three_is w (.int .i64 xf) (.int .i64 xl) (.int .i64 xs) 25).on (one_new2 _ _)).on h)
    have HBY : Hid (∀ w', BX ((w.alloc (Obj.cells #[.int .i64 xf, .int .i64 xl, .int .i64 xs] 25)).alloc (Obj.cells #[.int .i64 yf, .int .i64 yl, .int .i64 ys] 25)) w' → ThreeIs w' (w.heap.size + 1) (.int .i64 yf) (.int .i64 yl) (.int .i64 ys)) := Lib.hid (fun w' h => by have := ((three_is (w.alloc (Obj.cells #[.int .i64 xf, .int .i64 xl, .int .i64 xs] 25)) (.int .i64 yf) (.int .i64 yl) (.int .i64 ys) 25).on h); simpa using this)
    have HQ : Hid (∀ w', BX ((w.alloc (Obj.cells #[.int .i64 xf, .int .i64 xl, .int .i64 xs] 25)).alloc (Obj.cells #[.int .i64 yf, .int .i64 yl, .int .i64 ys] 25)) w' → w'.cell? ⟨w.heap.size, 0, none⟩ = some (.int .i64 xf) ∧ w'.cell? ⟨w.heap.size, 1, none⟩ = some (.int .i64 xl) ∧ w'.cell? ⟨w.heap.size, 2, none⟩ = some (.int .i64 xs) ∧ w'.cell? ⟨w.heap.size + 1, 0, none⟩ = some (.int .i64 yf) ∧ w'.cell? ⟨w.heap.size + 1, 1, none⟩ = some (.int .i64 yl) ∧ w'.cell? ⟨w.heap.size + 1, 2, none⟩ = some (.int .i64 ys)) := Lib.hid (fun w' h => ⟨(HBX.out w' h).1, (HBX.out w' h).2.1, (HBX.out w' h).2.2.1, (HBY.out w' h).1, (HBY.out w' h).2.1, (HBY.out w' h).2.2.1⟩)
    have HE : Hid (∀ w', BX ((w.alloc (Obj.cells #[.int .i64 xf, .int .i64 xl, .int .i64 xs] 25)).alloc (Obj.cells #[.int .i64 yf, .int .i64 yl, .int .i64 ys] 25)) w' → Below w.heap.size w w') := Lib.hid (fun w' h => (two_new w _ _).trans (Below.mono h (by simp; omega)))
    have X0 := Lib.hid (BX.refl ((w.alloc (Obj.cells #[.int .i64 xf, .int .i64 xl, .int .i64 xs] 25)).alloc (Obj.cells #[.int .i64 yf, .int .i64 yl, .int .i64 ys] 25)))
    obtain ⟨p, hp⟩ : ∃ p, (uf == vf) = p := ⟨_, rfl⟩
    obtain ⟨q, hq⟩ : ∃ q, (ul == vl) = q := ⟨_, rfl⟩
    obtain ⟨r, hr⟩ : ∃ r, (us == vs) = r := ⟨_, rfl⟩
    rw [hp, hq, hr] at HX3
    have fin : (p = false ∨ (p = true ∧ q = false) ∨ (p = true ∧ q = true ∧ r = false) ∨ (p = true ∧ q = true ∧ r = true)) := by cases p <;> cases q <;> cases r <;> simp
    rcases fin with rfl | ⟨rfl, rfl⟩ | ⟨rfl, rfl, rfl⟩ | ⟨rfl, rfl, rfl⟩
    all_goals
      go_enter Try.func23, Try.ntmps23
      go_wp2_with (go_at_call 25; refine (HA.out _).mono ?_; rintro e w1 ⟨rfl, b⟩; have X1 := Lib.hid ((X0.out.call b).alloc (Obj.cells #[.int .i64 uf, .int .i64 ul, .int .i64 us] 25)); obtain ⟨c0, c1, c2, e0, e1, e2⟩ := HQ.out _ X1.out; clear b; refine Hid.out ?_)
      refine Lib.hid ?_
      have R1' := Lib.hid (three_is w1 (.int .i64 uf) (.int .i64 ul) (.int .i64 us) 25)
      go_wp2_with (go_at_call 25; refine (HB.out _).mono ?_; rintro e w2 ⟨rfl, b⟩; have X2 := Lib.hid ((X1.out.call b).alloc (Obj.cells #[.int .i64 vf, .int .i64 vl, .int .i64 vs] 25)); obtain ⟨d0, d1, d2, dl⟩ := (R1'.out.on b).on (one_new2 w2 (Obj.cells #[.int .i64 vf, .int .i64 vl, .int .i64 vs] 25)); clear b)
      go_ret2
      exact ⟨ret_bb (by rw [HX3.out]; rfl) HX2.out.symm, HE.out _ X2.out⟩
end Go.Proofs.Yteogadbjnmcblaa
