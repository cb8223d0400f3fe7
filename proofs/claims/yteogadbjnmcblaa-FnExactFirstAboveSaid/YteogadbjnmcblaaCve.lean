/- Curves: the least number for which a condition holds; LeastTime: contracts of both sides. -/
import Derived.Test.YteogadbjnmcblaaCvd
namespace Go.Proofs.Yteogadbjnmcblaa
open Go.RowKit
set_option linter.unusedVariables false

theorem reP_yes {c : Cv} {y t : Int} (h : y ≤ atV c t) : reP c y t = true := by unfold reP; simpa using h
theorem reP_no {c : Cv} {y t : Int} (h : atV c t < y) : reP c y t = false := by unfold reP; simpa using h
set_option maxHeartbeats 1600000 in
theorem reached_any (c : Cv) (y t : Int) (cb yb : Nat) (w : World) (HF : Hid (ThreeIs w cb (.int .i64 c.f) (.int .i64 c.l) (.int .i64 c.s))) (HY : Hid (w.cell? ⟨yb, 0, none⟩ = some (.int .i64 y) ∧ yb < w.heap.size)) (hc : Hid (CvOk c)) (h0 : 0 ≤ t) (h1 : t ≤ 100000) :
    Calls Try.prog 46 #[.int .i64 t, .pointer (some ⟨cb, 0, none⟩), .pointer (some ⟨yb, 0, none⟩)] w (SaysB w (reP c y t)) := by
  have HV := Lib.hid (fun w => valueAt_any c t w hc.out h0 h1)
  have HQ : Hid (∀ w', BX w w' → w'.cell? ⟨cb, 0, none⟩ = some (.int .i64 c.f) ∧ w'.cell? ⟨cb, 1, none⟩ = some (.int .i64 c.l) ∧ w'.cell? ⟨cb, 2, none⟩ = some (.int .i64 c.s) ∧ w'.cell? ⟨yb, 0, none⟩ = some (.int .i64 y) ∧ BX w w') := Lib.hid (fun w' h => by
    obtain ⟨a0, a1, a2, _⟩ := HF.out.on h
    exact ⟨a0, a1, a2, ((bcell h).1 _ 0 HY.out.2).trans HY.out.1, h⟩)
  rcases Int.lt_or_le (atV c t) y with q | q
  · rw [reP_no q]
    have d := not_le q
    have d2 := is_lt q
    generalize atV c t = A at HV d d2 q
    obtain ⟨xf, xl, xs⟩ := c
    unfold cvV at HV
    simp only at HV HQ
    clear HF HY hc
    go_enter Try.func46, Try.ntmps46
    go_wp2_with fail
    go_region_held3 (fun w' => w'.cell? ⟨cb, 0, none⟩ = some (.int .i64 xf) ∧ w'.cell? ⟨cb, 1, none⟩ = some (.int .i64 xl) ∧ w'.cell? ⟨cb, 2, none⟩ = some (.int .i64 xs) ∧ w'.cell? ⟨yb, 0, none⟩ = some (.int .i64 y) ∧ BX w w')
      (first | (go_split_ands; refine HQ.out _ ?_; repeat' (with_reducible first | exact BX.drew0 _ | exact BX.refl _ | assumption | refine BX.call' (by assumption) ?_ | refine BX.drew ?_)))
      (first | (go_at_call 43; (with_reducible refine (HV.out _).mono ?_); rintro e w3 ⟨rfl, b3⟩))
    all_goals
      go_split_ands
      go_wp2_with fail
      go_ret
      exact ⟨rfl, by assumption⟩
  · rw [reP_yes q]
    have d := is_le q
    have d2 := not_lt q
    generalize atV c t = A at HV d d2 q
    obtain ⟨xf, xl, xs⟩ := c
    unfold cvV at HV
    simp only at HV HQ
    clear HF HY hc
    go_enter Try.func46, Try.ntmps46
    go_wp2_with fail
    go_region_held3 (fun w' => w'.cell? ⟨cb, 0, none⟩ = some (.int .i64 xf) ∧ w'.cell? ⟨cb, 1, none⟩ = some (.int .i64 xl) ∧ w'.cell? ⟨cb, 2, none⟩ = some (.int .i64 xs) ∧ w'.cell? ⟨yb, 0, none⟩ = some (.int .i64 y) ∧ BX w w')
      (first | (go_split_ands; refine HQ.out _ ?_; repeat' (with_reducible first | exact BX.drew0 _ | exact BX.refl _ | assumption | refine BX.call' (by assumption) ?_ | refine BX.drew ?_)))
      (first | (go_at_call 43; (with_reducible refine (HV.out _).mono ?_); rintro e w3 ⟨rfl, b3⟩))
    all_goals
      go_split_ands
      go_wp2_with fail
      go_ret
      exact ⟨rfl, by assumption⟩
theorem BX.trans' {wb w1 w2 : World} (h : BX wb w1) (h2 : BX w1 w2) : BX wb w2 := h.call h2
/-- a search between two numbers, around the one looked for -/
def LwRel (w : World) (lo hi T : Int) (i j : Value) (wr : World) : Prop := ∃ a b : Int, lo ≤ a ∧ a ≤ T ∧ T ≤ b ∧ b ≤ hi ∧ i = .int .i64 a ∧ j = .int .i64 b ∧ BX w wr
theorem half (a b : Int) (h : a < b) (h0 : 0 ≤ a) : a ≤ a + (b - a) / 2 ∧ a + (b - a) / 2 < b := by omega
theorem half2 (a b : Int) (h : a < b) (h0 : 0 ≤ a) : a ≤ (a + b) / 2 ∧ (a + b) / 2 < b := by omega
set_option maxHeartbeats 3200000 in
theorem leastR_any (p : Int → Bool) (lo hi T : Int) (cb yb : Nat) (w : World) (hT : Thr p lo hi T) (hl : 0 ≤ lo) (hh : hi ≤ 100000)
    (HC : Hid (∀ t w', 0 ≤ t → t ≤ 100000 → BX w w' → Calls Try.prog 46 #[.int .i64 t, .pointer (some ⟨cb, 0, none⟩), .pointer (some ⟨yb, 0, none⟩)] w' (SaysB w' (p t)))) :
    Calls Try.prog 47 #[.int .i64 lo, .int .i64 hi, .func (Fn.func 46) #[] #[.pointer (some ⟨cb, 0, none⟩), .pointer (some ⟨yb, 0, none⟩)]] w (SaysI w T) := by
  obtain ⟨hT0, hT1, hT2⟩ := hT
  have HT := Lib.hid hT2
  clear hT2
  go_enter Try.func47, Try.ntmps47
  go_wp2_with fail
  go_loopw [0, 1] (fun i j wr => LwRel w lo hi T i j wr) (fun i j _ => (intOf j - intOf i).toNat)
  case atStart => exact ⟨lo, hi, Int.le_refl _, hT0, hT1, Int.le_refl _, rfl, rfl, BX.refl _⟩
  case round =>
    obtain ⟨a, b, ha, haT, hTb, hb, rfl, rfl, hx⟩ := hrel
    have X0 := Lib.hid hx
    clear hx
    by_cases hlt : a < b
    · have hm := half a b hlt (by omega)
      have hp := HT.out (a + (b - a) / 2) (by omega) (by omega)
      have HK := Lib.hid (fun w' => HC.out (a + (b - a) / 2) w' (by omega) (by omega))
      rcases Int.lt_or_le (a + (b - a) / 2) T with q | q
      · rw [show decide (T ≤ a + (b - a) / 2) = false by simp; omega] at hp
        rw [hp] at HK
        clear hp
        go_wp2_with (go_at_call 46; refine (HK.out _ X0.out).mono ?_; rintro e w1 ⟨rfl, b1⟩; have X1 := Lib.hid (X0.out.call b1); clear b1)
        go_roundw
        case rel => exact ⟨a + (b - a) / 2 + 1, b, by omega, by omega, by omega, by omega, by go_num, rfl, X1.out⟩
        case measure => simp [intOf]; omega
      · rw [show decide (T ≤ a + (b - a) / 2) = true by simp; omega] at hp
        rw [hp] at HK
        clear hp
        go_wp2_with (go_at_call 46; refine (HK.out _ X0.out).mono ?_; rintro e w1 ⟨rfl, b1⟩; have X1 := Lib.hid (X0.out.call b1); clear b1)
        go_roundw
        case rel => exact ⟨a, a + (b - a) / 2, by omega, by omega, by omega, by omega, rfl, by go_num, X1.out⟩
        case measure => simp [intOf]; omega
    · have hab : a = T := by omega
      have hbb : b = T := by omega
      subst hab
      go_wp2_with fail
      go_ret
      exact ⟨rfl, X0.out⟩
def LsRel (w wb : World) (T : Int) (i j : Value) (wr : World) : Prop := ∃ a b : Int, 0 ≤ a ∧ a ≤ T ∧ T ≤ b ∧ b ≤ 100000 ∧ i = .int .i64 a ∧ j = .int .i64 b ∧ BX wb wr
set_option maxHeartbeats 3200000 in
theorem cuLeast_no (c : Cv) (y : Int) (w : World) (hc : Hid (CvOk c)) (h : atV c 100000 < y) : Calls Try.prog 45 #[cvV c, .int .i64 y] w (SaysI w (-1)) := by
  have HV := Lib.hid (fun w => cuAt_any c 100000 w hc.out (by omega) (by omega))
  have d := is_lt h
  generalize atV c 100000 = A at HV d h
  obtain ⟨xf, xl, xs⟩ := c
  unfold cvV at HV ⊢
  simp only at HV ⊢
  have HQ := Lib.hid (fun w' (h : BX (w.alloc (Obj.cells #[.int .i64 xf, .int .i64 xl, .int .i64 xs] 25)) w') => ((three_is w (.int .i64 xf) (.int .i64 xl) (.int .i64 xs) 25).on h))
  have HE : Hid (∀ w', BX (w.alloc (Obj.cells #[.int .i64 xf, .int .i64 xl, .int .i64 xs] 25)) w' → Below w.heap.size w w') := Lib.hid (fun w' h => (one_new2 w _).trans (Below.mono h (by simp)))
  have X0 := Lib.hid (BX.refl (w.alloc (Obj.cells #[.int .i64 xf, .int .i64 xl, .int .i64 xs] 25)))
  go_enter Try.func45, Try.ntmps45
  go_wp2_with (go_at_call 41; refine (HV.out _).mono ?_; rintro e w1 ⟨rfl, b⟩; have X1 := Lib.hid (X0.out.call b); clear b)
  go_ret
  exact ⟨rfl, HE.out _ X1.out⟩
set_option maxHeartbeats 6400000 in
theorem cuLeast_yes (c : Cv) (y T : Int) (w : World) (hc : Hid (CvOk c)) (h : y ≤ atV c 100000) (hT : Thr (reP c y) 0 100000 T) : Calls Try.prog 45 #[cvV c, .int .i64 y] w (SaysI w T) := by
  have HV := Lib.hid (fun w => cuAt_any c 100000 w hc.out (by omega) (by omega))
  have HAll : Hid (∀ t w, 0 ≤ t → t ≤ 100000 → Calls Try.prog 41 #[cvV c, .int .i64 t] w (SaysI w (atV c t))) := Lib.hid (fun t w h0 h1 => cuAt_any c t w hc.out h0 h1)
  have d := not_lt h
  obtain ⟨hT0, hT1, hT2⟩ := hT
  have HT : Hid (∀ t, 0 ≤ t → t ≤ 100000 → decide (y ≤ atV c t) = decide (T ≤ t)) := Lib.hid hT2
  generalize atV c 100000 = A at HV d h
  generalize atV c = at' at HT HAll
  clear hT2
  obtain ⟨xf, xl, xs⟩ := c
  unfold cvV at HV HAll ⊢
  simp only at HV HAll ⊢
  have HQ := Lib.hid (fun w' (h : BX (w.alloc (Obj.cells #[.int .i64 xf, .int .i64 xl, .int .i64 xs] 25)) w') => ((three_is w (.int .i64 xf) (.int .i64 xl) (.int .i64 xs) 25).on h))
  have HE : Hid (∀ w', BX (w.alloc (Obj.cells #[.int .i64 xf, .int .i64 xl, .int .i64 xs] 25)) w' → Below w.heap.size w w') := Lib.hid (fun w' h => (one_new2 w _).trans (Below.mono h (by simp)))
  have X0 := Lib.hid (BX.refl (w.alloc (Obj.cells #[.int .i64 xf, .int .i64 xl, .int .i64 xs] 25)))
  go_enter Try.func45, Try.ntmps45
  go_wp2_with (go_at_call 41; refine (HV.out _).mono ?_; rintro e w1 ⟨rfl, b⟩; have X1 := Lib.hid (X0.out.call b); clear b)
  go_loopw [5, 6] (fun i j wr => LsRel w (w.alloc (Obj.cells #[.int .i64 xf, .int .i64 xl, .int .i64 xs] 25)) T i j wr) (fun i j _ => (intOf j - intOf i).toNat)
  case atStart => exact ⟨0, 100000, Int.le_refl _, hT0, hT1, Int.le_refl _, rfl, rfl, X1.out⟩
  case round =>
    obtain ⟨a, b, ha, haT, hTb, hb, rfl, rfl, hx⟩ := hrel
    have X2 := Lib.hid hx
    obtain ⟨c0, c1, c2, cl⟩ := HQ.out _ hx
    clear hx
    by_cases hlt : a < b
    · have hm := half2 a b hlt (by omega)
      have hp := HT.out ((a + b) / 2) (by omega) (by omega)
      have HK := Lib.hid (fun w' => HAll.out ((a + b) / 2) w' (by omega) (by omega))
      generalize at' ((a + b) / 2) = V at hp HK
      rcases Int.lt_or_le ((a + b) / 2) T with q | q
      · rw [show decide (T ≤ (a + b) / 2) = false by simp; omega] at hp
        have dv : decide (V < y) = true := by have := of_decide_eq_false hp; simp; omega
        clear hp
        go_wp2_with (go_at_call 41; refine (HK.out _).mono ?_; rintro e w2 ⟨rfl, b1⟩; have X3 := Lib.hid (X2.out.call b1); clear b1)
        go_roundw
        case rel => exact ⟨(a + b) / 2 + 1, b, by omega, by omega, by omega, by omega, by go_num, rfl, X3.out⟩
        case measure => simp [intOf]; omega
      · rw [show decide (T ≤ (a + b) / 2) = true by simp; omega] at hp
        have dv : decide (V < y) = false := by have := of_decide_eq_true hp; simp; omega
        clear hp
        go_wp2_with (go_at_call 41; refine (HK.out _).mono ?_; rintro e w2 ⟨rfl, b1⟩; have X3 := Lib.hid (X2.out.call b1); clear b1)
        go_roundw
        case rel => exact ⟨a, (a + b) / 2, by omega, by omega, by omega, by omega, rfl, by go_num, X3.out⟩
        case measure => simp [intOf]; omega
    · have hab : a = T := by omega
      have hbb : b = T := by omega
      subst hab
      go_wp2_with fail
      go_ret
      exact ⟨rfl, HE.out _ X2.out⟩
theorem lt_cases {c : Cv} {y r : Int} {k : Bool} (h : LtS c y r k) : (goodV c = false ∧ k = false ∧ r = 0) ∨ (goodV c = true ∧ inB y 0 20000000000 = false ∧ k = false ∧ r = 0) ∨
    (goodV c = true ∧ inB y 0 20000000000 = true ∧ atV c 100000 < y ∧ k = false ∧ r = 0) ∨ (goodV c = true ∧ inB y 0 20000000000 = true ∧ y ≤ atV c 100000 ∧ k = true ∧ Thr (reP c y) 0 100000 r) := by
  obtain ⟨h0, h1, h2⟩ := h
  cases hg : goodV c
  · rw [hg, Bool.false_and] at h0; exact .inl ⟨rfl, h0.symm, h2 h0.symm⟩
  cases hi : inB y 0 20000000000
  · rw [hg, hi, Bool.true_and, Bool.false_and] at h0; exact .inr (.inl ⟨rfl, rfl, h0.symm, h2 h0.symm⟩)
  rcases Int.lt_or_le (atV c 100000) y with q | q
  · rw [hg, hi, Bool.true_and, Bool.true_and, not_le q] at h0; exact .inr (.inr (.inl ⟨rfl, rfl, q, h0.symm, h2 h0.symm⟩))
  · rw [hg, hi, Bool.true_and, Bool.true_and, is_le q] at h0; exact .inr (.inr (.inr ⟨rfl, rfl, q, h0.symm, h1 h0.symm⟩))
set_option maxHeartbeats 6400000 in
theorem specLeastTime_any (c : Cv) (y : Int) (w : World) (r : Int) (k : Bool) (h : LtS c y r k) : Calls Try.prog 18 #[cvV c, .int .i64 y] w (SaysT2 w (.int .i64 r) (.bool k)) := by
  have HG := Lib.hid (fun w => cuGood_any c w)
  have HI := Lib.hid (fun w => l1In_any y 0 20000000000 w)
  rcases lt_cases h with ⟨hg, rfl, rfl⟩ | ⟨hg, hi, rfl, rfl⟩ | ⟨hg, hi, hy, rfl, rfl⟩ | ⟨hg, hi, hy, rfl, hT⟩
  · rw [hg] at HG
    clear hg h
    obtain ⟨xf, xl, xs⟩ := c
    unfold cvV at HG ⊢
    simp only at HG ⊢
    have HQ := Lib.hid (fun w' (h : BX (w.alloc (Obj.cells #[.int .i64 xf, .int .i64 xl, .int .i64 xs] 25)) w') => ((three_is w (.int .i64 xf) (.int .i64 xl) (.int .i64 xs) 25).on h))
    have HE : Hid (∀ w', BX (w.alloc (Obj.cells #[.int .i64 xf, .int .i64 xl, .int .i64 xs] 25)) w' → Below w.heap.size w w') := Lib.hid (fun w' h => (one_new2 w _).trans (Below.mono h (by simp)))
    have X0 := Lib.hid (BX.refl (w.alloc (Obj.cells #[.int .i64 xf, .int .i64 xl, .int .i64 xs] 25)))
    go_enter Try.func18, Try.ntmps18
    go_wp2_with (go_at_call 38; refine (HG.out _).mono ?_; rintro e w1 ⟨rfl, b⟩; have X1 := Lib.hid (X0.out.call b); obtain ⟨c0, c1, c2, cl⟩ := HQ.out _ X1.out; clear b)
    go_ret2
    exact ⟨rfl, HE.out _ X1.out⟩
  · rw [hg] at HG
    rw [hi] at HI
    clear hg hi h
    obtain ⟨xf, xl, xs⟩ := c
    unfold cvV at HG ⊢
    simp only at HG ⊢
    have HQ := Lib.hid (fun w' (h : BX (w.alloc (Obj.cells #[.int .i64 xf, .int .i64 xl, .int .i64 xs] 25)) w') => ((three_is w (.int .i64 xf) (.int .i64 xl) (.int .i64 xs) 25).on h))
    have HE : Hid (∀ w', BX (w.alloc (Obj.cells #[.int .i64 xf, .int .i64 xl, .int .i64 xs] 25)) w' → Below w.heap.size w w') := Lib.hid (fun w' h => (one_new2 w _).trans (Below.mono h (by simp)))
    have X0 := Lib.hid (BX.refl (w.alloc (Obj.cells #[.int .i64 xf, .int .i64 xl, .int .i64 xs] 25)))
    go_enter Try.func18, Try.ntmps18
    go_wp2_with (go_at_call 38; refine (HG.out _).mono ?_; rintro e w1 ⟨rfl, b⟩; have X1 := Lib.hid (X0.out.call b); obtain ⟨c0, c1, c2, cl⟩ := HQ.out _ X1.out; clear b)
    go_wp2_with (go_at_call 44; refine (HI.out _).mono ?_; rintro e w' ⟨rfl, rfl⟩)
    go_ret2
    exact ⟨rfl, HE.out _ X1.out⟩
  · rw [hg] at HG
    rw [hi] at HI
    have HL := Lib.hid (fun w => cuLeast_no c y w (Lib.hid (cvok hg)) hy)
    clear hg hi h hy
    obtain ⟨xf, xl, xs⟩ := c
    unfold cvV at HG HL ⊢
    simp only at HG HL ⊢
    have HQ := Lib.hid (fun w' (h : BX (w.alloc (Obj.cells #[.int .i64 xf, .int .i64 xl, .int .i64 xs] 25)) w') => ((three_is w (.int .i64 xf) (.int .i64 xl) (.int .i64 xs) 25).on h))
    have HE : Hid (∀ w', BX (w.alloc (Obj.cells #[.int .i64 xf, .int .i64 xl, .int .i64 xs] 25)) w' → Below w.heap.size w w') := Lib.hid (fun w' h => (one_new2 w _).trans (Below.mono h (by simp)))
    have X0 := Lib.hid (BX.refl (w.alloc (Obj.cells #[.int .i64 xf, .int .i64 xl, .int .i64 xs] 25)))
    go_enter Try.func18, Try.ntmps18
    go_wp2_with (go_at_call 38; refine (HG.out _).mono ?_; rintro e w1 ⟨rfl, b⟩; have X1 := Lib.hid (X0.out.call b); obtain ⟨c0, c1, c2, cl⟩ := HQ.out _ X1.out; clear b)
    go_wp2_with (go_at_call 44; refine (HI.out _).mono ?_; rintro e w' ⟨rfl, rfl⟩)
    go_wp2_with (go_at_call 45; refine (HL.out _).mono ?_; rintro e w2 ⟨rfl, b⟩; have X2 := Lib.hid (X1.out.call b); clear c0 c1 c2 cl; obtain ⟨c0, c1, c2, cl⟩ := HQ.out _ X2.out; clear b; refine Hid.out ?_)
    refine Lib.hid ?_
    go_wp2_with fail
    go_ret2
    exact ⟨rfl, HE.out _ X2.out⟩
  · rw [hg] at HG
    rw [hi] at HI
    have HL := Lib.hid (fun w => cuLeast_yes c y r w (Lib.hid (cvok hg)) hy hT)
    have dr := not_lt hT.1
    clear hg hi h hy hT
    obtain ⟨xf, xl, xs⟩ := c
    unfold cvV at HG HL ⊢
    simp only at HG HL ⊢
    have HQ := Lib.hid (fun w' (h : BX (w.alloc (Obj.cells #[.int .i64 xf, .int .i64 xl, .int .i64 xs] 25)) w') => ((three_is w (.int .i64 xf) (.int .i64 xl) (.int .i64 xs) 25).on h))
    have HE : Hid (∀ w', BX (w.alloc (Obj.cells #[.int .i64 xf, .int .i64 xl, .int .i64 xs] 25)) w' → Below w.heap.size w w') := Lib.hid (fun w' h => (one_new2 w _).trans (Below.mono h (by simp)))
    have X0 := Lib.hid (BX.refl (w.alloc (Obj.cells #[.int .i64 xf, .int .i64 xl, .int .i64 xs] 25)))
    go_enter Try.func18, Try.ntmps18
    go_wp2_with (go_at_call 38; refine (HG.out _).mono ?_; rintro e w1 ⟨rfl, b⟩; have X1 := Lib.hid (X0.out.call b); obtain ⟨c0, c1, c2, cl⟩ := HQ.out _ X1.out; clear b)
    go_wp2_with (go_at_call 44; refine (HI.out _).mono ?_; rintro e w' ⟨rfl, rfl⟩)
    go_wp2_with (go_at_call 45; refine (HL.out _).mono ?_; rintro e w2 ⟨rfl, b⟩; have X2 := Lib.hid (X1.out.call b); clear c0 c1 c2 cl; obtain ⟨c0, c1, c2, cl⟩ := HQ.out _ X2.out; clear b; refine Hid.out ?_)
    refine Lib.hid ?_
    go_wp2_with (go_at_call 45; refine (HL.out _).mono ?_; rintro e w3 ⟨rfl, b⟩; have X3 := Lib.hid (X2.out.call b); clear b)
    go_ret2
    exact ⟨rfl, HE.out _ X3.out⟩
set_option maxHeartbeats 6400000 in
theorem implLeastTime_any (c : Cv) (y : Int) (w : World) (r : Int) (k : Bool) (h : LtS c y r k) : Calls Try.prog 19 #[cvV c, .int .i64 y] w (SaysT2 w (.int .i64 r) (.bool k)) := by
  have HG := Lib.hid (fun w => implIsCurve_any c w)
  have HI := Lib.hid (fun w => isIn_any y 0 20000000000 w)
  rcases lt_cases h with ⟨hg, rfl, rfl⟩ | ⟨hg, hi, rfl, rfl⟩ | ⟨hg, hi, hy, rfl, rfl⟩ | ⟨hg, hi, hy, rfl, hT⟩
  · rw [hg] at HG
    clear hg h
    obtain ⟨xf, xl, xs⟩ := c
    unfold cvV at HG ⊢
    simp only at HG ⊢
    have HC : Hid (∀ w', BX ((w.alloc (Obj.cells #[.int .i64 xf, .int .i64 xl, .int .i64 xs] 25)).alloc (Obj.cells #[.int .i64 y] 3)) w' → ThreeIs w' w.heap.size (.int .i64 xf) (.int .i64 xl) (.int .i64 xs)) := Lib.hid (fun w' h => ((three_is w (.int .i64 xf) (.int .i64 xl) (.int .i64 xs) 25).on (one_new2 _ _)).on h)
    have HY : Hid (∀ w', BX ((w.alloc (Obj.cells #[.int .i64 xf, .int .i64 xl, .int .i64 xs] 25)).alloc (Obj.cells #[.int .i64 y] 3)) w' → w'.cell? ⟨w.heap.size + 1, 0, none⟩ = some (.int .i64 y) ∧ w.heap.size + 1 < w'.heap.size) := Lib.hid (fun w' h => ⟨((bcell h).1 _ 0 (by simp)).trans (by simp [go_sem]), Nat.lt_of_lt_of_le (by simp) h.size⟩)
    have HQ : Hid (∀ w', BX ((w.alloc (Obj.cells #[.int .i64 xf, .int .i64 xl, .int .i64 xs] 25)).alloc (Obj.cells #[.int .i64 y] 3)) w' → w'.cell? ⟨w.heap.size, 0, none⟩ = some (.int .i64 xf) ∧ w'.cell? ⟨w.heap.size, 1, none⟩ = some (.int .i64 xl) ∧ w'.cell? ⟨w.heap.size, 2, none⟩ = some (.int .i64 xs) ∧ w'.cell? ⟨w.heap.size + 1, 0, none⟩ = some (.int .i64 y)) := Lib.hid (fun w' h => ⟨(HC.out w' h).1, (HC.out w' h).2.1, (HC.out w' h).2.2.1, (HY.out w' h).1⟩)
    have HE : Hid (∀ w', BX ((w.alloc (Obj.cells #[.int .i64 xf, .int .i64 xl, .int .i64 xs] 25)).alloc (Obj.cells #[.int .i64 y] 3)) w' → Below w.heap.size w w') := Lib.hid (fun w' h => (two_new w _ _).trans (Below.mono h (by simp; omega)))
    have X0 := Lib.hid (BX.refl ((w.alloc (Obj.cells #[.int .i64 xf, .int .i64 xl, .int .i64 xs] 25)).alloc (Obj.cells #[.int .i64 y] 3)))
    go_enter Try.func19, Try.ntmps19
    go_wp2_with (go_at_call 15; refine (HG.out _).mono ?_; rintro e w1 ⟨rfl, b⟩; have X1 := Lib.hid (X0.out.call b); obtain ⟨c0, c1, c2, cl⟩ := HQ.out _ X1.out; clear b)
    go_ret2
    exact ⟨rfl, HE.out _ X1.out⟩
  · rw [hg] at HG
    rw [hi] at HI
    clear hg hi h
    obtain ⟨xf, xl, xs⟩ := c
    unfold cvV at HG ⊢
    simp only at HG ⊢
    have HC : Hid (∀ w', BX ((w.alloc (Obj.cells #[.int .i64 xf, .int .i64 xl, .int .i64 xs] 25)).alloc (Obj.cells #[.int .i64 y] 3)) w' → ThreeIs w' w.heap.size (.int .i64 xf) (.int .i64 xl) (.int .i64 xs)) := Lib.hid (fun w' h => ((three_is w (.int .i64 xf) (.int .i64 xl) (.int .i64 xs) 25).on (one_new2 _ _)).on h)
    have HY : Hid (∀ w', BX ((w.alloc (Obj.cells #[.int .i64 xf, .int .i64 xl, .int .i64 xs] 25)).alloc (Obj.cells #[.int .i64 y] 3)) w' → w'.cell? ⟨w.heap.size + 1, 0, none⟩ = some (.int .i64 y) ∧ w.heap.size + 1 < w'.heap.size) := Lib.hid (fun w' h => ⟨((bcell h).1 _ 0 (by simp)).trans (by simp [go_sem]), Nat.lt_of_lt_of_le (by simp) h.size⟩)
    have HQ : Hid (∀ w', BX ((w.alloc (Obj.cells #[.int .i64 xf, .int .i64 xl, .int .i64 xs] 25)).alloc (Obj.cells #[.int .i64 y] 3)) w' → w'.cell? ⟨w.heap.size, 0, none⟩ = some (.int .i64 xf) ∧ w'.cell? ⟨w.heap.size, 1, none⟩ = some (.int .i64 xl) ∧ w'.cell? ⟨w.heap.size, 2, none⟩ = some (.int .i64 xs) ∧ w'.cell? ⟨w.heap.size + 1, 0, none⟩ = some (.int .i64 y)) := Lib.hid (fun w' h => ⟨(HC.out w' h).1, (HC.out w' h).2.1, (HC.out w' h).2.2.1, (HY.out w' h).1⟩)
    have HE : Hid (∀ w', BX ((w.alloc (Obj.cells #[.int .i64 xf, .int .i64 xl, .int .i64 xs] 25)).alloc (Obj.cells #[.int .i64 y] 3)) w' → Below w.heap.size w w') := Lib.hid (fun w' h => (two_new w _ _).trans (Below.mono h (by simp; omega)))
    have X0 := Lib.hid (BX.refl ((w.alloc (Obj.cells #[.int .i64 xf, .int .i64 xl, .int .i64 xs] 25)).alloc (Obj.cells #[.int .i64 y] 3)))
    go_enter Try.func19, Try.ntmps19
    go_wp2_with (go_at_call 15; refine (HG.out _).mono ?_; rintro e w1 ⟨rfl, b⟩; have X1 := Lib.hid (X0.out.call b); obtain ⟨c0, c1, c2, cl⟩ := HQ.out _ X1.out; clear b)
    go_wp2_with (go_at_call 39; refine (HI.out _).mono ?_; rintro e w' ⟨rfl, rfl⟩)
    go_ret2
    exact ⟨rfl, HE.out _ X1.out⟩
  · rw [hg] at HG
    rw [hi] at HI
    have hok := cvok hg
    have HR := Lib.hid (fun cb yb w HF HY => reached_any c y 100000 cb yb w HF HY (Lib.hid hok) (by omega) (by omega))
    rw [reP_no hy] at HR
    clear hg hi h hy hok
    obtain ⟨xf, xl, xs⟩ := c
    unfold cvV at HG ⊢
    simp only at HG HR ⊢
    have HC : Hid (∀ w', BX ((w.alloc (Obj.cells #[.int .i64 xf, .int .i64 xl, .int .i64 xs] 25)).alloc (Obj.cells #[.int .i64 y] 3)) w' → ThreeIs w' w.heap.size (.int .i64 xf) (.int .i64 xl) (.int .i64 xs)) := Lib.hid (fun w' h => ((three_is w (.int .i64 xf) (.int .i64 xl) (.int .i64 xs) 25).on (one_new2 _ _)).on h)
    have HY : Hid (∀ w', BX ((w.alloc (Obj.cells #[.int .i64 xf, .int .i64 xl, .int .i64 xs] 25)).alloc (Obj.cells #[.int .i64 y] 3)) w' → w'.cell? ⟨w.heap.size + 1, 0, none⟩ = some (.int .i64 y) ∧ w.heap.size + 1 < w'.heap.size) := Lib.hid (fun w' h => ⟨((bcell h).1 _ 0 (by simp)).trans (by simp [go_sem]), Nat.lt_of_lt_of_le (by simp) h.size⟩)
    have HQ : Hid (∀ w', BX ((w.alloc (Obj.cells #[.int .i64 xf, .int .i64 xl, .int .i64 xs] 25)).alloc (Obj.cells #[.int .i64 y] 3)) w' → w'.cell? ⟨w.heap.size, 0, none⟩ = some (.int .i64 xf) ∧ w'.cell? ⟨w.heap.size, 1, none⟩ = some (.int .i64 xl) ∧ w'.cell? ⟨w.heap.size, 2, none⟩ = some (.int .i64 xs) ∧ w'.cell? ⟨w.heap.size + 1, 0, none⟩ = some (.int .i64 y)) := Lib.hid (fun w' h => ⟨(HC.out w' h).1, (HC.out w' h).2.1, (HC.out w' h).2.2.1, (HY.out w' h).1⟩)
    have HE : Hid (∀ w', BX ((w.alloc (Obj.cells #[.int .i64 xf, .int .i64 xl, .int .i64 xs] 25)).alloc (Obj.cells #[.int .i64 y] 3)) w' → Below w.heap.size w w') := Lib.hid (fun w' h => (two_new w _ _).trans (Below.mono h (by simp; omega)))
    have X0 := Lib.hid (BX.refl ((w.alloc (Obj.cells #[.int .i64 xf, .int .i64 xl, .int .i64 xs] 25)).alloc (Obj.cells #[.int .i64 y] 3)))
    go_enter Try.func19, Try.ntmps19
    go_wp2_with (go_at_call 15; refine (HG.out _).mono ?_; rintro e w1 ⟨rfl, b⟩; have X1 := Lib.hid (X0.out.call b); obtain ⟨c0, c1, c2, cl⟩ := HQ.out _ X1.out; clear b)
    go_wp2_with (go_at_call 39; refine (HI.out _).mono ?_; rintro e w' ⟨rfl, rfl⟩)
    go_wp2_with (go_at_call 46; refine (HR.out _ _ _ (Lib.hid (HC.out _ X1.out)) (Lib.hid (HY.out _ X1.out))).mono ?_; rintro e w2 ⟨rfl, b⟩; have X2 := Lib.hid (X1.out.call b); clear b)
    go_ret2
    exact ⟨rfl, HE.out _ X2.out⟩
  · rw [hg] at HG
    rw [hi] at HI
    have hok := cvok hg
    have HR := Lib.hid (fun cb yb w HF HY => reached_any c y 100000 cb yb w HF HY (Lib.hid hok) (by omega) (by omega))
    rw [reP_yes hy] at HR
    have HW := Lib.hid (fun cb yb w (HF : ∀ w', BX w w' → ThreeIs w' cb (.int .i64 c.f) (.int .i64 c.l) (.int .i64 c.s)) (HY : ∀ w', BX w w' → w'.cell? ⟨yb, 0, none⟩ = some (.int .i64 y) ∧ yb < w'.heap.size) => leastR_any (reP c y) 0 100000 r cb yb w hT (by omega) (by omega) (Lib.hid (fun t w' h0 h1 hx => reached_any c y t cb yb w' (Lib.hid (HF w' hx)) (Lib.hid (HY w' hx)) (Lib.hid hok) h0 h1)))
    clear hg hi h hy hT hok
    obtain ⟨xf, xl, xs⟩ := c
    unfold cvV at HG ⊢
    simp only at HG HR HW ⊢
    have HC : Hid (∀ w', BX ((w.alloc (Obj.cells #[.int .i64 xf, .int .i64 xl, .int .i64 xs] 25)).alloc (Obj.cells #[.int .i64 y] 3)) w' → ThreeIs w' w.heap.size (.int .i64 xf) (.int .i64 xl) (.int .i64 xs)) := Lib.hid (fun w' h => ((three_is w (.int .i64 xf) (.int .i64 xl) (.int .i64 xs) 25).on (one_new2 _ _)).on h)
    have HY : Hid (∀ w', BX ((w.alloc (Obj.cells #[.int .i64 xf, .int .i64 xl, .int .i64 xs] 25)).alloc (Obj.cells #[.int .i64 y] 3)) w' → w'.cell? ⟨w.heap.size + 1, 0, none⟩ = some (.int .i64 y) ∧ w.heap.size + 1 < w'.heap.size) := Lib.hid (fun w' h => ⟨((bcell h).1 _ 0 (by simp)).trans (by simp [go_sem]), Nat.lt_of_lt_of_le (by simp) h.size⟩)
    have HQ : Hid (∀ w', BX ((w.alloc (Obj.cells #[.int .i64 xf, .int .i64 xl, .int .i64 xs] 25)).alloc (Obj.cells #[.int .i64 y] 3)) w' → w'.cell? ⟨w.heap.size, 0, none⟩ = some (.int .i64 xf) ∧ w'.cell? ⟨w.heap.size, 1, none⟩ = some (.int .i64 xl) ∧ w'.cell? ⟨w.heap.size, 2, none⟩ = some (.int .i64 xs) ∧ w'.cell? ⟨w.heap.size + 1, 0, none⟩ = some (.int .i64 y)) := Lib.hid (fun w' h => ⟨(HC.out w' h).1, (HC.out w' h).2.1, (HC.out w' h).2.2.1, (HY.out w' h).1⟩)
    have HE : Hid (∀ w', BX ((w.alloc (Obj.cells #[.int .i64 xf, .int .i64 xl, .int .i64 xs] 25)).alloc (Obj.cells #[.int .i64 y] 3)) w' → Below w.heap.size w w') := Lib.hid (fun w' h => (two_new w _ _).trans (Below.mono h (by simp; omega)))
    have X0 := Lib.hid (BX.refl ((w.alloc (Obj.cells #[.int .i64 xf, .int .i64 xl, .int .i64 xs] 25)).alloc (Obj.cells #[.int .i64 y] 3)))
    go_enter Try.func19, Try.ntmps19
    go_wp2_with (go_at_call 15; refine (HG.out _).mono ?_; rintro e w1 ⟨rfl, b⟩; have X1 := Lib.hid (X0.out.call b); obtain ⟨c0, c1, c2, cl⟩ := HQ.out _ X1.out; clear b)
    go_wp2_with (go_at_call 39; refine (HI.out _).mono ?_; rintro e w' ⟨rfl, rfl⟩)
    go_wp2_with (go_at_call 46; refine (HR.out _ _ _ (Lib.hid (HC.out _ X1.out)) (Lib.hid (HY.out _ X1.out))).mono ?_; rintro e w2 ⟨rfl, b⟩; have X2 := Lib.hid (X1.out.call b); clear b)
    go_wp2_with (go_at_call 47; refine (HW.out _ _ _ (fun w' h => HC.out _ (BX.trans' X2.out h)) (fun w' h => HY.out _ (BX.trans' X2.out h))).mono ?_; rintro e w3 ⟨rfl, b⟩; have X3 := Lib.hid (X2.out.call b); clear b)
    go_ret2
    exact ⟨rfl, HE.out _ X3.out⟩
end Go.Proofs.Yteogadbjnmcblaa
