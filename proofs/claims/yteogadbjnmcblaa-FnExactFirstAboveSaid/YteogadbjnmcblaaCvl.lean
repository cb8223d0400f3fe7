/- The first time at which one curve is above another: the program's (written by tools/gen_cvl.py). -/
import Derived.Test.YteogadbjnmcblaaCve
namespace Go.Proofs.Yteogadbjnmcblaa
open Go.RowKit
set_option linter.unusedVariables false

set_option maxHeartbeats 3200000 in
theorem above_any (a b : Cv) (t : Int) (ab bb : Nat) (w : World) (HA : Hid (ThreeIs w ab (.int .i64 a.f) (.int .i64 a.l) (.int .i64 a.s))) (HB : Hid (ThreeIs w bb (.int .i64 b.f) (.int .i64 b.l) (.int .i64 b.s))) (ha : Hid (CvOk a)) (hb : Hid (CvOk b)) (h0 : 0 ≤ t) (h1 : t ≤ 100000) :
    Calls Try.prog 53 #[.int .i64 t, .pointer (some ⟨ab, 0, none⟩), .pointer (some ⟨bb, 0, none⟩)] w (SaysB w (abP a b t)) := by
  have HVA := Lib.hid (fun w => valueAt_any a t w ha.out h0 h1)
  have HVB := Lib.hid (fun w => valueAt_any b t w hb.out h0 h1)
  have hab : abP a b t = decide (atV b t < atV a t) := rfl
  rw [hab]
  generalize atV a t = S at HVA ⊢
  generalize atV b t = T at HVB ⊢
  clear hab
  obtain ⟨xf, xl, xs⟩ := a
  obtain ⟨yf, yl, ys⟩ := b
  unfold cvV at HVA HVB
  simp only at HVA HVB HA HB
  have HQ : Hid (∀ w', BX w w' → w'.cell? ⟨ab, 0, none⟩ = some (.int .i64 xf) ∧ w'.cell? ⟨ab, 1, none⟩ = some (.int .i64 xl) ∧ w'.cell? ⟨ab, 2, none⟩ = some (.int .i64 xs) ∧ w'.cell? ⟨bb, 0, none⟩ = some (.int .i64 yf) ∧ w'.cell? ⟨bb, 1, none⟩ = some (.int .i64 yl) ∧ w'.cell? ⟨bb, 2, none⟩ = some (.int .i64 ys) ∧ BX w w') := Lib.hid (fun w' h => by
    obtain ⟨a0, a1, a2, _⟩ := HA.out.on h
    obtain ⟨b0, b1, b2, _⟩ := HB.out.on h
    exact ⟨a0, a1, a2, b0, b1, b2, h⟩)
  rcases Int.lt_or_le T S with q | q
  · rw [is_lt q]
    have d := is_lt q
    clear HA HB ha hb
    go_enter Try.func53, Try.ntmps53
    go_wp2_with fail
    go_region_held3 (fun w' => w'.cell? ⟨ab, 0, none⟩ = some (.int .i64 xf) ∧ w'.cell? ⟨ab, 1, none⟩ = some (.int .i64 xl) ∧ w'.cell? ⟨ab, 2, none⟩ = some (.int .i64 xs) ∧ w'.cell? ⟨bb, 0, none⟩ = some (.int .i64 yf) ∧ w'.cell? ⟨bb, 1, none⟩ = some (.int .i64 yl) ∧ w'.cell? ⟨bb, 2, none⟩ = some (.int .i64 ys) ∧ BX w w')
      (first | (go_split_ands; refine HQ.out _ ?_; repeat' (with_reducible first | exact BX.drew0 _ | exact BX.refl _ | assumption | refine BX.call' (by assumption) ?_ | refine BX.drew ?_)))
      (first | (go_at_call 43; (first | (with_reducible refine (HVA.out _).mono ?_) | (with_reducible refine (HVB.out _).mono ?_)); rintro e w3 ⟨rfl, b3⟩))
    all_goals
      go_split_ands
      go_wp2_with fail
      go_ret
      exact ⟨rfl, by assumption⟩
  · rw [not_lt q]
    have d := not_lt q
    clear HA HB ha hb
    go_enter Try.func53, Try.ntmps53
    go_wp2_with fail
    go_region_held3 (fun w' => w'.cell? ⟨ab, 0, none⟩ = some (.int .i64 xf) ∧ w'.cell? ⟨ab, 1, none⟩ = some (.int .i64 xl) ∧ w'.cell? ⟨ab, 2, none⟩ = some (.int .i64 xs) ∧ w'.cell? ⟨bb, 0, none⟩ = some (.int .i64 yf) ∧ w'.cell? ⟨bb, 1, none⟩ = some (.int .i64 yl) ∧ w'.cell? ⟨bb, 2, none⟩ = some (.int .i64 ys) ∧ BX w w')
      (first | (go_split_ands; refine HQ.out _ ?_; repeat' (with_reducible first | exact BX.drew0 _ | exact BX.refl _ | assumption | refine BX.call' (by assumption) ?_ | refine BX.drew ?_)))
      (first | (go_at_call 43; (first | (with_reducible refine (HVA.out _).mono ?_) | (with_reducible refine (HVB.out _).mono ?_)); rintro e w3 ⟨rfl, b3⟩))
    all_goals
      go_split_ands
      go_wp2_with fail
      go_ret
      exact ⟨rfl, by assumption⟩
set_option maxHeartbeats 3200000 in
theorem leastF_any (p : Int → Bool) (lo hi T : Int) (cb yb : Nat) (w : World) (hT : Thr p lo hi T) (hl : 0 ≤ lo) (hh : hi ≤ 100000)
    (HC : Hid (∀ t w', 0 ≤ t → t ≤ 100000 → BX w w' → Calls Try.prog 53 #[.int .i64 t, .pointer (some ⟨cb, 0, none⟩), .pointer (some ⟨yb, 0, none⟩)] w' (SaysB w' (p t)))) :
    Calls Try.prog 47 #[.int .i64 lo, .int .i64 hi, .func (Fn.func 53) #[] #[.pointer (some ⟨cb, 0, none⟩), .pointer (some ⟨yb, 0, none⟩)]] w (SaysI w T) := by
  obtain ⟨hT0, hT1, hT2⟩ := hT
  have HT := Lib.hid hT2
  clear hT2
  go_enter Try.func47, Try.ntmps47
  go_wp2_with fail
  go_loopw [0, 1] (fun i j wr => LwRel w lo hi T i j wr) (fun i j _ => (intOf j - intOf i).toNat)
  case atStart => exact ⟨lo, hi, Int.le_refl _, hT0, hT1, Int.le_refl _, rfl, rfl, BX.refl _⟩
  case round =>
    obtain ⟨a, b, ha, haT, hTb, hb, rfl, rfl, hx⟩ := hrel
    have X0 := Lib.hid hx
    clear hx
    by_cases hlt : a < b
    · have hm := half a b hlt (by omega)
      have hp := HT.out (a + (b - a) / 2) (by omega) (by omega)
      have HK := Lib.hid (fun w' => HC.out (a + (b - a) / 2) w' (by omega) (by omega))
      rcases Int.lt_or_le (a + (b - a) / 2) T with q | q
      · rw [show decide (T ≤ a + (b - a) / 2) = false by simp; omega] at hp
        rw [hp] at HK
        clear hp
        go_wp2_with (go_at_call 53; refine (HK.out _ X0.out).mono ?_; rintro e w1 ⟨rfl, b1⟩; have X1 := Lib.hid (X0.out.call b1); clear b1)
        go_roundw
        case rel => exact ⟨a + (b - a) / 2 + 1, b, by omega, by omega, by omega, by omega, by go_num, rfl, X1.out⟩
        case measure => simp [intOf]; omega
      · rw [show decide (T ≤ a + (b - a) / 2) = true by simp; omega] at hp
        rw [hp] at HK
        clear hp
        go_wp2_with (go_at_call 53; refine (HK.out _ X0.out).mono ?_; rintro e w1 ⟨rfl, b1⟩; have X1 := Lib.hid (X0.out.call b1); clear b1)
        go_roundw
        case rel => exact ⟨a, a + (b - a) / 2, by omega, by omega, by omega, by omega, rfl, by go_num, X1.out⟩
        case measure => simp [intOf]; omega
    · have hab : a = T := by omega
      have hbb : b = T := by omega
      subst hab
      go_wp2_with fail
      go_ret
      exact ⟨rfl, X0.out⟩
theorem int_at0 (p q r : Int) (w : World) : (Instr.index 58 (.agg #[.int .i64 p, .int .i64 q, .int .i64 r]) (.int .i64 0)).run Try.prog w = .ok (.int .i64 p) w := by kernel_rfl
theorem int_at1 (p q r : Int) (w : World) : (Instr.index 58 (.agg #[.int .i64 p, .int .i64 q, .int .i64 r]) (.int .i64 1)).run Try.prog w = .ok (.int .i64 q) w := by kernel_rfl
theorem int_at2 (p q r : Int) (w : World) : (Instr.index 58 (.agg #[.int .i64 p, .int .i64 q, .int .i64 r]) (.int .i64 2)).run Try.prog w = .ok (.int .i64 r) w := by kernel_rfl
theorem fa_cases {a b : Cv} {r : Int} {k : Bool} (h : FaS a b r k) : (goodV a = false ∧ k = false ∧ r = 0) ∨ (goodV a = true ∧ goodV b = false ∧ k = false ∧ r = 0) ∨
    (goodV a = true ∧ goodV b = true ∧ endV a b = none ∧ k = false ∧ r = 0) ∨ (goodV a = true ∧ goodV b = true ∧ ∃ e, endV a b = some e ∧ k = true ∧ 0 < r ∧ Thr (abP a b) 0 e r) := by
  obtain ⟨h0, h1, h2⟩ := h
  cases ga : goodV a
  · rw [ga, Bool.false_and] at h0; exact .inl ⟨rfl, h0.symm, h2 h0.symm⟩
  cases gb : goodV b
  · rw [ga, gb, Bool.true_and, Bool.false_and] at h0; exact .inr (.inl ⟨rfl, rfl, h0.symm, h2 h0.symm⟩)
  cases he : endV a b with
  | none => rw [ga, gb, he] at h0; exact .inr (.inr (.inl ⟨rfl, rfl, rfl, h0.symm, h2 h0.symm⟩))
  | some e =>
    rw [ga, gb, he] at h0
    obtain ⟨e', q0, q1, q2⟩ := h1 h0.symm
    rw [he] at q0
    cases q0
    exact .inr (.inr (.inr ⟨rfl, rfl, e, rfl, h0.symm, q1, q2⟩))
theorem end_none {a b : Cv} (h : endV a b = none) : abP a b (p1 a b) = false ∧ abP a b (p2 a b) = false ∧ abP a b 100000 = false := by
  unfold endV at h
  split at h
  · cases h
  rename_i h1
  split at h
  · cases h
  rename_i h2
  split at h
  · cases h
  rename_i h3
  exact ⟨by simpa using h1, by simpa using h2, by simpa using h3⟩
theorem end_some {a b : Cv} {e : Int} (h : endV a b = some e) : (e = p1 a b ∧ abP a b (p1 a b) = true) ∨ (e = p2 a b ∧ abP a b (p1 a b) = false ∧ abP a b (p2 a b) = true) ∨ (e = 100000 ∧ abP a b (p1 a b) = false ∧ abP a b (p2 a b) = false ∧ abP a b 100000 = true) := by
  unfold endV at h
  split at h
  · rename_i h1; cases h; exact .inl ⟨rfl, h1⟩
  rename_i h1
  split at h
  · rename_i h2; cases h; exact .inr (.inl ⟨rfl, by simpa using h1, h2⟩)
  rename_i h2
  split at h
  · rename_i h3; cases h; exact .inr (.inr ⟨rfl, by simpa using h1, by simpa using h2, h3⟩)
  · cases h
set_option maxHeartbeats 12800000 in
theorem implFirstAbove_any (a b : Cv) (w : World) (r : Int) (k : Bool) (h : FaS a b r k) : Calls Try.prog 30 #[cvV a, cvV b] w (SaysT2 w (.int .i64 r) (.bool k)) := by
  have HA := Lib.hid (fun w => implIsCurve_any a w)
  have HB := Lib.hid (fun w => implIsCurve_any b w)
  rcases fa_cases h with ⟨ga, rfl, rfl⟩ | ⟨ga, gb, rfl, rfl⟩ | ⟨ga, gb, he, rfl, rfl⟩ | ⟨ga, gb, e, he, rfl, hr0, hT⟩
  · rw [ga] at HA
    clear ga h
    obtain ⟨xf, xl, xs⟩ := a
    obtain ⟨yf, yl, ys⟩ := b
    unfold cvV at HA ⊢
    simp only at HA ⊢
    have HBX : Hid (∀ w', BX ((w.alloc (Obj.cells #[.int .i64 xf, .int .i64 xl, .int .i64 xs] 25)).alloc (Obj.cells #[.int .i64 yf, .int .i64 yl, .int .i64 ys] 25)) w' → ThreeIs w' w.heap.size (.int .i64 xf) (.int .i64 xl) (.int .i64 xs)) := Lib.hid (fun w' h => ((three_is w (.int .i64 xf) (.int .i64 xl) (.int .i64 xs) 25).on (one_new2 _ _)).on h)
    have HBY : Hid (∀ w', BX ((w.alloc (Obj.cells #[.int .i64 xf, .int .i64 xl, .int .i64 xs] 25)).alloc (Obj.cells #[.int .i64 yf, .int .i64 yl, .int .i64 ys] 25)) w' → ThreeIs w' (w.heap.size + 1) (.int .i64 yf) (.int .i64 yl) (.int .i64 ys)) := Lib.hid (fun w' h => by have := ((three_is (w.alloc (Obj.cells #[.int .i64 xf, .int .i64 xl, .int .i64 xs] 25)) (.int .i64 yf) (.int .i64 yl) (.int .i64 ys) 25).on h); simpa using this)
    have HQ : Hid (∀ w', BX ((w.alloc (Obj.cells #[.int .i64 xf, .int .i64 xl, .int .i64 xs] 25)).alloc (Obj.cells #[.int .i64 yf, .int .i64 yl, .int .i64 ys] 25)) w' → w'.cell? ⟨w.heap.size, 0, none⟩ = some (.int .i64 xf) ∧ w'.cell? ⟨w.heap.size, 1, none⟩ = some (.int .i64 xl) ∧ w'.cell? ⟨w.heap.size, 2, none⟩ = some (.int .i64 xs) ∧ w'.cell? ⟨w.heap.size + 1, 0, none⟩ = some (.int .i64 yf) ∧ w'.cell? ⟨w.heap.size + 1, 1, none⟩ = some (.int .i64 yl) ∧ w'.cell? ⟨w.heap.size + 1, 2, none⟩ = some (.int .i64 ys)) := Lib.hid (fun w' h => ⟨(HBX.out w' h).1, (HBX.out w' h).2.1, (HBX.out w' h).2.2.1, (HBY.out w' h).1, (HBY.out w' h).2.1, (HBY.out w' h).2.2.1⟩)
    have HE : Hid (∀ w', BX ((w.alloc (Obj.cells #[.int .i64 xf, .int .i64 xl, .int .i64 xs] 25)).alloc (Obj.cells #[.int .i64 yf, .int .i64 yl, .int .i64 ys] 25)) w' → Below w.heap.size w w') := Lib.hid (fun w' h => (two_new w _ _).trans (Below.mono h (by simp; omega)))
    have X0 := Lib.hid (BX.refl ((w.alloc (Obj.cells #[.int .i64 xf, .int .i64 xl, .int .i64 xs] 25)).alloc (Obj.cells #[.int .i64 yf, .int .i64 yl, .int .i64 ys] 25)))
    go_enter Try.func30, Try.ntmps30
    go_wp2_with (go_at_call 15; refine (HA.out _).mono ?_; rintro e w1 ⟨rfl, b⟩; have X1 := Lib.hid (X0.out.call b); obtain ⟨c0, c1, c2, e0, e1, e2⟩ := HQ.out _ X1.out; clear b)
    go_ret2
    exact ⟨rfl, HE.out _ X1.out⟩
  · rw [ga] at HA
    rw [gb] at HB
    clear ga gb h
    obtain ⟨xf, xl, xs⟩ := a
    obtain ⟨yf, yl, ys⟩ := b
    unfold cvV at HA HB ⊢
    simp only at HA HB ⊢
    have HBX : Hid (∀ w', BX ((w.alloc (Obj.cells #[.int .i64 xf, .int .i64 xl, .int .i64 xs] 25)).alloc (Obj.cells #[.int .i64 yf, .int .i64 yl, .int .i64 ys] 25)) w' → ThreeIs w' w.heap.size (.int .i64 xf) (.int .i64 xl) (.int .i64 xs)) := Lib.hid (fun w' h => ((three_is w (.int .i64 xf) (.int .i64 xl) (.int .i64 xs) 25).on (one_new2 _ _)).on h)
    have HBY : Hid (∀ w', BX ((w.alloc (Obj.cells #[.int .i64 xf, .int .i64 xl, .int .i64 xs] 25)).alloc (Obj.cells #[.int .i64 yf, .int .i64 yl, .int .i64 ys] 25)) w' → ThreeIs w' (w.heap.size + 1) (.int .i64 yf) (.int .i64 yl) (.int .i64 ys)) := Lib.hid (fun w' h => by have := ((three_is (w.alloc (Obj.cells #[.int .i64 xf, .int .i64 xl, .int .i64 xs] 25)) (.int .i64 yf) (.int .i64 yl) (.int .i64 ys) 25).on h); simpa using this)
    have HQ : Hid (∀ w', BX ((w.alloc (Obj.cells #[.int .i64 xf, .int .i64 xl, .int .i64 xs] 25)).alloc (Obj.cells #[.int .i64 yf, .int .i64 yl, .int .i64 ys] 25)) w' → w'.cell? ⟨w.heap.size, 0, none⟩ = some (.int .i64 xf) ∧ w'.cell? ⟨w.heap.size, 1, none⟩ = some (.int .i64 xl) ∧ w'.cell? ⟨w.heap.size, 2, none⟩ = some (.int .i64 xs) ∧ w'.cell? ⟨w.heap.size + 1, 0, none⟩ = some (.int .i64 yf) ∧ w'.cell? ⟨w.heap.size + 1, 1, none⟩ = some (.int .i64 yl) ∧ w'.cell? ⟨w.heap.size + 1, 2, none⟩ = some (.int .i64 ys)) := Lib.hid (fun w' h => ⟨(HBX.out w' h).1, (HBX.out w' h).2.1, (HBX.out w' h).2.2.1, (HBY.out w' h).1, (HBY.out w' h).2.1, (HBY.out w' h).2.2.1⟩)
    have HE : Hid (∀ w', BX ((w.alloc (Obj.cells #[.int .i64 xf, .int .i64 xl, .int .i64 xs] 25)).alloc (Obj.cells #[.int .i64 yf, .int .i64 yl, .int .i64 ys] 25)) w' → Below w.heap.size w w') := Lib.hid (fun w' h => (two_new w _ _).trans (Below.mono h (by simp; omega)))
    have X0 := Lib.hid (BX.refl ((w.alloc (Obj.cells #[.int .i64 xf, .int .i64 xl, .int .i64 xs] 25)).alloc (Obj.cells #[.int .i64 yf, .int .i64 yl, .int .i64 ys] 25)))
    go_enter Try.func30, Try.ntmps30
    go_wp2_with (go_at_call 15; refine (HA.out _).mono ?_; rintro e w1 ⟨rfl, b⟩; have X1 := Lib.hid (X0.out.call b); obtain ⟨c0, c1, c2, e0, e1, e2⟩ := HQ.out _ X1.out; clear b; refine Hid.out ?_)
    refine Lib.hid ?_
    go_wp2_with (go_at_call 15; refine (HB.out _).mono ?_; rintro e w2 ⟨rfl, b⟩; have X2 := Lib.hid (X1.out.call b); clear c0 c1 c2 e0 e1 e2; obtain ⟨c0, c1, c2, e0, e1, e2⟩ := HQ.out _ X2.out; clear b)
    go_ret2
    exact ⟨rfl, HE.out _ X2.out⟩
  · rw [ga] at HA
    rw [gb] at HB
    have oka := cvok ga
    have okb := cvok gb
    have F := far ga gb
    have f0 := F.a0; have f1 := F.a1; have f2 := F.a2
    clear F h
    obtain ⟨n1, n2, n3⟩ := end_none he
    clear he
    rcases Int.lt_trichotomy a.l b.l with o | o | o
    · have e1 : p1 a b = a.l := by unfold p1; omega
      have e2 : p2 a b = b.l := by unfold p2; omega
      rw [e1] at f0 f1 n1
      rw [e2] at f1 f2 n2
      have HC := Lib.hid (fun t ab bb w h0 h1 h2 h3 => above_any a b t ab bb w (Lib.hid h2) (Lib.hid h3) (Lib.hid oka) (Lib.hid okb) h0 h1)
      have HC1 := Lib.hid (fun ab bb w h2 h3 => HC.out (a.l) ab bb w f0 (by omega) h2 h3)
      rw [n1] at HC1
      have HC2 := Lib.hid (fun ab bb w h2 h3 => HC.out (b.l) ab bb w (by omega) (by omega) h2 h3)
      rw [n2] at HC2
      have HC3 := Lib.hid (fun ab bb w h2 h3 => HC.out 100000 ab bb w (by omega) (by omega) h2 h3)
      rw [n3] at HC3
      have d1 := is_lt o
      have d2 := not_lt (Int.le_of_lt o)
      have d3 := is_le (Int.le_of_lt o)
      have d4 := not_le o
      clear ga gb oka okb f0 f1 f2 n1 n2 n3 e1 e2 HC
      obtain ⟨xf, xl, xs⟩ := a
      obtain ⟨yf, yl, ys⟩ := b
      unfold cvV at HA HB ⊢
      simp only at o d1 d2 d3 d4 HA HB HC1 HC2 HC3 ⊢
      have HBX : Hid (∀ w', BX ((w.alloc (Obj.cells #[.int .i64 xf, .int .i64 xl, .int .i64 xs] 25)).alloc (Obj.cells #[.int .i64 yf, .int .i64 yl, .int .i64 ys] 25)) w' → ThreeIs w' w.heap.size (.int .i64 xf) (.int .i64 xl) (.int .i64 xs)) := Lib.hid (fun w' h => ((three_is w (.int .i64 xf) (.int .i64 xl) (.int .i64 xs) 25).on (one_new2 _ _)).on h)
      have HBY : Hid (∀ w', BX ((w.alloc (Obj.cells #[.int .i64 xf, .int .i64 xl, .int .i64 xs] 25)).alloc (Obj.cells #[.int .i64 yf, .int .i64 yl, .int .i64 ys] 25)) w' → ThreeIs w' (w.heap.size + 1) (.int .i64 yf) (.int .i64 yl) (.int .i64 ys)) := Lib.hid (fun w' h => by have := ((three_is (w.alloc (Obj.cells #[.int .i64 xf, .int .i64 xl, .int .i64 xs] 25)) (.int .i64 yf) (.int .i64 yl) (.int .i64 ys) 25).on h); simpa using this)
      have HQ : Hid (∀ w', BX ((w.alloc (Obj.cells #[.int .i64 xf, .int .i64 xl, .int .i64 xs] 25)).alloc (Obj.cells #[.int .i64 yf, .int .i64 yl, .int .i64 ys] 25)) w' → w'.cell? ⟨w.heap.size, 0, none⟩ = some (.int .i64 xf) ∧ w'.cell? ⟨w.heap.size, 1, none⟩ = some (.int .i64 xl) ∧ w'.cell? ⟨w.heap.size, 2, none⟩ = some (.int .i64 xs) ∧ w'.cell? ⟨w.heap.size + 1, 0, none⟩ = some (.int .i64 yf) ∧ w'.cell? ⟨w.heap.size + 1, 1, none⟩ = some (.int .i64 yl) ∧ w'.cell? ⟨w.heap.size + 1, 2, none⟩ = some (.int .i64 ys)) := Lib.hid (fun w' h => ⟨(HBX.out w' h).1, (HBX.out w' h).2.1, (HBX.out w' h).2.2.1, (HBY.out w' h).1, (HBY.out w' h).2.1, (HBY.out w' h).2.2.1⟩)
      have HE : Hid (∀ w', BX ((w.alloc (Obj.cells #[.int .i64 xf, .int .i64 xl, .int .i64 xs] 25)).alloc (Obj.cells #[.int .i64 yf, .int .i64 yl, .int .i64 ys] 25)) w' → Below w.heap.size w w') := Lib.hid (fun w' h => (two_new w _ _).trans (Below.mono h (by simp; omega)))
      have X0 := Lib.hid (BX.refl ((w.alloc (Obj.cells #[.int .i64 xf, .int .i64 xl, .int .i64 xs] 25)).alloc (Obj.cells #[.int .i64 yf, .int .i64 yl, .int .i64 ys] 25)))
      have i0 := int_at0 xl yl 100000
      have i1 := int_at1 xl yl 100000
      have i2 := int_at2 xl yl 100000
      go_enter Try.func30, Try.ntmps30
      go_wp2_with (go_at_call 15; refine (HA.out _).mono ?_; rintro e w1 ⟨rfl, b⟩; have X1 := Lib.hid (X0.out.call b); obtain ⟨c0, c1, c2, e0, e1, e2⟩ := HQ.out _ X1.out; clear b; refine Hid.out ?_)
      refine Lib.hid ?_
      go_wp2_with (go_at_call 15; refine (HB.out _).mono ?_; rintro e w2 ⟨rfl, b⟩; have X2 := Lib.hid (X1.out.call b); clear c0 c1 c2 e0 e1 e2; obtain ⟨c0, c1, c2, e0, e1, e2⟩ := HQ.out _ X2.out; clear b)
      refine wp_loop_rounds 4 ?_
      rw [rounds_succ]
      go_wp2_with (go_at_call 53; refine (HC1.out _ _ _ (HBX.out _ X2.out) (HBY.out _ X2.out)).mono ?_; rintro e w3 ⟨rfl, b⟩; have X3 := Lib.hid (X2.out.call b); clear b; refine Hid.out ?_)
      refine Lib.hid ?_
      go_wp2_with fail
      rw [rounds_succ]
      go_wp2_with (go_at_call 53; refine (HC2.out _ _ _ (HBX.out _ X3.out) (HBY.out _ X3.out)).mono ?_; rintro e w4 ⟨rfl, b⟩; have X4 := Lib.hid (X3.out.call b); clear b; refine Hid.out ?_)
      refine Lib.hid ?_
      go_wp2_with fail
      rw [rounds_succ]
      go_wp2_with (go_at_call 53; refine (HC3.out _ _ _ (HBX.out _ X4.out) (HBY.out _ X4.out)).mono ?_; rintro e w5 ⟨rfl, b⟩; have X5 := Lib.hid (X4.out.call b); clear b; refine Hid.out ?_)
      refine Lib.hid ?_
      go_wp2_with fail
      rw [rounds_succ]
      go_wp2_with fail
      go_ret2
      exact ⟨rfl, HE.out _ X5.out⟩
    · have e1 : p1 a b = a.l := by unfold p1; omega
      have e2 : p2 a b = a.l := by unfold p2; omega
      rw [e1] at f0 f1 n1
      rw [e2] at f1 f2 n2
      have HC := Lib.hid (fun t ab bb w h0 h1 h2 h3 => above_any a b t ab bb w (Lib.hid h2) (Lib.hid h3) (Lib.hid oka) (Lib.hid okb) h0 h1)
      have HC1 := Lib.hid (fun ab bb w h2 h3 => HC.out (a.l) ab bb w f0 (by omega) h2 h3)
      rw [n1] at HC1
      have HC2 := Lib.hid (fun ab bb w h2 h3 => HC.out (a.l) ab bb w (by omega) (by omega) h2 h3)
      rw [n2] at HC2
      have HC3 := Lib.hid (fun ab bb w h2 h3 => HC.out 100000 ab bb w (by omega) (by omega) h2 h3)
      rw [n3] at HC3
      have d1 := not_lt (Int.le_refl a.l)
      have d3 := is_le (Int.le_refl a.l)
      clear ga gb oka okb f0 f1 f2 n1 n2 n3 e1 e2 HC
      obtain ⟨xf, xl, xs⟩ := a
      obtain ⟨yf, yl, ys⟩ := b
      unfold cvV at HA HB ⊢
      simp only at o d1 d3 HA HB HC1 HC2 HC3 ⊢
      subst o
      have HBX : Hid (∀ w', BX ((w.alloc (Obj.cells #[.int .i64 xf, .int .i64 xl, .int .i64 xs] 25)).alloc (Obj.cells #[.int .i64 yf, .int .i64 xl, .int .i64 ys] 25)) w' → ThreeIs w' w.heap.size (.int .i64 xf) (.int .i64 xl) (.int .i64 xs)) := Lib.hid (fun w' h => ((three_is w (.int .i64 xf) (.int .i64 xl) (.int .i64 xs) 25).on (one_new2 _ _)).on h)
      have HBY : Hid (∀ w', BX ((w.alloc (Obj.cells #[.int .i64 xf, .int .i64 xl, .int .i64 xs] 25)).alloc (Obj.cells #[.int .i64 yf, .int .i64 xl, .int .i64 ys] 25)) w' → ThreeIs w' (w.heap.size + 1) (.int .i64 yf) (.int .i64 xl) (.int .i64 ys)) := Lib.hid (fun w' h => by have := ((three_is (w.alloc (Obj.cells #[.int .i64 xf, .int .i64 xl, .int .i64 xs] 25)) (.int .i64 yf) (.int .i64 xl) (.int .i64 ys) 25).on h); simpa using this)
      have HQ : Hid (∀ w', BX ((w.alloc (Obj.cells #[.int .i64 xf, .int .i64 xl, .int .i64 xs] 25)).alloc (Obj.cells #[.int .i64 yf, .int .i64 xl, .int .i64 ys] 25)) w' → w'.cell? ⟨w.heap.size, 0, none⟩ = some (.int .i64 xf) ∧ w'.cell? ⟨w.heap.size, 1, none⟩ = some (.int .i64 xl) ∧ w'.cell? ⟨w.heap.size, 2, none⟩ = some (.int .i64 xs) ∧ w'.cell? ⟨w.heap.size + 1, 0, none⟩ = some (.int .i64 yf) ∧ w'.cell? ⟨w.heap.size + 1, 1, none⟩ = some (.int .i64 xl) ∧ w'.cell? ⟨w.heap.size + 1, 2, none⟩ = some (.int .i64 ys)) := Lib.hid (fun w' h => ⟨(HBX.out w' h).1, (HBX.out w' h).2.1, (HBX.out w' h).2.2.1, (HBY.out w' h).1, (HBY.out w' h).2.1, (HBY.out w' h).2.2.1⟩)
      have HE : Hid (∀ w', BX ((w.alloc (Obj.cells #[.int .i64 xf, .int .i64 xl, .int .i64 xs] 25)).alloc (Obj.cells #[.int .i64 yf, .int .i64 xl, .int .i64 ys] 25)) w' → Below w.heap.size w w') := Lib.hid (fun w' h => (two_new w _ _).trans (Below.mono h (by simp; omega)))
      have X0 := Lib.hid (BX.refl ((w.alloc (Obj.cells #[.int .i64 xf, .int .i64 xl, .int .i64 xs] 25)).alloc (Obj.cells #[.int .i64 yf, .int .i64 xl, .int .i64 ys] 25)))
      have i0 := int_at0 xl xl 100000
      have i1 := int_at1 xl xl 100000
      have i2 := int_at2 xl xl 100000
      go_enter Try.func30, Try.ntmps30
      go_wp2_with (go_at_call 15; refine (HA.out _).mono ?_; rintro e w1 ⟨rfl, b⟩; have X1 := Lib.hid (X0.out.call b); obtain ⟨c0, c1, c2, e0, e1, e2⟩ := HQ.out _ X1.out; clear b; refine Hid.out ?_)
      refine Lib.hid ?_
      go_wp2_with (go_at_call 15; refine (HB.out _).mono ?_; rintro e w2 ⟨rfl, b⟩; have X2 := Lib.hid (X1.out.call b); clear c0 c1 c2 e0 e1 e2; obtain ⟨c0, c1, c2, e0, e1, e2⟩ := HQ.out _ X2.out; clear b)
      refine wp_loop_rounds 4 ?_
      rw [rounds_succ]
      go_wp2_with (go_at_call 53; refine (HC1.out _ _ _ (HBX.out _ X2.out) (HBY.out _ X2.out)).mono ?_; rintro e w3 ⟨rfl, b⟩; have X3 := Lib.hid (X2.out.call b); clear b; refine Hid.out ?_)
      refine Lib.hid ?_
      go_wp2_with fail
      rw [rounds_succ]
      go_wp2_with (go_at_call 53; refine (HC2.out _ _ _ (HBX.out _ X3.out) (HBY.out _ X3.out)).mono ?_; rintro e w4 ⟨rfl, b⟩; have X4 := Lib.hid (X3.out.call b); clear b; refine Hid.out ?_)
      refine Lib.hid ?_
      go_wp2_with fail
      rw [rounds_succ]
      go_wp2_with (go_at_call 53; refine (HC3.out _ _ _ (HBX.out _ X4.out) (HBY.out _ X4.out)).mono ?_; rintro e w5 ⟨rfl, b⟩; have X5 := Lib.hid (X4.out.call b); clear b; refine Hid.out ?_)
      refine Lib.hid ?_
      go_wp2_with fail
      rw [rounds_succ]
      go_wp2_with fail
      go_ret2
      exact ⟨rfl, HE.out _ X5.out⟩
    · have e1 : p1 a b = b.l := by unfold p1; omega
      have e2 : p2 a b = a.l := by unfold p2; omega
      rw [e1] at f0 f1 n1
      rw [e2] at f1 f2 n2
      have HC := Lib.hid (fun t ab bb w h0 h1 h2 h3 => above_any a b t ab bb w (Lib.hid h2) (Lib.hid h3) (Lib.hid oka) (Lib.hid okb) h0 h1)
      have HC1 := Lib.hid (fun ab bb w h2 h3 => HC.out (b.l) ab bb w f0 (by omega) h2 h3)
      rw [n1] at HC1
      have HC2 := Lib.hid (fun ab bb w h2 h3 => HC.out (a.l) ab bb w (by omega) (by omega) h2 h3)
      rw [n2] at HC2
      have HC3 := Lib.hid (fun ab bb w h2 h3 => HC.out 100000 ab bb w (by omega) (by omega) h2 h3)
      rw [n3] at HC3
      have d1 := not_lt (Int.le_of_lt o)
      have d2 := is_lt o
      have d3 := not_le o
      have d4 := is_le (Int.le_of_lt o)
      clear ga gb oka okb f0 f1 f2 n1 n2 n3 e1 e2 HC
      obtain ⟨xf, xl, xs⟩ := a
      obtain ⟨yf, yl, ys⟩ := b
      unfold cvV at HA HB ⊢
      simp only at o d1 d2 d3 d4 HA HB HC1 HC2 HC3 ⊢
      have HBX : Hid (∀ w', BX ((w.alloc (Obj.cells #[.int .i64 xf, .int .i64 xl, .int .i64 xs] 25)).alloc (Obj.cells #[.int .i64 yf, .int .i64 yl, .int .i64 ys] 25)) w' → ThreeIs w' w.heap.size (.int .i64 xf) (.int .i64 xl) (.int .i64 xs)) := Lib.hid (fun w' h => ((three_is w (.int .i64 xf) (.int .i64 xl) (.int .i64 xs) 25).on (one_new2 _ _)).on h)
      have HBY : Hid (∀ w', BX ((w.alloc (Obj.cells #[.int .i64 xf, .int .i64 xl, .int .i64 xs] 25)).alloc (Obj.cells #[.int .i64 yf, .int .i64 yl, .int .i64 ys] 25)) w' → ThreeIs w' (w.heap.size + 1) (.int .i64 yf) (.int .i64 yl) (.int .i64 ys)) := Lib.hid (fun w' h => by have := ((three_is (w.alloc (Obj.cells #[.int .i64 xf, .int .i64 xl, .int .i64 xs] 25)) (.int .i64 yf) (.int .i64 yl) (.int .i64 ys) 25).on h); simpa using this)
      have HQ : Hid (∀ w', BX ((w.alloc (Obj.cells #[.int .i64 xf, .int .i64 xl, .int .i64 xs] 25)).alloc (Obj.cells #[.int .i64 yf, .int .i64 yl, .int .i64 ys] 25)) w' → w'.cell? ⟨w.heap.size, 0, none⟩ = some (.int .i64 xf) ∧ w'.cell? ⟨w.heap.size, 1, none⟩ = some (.int .i64 xl) ∧ w'.cell? ⟨w.heap.size, 2, none⟩ = some (.int .i64 xs) ∧ w'.cell? ⟨w.heap.size + 1, 0, none⟩ = some (.int .i64 yf) ∧ w'.cell? ⟨w.heap.size + 1, 1, none⟩ = some (.int .i64 yl) ∧ w'.cell? ⟨w.heap.size + 1, 2, none⟩ = some (.int .i64 ys)) := Lib.hid (fun w' h => ⟨(HBX.out w' h).1, (HBX.out w' h).2.1, (HBX.out w' h).2.2.1, (HBY.out w' h).1, (HBY.out w' h).2.1, (HBY.out w' h).2.2.1⟩)
      have HE : Hid (∀ w', BX ((w.alloc (Obj.cells #[.int .i64 xf, .int .i64 xl, .int .i64 xs] 25)).alloc (Obj.cells #[.int .i64 yf, .int .i64 yl, .int .i64 ys] 25)) w' → Below w.heap.size w w') := Lib.hid (fun w' h => (two_new w _ _).trans (Below.mono h (by simp; omega)))
      have X0 := Lib.hid (BX.refl ((w.alloc (Obj.cells #[.int .i64 xf, .int .i64 xl, .int .i64 xs] 25)).alloc (Obj.cells #[.int .i64 yf, .int .i64 yl, .int .i64 ys] 25)))
      have i0 := int_at0 yl xl 100000
      have i1 := int_at1 yl xl 100000
      have i2 := int_at2 yl xl 100000
      go_enter Try.func30, Try.ntmps30
      go_wp2_with (go_at_call 15; refine (HA.out _).mono ?_; rintro e w1 ⟨rfl, b⟩; have X1 := Lib.hid (X0.out.call b); obtain ⟨c0, c1, c2, e0, e1, e2⟩ := HQ.out _ X1.out; clear b; refine Hid.out ?_)
      refine Lib.hid ?_
      go_wp2_with (go_at_call 15; refine (HB.out _).mono ?_; rintro e w2 ⟨rfl, b⟩; have X2 := Lib.hid (X1.out.call b); clear c0 c1 c2 e0 e1 e2; obtain ⟨c0, c1, c2, e0, e1, e2⟩ := HQ.out _ X2.out; clear b)
      refine wp_loop_rounds 4 ?_
      rw [rounds_succ]
      go_wp2_with (go_at_call 53; refine (HC1.out _ _ _ (HBX.out _ X2.out) (HBY.out _ X2.out)).mono ?_; rintro e w3 ⟨rfl, b⟩; have X3 := Lib.hid (X2.out.call b); clear b; refine Hid.out ?_)
      refine Lib.hid ?_
      go_wp2_with fail
      rw [rounds_succ]
      go_wp2_with (go_at_call 53; refine (HC2.out _ _ _ (HBX.out _ X3.out) (HBY.out _ X3.out)).mono ?_; rintro e w4 ⟨rfl, b⟩; have X4 := Lib.hid (X3.out.call b); clear b; refine Hid.out ?_)
      refine Lib.hid ?_
      go_wp2_with fail
      rw [rounds_succ]
      go_wp2_with (go_at_call 53; refine (HC3.out _ _ _ (HBX.out _ X4.out) (HBY.out _ X4.out)).mono ?_; rintro e w5 ⟨rfl, b⟩; have X5 := Lib.hid (X4.out.call b); clear b; refine Hid.out ?_)
      refine Lib.hid ?_
      go_wp2_with fail
      rw [rounds_succ]
      go_wp2_with fail
      go_ret2
      exact ⟨rfl, HE.out _ X5.out⟩
  · rw [ga] at HA
    rw [gb] at HB
    have oka := cvok ga
    have okb := cvok gb
    have F := far ga gb
    have f0 := F.a0; have f1 := F.a1; have f2 := F.a2
    clear F h
    rcases end_some he with ⟨rfl, n1⟩ | ⟨rfl, n1, n2⟩ | ⟨rfl, n1, n2, n3⟩ <;> clear he
    · rcases Int.lt_trichotomy a.l b.l with o | o | o
      · have e1 : p1 a b = a.l := by unfold p1; omega
        have e2 : p2 a b = b.l := by unfold p2; omega
        rw [e1] at f0 f1 n1
        rw [e2] at f1 f2
        have HC := Lib.hid (fun t ab bb w h0 h1 h2 h3 => above_any a b t ab bb w (Lib.hid h2) (Lib.hid h3) (Lib.hid oka) (Lib.hid okb) h0 h1)
        have HC1 := Lib.hid (fun ab bb w h2 h3 => HC.out (a.l) ab bb w f0 (by omega) h2 h3)
        rw [n1] at HC1
        rw [e1] at hT
        have HW := Lib.hid (fun ab bb w (HF : ∀ w', BX w w' → ThreeIs w' ab (.int .i64 a.f) (.int .i64 a.l) (.int .i64 a.s)) (HG : ∀ w', BX w w' → ThreeIs w' bb (.int .i64 b.f) (.int .i64 b.l) (.int .i64 b.s)) => leastF_any (abP a b) 0 (a.l) r ab bb w hT (by omega) (by omega) (Lib.hid (fun t w' h0 h1 hx => above_any a b t ab bb w' (Lib.hid (HF w' hx)) (Lib.hid (HG w' hx)) (Lib.hid oka) (Lib.hid okb) h0 h1)))
        have d1 := is_lt o
        have d2 := not_lt (Int.le_of_lt o)
        have d3 := is_le (Int.le_of_lt o)
        have d4 := not_le o
        clear ga gb oka okb f0 f1 f2 n1  e1 e2 HC hT
        obtain ⟨xf, xl, xs⟩ := a
        obtain ⟨yf, yl, ys⟩ := b
        unfold cvV at HA HB ⊢
        simp only at o d1 d2 d3 d4 HA HB HC1 HW ⊢
        have HBX : Hid (∀ w', BX ((w.alloc (Obj.cells #[.int .i64 xf, .int .i64 xl, .int .i64 xs] 25)).alloc (Obj.cells #[.int .i64 yf, .int .i64 yl, .int .i64 ys] 25)) w' → ThreeIs w' w.heap.size (.int .i64 xf) (.int .i64 xl) (.int .i64 xs)) := Lib.hid (fun w' h => ((three_is w (.int .i64 xf) (.int .i64 xl) (.int .i64 xs) 25).on (one_new2 _ _)).on h)
        have HBY : Hid (∀ w', BX ((w.alloc (Obj.cells #[.int .i64 xf, .int .i64 xl, .int .i64 xs] 25)).alloc (Obj.cells #[.int .i64 yf, .int .i64 yl, .int .i64 ys] 25)) w' → ThreeIs w' (w.heap.size + 1) (.int .i64 yf) (.int .i64 yl) (.int .i64 ys)) := Lib.hid (fun w' h => by have := ((three_is (w.alloc (Obj.cells #[.int .i64 xf, .int .i64 xl, .int .i64 xs] 25)) (.int .i64 yf) (.int .i64 yl) (.int .i64 ys) 25).on h); simpa using this)
        have HQ : Hid (∀ w', BX ((w.alloc (Obj.cells #[.int .i64 xf, .int .i64 xl, .int .i64 xs] 25)).alloc (Obj.cells #[.int .i64 yf, .int .i64 yl, .int .i64 ys] 25)) w' → w'.cell? ⟨w.heap.size, 0, none⟩ = some (.int .i64 xf) ∧ w'.cell? ⟨w.heap.size, 1, none⟩ = some (.int .i64 xl) ∧ w'.cell? ⟨w.heap.size, 2, none⟩ = some (.int .i64 xs) ∧ w'.cell? ⟨w.heap.size + 1, 0, none⟩ = some (.int .i64 yf) ∧ w'.cell? ⟨w.heap.size + 1, 1, none⟩ = some (.int .i64 yl) ∧ w'.cell? ⟨w.heap.size + 1, 2, none⟩ = some (.int .i64 ys)) := Lib.hid (fun w' h => ⟨(HBX.out w' h).1, (HBX.out w' h).2.1, (HBX.out w' h).2.2.1, (HBY.out w' h).1, (HBY.out w' h).2.1, (HBY.out w' h).2.2.1⟩)
        have HE : Hid (∀ w', BX ((w.alloc (Obj.cells #[.int .i64 xf, .int .i64 xl, .int .i64 xs] 25)).alloc (Obj.cells #[.int .i64 yf, .int .i64 yl, .int .i64 ys] 25)) w' → Below w.heap.size w w') := Lib.hid (fun w' h => (two_new w _ _).trans (Below.mono h (by simp; omega)))
        have X0 := Lib.hid (BX.refl ((w.alloc (Obj.cells #[.int .i64 xf, .int .i64 xl, .int .i64 xs] 25)).alloc (Obj.cells #[.int .i64 yf, .int .i64 yl, .int .i64 ys] 25)))
        have i0 := int_at0 xl yl 100000
        have i1 := int_at1 xl yl 100000
        have i2 := int_at2 xl yl 100000
        go_enter Try.func30, Try.ntmps30
        go_wp2_with (go_at_call 15; refine (HA.out _).mono ?_; rintro e w1 ⟨rfl, b⟩; have X1 := Lib.hid (X0.out.call b); obtain ⟨c0, c1, c2, e0, e1, e2⟩ := HQ.out _ X1.out; clear b; refine Hid.out ?_)
        refine Lib.hid ?_
        go_wp2_with (go_at_call 15; refine (HB.out _).mono ?_; rintro e w2 ⟨rfl, b⟩; have X2 := Lib.hid (X1.out.call b); clear c0 c1 c2 e0 e1 e2; obtain ⟨c0, c1, c2, e0, e1, e2⟩ := HQ.out _ X2.out; clear b)
        refine wp_loop_rounds 4 ?_
        rw [rounds_succ]
        go_wp2_with (go_at_call 53; refine (HC1.out _ _ _ (HBX.out _ X2.out) (HBY.out _ X2.out)).mono ?_; rintro e w3 ⟨rfl, b⟩; have X3 := Lib.hid (X2.out.call b); clear b; refine Hid.out ?_)
        refine Lib.hid ?_
        go_wp2_with (go_at_call 47; refine (HW.out _ _ _ (fun w' h => HBX.out _ (BX.trans' X3.out h)) (fun w' h => HBY.out _ (BX.trans' X3.out h))).mono ?_; rintro e w9 ⟨rfl, b⟩; have X9 := Lib.hid (X3.out.call b); clear b)
        go_ret2
        exact ⟨rfl, HE.out _ X9.out⟩
      · have e1 : p1 a b = a.l := by unfold p1; omega
        have e2 : p2 a b = a.l := by unfold p2; omega
        rw [e1] at f0 f1 n1
        rw [e2] at f1 f2
        have HC := Lib.hid (fun t ab bb w h0 h1 h2 h3 => above_any a b t ab bb w (Lib.hid h2) (Lib.hid h3) (Lib.hid oka) (Lib.hid okb) h0 h1)
        have HC1 := Lib.hid (fun ab bb w h2 h3 => HC.out (a.l) ab bb w f0 (by omega) h2 h3)
        rw [n1] at HC1
        rw [e1] at hT
        have HW := Lib.hid (fun ab bb w (HF : ∀ w', BX w w' → ThreeIs w' ab (.int .i64 a.f) (.int .i64 a.l) (.int .i64 a.s)) (HG : ∀ w', BX w w' → ThreeIs w' bb (.int .i64 b.f) (.int .i64 b.l) (.int .i64 b.s)) => leastF_any (abP a b) 0 (a.l) r ab bb w hT (by omega) (by omega) (Lib.hid (fun t w' h0 h1 hx => above_any a b t ab bb w' (Lib.hid (HF w' hx)) (Lib.hid (HG w' hx)) (Lib.hid oka) (Lib.hid okb) h0 h1)))
        have d1 := not_lt (Int.le_refl a.l)
        have d3 := is_le (Int.le_refl a.l)
        clear ga gb oka okb f0 f1 f2 n1  e1 e2 HC hT
        obtain ⟨xf, xl, xs⟩ := a
        obtain ⟨yf, yl, ys⟩ := b
        unfold cvV at HA HB ⊢
        simp only at o d1 d3 HA HB HC1 HW ⊢
        subst o
        have HBX : Hid (∀ w', BX ((w.alloc (Obj.cells #[.int .i64 xf, .int .i64 xl, .int .i64 xs] 25)).alloc (Obj.cells #[.int .i64 yf, .int .i64 xl, .int .i64 ys] 25)) w' → ThreeIs w' w.heap.size (.int .i64 xf) (.int .i64 xl) (.int .i64 xs)) := Lib.hid (fun w' h => ((three_is w (.int .i64 xf) (.int .i64 xl) (.int .i64 xs) 25).on (one_new2 _ _)).on h)
        have HBY : Hid (∀ w', BX ((w.alloc (Obj.cells #[.int .i64 xf, .int .i64 xl, .int .i64 xs] 25)).alloc (Obj.cells #[.int .i64 yf, .int .i64 xl, .int .i64 ys] 25)) w' → ThreeIs w' (w.heap.size + 1) (.int .i64 yf) (.int .i64 xl) (.int .i64 ys)) := Lib.hid (fun w' h => by have := ((three_is (w.alloc (Obj.cells #[.int .i64 xf, .int .i64 xl, .int .i64 xs] 25)) (.int .i64 yf) (.int .i64 xl) (.int .i64 ys) 25).on h); simpa using this)
        have HQ : Hid (∀ w', BX ((w.alloc (Obj.cells #[.int .i64 xf, .int .i64 xl, .int .i64 xs] 25)).alloc (Obj.cells #[.int .i64 yf, .int .i64 xl, .int .i64 ys] 25)) w' → w'.cell? ⟨w.heap.size, 0, none⟩ = some (.int .i64 xf) ∧ w'.cell? ⟨w.heap.size, 1, none⟩ = some (.int .i64 xl) ∧ w'.cell? ⟨w.heap.size, 2, none⟩ = some (.int .i64 xs) ∧ w'.cell? ⟨w.heap.size + 1, 0, none⟩ = some (.int .i64 yf) ∧ w'.cell? ⟨w.heap.size + 1, 1, none⟩ = some (.int .i64 xl) ∧ w'.cell? ⟨w.heap.size + 1, 2, none⟩ = some (.int .i64 ys)) := Lib.hid (fun w' h => ⟨(HBX.out w' h).1, (HBX.out w' h).2.1, (HBX.out w' h).2.2.1, (HBY.out w' h).1, (HBY.out w' h).2.1, (HBY.out w' h).2.2.1⟩)
        have HE : Hid (∀ w', BX ((w.alloc (Obj.cells #[.int .i64 xf, .int .i64 xl, .int .i64 xs] 25)).alloc (Obj.cells #[.int .i64 yf, .int .i64 xl, .int .i64 ys] 25)) w' → Below w.heap.size w w') := Lib.hid (fun w' h => (two_new w _ _).trans (Below.mono h (by simp; omega)))
        have X0 := Lib.hid (BX.refl ((w.alloc (Obj.cells #[.int .i64 xf, .int .i64 xl, .int .i64 xs] 25)).alloc (Obj.cells #[.int .i64 yf, .int .i64 xl, .int .i64 ys] 25)))
        have i0 := int_at0 xl xl 100000
        have i1 := int_at1 xl xl 100000
        have i2 := int_at2 xl xl 100000
        go_enter Try.func30, Try.ntmps30
        go_wp2_with (go_at_call 15; refine (HA.out _).mono ?_; rintro e w1 ⟨rfl, b⟩; have X1 := Lib.hid (X0.out.call b); obtain ⟨c0, c1, c2, e0, e1, e2⟩ := HQ.out _ X1.out; clear b; refine Hid.out ?_)
        refine Lib.hid ?_
        go_wp2_with (go_at_call 15; refine (HB.out _).mono ?_; rintro e w2 ⟨rfl, b⟩; have X2 := Lib.hid (X1.out.call b); clear c0 c1 c2 e0 e1 e2; obtain ⟨c0, c1, c2, e0, e1, e2⟩ := HQ.out _ X2.out; clear b)
        refine wp_loop_rounds 4 ?_
        rw [rounds_succ]
        go_wp2_with (go_at_call 53; refine (HC1.out _ _ _ (HBX.out _ X2.out) (HBY.out _ X2.out)).mono ?_; rintro e w3 ⟨rfl, b⟩; have X3 := Lib.hid (X2.out.call b); clear b; refine Hid.out ?_)
        refine Lib.hid ?_
        go_wp2_with (go_at_call 47; refine (HW.out _ _ _ (fun w' h => HBX.out _ (BX.trans' X3.out h)) (fun w' h => HBY.out _ (BX.trans' X3.out h))).mono ?_; rintro e w9 ⟨rfl, b⟩; have X9 := Lib.hid (X3.out.call b); clear b)
        go_ret2
        exact ⟨rfl, HE.out _ X9.out⟩
      · have e1 : p1 a b = b.l := by unfold p1; omega
        have e2 : p2 a b = a.l := by unfold p2; omega
        rw [e1] at f0 f1 n1
        rw [e2] at f1 f2
        have HC := Lib.hid (fun t ab bb w h0 h1 h2 h3 => above_any a b t ab bb w (Lib.hid h2) (Lib.hid h3) (Lib.hid oka) (Lib.hid okb) h0 h1)
        have HC1 := Lib.hid (fun ab bb w h2 h3 => HC.out (b.l) ab bb w f0 (by omega) h2 h3)
        rw [n1] at HC1
        rw [e1] at hT
        have HW := Lib.hid (fun ab bb w (HF : ∀ w', BX w w' → ThreeIs w' ab (.int .i64 a.f) (.int .i64 a.l) (.int .i64 a.s)) (HG : ∀ w', BX w w' → ThreeIs w' bb (.int .i64 b.f) (.int .i64 b.l) (.int .i64 b.s)) => leastF_any (abP a b) 0 (b.l) r ab bb w hT (by omega) (by omega) (Lib.hid (fun t w' h0 h1 hx => above_any a b t ab bb w' (Lib.hid (HF w' hx)) (Lib.hid (HG w' hx)) (Lib.hid oka) (Lib.hid okb) h0 h1)))
        have d1 := not_lt (Int.le_of_lt o)
        have d2 := is_lt o
        have d3 := not_le o
        have d4 := is_le (Int.le_of_lt o)
        clear ga gb oka okb f0 f1 f2 n1  e1 e2 HC hT
        obtain ⟨xf, xl, xs⟩ := a
        obtain ⟨yf, yl, ys⟩ := b
        unfold cvV at HA HB ⊢
        simp only at o d1 d2 d3 d4 HA HB HC1 HW ⊢
        have HBX : Hid (∀ w', BX ((w.alloc (Obj.cells #[.int .i64 xf, .int .i64 xl, .int .i64 xs] 25)).alloc (Obj.cells #[.int .i64 yf, .int .i64 yl, .int .i64 ys] 25)) w' → ThreeIs w' w.heap.size (.int .i64 xf) (.int .i64 xl) (.int .i64 xs)) := Lib.hid (fun w' h => ((three_is w (.int .i64 xf) (.int .i64 xl) (.int .i64 xs) 25).on (one_new2 _ _)).on h)
        have HBY : Hid (∀ w', BX ((w.alloc (Obj.cells #[.int .i64 xf, .int .i64 xl, .int .i64 xs] 25)).alloc (Obj.cells #[.int .i64 yf, .int .i64 yl, .int .i64 ys] 25)) w' → ThreeIs w' (w.heap.size + 1) (.int .i64 yf) (.int .i64 yl) (.int .i64 ys)) := Lib.hid (fun w' h => by have := ((three_is (w.alloc (Obj.cells #[.int .i64 xf, .int .i64 xl, .int .i64 xs] 25)) (.int .i64 yf) (.int .i64 yl) (.int .i64 ys) 25).on h); simpa using this)
        have HQ : Hid (∀ w', BX ((w.alloc (Obj.cells #[.int .i64 xf, .int .i64 xl, .int .i64 xs] 25)).alloc (Obj.cells #[.int .i64 yf, .int .i64 yl, .int .i64 ys] 25)) w' → w'.cell? ⟨w.heap.size, 0, none⟩ = some (.int .i64 xf) ∧ w'.cell? ⟨w.heap.size, 1, none⟩ = some (.int .i64 xl) ∧ w'.cell? ⟨w.heap.size, 2, none⟩ = some (.int .i64 xs) ∧ w'.cell? ⟨w.heap.size + 1, 0, none⟩ = some (.int .i64 yf) ∧ w'.cell? ⟨w.heap.size + 1, 1, none⟩ = some (.int .i64 yl) ∧ w'.cell? ⟨w.heap.size + 1, 2, none⟩ = some (.int .i64 ys)) := Lib.hid (fun w' h => ⟨(HBX.out w' h).1, (HBX.out w' h).2.1, (HBX.out w' h).2.2.1, (HBY.out w' h).1, (HBY.out w' h).2.1, (HBY.out w' h).2.2.1⟩)
        have HE : Hid (∀ w', BX ((w.alloc (Obj.cells #[.int .i64 xf, .int .i64 xl, .int .i64 xs] 25)).alloc (Obj.cells #[.int .i64 yf, .int .i64 yl, .int .i64 ys] 25)) w' → Below w.heap.size w w') := Lib.hid (fun w' h => (two_new w _ _).trans (Below.mono h (by simp; omega)))
        have X0 := Lib.hid (BX.refl ((w.alloc (Obj.cells #[.int .i64 xf, .int .i64 xl, .int .i64 xs] 25)).alloc (Obj.cells #[.int .i64 yf, .int .i64 yl, .int .i64 ys] 25)))
        have i0 := int_at0 yl xl 100000
        have i1 := int_at1 yl xl 100000
        have i2 := int_at2 yl xl 100000
        go_enter Try.func30, Try.ntmps30
        go_wp2_with (go_at_call 15; refine (HA.out _).mono ?_; rintro e w1 ⟨rfl, b⟩; have X1 := Lib.hid (X0.out.call b); obtain ⟨c0, c1, c2, e0, e1, e2⟩ := HQ.out _ X1.out; clear b; refine Hid.out ?_)
        refine Lib.hid ?_
        go_wp2_with (go_at_call 15; refine (HB.out _).mono ?_; rintro e w2 ⟨rfl, b⟩; have X2 := Lib.hid (X1.out.call b); clear c0 c1 c2 e0 e1 e2; obtain ⟨c0, c1, c2, e0, e1, e2⟩ := HQ.out _ X2.out; clear b)
        refine wp_loop_rounds 4 ?_
        rw [rounds_succ]
        go_wp2_with (go_at_call 53; refine (HC1.out _ _ _ (HBX.out _ X2.out) (HBY.out _ X2.out)).mono ?_; rintro e w3 ⟨rfl, b⟩; have X3 := Lib.hid (X2.out.call b); clear b; refine Hid.out ?_)
        refine Lib.hid ?_
        go_wp2_with (go_at_call 47; refine (HW.out _ _ _ (fun w' h => HBX.out _ (BX.trans' X3.out h)) (fun w' h => HBY.out _ (BX.trans' X3.out h))).mono ?_; rintro e w9 ⟨rfl, b⟩; have X9 := Lib.hid (X3.out.call b); clear b)
        go_ret2
        exact ⟨rfl, HE.out _ X9.out⟩
    · rcases Int.lt_trichotomy a.l b.l with o | o | o
      · have e1 : p1 a b = a.l := by unfold p1; omega
        have e2 : p2 a b = b.l := by unfold p2; omega
        rw [e1] at f0 f1 n1
        rw [e2] at f1 f2 n2
        have HC := Lib.hid (fun t ab bb w h0 h1 h2 h3 => above_any a b t ab bb w (Lib.hid h2) (Lib.hid h3) (Lib.hid oka) (Lib.hid okb) h0 h1)
        have HC1 := Lib.hid (fun ab bb w h2 h3 => HC.out (a.l) ab bb w f0 (by omega) h2 h3)
        rw [n1] at HC1
        have HC2 := Lib.hid (fun ab bb w h2 h3 => HC.out (b.l) ab bb w (by omega) (by omega) h2 h3)
        rw [n2] at HC2
        rw [e2] at hT
        have HW := Lib.hid (fun ab bb w (HF : ∀ w', BX w w' → ThreeIs w' ab (.int .i64 a.f) (.int .i64 a.l) (.int .i64 a.s)) (HG : ∀ w', BX w w' → ThreeIs w' bb (.int .i64 b.f) (.int .i64 b.l) (.int .i64 b.s)) => leastF_any (abP a b) 0 (b.l) r ab bb w hT (by omega) (by omega) (Lib.hid (fun t w' h0 h1 hx => above_any a b t ab bb w' (Lib.hid (HF w' hx)) (Lib.hid (HG w' hx)) (Lib.hid oka) (Lib.hid okb) h0 h1)))
        have d1 := is_lt o
        have d2 := not_lt (Int.le_of_lt o)
        have d3 := is_le (Int.le_of_lt o)
        have d4 := not_le o
        clear ga gb oka okb f0 f1 f2 n1 n2 e1 e2 HC hT
        obtain ⟨xf, xl, xs⟩ := a
        obtain ⟨yf, yl, ys⟩ := b
        unfold cvV at HA HB ⊢
        simp only at o d1 d2 d3 d4 HA HB HC1 HC2 HW ⊢
        have HBX : Hid (∀ w', BX ((w.alloc (Obj.cells #[.int .i64 xf, .int .i64 xl, .int .i64 xs] 25)).alloc (Obj.cells #[.int .i64 yf, .int .i64 yl, .int .i64 ys] 25)) w' → ThreeIs w' w.heap.size (.int .i64 xf) (.int .i64 xl) (.int .i64 xs)) := Lib.hid (fun w' h => ((three_is w (.int .i64 xf) (.int .i64 xl) (.int .i64 xs) 25).on (one_new2 _ _)).on h)
        have HBY : Hid (∀ w', BX ((w.alloc (Obj.cells #[.int .i64 xf, .int .i64 xl, .int .i64 xs] 25)).alloc (Obj.cells #[.int .i64 yf, .int .i64 yl, .int .i64 ys] 25)) w' → ThreeIs w' (w.heap.size + 1) (.int .i64 yf) (.int .i64 yl) (.int .i64 ys)) := Lib.hid (fun w' h => by have := ((three_is (w.alloc (Obj.cells #[.int .i64 xf, .int .i64 xl, .int .i64 xs] 25)) (.int .i64 yf) (.int .i64 yl) (.int .i64 ys) 25).on h); simpa using this)
        have HQ : Hid (∀ w', BX ((w.alloc (Obj.cells #[.int .i64 xf, .int .i64 xl, .int .i64 xs] 25)).alloc (Obj.cells #[.int .i64 yf, .int .i64 yl, .int .i64 ys] 25)) w' → w'.cell? ⟨w.heap.size, 0, none⟩ = some (.int .i64 xf) ∧ w'.cell? ⟨w.heap.size, 1, none⟩ = some (.int .i64 xl) ∧ w'.cell? ⟨w.heap.size, 2, none⟩ = some (.int .i64 xs) ∧ w'.cell? ⟨w.heap.size + 1, 0, none⟩ = some (.int .i64 yf) ∧ w'.cell? ⟨w.heap.size + 1, 1, none⟩ = some (.int .i64 yl) ∧ w'.cell? ⟨w.heap.size + 1, 2, none⟩ = some (.int .i64 ys)) := Lib.hid (fun w' h => ⟨(HBX.out w' h).1, (HBX.out w' h).2.1, (HBX.out w' h).2.2.1, (HBY.out w' h).1, (HBY.out w' h).2.1, (HBY.out w' h).2.2.1⟩)
        have HE : Hid (∀ w', BX ((w.alloc (Obj.cells #[.int .i64 xf, .int .i64 xl, .int .i64 xs] 25)).alloc (Obj.cells #[.int .i64 yf, .int .i64 yl, .int .i64 ys] 25)) w' → Below w.heap.size w w') := Lib.hid (fun w' h => (two_new w _ _).trans (Below.mono h (by simp; omega)))
        have X0 := Lib.hid (BX.refl ((w.alloc (Obj.cells #[.int .i64 xf, .int .i64 xl, .int .i64 xs] 25)).alloc (Obj.cells #[.int .i64 yf, .int .i64 yl, .int .i64 ys] 25)))
        have i0 := int_at0 xl yl 100000
        have i1 := int_at1 xl yl 100000
        have i2 := int_at2 xl yl 100000
        go_enter Try.func30, Try.ntmps30
        go_wp2_with (go_at_call 15; refine (HA.out _).mono ?_; rintro e w1 ⟨rfl, b⟩; have X1 := Lib.hid (X0.out.call b); obtain ⟨c0, c1, c2, e0, e1, e2⟩ := HQ.out _ X1.out; clear b; refine Hid.out ?_)
        refine Lib.hid ?_
        go_wp2_with (go_at_call 15; refine (HB.out _).mono ?_; rintro e w2 ⟨rfl, b⟩; have X2 := Lib.hid (X1.out.call b); clear c0 c1 c2 e0 e1 e2; obtain ⟨c0, c1, c2, e0, e1, e2⟩ := HQ.out _ X2.out; clear b)
        refine wp_loop_rounds 4 ?_
        rw [rounds_succ]
        go_wp2_with (go_at_call 53; refine (HC1.out _ _ _ (HBX.out _ X2.out) (HBY.out _ X2.out)).mono ?_; rintro e w3 ⟨rfl, b⟩; have X3 := Lib.hid (X2.out.call b); clear b; refine Hid.out ?_)
        refine Lib.hid ?_
        go_wp2_with fail
        rw [rounds_succ]
        go_wp2_with (go_at_call 53; refine (HC2.out _ _ _ (HBX.out _ X3.out) (HBY.out _ X3.out)).mono ?_; rintro e w4 ⟨rfl, b⟩; have X4 := Lib.hid (X3.out.call b); clear b; refine Hid.out ?_)
        refine Lib.hid ?_
        go_wp2_with (go_at_call 47; refine (HW.out _ _ _ (fun w' h => HBX.out _ (BX.trans' X4.out h)) (fun w' h => HBY.out _ (BX.trans' X4.out h))).mono ?_; rintro e w9 ⟨rfl, b⟩; have X9 := Lib.hid (X4.out.call b); clear b)
        go_ret2
        exact ⟨rfl, HE.out _ X9.out⟩
      · have e1 : p1 a b = a.l := by unfold p1; omega
        have e2 : p2 a b = a.l := by unfold p2; omega
        rw [e1] at f0 f1 n1
        rw [e2] at f1 f2 n2
        have HC := Lib.hid (fun t ab bb w h0 h1 h2 h3 => above_any a b t ab bb w (Lib.hid h2) (Lib.hid h3) (Lib.hid oka) (Lib.hid okb) h0 h1)
        have HC1 := Lib.hid (fun ab bb w h2 h3 => HC.out (a.l) ab bb w f0 (by omega) h2 h3)
        rw [n1] at HC1
        have HC2 := Lib.hid (fun ab bb w h2 h3 => HC.out (a.l) ab bb w (by omega) (by omega) h2 h3)
        rw [n2] at HC2
        rw [e2] at hT
        have HW := Lib.hid (fun ab bb w (HF : ∀ w', BX w w' → ThreeIs w' ab (.int .i64 a.f) (.int .i64 a.l) (.int .i64 a.s)) (HG : ∀ w', BX w w' → ThreeIs w' bb (.int .i64 b.f) (.int .i64 b.l) (.int .i64 b.s)) => leastF_any (abP a b) 0 (a.l) r ab bb w hT (by omega) (by omega) (Lib.hid (fun t w' h0 h1 hx => above_any a b t ab bb w' (Lib.hid (HF w' hx)) (Lib.hid (HG w' hx)) (Lib.hid oka) (Lib.hid okb) h0 h1)))
        have d1 := not_lt (Int.le_refl a.l)
        have d3 := is_le (Int.le_refl a.l)
        clear ga gb oka okb f0 f1 f2 n1 n2 e1 e2 HC hT
        obtain ⟨xf, xl, xs⟩ := a
        obtain ⟨yf, yl, ys⟩ := b
        unfold cvV at HA HB ⊢
        simp only at o d1 d3 HA HB HC1 HC2 HW ⊢
        subst o
        have HBX : Hid (∀ w', BX ((w.alloc (Obj.cells #[.int .i64 xf, .int .i64 xl, .int .i64 xs] 25)).alloc (Obj.cells #[.int .i64 yf, .int .i64 xl, .int .i64 ys] 25)) w' → ThreeIs w' w.heap.size (.int .i64 xf) (.int .i64 xl) (.int .i64 xs)) := Lib.hid (fun w' h => ((three_is w (.int .i64 xf) (.int .i64 xl) (.int .i64 xs) 25).on (one_new2 _ _)).on h)
        have HBY : Hid (∀ w', BX ((w.alloc (Obj.cells #[.int .i64 xf, .int .i64 xl, .int .i64 xs] 25)).alloc (Obj.cells #[.int .i64 yf, .int .i64 xl, .int .i64 ys] 25)) w' → ThreeIs w' (w.heap.size + 1) (.int .i64 yf) (.int .i64 xl) (.int .i64 ys)) := Lib.hid (fun w' h => by have := ((three_is (w.alloc (Obj.cells #[.int .i64 xf, .int .i64 xl, .int .i64 xs] 25)) (.int .i64 yf) (.int .i64 xl) (.int .i64 ys) 25).on h); simpa using this)
        have HQ : Hid (∀ w', BX ((w.alloc (Obj.cells #[.int .i64 xf, .int .i64 xl, .int .i64 xs] 25)).alloc (Obj.cells #[.int .i64 yf, .int .i64 xl, .int .i64 ys] 25)) w' → w'.cell? ⟨w.heap.size, 0, none⟩ = some (.int .i64 xf) ∧ w'.cell? ⟨w.heap.size, 1, none⟩ = some (.int .i64 xl) ∧ w'.cell? ⟨w.heap.size, 2, none⟩ = some (.int .i64 xs) ∧ w'.cell? ⟨w.heap.size + 1, 0, none⟩ = some (.int .i64 yf) ∧ w'.cell? ⟨w.heap.size + 1, 1, none⟩ = some (.int .i64 xl) ∧ w'.cell? ⟨w.heap.size + 1, 2, none⟩ = some (.int .i64 ys)) := Lib.hid (fun w' h => ⟨(HBX.out w' h).1, (HBX.out w' h).2.1, (HBX.out w' h).2.2.1, (HBY.out w' h).1, (HBY.out w' h).2.1, (HBY.out w' h).2.2.1⟩)
        have HE : Hid (∀ w', BX ((w.alloc (Obj.cells #[.int .i64 xf, .int .i64 xl, .int .i64 xs] 25)).alloc (Obj.cells #[.int .i64 yf, .int .i64 xl, .int .i64 ys] 25)) w' → Below w.heap.size w w') := Lib.hid (fun w' h => (two_new w _ _).trans (Below.mono h (by simp; omega)))
        have X0 := Lib.hid (BX.refl ((w.alloc (Obj.cells #[.int .i64 xf, .int .i64 xl, .int .i64 xs] 25)).alloc (Obj.cells #[.int .i64 yf, .int .i64 xl, .int .i64 ys] 25)))
        have i0 := int_at0 xl xl 100000
        have i1 := int_at1 xl xl 100000
        have i2 := int_at2 xl xl 100000
        go_enter Try.func30, Try.ntmps30
        go_wp2_with (go_at_call 15; refine (HA.out _).mono ?_; rintro e w1 ⟨rfl, b⟩; have X1 := Lib.hid (X0.out.call b); obtain ⟨c0, c1, c2, e0, e1, e2⟩ := HQ.out _ X1.out; clear b; refine Hid.out ?_)
        refine Lib.hid ?_
        go_wp2_with (go_at_call 15; refine (HB.out _).mono ?_; rintro e w2 ⟨rfl, b⟩; have X2 := Lib.hid (X1.out.call b); clear c0 c1 c2 e0 e1 e2; obtain ⟨c0, c1, c2, e0, e1, e2⟩ := HQ.out _ X2.out; clear b)
        refine wp_loop_rounds 4 ?_
        rw [rounds_succ]
        go_wp2_with (go_at_call 53; refine (HC1.out _ _ _ (HBX.out _ X2.out) (HBY.out _ X2.out)).mono ?_; rintro e w3 ⟨rfl, b⟩; have X3 := Lib.hid (X2.out.call b); clear b; refine Hid.out ?_)
        refine Lib.hid ?_
        go_wp2_with fail
        rw [rounds_succ]
        go_wp2_with (go_at_call 53; refine (HC2.out _ _ _ (HBX.out _ X3.out) (HBY.out _ X3.out)).mono ?_; rintro e w4 ⟨rfl, b⟩; have X4 := Lib.hid (X3.out.call b); clear b; refine Hid.out ?_)
        refine Lib.hid ?_
        go_wp2_with (go_at_call 47; refine (HW.out _ _ _ (fun w' h => HBX.out _ (BX.trans' X4.out h)) (fun w' h => HBY.out _ (BX.trans' X4.out h))).mono ?_; rintro e w9 ⟨rfl, b⟩; have X9 := Lib.hid (X4.out.call b); clear b)
        go_ret2
        exact ⟨rfl, HE.out _ X9.out⟩
      · have e1 : p1 a b = b.l := by unfold p1; omega
        have e2 : p2 a b = a.l := by unfold p2; omega
        rw [e1] at f0 f1 n1
        rw [e2] at f1 f2 n2
        have HC := Lib.hid (fun t ab bb w h0 h1 h2 h3 => above_any a b t ab bb w (Lib.hid h2) (Lib.hid h3) (Lib.hid oka) (Lib.hid okb) h0 h1)
        have HC1 := Lib.hid (fun ab bb w h2 h3 => HC.out (b.l) ab bb w f0 (by omega) h2 h3)
        rw [n1] at HC1
        have HC2 := Lib.hid (fun ab bb w h2 h3 => HC.out (a.l) ab bb w (by omega) (by omega) h2 h3)
        rw [n2] at HC2
        rw [e2] at hT
        have HW := Lib.hid (fun ab bb w (HF : ∀ w', BX w w' → ThreeIs w' ab (.int .i64 a.f) (.int .i64 a.l) (.int .i64 a.s)) (HG : ∀ w', BX w w' → ThreeIs w' bb (.int .i64 b.f) (.int .i64 b.l) (.int .i64 b.s)) => leastF_any (abP a b) 0 (a.l) r ab bb w hT (by omega) (by omega) (Lib.hid (fun t w' h0 h1 hx => above_any a b t ab bb w' (Lib.hid (HF w' hx)) (Lib.hid (HG w' hx)) (Lib.hid oka) (Lib.hid okb) h0 h1)))
        have d1 := not_lt (Int.le_of_lt o)
        have d2 := is_lt o
        have d3 := not_le o
        have d4 := is_le (Int.le_of_lt o)
        clear ga gb oka okb f0 f1 f2 n1 n2 e1 e2 HC hT
        obtain ⟨xf, xl, xs⟩ := a
        obtain ⟨yf, yl, ys⟩ := b
        unfold cvV at HA HB ⊢
        simp only at o d1 d2 d3 d4 HA HB HC1 HC2 HW ⊢
        have HBX : Hid (∀ w', BX ((w.alloc (Obj.cells #[.int .i64 xf, .int .i64 xl, .int .i64 xs] 25)).alloc (Obj.cells #[.int .i64 yf, .int .i64 yl, .int .i64 ys] 25)) w' → ThreeIs w' w.heap.size (.int .i64 xf) (.int .i64 xl) (.int .i64 xs)) := Lib.hid (fun w' h => ((three_is w (.int .i64 xf) (.int .i64 xl) (.int .i64 xs) 25).on (one_new2 _ _)).on h)
        have HBY : Hid (∀ w', BX ((w.alloc (Obj.cells #[.int .i64 xf, .int .i64 xl, .int .i64 xs] 25)).alloc (Obj.cells #[.int .i64 yf, .int .i64 yl, .int .i64 ys] 25)) w' → ThreeIs w' (w.heap.size + 1) (.int .i64 yf) (.int .i64 yl) (.int .i64 ys)) := Lib.hid (fun w' h => by have := ((three_is (w.alloc (Obj.cells #[.int .i64 xf, .int .i64 xl, .int .i64 xs] 25)) (.int .i64 yf) (.int .i64 yl) (.int .i64 ys) 25).on h); simpa using this)
        have HQ : Hid (∀ w', BX ((w.alloc (Obj.cells #[.int .i64 xf, .int .i64 xl, .int .i64 xs] 25)).alloc (Obj.cells #[.int .i64 yf, .int .i64 yl, .int .i64 ys] 25)) w' → w'.cell? ⟨w.heap.size, 0, none⟩ = some (.int .i64 xf) ∧ w'.cell? ⟨w.heap.size, 1, none⟩ = some (.int .i64 xl) ∧ w'.cell? ⟨w.heap.size, 2, none⟩ = some (.int .i64 xs) ∧ w'.cell? ⟨w.heap.size + 1, 0, none⟩ = some (.int .i64 yf) ∧ w'.cell? ⟨w.heap.size + 1, 1, none⟩ = some (.int .i64 yl) ∧ w'.cell? ⟨w.heap.size + 1, 2, none⟩ = some (.int .i64 ys)) := Lib.hid (fun w' h => ⟨(HBX.out w' h).1, (HBX.out w' h).2.1, (HBX.out w' h).2.2.1, (HBY.out w' h).1, (HBY.out w' h).2.1, (HBY.out w' h).2.2.1⟩)
        have HE : Hid (∀ w', BX ((w.alloc (Obj.cells #[.int .i64 xf, .int .i64 xl, .int .i64 xs] 25)).alloc (Obj.cells #[.int .i64 yf, .int .i64 yl, .int .i64 ys] 25)) w' → Below w.heap.size w w') := Lib.hid (fun w' h => (two_new w _ _).trans (Below.mono h (by simp; omega)))
        have X0 := Lib.hid (BX.refl ((w.alloc (Obj.cells #[.int .i64 xf, .int .i64 xl, .int .i64 xs] 25)).alloc (Obj.cells #[.int .i64 yf, .int .i64 yl, .int .i64 ys] 25)))
        have i0 := int_at0 yl xl 100000
        have i1 := int_at1 yl xl 100000
        have i2 := int_at2 yl xl 100000
        go_enter Try.func30, Try.ntmps30
        go_wp2_with (go_at_call 15; refine (HA.out _).mono ?_; rintro e w1 ⟨rfl, b⟩; have X1 := Lib.hid (X0.out.call b); obtain ⟨c0, c1, c2, e0, e1, e2⟩ := HQ.out _ X1.out; clear b; refine Hid.out ?_)
        refine Lib.hid ?_
        go_wp2_with (go_at_call 15; refine (HB.out _).mono ?_; rintro e w2 ⟨rfl, b⟩; have X2 := Lib.hid (X1.out.call b); clear c0 c1 c2 e0 e1 e2; obtain ⟨c0, c1, c2, e0, e1, e2⟩ := HQ.out _ X2.out; clear b)
        refine wp_loop_rounds 4 ?_
        rw [rounds_succ]
        go_wp2_with (go_at_call 53; refine (HC1.out _ _ _ (HBX.out _ X2.out) (HBY.out _ X2.out)).mono ?_; rintro e w3 ⟨rfl, b⟩; have X3 := Lib.hid (X2.out.call b); clear b; refine Hid.out ?_)
        refine Lib.hid ?_
        go_wp2_with fail
        rw [rounds_succ]
        go_wp2_with (go_at_call 53; refine (HC2.out _ _ _ (HBX.out _ X3.out) (HBY.out _ X3.out)).mono ?_; rintro e w4 ⟨rfl, b⟩; have X4 := Lib.hid (X3.out.call b); clear b; refine Hid.out ?_)
        refine Lib.hid ?_
        go_wp2_with (go_at_call 47; refine (HW.out _ _ _ (fun w' h => HBX.out _ (BX.trans' X4.out h)) (fun w' h => HBY.out _ (BX.trans' X4.out h))).mono ?_; rintro e w9 ⟨rfl, b⟩; have X9 := Lib.hid (X4.out.call b); clear b)
        go_ret2
        exact ⟨rfl, HE.out _ X9.out⟩
    · rcases Int.lt_trichotomy a.l b.l with o | o | o
      · have e1 : p1 a b = a.l := by unfold p1; omega
        have e2 : p2 a b = b.l := by unfold p2; omega
        rw [e1] at f0 f1 n1
        rw [e2] at f1 f2 n2
        have HC := Lib.hid (fun t ab bb w h0 h1 h2 h3 => above_any a b t ab bb w (Lib.hid h2) (Lib.hid h3) (Lib.hid oka) (Lib.hid okb) h0 h1)
        have HC1 := Lib.hid (fun ab bb w h2 h3 => HC.out (a.l) ab bb w f0 (by omega) h2 h3)
        rw [n1] at HC1
        have HC2 := Lib.hid (fun ab bb w h2 h3 => HC.out (b.l) ab bb w (by omega) (by omega) h2 h3)
        rw [n2] at HC2
        have HC3 := Lib.hid (fun ab bb w h2 h3 => HC.out 100000 ab bb w (by omega) (by omega) h2 h3)
        rw [n3] at HC3
        have HW := Lib.hid (fun ab bb w (HF : ∀ w', BX w w' → ThreeIs w' ab (.int .i64 a.f) (.int .i64 a.l) (.int .i64 a.s)) (HG : ∀ w', BX w w' → ThreeIs w' bb (.int .i64 b.f) (.int .i64 b.l) (.int .i64 b.s)) => leastF_any (abP a b) 0 (100000) r ab bb w hT (by omega) (by omega) (Lib.hid (fun t w' h0 h1 hx => above_any a b t ab bb w' (Lib.hid (HF w' hx)) (Lib.hid (HG w' hx)) (Lib.hid oka) (Lib.hid okb) h0 h1)))
        have d1 := is_lt o
        have d2 := not_lt (Int.le_of_lt o)
        have d3 := is_le (Int.le_of_lt o)
        have d4 := not_le o
        clear ga gb oka okb f0 f1 f2 n1 n2 n3 e1 e2 HC hT
        obtain ⟨xf, xl, xs⟩ := a
        obtain ⟨yf, yl, ys⟩ := b
        unfold cvV at HA HB ⊢
        simp only at o d1 d2 d3 d4 HA HB HC1 HC2 HC3 HW ⊢
        have HBX : Hid (∀ w', BX ((w.alloc (Obj.cells #[.int .i64 xf, .int .i64 xl, .int .i64 xs] 25)).alloc (Obj.cells #[.int .i64 yf, .int .i64 yl, .int .i64 ys] 25)) w' → ThreeIs w' w.heap.size (.int .i64 xf) (.int .i64 xl) (.int .i64 xs)) := Lib.hid (fun w' h => ((three_is w (.int .i64 xf) (.int .i64 xl) (.int .i64 xs) 25).on (one_new2 _ _)).on h)
        have HBY : Hid (∀ w', BX ((w.alloc (Obj.cells #[.int .i64 xf, .int .i64 xl, .int .i64 xs] 25)).alloc (Obj.cells #[.int .i64 yf, .int .i64 yl, .int .i64 ys] 25)) w' → ThreeIs w' (w.heap.size + 1) (.int .i64 yf) (.int .i64 yl) (.int .i64 ys)) := Lib.hid (fun w' h => by have := ((three_is (w.alloc (Obj.cells #[.int .i64 xf, .int .i64 xl, .int .i64 xs] 25)) (.int .i64 yf) (.int .i64 yl) (.int .i64 ys) 25).on h); simpa using this)
        have HQ : Hid (∀ w', BX ((w.alloc (Obj.cells #[.int .i64 xf, .int .i64 xl, .int .i64 xs] 25)).alloc (Obj.cells #[.int .i64 yf, .int .i64 yl, .int .i64 ys] 25)) w' → w'.cell? ⟨w.heap.size, 0, none⟩ = some (.int .i64 xf) ∧ w'.cell? ⟨w.heap.size, 1, none⟩ = some (.int .i64 xl) ∧ w'.cell? ⟨w.heap.size, 2, none⟩ = some (.int .i64 xs) ∧ w'.cell? ⟨w.heap.size + 1, 0, none⟩ = some (.int .i64 yf) ∧ w'.cell? ⟨w.heap.size + 1, 1, none⟩ = some (.int .i64 yl) ∧ w'.cell? ⟨w.heap.size + 1, 2, none⟩ = some (.int .i64 ys)) := Lib.hid (fun w' h => ⟨(HBX.out w' h).1, (HBX.out w' h).2.1, (HBX.out w' h).2.2.1, (HBY.out w' h).1, (HBY.out w' h).2.1, (HBY.out w' h).2.2.1⟩)
        have HE : Hid (∀ w', BX ((w.alloc (Obj.cells #[.int .i64 xf, .int .i64 xl, .int .i64 xs] 25)).alloc (Obj.cells #[.int .i64 yf, .int .i64 yl, .int .i64 ys] 25)) w' → Below w.heap.size w w') := Lib.hid (fun w' h => (two_new w _ _).trans (Below.mono h (by simp; omega)))
        have X0 := Lib.hid (BX.refl ((w.alloc (Obj.cells #[.int .i64 xf, .int .i64 xl, .int .i64 xs] 25)).alloc (Obj.cells #[.int .i64 yf, .int .i64 yl, .int .i64 ys] 25)))
        have i0 := int_at0 xl yl 100000
        have i1 := int_at1 xl yl 100000
        have i2 := int_at2 xl yl 100000
        go_enter Try.func30, Try.ntmps30
        go_wp2_with (go_at_call 15; refine (HA.out _).mono ?_; rintro e w1 ⟨rfl, b⟩; have X1 := Lib.hid (X0.out.call b); obtain ⟨c0, c1, c2, e0, e1, e2⟩ := HQ.out _ X1.out; clear b; refine Hid.out ?_)
        refine Lib.hid ?_
        go_wp2_with (go_at_call 15; refine (HB.out _).mono ?_; rintro e w2 ⟨rfl, b⟩; have X2 := Lib.hid (X1.out.call b); clear c0 c1 c2 e0 e1 e2; obtain ⟨c0, c1, c2, e0, e1, e2⟩ := HQ.out _ X2.out; clear b)
        refine wp_loop_rounds 4 ?_
        rw [rounds_succ]
        go_wp2_with (go_at_call 53; refine (HC1.out _ _ _ (HBX.out _ X2.out) (HBY.out _ X2.out)).mono ?_; rintro e w3 ⟨rfl, b⟩; have X3 := Lib.hid (X2.out.call b); clear b; refine Hid.out ?_)
        refine Lib.hid ?_
        go_wp2_with fail
        rw [rounds_succ]
        go_wp2_with (go_at_call 53; refine (HC2.out _ _ _ (HBX.out _ X3.out) (HBY.out _ X3.out)).mono ?_; rintro e w4 ⟨rfl, b⟩; have X4 := Lib.hid (X3.out.call b); clear b; refine Hid.out ?_)
        refine Lib.hid ?_
        go_wp2_with fail
        rw [rounds_succ]
        go_wp2_with (go_at_call 53; refine (HC3.out _ _ _ (HBX.out _ X4.out) (HBY.out _ X4.out)).mono ?_; rintro e w5 ⟨rfl, b⟩; have X5 := Lib.hid (X4.out.call b); clear b; refine Hid.out ?_)
        refine Lib.hid ?_
        go_wp2_with (go_at_call 47; refine (HW.out _ _ _ (fun w' h => HBX.out _ (BX.trans' X5.out h)) (fun w' h => HBY.out _ (BX.trans' X5.out h))).mono ?_; rintro e w9 ⟨rfl, b⟩; have X9 := Lib.hid (X5.out.call b); clear b)
        go_ret2
        exact ⟨rfl, HE.out _ X9.out⟩
      · have e1 : p1 a b = a.l := by unfold p1; omega
        have e2 : p2 a b = a.l := by unfold p2; omega
        rw [e1] at f0 f1 n1
        rw [e2] at f1 f2 n2
        have HC := Lib.hid (fun t ab bb w h0 h1 h2 h3 => above_any a b t ab bb w (Lib.hid h2) (Lib.hid h3) (Lib.hid oka) (Lib.hid okb) h0 h1)
        have HC1 := Lib.hid (fun ab bb w h2 h3 => HC.out (a.l) ab bb w f0 (by omega) h2 h3)
        rw [n1] at HC1
        have HC2 := Lib.hid (fun ab bb w h2 h3 => HC.out (a.l) ab bb w (by omega) (by omega) h2 h3)
        rw [n2] at HC2
        have HC3 := Lib.hid (fun ab bb w h2 h3 => HC.out 100000 ab bb w (by omega) (by omega) h2 h3)
        rw [n3] at HC3
        have HW := Lib.hid (fun ab bb w (HF : ∀ w', BX w w' → ThreeIs w' ab (.int .i64 a.f) (.int .i64 a.l) (.int .i64 a.s)) (HG : ∀ w', BX w w' → ThreeIs w' bb (.int .i64 b.f) (.int .i64 b.l) (.int .i64 b.s)) => leastF_any (abP a b) 0 (100000) r ab bb w hT (by omega) (by omega) (Lib.hid (fun t w' h0 h1 hx => above_any a b t ab bb w' (Lib.hid (HF w' hx)) (Lib.hid (HG w' hx)) (Lib.hid oka) (Lib.hid okb) h0 h1)))
        have d1 := not_lt (Int.le_refl a.l)
        have d3 := is_le (Int.le_refl a.l)
        clear ga gb oka okb f0 f1 f2 n1 n2 n3 e1 e2 HC hT
        obtain ⟨xf, xl, xs⟩ := a
        obtain ⟨yf, yl, ys⟩ := b
        unfold cvV at HA HB ⊢
        simp only at o d1 d3 HA HB HC1 HC2 HC3 HW ⊢
        subst o
        have HBX : Hid (∀ w', BX ((w.alloc (Obj.cells #[.int .i64 xf, .int .i64 xl, .int .i64 xs] 25)).alloc (Obj.cells #[.int .i64 yf, .int .i64 xl, .int .i64 ys] 25)) w' → ThreeIs w' w.heap.size (.int .i64 xf) (.int .i64 xl) (.int .i64 xs)) := Lib.hid (fun w' h => ((three_is w (.int .i64 xf) (.int .i64 xl) (.int .i64 xs) 25).on (one_new2 _ _)).on h)
        have HBY : Hid (∀ w', BX ((w.alloc (Obj.cells #[.int .i64 xf, .int .i64 xl, .int .i64 xs] 25)).alloc (Obj.cells #[.int .i64 yf, .int .i64 xl, .int .i64 ys] 25)) w' → ThreeIs w' (w.heap.size + 1) (.int .i64 yf) (.int .i64 xl) (.int .i64 ys)) := Lib.hid (fun w' h => by have := ((three_is (w.alloc (Obj.cells #[.int .i64 xf, .int .i64 xl, .int .i64 xs] 25)) (.int .i64 yf) (.int .i64 xl) (.int .i64 ys) 25).on h); simpa using this)
        have HQ : Hid (∀ w', BX ((w.alloc (Obj.cells #[.int .i64 xf, .int .i64 xl, .int .i64 xs] 25)).alloc (Obj.cells #[.int .i64 yf, .int .i64 xl, .int .i64 ys] 25)) w' → w'.cell? ⟨w.heap.size, 0, none⟩ = some (.int .i64 xf) ∧ w'.cell? ⟨w.heap.size, 1, none⟩ = some (.int .i64 xl) ∧ w'.cell? ⟨w.heap.size, 2, none⟩ = some (.int .i64 xs) ∧ w'.cell? ⟨w.heap.size + 1, 0, none⟩ = some (.int .i64 yf) ∧ w'.cell? ⟨w.heap.size + 1, 1, none⟩ = some (.int .i64 xl) ∧ w'.cell? ⟨w.heap.size + 1, 2, none⟩ = some (.int .i64 ys)) := Lib.hid (fun w' h => ⟨(HBX.out w' h).1, (HBX.out w' h).2.1, (HBX.out w' h).2.2.1, (HBY.out w' h).1, (HBY.out w' h).2.1, (HBY.out w' h).2.2.1⟩)
        have HE : Hid (∀ w', BX ((w.alloc (Obj.cells #[.int .i64 xf, .int .i64 xl, .int .i64 xs] 25)).alloc (Obj.cells #[.int .i64 yf, .int .i64 xl, .int .i64 ys] 25)) w' → Below w.heap.size w w') := Lib.hid (fun w' h => (two_new w _ _).trans (Below.mono h (by simp; omega)))
        have X0 := Lib.hid (BX.refl ((w.alloc (Obj.cells #[.int .i64 xf, .int .i64 xl, .int .i64 xs] 25)).alloc (Obj.cells #[.int .i64 yf, .int .i64 xl, .int .i64 ys] 25)))
        have i0 := int_at0 xl xl 100000
        have i1 := int_at1 xl xl 100000
        have i2 := int_at2 xl xl 100000
        go_enter Try.func30, Try.ntmps30
        go_wp2_with (go_at_call 15; refine (HA.out _).mono ?_; rintro e w1 ⟨rfl, b⟩; have X1 := Lib.hid (X0.out.call b); obtain ⟨c0, c1, c2, e0, e1, e2⟩ := HQ.out _ X1.out; clear b; refine Hid.out ?_)
        refine Lib.hid ?_
        go_wp2_with (go_at_call 15; refine (HB.out _).mono ?_; rintro e w2 ⟨rfl, b⟩; have X2 := Lib.hid (X1.out.call b); clear c0 c1 c2 e0 e1 e2; obtain ⟨c0, c1, c2, e0, e1, e2⟩ := HQ.out _ X2.out; clear b)
        refine wp_loop_rounds 4 ?_
        rw [rounds_succ]
        go_wp2_with (go_at_call 53; refine (HC1.out _ _ _ (HBX.out _ X2.out) (HBY.out _ X2.out)).mono ?_; rintro e w3 ⟨rfl, b⟩; have X3 := Lib.hid (X2.out.call b); clear b; refine Hid.out ?_)
        refine Lib.hid ?_
        go_wp2_with fail
        rw [rounds_succ]
        go_wp2_with (go_at_call 53; refine (HC2.out _ _ _ (HBX.out _ X3.out) (HBY.out _ X3.out)).mono ?_; rintro e w4 ⟨rfl, b⟩; have X4 := Lib.hid (X3.out.call b); clear b; refine Hid.out ?_)
        refine Lib.hid ?_
        go_wp2_with fail
        rw [rounds_succ]
        go_wp2_with (go_at_call 53; refine (HC3.out _ _ _ (HBX.out _ X4.out) (HBY.out _ X4.out)).mono ?_; rintro e w5 ⟨rfl, b⟩; have X5 := Lib.hid (X4.out.call b); clear b; refine Hid.out ?_)
        refine Lib.hid ?_
        go_wp2_with (go_at_call 47; refine (HW.out _ _ _ (fun w' h => HBX.out _ (BX.trans' X5.out h)) (fun w' h => HBY.out _ (BX.trans' X5.out h))).mono ?_; rintro e w9 ⟨rfl, b⟩; have X9 := Lib.hid (X5.out.call b); clear b)
        go_ret2
        exact ⟨rfl, HE.out _ X9.out⟩
      · have e1 : p1 a b = b.l := by unfold p1; omega
        have e2 : p2 a b = a.l := by unfold p2; omega
        rw [e1] at f0 f1 n1
        rw [e2] at f1 f2 n2
        have HC := Lib.hid (fun t ab bb w h0 h1 h2 h3 => above_any a b t ab bb w (Lib.hid h2) (Lib.hid h3) (Lib.hid oka) (Lib.hid okb) h0 h1)
        have HC1 := Lib.hid (fun ab bb w h2 h3 => HC.out (b.l) ab bb w f0 (by omega) h2 h3)
        rw [n1] at HC1
        have HC2 := Lib.hid (fun ab bb w h2 h3 => HC.out (a.l) ab bb w (by omega) (by omega) h2 h3)
        rw [n2] at HC2
        have HC3 := Lib.hid (fun ab bb w h2 h3 => HC.out 100000 ab bb w (by omega) (by omega) h2 h3)
        rw [n3] at HC3
        have HW := Lib.hid (fun ab bb w (HF : ∀ w', BX w w' → ThreeIs w' ab (.int .i64 a.f) (.int .i64 a.l) (.int .i64 a.s)) (HG : ∀ w', BX w w' → ThreeIs w' bb (.int .i64 b.f) (.int .i64 b.l) (.int .i64 b.s)) => leastF_any (abP a b) 0 (100000) r ab bb w hT (by omega) (by omega) (Lib.hid (fun t w' h0 h1 hx => above_any a b t ab bb w' (Lib.hid (HF w' hx)) (Lib.hid (HG w' hx)) (Lib.hid oka) (Lib.hid okb) h0 h1)))
        have d1 := not_lt (Int.le_of_lt o)
        have d2 := is_lt o
        have d3 := not_le o
        have d4 := is_le (Int.le_of_lt o)
        clear ga gb oka okb f0 f1 f2 n1 n2 n3 e1 e2 HC hT
        obtain ⟨xf, xl, xs⟩ := a
        obtain ⟨yf, yl, ys⟩ := b
        unfold cvV at HA HB ⊢
        simp only at o d1 d2 d3 d4 HA HB HC1 HC2 HC3 HW ⊢
        have HBX : Hid (∀ w', BX ((w.alloc (Obj.cells #[.int .i64 xf, .int .i64 xl, .int .i64 xs] 25)).alloc (Obj.cells #[.int .i64 yf, .int .i64 yl, .int .i64 ys] 25)) w' → ThreeIs w' w.heap.size (.int .i64 xf) (.int .i64 xl) (.int .i64 xs)) := Lib.hid (fun w' h => ((three_is w (.int .i64 xf) (.int .i64 xl) (.int .i64 xs) 25).on (one_new2 _ _)).on h)
        have HBY : Hid (∀ w', BX ((w.alloc (Obj.cells #[.int .i64 xf, .int .i64 xl, .int .i64 xs] 25)).alloc (Obj.cells #[.int .i64 yf, .int .i64 yl, .int .i64 ys] 25)) w' → ThreeIs w' (w.heap.size + 1) (.int .i64 yf) (.int .i64 yl) (.int .i64 ys)) := Lib.hid (fun w' h => by have := ((three_is (w.alloc (Obj.cells #[.int .i64 xf, .int .i64 xl, .int .i64 xs] 25)) (.int .i64 yf) (.int .i64 yl) (.int .i64 ys) 25).on h); simpa using this)
        have HQ : Hid (∀ w', BX ((w.alloc (Obj.cells #[.int .i64 xf, .int .i64 xl, .int .i64 xs] 25)).alloc (Obj.cells #[.int .i64 yf, .int .i64 yl, .int .i64 ys] 25)) w' → w'.cell? ⟨w.heap.size, 0, none⟩ = some (.int .i64 xf) ∧ w'.cell? ⟨w.heap.size, 1, none⟩ = some (.int .i64 xl) ∧ w'.cell? ⟨w.heap.size, 2, none⟩ = some (.int .i64 xs) ∧ w'.cell? ⟨w.heap.size + 1, 0, none⟩ = some (.int .i64 yf) ∧ w'.cell? ⟨w.heap.size + 1, 1, none⟩ = some (.int .i64 yl) ∧ w'.cell? ⟨w.heap.size + 1, 2, none⟩ = some (.int .i64 ys)) := Lib.hid (fun w' h => ⟨(HBX.out w' h).1, (HBX.out w' h).2.1, (HBX.out w' h).2.2.1, (HBY.out w' h).1, (HBY.out w' h).2.1, (HBY.out w' h).2.2.1⟩)
        have HE : Hid (∀ w', BX ((w.alloc (Obj.cells #[.int .i64 xf, .int .i64 xl, .int .i64 xs] 25)).alloc (Obj.cells #[.int .i64 yf, .int .i64 yl, .int .i64 ys] 25)) w' → Below w.heap.size w w') := Lib.hid (fun w' h => (two_new w _ _).trans (Below.mono h (by simp; omega)))
        have X0 := Lib.hid (BX.refl ((w.alloc (Obj.cells #[.int .i64 xf, .int .i64 xl, .int .i64 xs] 25)).alloc (Obj.cells #[.int .i64 yf, .int .i64 yl, .int .i64 ys] 25)))
        have i0 := int_at0 yl xl 100000
        have i1 := int_at1 yl xl 100000
        have i2 := int_at2 yl xl 100000
        go_enter Try.func30, Try.ntmps30
        go_wp2_with (go_at_call 15; refine (HA.out _).mono ?_; rintro e w1 ⟨rfl, b⟩; have X1 := Lib.hid (X0.out.call b); obtain ⟨c0, c1, c2, e0, e1, e2⟩ := HQ.out _ X1.out; clear b; refine Hid.out ?_)
        refine Lib.hid ?_
        go_wp2_with (go_at_call 15; refine (HB.out _).mono ?_; rintro e w2 ⟨rfl, b⟩; have X2 := Lib.hid (X1.out.call b); clear c0 c1 c2 e0 e1 e2; obtain ⟨c0, c1, c2, e0, e1, e2⟩ := HQ.out _ X2.out; clear b)
        refine wp_loop_rounds 4 ?_
        rw [rounds_succ]
        go_wp2_with (go_at_call 53; refine (HC1.out _ _ _ (HBX.out _ X2.out) (HBY.out _ X2.out)).mono ?_; rintro e w3 ⟨rfl, b⟩; have X3 := Lib.hid (X2.out.call b); clear b; refine Hid.out ?_)
        refine Lib.hid ?_
        go_wp2_with fail
        rw [rounds_succ]
        go_wp2_with (go_at_call 53; refine (HC2.out _ _ _ (HBX.out _ X3.out) (HBY.out _ X3.out)).mono ?_; rintro e w4 ⟨rfl, b⟩; have X4 := Lib.hid (X3.out.call b); clear b; refine Hid.out ?_)
        refine Lib.hid ?_
        go_wp2_with fail
        rw [rounds_succ]
        go_wp2_with (go_at_call 53; refine (HC3.out _ _ _ (HBX.out _ X4.out) (HBY.out _ X4.out)).mono ?_; rintro e w5 ⟨rfl, b⟩; have X5 := Lib.hid (X4.out.call b); clear b; refine Hid.out ?_)
        refine Lib.hid ?_
        go_wp2_with (go_at_call 47; refine (HW.out _ _ _ (fun w' h => HBX.out _ (BX.trans' X5.out h)) (fun w' h => HBY.out _ (BX.trans' X5.out h))).mono ?_; rintro e w9 ⟨rfl, b⟩; have X9 := Lib.hid (X5.out.call b); clear b)
        go_ret2
        exact ⟨rfl, HE.out _ X9.out⟩
end Go.Proofs.Yteogadbjnmcblaa
