/- A sum that fits below a curve; one curve below another: contracts of both sides (written by tools/gen_cvk.py). -/
import Derived.Test.YteogadbjnmcblaaCvj
namespace Go.Proofs.Yteogadbjnmcblaa
open Go.RowKit
set_option linter.unusedVariables false

def resSumFits1 (l : List Cv) (c : Cv) : Bool := (lsG5 l && goodV c) && fitV l c
def resSumFits2 (l : List Cv) (c : Cv) : Bool := lsG5 l && goodV c
theorem sf_no {l : List Cv} {c : Cv} (h : (lsG5 l && goodV c) = false) : resSumFits1 l c = false ∧ resSumFits2 l c = false := by unfold resSumFits1 resSumFits2; rw [h]; exact ⟨rfl, rfl⟩
theorem sf_yes {l : List Cv} {c : Cv} (h : (lsG5 l && goodV c) = true) : resSumFits1 l c = fitV l c ∧ resSumFits2 l c = true := by unfold resSumFits1 resSumFits2; rw [h]; exact ⟨rfl, rfl⟩
theorem lsG5_one (a : Cv) : lsG5 [a] = goodV a := by unfold lsG5 allV; simp
set_option maxHeartbeats 3200000 in
theorem fits_any (g n cap : Nat) (l : List Cv) (c : Cv) (t : Int) (lb cb : Nat) (w : World) (HL : Hid (w.cell? ⟨lb, 0, none⟩ = some (.slice (some ⟨g, 0, none⟩) n cap) ∧ lb < w.heap.size)) (HF : Hid (ThreeIs w cb (.int .i64 c.f) (.int .i64 c.l) (.int .i64 c.s))) (HI : Hid (InX w (some ⟨g, 0, none⟩) n (cvCs l))) (hn : Hid (l.length = n)) (hm : n ≤ 12) (hl : Hid (allV l = true)) (hc : Hid (CvOk c)) (h0 : 0 ≤ t) (h1 : t ≤ 100000) :
    Calls Try.prog 58 #[.int .i64 t, .pointer (some ⟨lb, 0, none⟩), .pointer (some ⟨cb, 0, none⟩)] w (SaysB w (fitT l c t)) := by
  have HV := Lib.hid (fun w => valueAt_any c t w hc.out h0 h1)
  have HS := Lib.hid (fun w h => sumAt_any _ n cap l t w (Lib.hid (show InX w (some ⟨g, 0, none⟩) n (cvCs l) from h)) hn hm hl h0 h1)
  have HI2 : Hid (∀ w', BX w w' → InX w' (some ⟨g, 0, none⟩) n (cvCs l)) := Lib.hid (fun w' h => HI.out.below h)
  have HQ : Hid (∀ w', BX w w' → w'.cell? ⟨lb, 0, none⟩ = some (.slice (some ⟨g, 0, none⟩) n cap) ∧ w'.cell? ⟨cb, 0, none⟩ = some (.int .i64 c.f) ∧ w'.cell? ⟨cb, 1, none⟩ = some (.int .i64 c.l) ∧ w'.cell? ⟨cb, 2, none⟩ = some (.int .i64 c.s) ∧ BX w w') := Lib.hid (fun w' h => by
    obtain ⟨a0, a1, a2, _⟩ := HF.out.on h
    exact ⟨((bcell h).1 _ 0 HL.out.2).trans HL.out.1, a0, a1, a2, h⟩)
  have hfit : fitT l c t = decide (sumV l t ≤ atV c t) := rfl
  rw [hfit]
  generalize sumV l t = S at HS ⊢
  generalize atV c t = A at HV ⊢
  clear hfit
  obtain ⟨xf, xl, xs⟩ := c
  unfold cvV at HV
  simp only at HV HQ
  rcases Int.lt_or_le A S with q | q
  · rw [not_le q]
    have d := not_le q
    clear HF HL hc
    go_enter Try.func58, Try.ntmps58
    go_wp2_with fail
    go_region_held3 (fun w' => w'.cell? ⟨lb, 0, none⟩ = some (.slice (some ⟨g, 0, none⟩) n cap) ∧ w'.cell? ⟨cb, 0, none⟩ = some (.int .i64 xf) ∧ w'.cell? ⟨cb, 1, none⟩ = some (.int .i64 xl) ∧ w'.cell? ⟨cb, 2, none⟩ = some (.int .i64 xs) ∧ BX w w')
      (first | (go_split_ands; refine HQ.out _ ?_; repeat' (with_reducible first | exact BX.drew0 _ | exact BX.refl _ | assumption | refine BX.call' (by assumption) ?_ | refine BX.drew ?_)))
      (first | (go_at_call 57; go_split_ands; (with_reducible refine (HS.out _ (HI2.out _ (by assumption))).mono ?_); rintro e w3 ⟨rfl, b3⟩) | (go_at_call 43; (with_reducible refine (HV.out _).mono ?_); rintro e w4 ⟨rfl, b4⟩))
    all_goals
      go_split_ands
      go_wp2_with fail
      go_ret
      exact ⟨rfl, by assumption⟩
  · rw [is_le q]
    have d := is_le q
    clear HF HL hc
    go_enter Try.func58, Try.ntmps58
    go_wp2_with fail
    go_region_held3 (fun w' => w'.cell? ⟨lb, 0, none⟩ = some (.slice (some ⟨g, 0, none⟩) n cap) ∧ w'.cell? ⟨cb, 0, none⟩ = some (.int .i64 xf) ∧ w'.cell? ⟨cb, 1, none⟩ = some (.int .i64 xl) ∧ w'.cell? ⟨cb, 2, none⟩ = some (.int .i64 xs) ∧ BX w w')
      (first | (go_split_ands; refine HQ.out _ ?_; repeat' (with_reducible first | exact BX.drew0 _ | exact BX.refl _ | assumption | refine BX.call' (by assumption) ?_ | refine BX.drew ?_)))
      (first | (go_at_call 57; go_split_ands; (with_reducible refine (HS.out _ (HI2.out _ (by assumption))).mono ?_); rintro e w3 ⟨rfl, b3⟩) | (go_at_call 43; (with_reducible refine (HV.out _).mono ?_); rintro e w4 ⟨rfl, b4⟩))
    all_goals
      go_split_ands
      go_wp2_with fail
      go_ret
      exact ⟨rfl, by assumption⟩
set_option maxHeartbeats 6400000 in
theorem specSumFits_any (g n cap : Nat) (l : List Cv) (c : Cv) (w : World) (HI : Hid (InX w (some ⟨g, 0, none⟩) n (cvCs l))) (hgw : g < w.heap.size) (hn : Hid (l.length = n)) (hm : n ≤ 1048576) :
    Calls Try.prog 36 #[.slice (some ⟨g, 0, none⟩) n cap, cvV c] w (SaysT2 w (.bool (resSumFits1 l c)) (.bool (resSumFits2 l c))) := by
  have HL := Lib.hid (fun w h => cuList_any _ n cap l w (Lib.hid (show InX w (some ⟨g, 0, none⟩) n (cvCs l) from h)) hn hm)
  have HG := Lib.hid (fun w => cuGood_any c w)
  cases hl : lsG5 l
  · rw [hl] at HL
    obtain ⟨x1, x2⟩ := sf_no (l := l) (c := c) (by rw [hl]; rfl)
    have HX1 := Lib.hid x1
    have HX2 := Lib.hid x2
    generalize resSumFits1 l c = R1 at HX1 ⊢
    generalize resSumFits2 l c = R2 at HX2 ⊢
    clear x1 x2
    clear hl
    obtain ⟨xf, xl, xs⟩ := c
    unfold cvV at HG ⊢
    simp only at HG ⊢
    have HQ := Lib.hid (fun w' (h : BX (w.alloc (Obj.cells #[.int .i64 xf, .int .i64 xl, .int .i64 xs] 25)) w') => ((three_is w (.int .i64 xf) (.int .i64 xl) (.int .i64 xs) 25).on h))
    have HE : Hid (∀ w', BX (w.alloc (Obj.cells #[.int .i64 xf, .int .i64 xl, .int .i64 xs] 25)) w' → Below w.heap.size w w') := Lib.hid (fun w' h => (one_new2 w _).trans (Below.mono h (by simp)))
    have X0 := Lib.hid (BX.refl (w.alloc (Obj.cells #[.int .i64 xf, .int .i64 xl, .int .i64 xs] 25)))
    have HI2 : Hid (∀ w', BX (w.alloc (Obj.cells #[.int .i64 xf, .int .i64 xl, .int .i64 xs] 25)) w' → InX w' (some ⟨g, 0, none⟩) n (cvCs l)) := Lib.hid (fun w' h => HI.out.below (HE.out w' h))
    have hgb : g < (w.alloc (Obj.cells #[.int .i64 xf, .int .i64 xl, .int .i64 xs] 25)).heap.size := Nat.lt_of_lt_of_le hgw (by simp)
    go_enter Try.func36, Try.ntmps36
    go_wp2_with (go_at_call 54; refine (HL.out _ (HI2.out _ X0.out)).mono ?_; rintro e w1 ⟨rfl, b⟩; have X1 := Lib.hid (X0.out.call b); clear b)
    go_ret2
    exact ⟨ret_bb HX1.out.symm HX2.out.symm, HE.out _ X1.out⟩
  cases hg : goodV c
  · rw [hl] at HL
    rw [hg] at HG
    obtain ⟨x1, x2⟩ := sf_no (l := l) (c := c) (by rw [hl, hg]; rfl)
    have HX1 := Lib.hid x1
    have HX2 := Lib.hid x2
    generalize resSumFits1 l c = R1 at HX1 ⊢
    generalize resSumFits2 l c = R2 at HX2 ⊢
    clear x1 x2
    clear hl hg
    obtain ⟨xf, xl, xs⟩ := c
    unfold cvV at HG ⊢
    simp only at HG ⊢
    have HQ := Lib.hid (fun w' (h : BX (w.alloc (Obj.cells #[.int .i64 xf, .int .i64 xl, .int .i64 xs] 25)) w') => ((three_is w (.int .i64 xf) (.int .i64 xl) (.int .i64 xs) 25).on h))
    have HE : Hid (∀ w', BX (w.alloc (Obj.cells #[.int .i64 xf, .int .i64 xl, .int .i64 xs] 25)) w' → Below w.heap.size w w') := Lib.hid (fun w' h => (one_new2 w _).trans (Below.mono h (by simp)))
    have X0 := Lib.hid (BX.refl (w.alloc (Obj.cells #[.int .i64 xf, .int .i64 xl, .int .i64 xs] 25)))
    have HI2 : Hid (∀ w', BX (w.alloc (Obj.cells #[.int .i64 xf, .int .i64 xl, .int .i64 xs] 25)) w' → InX w' (some ⟨g, 0, none⟩) n (cvCs l)) := Lib.hid (fun w' h => HI.out.below (HE.out w' h))
    have hgb : g < (w.alloc (Obj.cells #[.int .i64 xf, .int .i64 xl, .int .i64 xs] 25)).heap.size := Nat.lt_of_lt_of_le hgw (by simp)
    go_enter Try.func36, Try.ntmps36
    go_wp2_with (go_at_call 54; refine (HL.out _ (HI2.out _ X0.out)).mono ?_; rintro e w1 ⟨rfl, b⟩; have X1 := Lib.hid (X0.out.call b); obtain ⟨c0, c1, c2, cl⟩ := HQ.out _ X1.out; clear b)
    go_wp2_with (go_at_call 38; refine (HG.out _).mono ?_; rintro e w2 ⟨rfl, b⟩; have X2 := Lib.hid (X1.out.call b); clear b)
    go_ret2
    exact ⟨ret_bb HX1.out.symm HX2.out.symm, HE.out _ X2.out⟩
  · rw [hl] at HL
    rw [hg] at HG
    have q := ls5 hl
    have HF := Lib.hid (fun w h h2 => cuFits_any g n cap l c w (Lib.hid (show InX w (some ⟨g, 0, none⟩) n (cvCs l) from h)) h2 hn (by rw [← hn.out]; exact q.2) (Lib.hid q.1) (Lib.hid hg))
    obtain ⟨x1, x2⟩ := sf_yes (l := l) (c := c) (by rw [hl, hg]; rfl)
    have HX1 := Lib.hid x1
    have HX2 := Lib.hid x2
    generalize resSumFits1 l c = R1 at HX1 ⊢
    generalize resSumFits2 l c = R2 at HX2 ⊢
    clear x1 x2
    generalize fitV l c = F at HF HX1
    clear hl hg q
    obtain ⟨xf, xl, xs⟩ := c
    unfold cvV at HG HF ⊢
    simp only at HG HF ⊢
    have HQ := Lib.hid (fun w' (h : BX (w.alloc (Obj.cells #[.int .i64 xf, .int .i64 xl, .int .i64 xs] 25)) w') => ((three_is w (.int .i64 xf) (.int .i64 xl) (.int .i64 xs) 25).on h))
    have HE : Hid (∀ w', BX (w.alloc (Obj.cells #[.int .i64 xf, .int .i64 xl, .int .i64 xs] 25)) w' → Below w.heap.size w w') := Lib.hid (fun w' h => (one_new2 w _).trans (Below.mono h (by simp)))
    have X0 := Lib.hid (BX.refl (w.alloc (Obj.cells #[.int .i64 xf, .int .i64 xl, .int .i64 xs] 25)))
    have HI2 : Hid (∀ w', BX (w.alloc (Obj.cells #[.int .i64 xf, .int .i64 xl, .int .i64 xs] 25)) w' → InX w' (some ⟨g, 0, none⟩) n (cvCs l)) := Lib.hid (fun w' h => HI.out.below (HE.out w' h))
    have hgb : g < (w.alloc (Obj.cells #[.int .i64 xf, .int .i64 xl, .int .i64 xs] 25)).heap.size := Nat.lt_of_lt_of_le hgw (by simp)
    go_enter Try.func36, Try.ntmps36
    go_wp2_with (go_at_call 54; refine (HL.out _ (HI2.out _ X0.out)).mono ?_; rintro e w1 ⟨rfl, b⟩; have X1 := Lib.hid (X0.out.call b); obtain ⟨c0, c1, c2, cl⟩ := HQ.out _ X1.out; clear b; refine Hid.out ?_)
    refine Lib.hid ?_
    go_wp2_with (go_at_call 38; refine (HG.out _).mono ?_; rintro e w2 ⟨rfl, b⟩; have X2 := Lib.hid (X1.out.call b); clear c0 c1 c2 cl; obtain ⟨c0, c1, c2, cl⟩ := HQ.out _ X2.out; clear b; refine Hid.out ?_)
    refine Lib.hid ?_
    go_wp2_with (go_at_call 51; refine (HF.out _ (HI2.out _ X2.out) (Nat.lt_of_lt_of_le hgb X2.out.size)).mono ?_; rintro e w3 ⟨rfl, b⟩; have X3 := Lib.hid (X2.out.call b); clear b)
    go_ret2
    exact ⟨ret_bb HX1.out.symm HX2.out.symm, HE.out _ X3.out⟩
def SfRel (wb : World) (l : List Cv) (P : Int → Bool) (n : Nat) (B : Bool) (i : Value) (wr : World) : Prop := ∃ k : Nat, k ≤ n ∧ i = .int .i64 k ∧ BX wb wr ∧ Hid ((l.drop k).all (fun x => P x.l) = B)
theorem sf_at (l : List Cv) (P : Cv → Bool) (k : Nat) (h : k < l.length) : (l.drop k).all P = (P (l.getD k cv0) && (l.drop (k + 1)).all P) := by
  rw [List.drop_eq_getElem_cons h, List.all_cons, show l.getD k cv0 = l[k] by simp [List.getD_eq_getElem?_getD, h]]
set_option maxHeartbeats 12800000 in
theorem implSumFits_any (g n cap : Nat) (l : List Cv) (c : Cv) (w : World) (HI : Hid (InX w (some ⟨g, 0, none⟩) n (cvCs l))) (hgw : g < w.heap.size) (hn : Hid (l.length = n)) (hm : n ≤ 1048576) :
    Calls Try.prog 37 #[.slice (some ⟨g, 0, none⟩) n cap, cvV c] w (SaysT2 w (.bool (resSumFits1 l c)) (.bool (resSumFits2 l c))) := by
  have HL := Lib.hid (fun w h => areCurves_any _ n cap l w (Lib.hid (show InX w (some ⟨g, 0, none⟩) n (cvCs l) from h)) hn hm)
  have HG := Lib.hid (fun w => implIsCurve_any c w)
  cases hl : lsG5 l
  · rw [hl] at HL
    obtain ⟨x1, x2⟩ := sf_no (l := l) (c := c) (by rw [hl]; rfl)
    have HX1 := Lib.hid x1
    have HX2 := Lib.hid x2
    generalize resSumFits1 l c = R1 at HX1 ⊢
    generalize resSumFits2 l c = R2 at HX2 ⊢
    clear x1 x2
    clear hl
    obtain ⟨xf, xl, xs⟩ := c
    unfold cvV at HG ⊢
    simp only at HG ⊢
    have HLC : Hid (∀ w', BX ((w.alloc (Obj.cells #[.slice (some ⟨g, 0, none⟩) n cap] 42)).alloc (Obj.cells #[.int .i64 xf, .int .i64 xl, .int .i64 xs] 25)) w' → w'.cell? ⟨w.heap.size, 0, none⟩ = some (.slice (some ⟨g, 0, none⟩) n cap) ∧ w.heap.size < w'.heap.size) := Lib.hid (fun w' h => ⟨((bcell h).1 _ 0 (by simp; omega)).trans (by simp [go_sem]), Nat.lt_of_lt_of_le (by simp; omega) h.size⟩)
    have HCC : Hid (∀ w', BX ((w.alloc (Obj.cells #[.slice (some ⟨g, 0, none⟩) n cap] 42)).alloc (Obj.cells #[.int .i64 xf, .int .i64 xl, .int .i64 xs] 25)) w' → ThreeIs w' (w.heap.size + 1) (.int .i64 xf) (.int .i64 xl) (.int .i64 xs)) := Lib.hid (fun w' h => by have := ((three_is (w.alloc (Obj.cells #[.slice (some ⟨g, 0, none⟩) n cap] 42)) (.int .i64 xf) (.int .i64 xl) (.int .i64 xs) 25).on h); simpa using this)
    have HQ : Hid (∀ w', BX ((w.alloc (Obj.cells #[.slice (some ⟨g, 0, none⟩) n cap] 42)).alloc (Obj.cells #[.int .i64 xf, .int .i64 xl, .int .i64 xs] 25)) w' → w'.cell? ⟨w.heap.size, 0, none⟩ = some (.slice (some ⟨g, 0, none⟩) n cap) ∧ w'.cell? ⟨w.heap.size + 1, 0, none⟩ = some (.int .i64 xf) ∧ w'.cell? ⟨w.heap.size + 1, 1, none⟩ = some (.int .i64 xl) ∧ w'.cell? ⟨w.heap.size + 1, 2, none⟩ = some (.int .i64 xs)) := Lib.hid (fun w' h => ⟨(HLC.out w' h).1, (HCC.out w' h).1, (HCC.out w' h).2.1, (HCC.out w' h).2.2.1⟩)
    have HE : Hid (∀ w', BX ((w.alloc (Obj.cells #[.slice (some ⟨g, 0, none⟩) n cap] 42)).alloc (Obj.cells #[.int .i64 xf, .int .i64 xl, .int .i64 xs] 25)) w' → Below w.heap.size w w') := Lib.hid (fun w' h => (two_new w _ _).trans (Below.mono h (by simp; omega)))
    have X0 := Lib.hid (BX.refl ((w.alloc (Obj.cells #[.slice (some ⟨g, 0, none⟩) n cap] 42)).alloc (Obj.cells #[.int .i64 xf, .int .i64 xl, .int .i64 xs] 25)))
    have HI2 : Hid (∀ w', BX ((w.alloc (Obj.cells #[.slice (some ⟨g, 0, none⟩) n cap] 42)).alloc (Obj.cells #[.int .i64 xf, .int .i64 xl, .int .i64 xs] 25)) w' → InX w' (some ⟨g, 0, none⟩) n (cvCs l)) := Lib.hid (fun w' h => HI.out.below (HE.out w' h))
    go_enter Try.func37, Try.ntmps37
    go_wp2_with (go_at_call 56; refine (HL.out _ (HI2.out _ X0.out)).mono ?_; rintro e w1 ⟨rfl, b⟩; have X1 := Lib.hid (X0.out.call b); clear b)
    go_ret2
    exact ⟨ret_bb HX1.out.symm HX2.out.symm, HE.out _ X1.out⟩
  cases hg : goodV c
  · rw [hl] at HL
    rw [hg] at HG
    obtain ⟨x1, x2⟩ := sf_no (l := l) (c := c) (by rw [hl, hg]; rfl)
    have HX1 := Lib.hid x1
    have HX2 := Lib.hid x2
    generalize resSumFits1 l c = R1 at HX1 ⊢
    generalize resSumFits2 l c = R2 at HX2 ⊢
    clear x1 x2
    clear hl hg
    obtain ⟨xf, xl, xs⟩ := c
    unfold cvV at HG ⊢
    simp only at HG ⊢
    have HLC : Hid (∀ w', BX ((w.alloc (Obj.cells #[.slice (some ⟨g, 0, none⟩) n cap] 42)).alloc (Obj.cells #[.int .i64 xf, .int .i64 xl, .int .i64 xs] 25)) w' → w'.cell? ⟨w.heap.size, 0, none⟩ = some (.slice (some ⟨g, 0, none⟩) n cap) ∧ w.heap.size < w'.heap.size) := Lib.hid (fun w' h => ⟨((bcell h).1 _ 0 (by simp; omega)).trans (by simp [go_sem]), Nat.lt_of_lt_of_le (by simp; omega) h.size⟩)
    have HCC : Hid (∀ w', BX ((w.alloc (Obj.cells #[.slice (some ⟨g, 0, none⟩) n cap] 42)).alloc (Obj.cells #[.int .i64 xf, .int .i64 xl, .int .i64 xs] 25)) w' → ThreeIs w' (w.heap.size + 1) (.int .i64 xf) (.int .i64 xl) (.int .i64 xs)) := Lib.hid (fun w' h => by have := ((three_is (w.alloc (Obj.cells #[.slice (some ⟨g, 0, none⟩) n cap] 42)) (.int .i64 xf) (.int .i64 xl) (.int .i64 xs) 25).on h); simpa using this)
    have HQ : Hid (∀ w', BX ((w.alloc (Obj.cells #[.slice (some ⟨g, 0, none⟩) n cap] 42)).alloc (Obj.cells #[.int .i64 xf, .int .i64 xl, .int .i64 xs] 25)) w' → w'.cell? ⟨w.heap.size, 0, none⟩ = some (.slice (some ⟨g, 0, none⟩) n cap) ∧ w'.cell? ⟨w.heap.size + 1, 0, none⟩ = some (.int .i64 xf) ∧ w'.cell? ⟨w.heap.size + 1, 1, none⟩ = some (.int .i64 xl) ∧ w'.cell? ⟨w.heap.size + 1, 2, none⟩ = some (.int .i64 xs)) := Lib.hid (fun w' h => ⟨(HLC.out w' h).1, (HCC.out w' h).1, (HCC.out w' h).2.1, (HCC.out w' h).2.2.1⟩)
    have HE : Hid (∀ w', BX ((w.alloc (Obj.cells #[.slice (some ⟨g, 0, none⟩) n cap] 42)).alloc (Obj.cells #[.int .i64 xf, .int .i64 xl, .int .i64 xs] 25)) w' → Below w.heap.size w w') := Lib.hid (fun w' h => (two_new w _ _).trans (Below.mono h (by simp; omega)))
    have X0 := Lib.hid (BX.refl ((w.alloc (Obj.cells #[.slice (some ⟨g, 0, none⟩) n cap] 42)).alloc (Obj.cells #[.int .i64 xf, .int .i64 xl, .int .i64 xs] 25)))
    have HI2 : Hid (∀ w', BX ((w.alloc (Obj.cells #[.slice (some ⟨g, 0, none⟩) n cap] 42)).alloc (Obj.cells #[.int .i64 xf, .int .i64 xl, .int .i64 xs] 25)) w' → InX w' (some ⟨g, 0, none⟩) n (cvCs l)) := Lib.hid (fun w' h => HI.out.below (HE.out w' h))
    go_enter Try.func37, Try.ntmps37
    go_wp2_with (go_at_call 56; refine (HL.out _ (HI2.out _ X0.out)).mono ?_; rintro e w1 ⟨rfl, b⟩; have X1 := Lib.hid (X0.out.call b); obtain ⟨c3, c0, c1, c2⟩ := HQ.out _ X1.out; clear b)
    go_wp2_with (go_at_call 15; refine (HG.out _).mono ?_; rintro e w2 ⟨rfl, b⟩; have X2 := Lib.hid (X1.out.call b); clear b)
    go_ret2
    exact ⟨ret_bb HX1.out.symm HX2.out.symm, HE.out _ X2.out⟩
  · rw [hl] at HL
    rw [hg] at HG
    have q := ls5 hl
    have hm12 : n ≤ 12 := by rw [← hn.out]; exact q.2
    have ok := cvok hg
    have HF := Lib.hid (fun t lb cb w h0 h1 h2 h3 h4 => fits_any g n cap l c t lb cb w (Lib.hid h2) (Lib.hid h3) (Lib.hid (show InX w (some ⟨g, 0, none⟩) n (cvCs l) from h4)) hn hm12 (Lib.hid q.1) (Lib.hid ok) h0 h1)
    obtain ⟨x1, x2⟩ := sf_yes (l := l) (c := c) (by rw [hl, hg]; rfl)
    have HX1 := Lib.hid x1
    have HX2 := Lib.hid x2
    generalize resSumFits1 l c = R1 at HX1 ⊢
    generalize resSumFits2 l c = R2 at HX2 ⊢
    clear x1 x2
    have HX3 : Hid (R1 = (l.all (fun x => fitT l c x.l) && (fitT l c c.l && fitT l c 100000))) := HX1
    have HAV := Lib.hid q.1
    obtain ⟨B, hB⟩ : ∃ B, l.all (fun x => fitT l c x.l) = B := ⟨_, rfl⟩
    have H0 : Hid ((l.drop 0).all (fun x => fitT l c x.l) = B) := Lib.hid hB
    rw [hB] at HX3
    obtain ⟨c', hcc⟩ : ∃ c', c' = c := ⟨_, rfl⟩
    have HCL := Lib.hid (fun lb cb w h2 h3 h4 => HF.out c.l lb cb w ok.l0 (by have := ok.l1; omega) h2 h3 h4)
    have HCM := Lib.hid (fun lb cb w h2 h3 h4 => HF.out 100000 lb cb w (by omega) (by omega) h2 h3 h4)
    generalize fitT l c c.l = F1 at HCL HX3
    generalize fitT l c 100000 = F2 at HCM HX3
    have HFx : Hid (∀ x : Cv, goodV x = true → ∀ lb cb w, _ → _ → _ → _) := Lib.hid (fun x hx lb cb w h2 h3 h4 => HF.out x.l lb cb w (cvok hx).l0 (by have := (cvok hx).l1; omega) h2 h3 h4)
    generalize fitT l c = P at HFx H0 hB
    clear hl hg q ok HF HX1 hcc hB
    obtain ⟨xf, xl, xs⟩ := c
    unfold cvV at HG ⊢
    simp only at HG HCL HCM HFx ⊢
    have HLC : Hid (∀ w', BX ((w.alloc (Obj.cells #[.slice (some ⟨g, 0, none⟩) n cap] 42)).alloc (Obj.cells #[.int .i64 xf, .int .i64 xl, .int .i64 xs] 25)) w' → w'.cell? ⟨w.heap.size, 0, none⟩ = some (.slice (some ⟨g, 0, none⟩) n cap) ∧ w.heap.size < w'.heap.size) := Lib.hid (fun w' h => ⟨((bcell h).1 _ 0 (by simp; omega)).trans (by simp [go_sem]), Nat.lt_of_lt_of_le (by simp; omega) h.size⟩)
    have HCC : Hid (∀ w', BX ((w.alloc (Obj.cells #[.slice (some ⟨g, 0, none⟩) n cap] 42)).alloc (Obj.cells #[.int .i64 xf, .int .i64 xl, .int .i64 xs] 25)) w' → ThreeIs w' (w.heap.size + 1) (.int .i64 xf) (.int .i64 xl) (.int .i64 xs)) := Lib.hid (fun w' h => by have := ((three_is (w.alloc (Obj.cells #[.slice (some ⟨g, 0, none⟩) n cap] 42)) (.int .i64 xf) (.int .i64 xl) (.int .i64 xs) 25).on h); simpa using this)
    have HQ : Hid (∀ w', BX ((w.alloc (Obj.cells #[.slice (some ⟨g, 0, none⟩) n cap] 42)).alloc (Obj.cells #[.int .i64 xf, .int .i64 xl, .int .i64 xs] 25)) w' → w'.cell? ⟨w.heap.size, 0, none⟩ = some (.slice (some ⟨g, 0, none⟩) n cap) ∧ w'.cell? ⟨w.heap.size + 1, 0, none⟩ = some (.int .i64 xf) ∧ w'.cell? ⟨w.heap.size + 1, 1, none⟩ = some (.int .i64 xl) ∧ w'.cell? ⟨w.heap.size + 1, 2, none⟩ = some (.int .i64 xs)) := Lib.hid (fun w' h => ⟨(HLC.out w' h).1, (HCC.out w' h).1, (HCC.out w' h).2.1, (HCC.out w' h).2.2.1⟩)
    have HE : Hid (∀ w', BX ((w.alloc (Obj.cells #[.slice (some ⟨g, 0, none⟩) n cap] 42)).alloc (Obj.cells #[.int .i64 xf, .int .i64 xl, .int .i64 xs] 25)) w' → Below w.heap.size w w') := Lib.hid (fun w' h => (two_new w _ _).trans (Below.mono h (by simp; omega)))
    have X0 := Lib.hid (BX.refl ((w.alloc (Obj.cells #[.slice (some ⟨g, 0, none⟩) n cap] 42)).alloc (Obj.cells #[.int .i64 xf, .int .i64 xl, .int .i64 xs] 25)))
    have HI2 : Hid (∀ w', BX ((w.alloc (Obj.cells #[.slice (some ⟨g, 0, none⟩) n cap] 42)).alloc (Obj.cells #[.int .i64 xf, .int .i64 xl, .int .i64 xs] 25)) w' → InX w' (some ⟨g, 0, none⟩) n (cvCs l)) := Lib.hid (fun w' h => HI.out.below (HE.out w' h))
    go_enter Try.func37, Try.ntmps37
    go_wp2_with (go_at_call 56; refine (HL.out _ (HI2.out _ X0.out)).mono ?_; rintro e w1 ⟨rfl, b⟩; have X1 := Lib.hid (X0.out.call b); obtain ⟨c3, c0, c1, c2⟩ := HQ.out _ X1.out; clear b; refine Hid.out ?_)
    refine Lib.hid ?_
    go_wp2_with (go_at_call 15; refine (HG.out _).mono ?_; rintro e w2 ⟨rfl, b⟩; have X2 := Lib.hid (X1.out.call b); clear c0 c1 c2 c3; obtain ⟨c3, c0, c1, c2⟩ := HQ.out _ X2.out; clear b)
    go_loopw [20] (fun i wr => SfRel ((w.alloc (Obj.cells #[.slice (some ⟨g, 0, none⟩) n cap] 42)).alloc (Obj.cells #[.int .i64 xf, .int .i64 xl, .int .i64 xs] 25)) l P n B i wr) (fun i _ => n - (intOf i).toNat)
    case atStart => exact ⟨0, Nat.zero_le _, rfl, X2.out, H0⟩
    case round =>
      obtain ⟨k, hk, rfl, hb, HP⟩ := hrel
      have X3 := Lib.hid hb
      obtain ⟨d3, d0, d1, d2⟩ := HQ.out _ hb
      by_cases hlt : k < n
      · obtain ⟨g', e', ht, hg'⟩ := HI2.out _ hb (by omega)
        cases e'
        obtain ⟨x, hx⟩ : ∃ x, l.getD k cv0 = x := ⟨_, rfl⟩
        have hl1 : k < l.length := by rw [hn.out]; exact hlt
        obtain ⟨a0, a1, a2⟩ := ht.cv k hl1 x hx
        have HEx := Lib.hid (sf_at l (fun x => P x.l) k hl1)
        have hgx := allV_get HAV.out k hl1
        rw [hx] at HEx hgx
        have HK := Lib.hid (HFx.out x hgx)
        obtain ⟨b, hbq⟩ : ∃ b, P x.l = b := ⟨_, rfl⟩
        rw [hbq] at HK
        simp only [hbq] at HEx
        cases b
        · have HZ : Hid (R1 = false) := Lib.hid (by rw [HX3.out, ← HP.out, HEx.out]; rfl)
          obtain ⟨yf, yl, ys⟩ := x
          simp only at a0 a1 a2 HK
          clear hb ht hx hl1 hgx hbq HEx HP c0 c1 c2 c3
          go_wp2_with (go_at_call 58; refine (HK.out _ _ _ (HLC.out _ (X3.out.alloc _)) (HCC.out _ (X3.out.alloc _)) (HI2.out _ (X3.out.alloc _))).mono ?_; rintro e w3 ⟨rfl, b⟩; have X4 := Lib.hid ((X3.out.alloc _).call b); clear b)
          go_ret2
          exact ⟨ret_bb HZ.out.symm HX2.out.symm, HE.out _ X4.out⟩
        · have HZ : Hid ((l.drop (k + 1)).all (fun x => P x.l) = B) := Lib.hid (by rw [← HP.out, HEx.out, Bool.true_and])
          obtain ⟨yf, yl, ys⟩ := x
          simp only at a0 a1 a2 HK
          clear hb ht hx hl1 hgx hbq HEx HP c0 c1 c2 c3
          go_wp2_with (go_at_call 58; refine (HK.out _ _ _ (HLC.out _ (X3.out.alloc _)) (HCC.out _ (X3.out.alloc _)) (HI2.out _ (X3.out.alloc _))).mono ?_; rintro e w3 ⟨rfl, b⟩; have X4 := Lib.hid ((X3.out.alloc _).call b); clear b)
          go_roundw
          case rel => exact ⟨k + 1, by omega, by go_num, X4.out, HZ⟩
          case measure => simp [intOf]; omega
      · have HZ : Hid (R1 = (F1 && F2)) := Lib.hid (by rw [HX3.out, ← HP.out, List.drop_eq_nil_of_le (by rw [hn.out]; omega)]; rfl)
        clear hb c0 c1 c2 c3
        cases F1
        · go_wp2_with (go_at_call 58; refine (HCL.out _ _ _ (HLC.out _ X3.out) (HCC.out _ X3.out) (HI2.out _ X3.out)).mono ?_; rintro e w3 ⟨rfl, b⟩; have X4 := Lib.hid (X3.out.call b); clear b)
          go_ret2
          exact ⟨ret_bb HZ.out.symm HX2.out.symm, HE.out _ X4.out⟩
        · go_wp2_with (go_at_call 58; refine (HCL.out _ _ _ (HLC.out _ X3.out) (HCC.out _ X3.out) (HI2.out _ X3.out)).mono ?_; rintro e w3 ⟨rfl, b⟩; have X4 := Lib.hid (X3.out.call b); clear b; refine Hid.out ?_)
          refine Lib.hid ?_
          go_wp2_with (go_at_call 58; refine (HCM.out _ _ _ (HLC.out _ X4.out) (HCC.out _ X4.out) (HI2.out _ X4.out)).mono ?_; rintro e w4 ⟨rfl, b⟩; have X5 := Lib.hid (X4.out.call b); clear b)
          go_ret2
          exact ⟨ret_bb HZ.out.symm HX2.out.symm, HE.out _ X5.out⟩
theorem one_row (w : World) (a : Cv) (m : Nat) (hm : m = w.heap.size) : InX (w.alloc (Obj.cells #[.int .i64 a.f, .int .i64 a.l, .int .i64 a.s] 25)) (some ⟨m, 0, none⟩) 1 (cvCs [a]) := by
  subst hm
  have h := World.ownsRow_lit (base := w.heap.size) (e := 25) (size := 3) w #[.int .i64 a.f, .int .i64 a.l, .int .i64 a.s] 1 (Nat.le_refl _) (by unfold maxLen; omega) rfl
  exact own_inx h
set_option maxHeartbeats 6400000 in
theorem specCurveBelow_any (a b : Cv) (w : World) : Calls Try.prog 27 #[cvV a, cvV b] w (SaysT2 w (.bool (resSumFits1 [a] b)) (.bool (resSumFits2 [a] b))) := by
  have HA := Lib.hid (fun w => cuGood_any a w)
  have HB := Lib.hid (fun w => cuGood_any b w)
  cases ga : goodV a
  · rw [ga] at HA
    obtain ⟨x1, x2⟩ := sf_no (l := [a]) (c := b) (by rw [lsG5_one, ga]; rfl)
    have HX1 := Lib.hid x1
    have HX2 := Lib.hid x2
    generalize resSumFits1 [a] b = R1 at HX1 ⊢
    generalize resSumFits2 [a] b = R2 at HX2 ⊢
    clear x1 x2
    clear ga
    obtain ⟨xf, xl, xs⟩ := a
    obtain ⟨yf, yl, ys⟩ := b
    unfold cvV at HA ⊢
    simp only at HA ⊢
    have HBX : Hid (∀ w', BX ((w.alloc (Obj.cells #[.int .i64 xf, .int .i64 xl, .int .i64 xs] 25)).alloc (Obj.cells #[.int .i64 yf, .int .i64 yl, .int .i64 ys] 25)) w' → ThreeIs w' w.heap.size (.int .i64 xf) (.int .i64 xl) (.int .i64 xs)) := Lib.hid (fun w' h => ((three_is w (.int .i64 xf) (.int .i64 xl) (.int .i64 xs) 25).on (one_new2 _ _)).on h)
    have HBY : Hid (∀ w', BX ((w.alloc (Obj.cells #[.int .i64 xf, .int .i64 xl, .int .i64 xs] 25)).alloc (Obj.cells #[.int .i64 yf, .int .i64 yl, .int .i64 ys] 25)) w' → ThreeIs w' (w.heap.size + 1) (.int .i64 yf) (.int .i64 yl) (.int .i64 ys)) := Lib.hid (fun w' h => by have := ((three_is (w.alloc (Obj.cells #[.int .i64 xf, .int .i64 xl, .int .i64 xs] 25)) (.int .i64 yf) (.int .i64 yl) (.int .i64 ys) 25).on h); simpa using this)
    have HQ : Hid (∀ w', BX ((w.alloc (Obj.cells #[.int .i64 xf, .int .i64 xl, .int .i64 xs] 25)).alloc (Obj.cells #[.int .i64 yf, .int .i64 yl, .int .i64 ys] 25)) w' → w'.cell? ⟨w.heap.size, 0, none⟩ = some (.int .i64 xf) ∧ w'.cell? ⟨w.heap.size, 1, none⟩ = some (.int .i64 xl) ∧ w'.cell? ⟨w.heap.size, 2, none⟩ = some (.int .i64 xs) ∧ w'.cell? ⟨w.heap.size + 1, 0, none⟩ = some (.int .i64 yf) ∧ w'.cell? ⟨w.heap.size + 1, 1, none⟩ = some (.int .i64 yl) ∧ w'.cell? ⟨w.heap.size + 1, 2, none⟩ = some (.int .i64 ys)) := Lib.hid (fun w' h => ⟨(HBX.out w' h).1, (HBX.out w' h).2.1, (HBX.out w' h).2.2.1, (HBY.out w' h).1, (HBY.out w' h).2.1, (HBY.out w' h).2.2.1⟩)
    have HE : Hid (∀ w', BX ((w.alloc (Obj.cells #[.int .i64 xf, .int .i64 xl, .int .i64 xs] 25)).alloc (Obj.cells #[.int .i64 yf, .int .i64 yl, .int .i64 ys] 25)) w' → Below w.heap.size w w') := Lib.hid (fun w' h => (two_new w _ _).trans (Below.mono h (by simp; omega)))
    have X0 := Lib.hid (BX.refl ((w.alloc (Obj.cells #[.int .i64 xf, .int .i64 xl, .int .i64 xs] 25)).alloc (Obj.cells #[.int .i64 yf, .int .i64 yl, .int .i64 ys] 25)))
    go_enter Try.func27, Try.ntmps27
    go_wp2_with (go_at_call 38; refine (HA.out _).mono ?_; rintro e w1 ⟨rfl, b⟩; have X1 := Lib.hid (X0.out.call b); obtain ⟨c0, c1, c2, e0, e1, e2⟩ := HQ.out _ X1.out; clear b)
    go_ret2
    exact ⟨ret_bb HX1.out.symm HX2.out.symm, HE.out _ X1.out⟩
  cases gb : goodV b
  · rw [ga] at HA
    rw [gb] at HB
    obtain ⟨x1, x2⟩ := sf_no (l := [a]) (c := b) (by rw [lsG5_one, ga, gb]; rfl)
    have HX1 := Lib.hid x1
    have HX2 := Lib.hid x2
    generalize resSumFits1 [a] b = R1 at HX1 ⊢
    generalize resSumFits2 [a] b = R2 at HX2 ⊢
    clear x1 x2
    clear ga gb
    obtain ⟨xf, xl, xs⟩ := a
    obtain ⟨yf, yl, ys⟩ := b
    unfold cvV at HA HB ⊢
    simp only at HA HB ⊢
    have HBX : Hid (∀ w', BX ((w.alloc (Obj.cells #[.int .i64 xf, .int .i64 xl, .int .i64 xs] 25)).alloc (Obj.cells #[.int .i64 yf, .int .i64 yl, .int .i64 ys] 25)) w' → ThreeIs w' w.heap.size (.int .i64 xf) (.int .i64 xl) (.int .i64 xs)) := Lib.hid (fun w' h => ((three_is w (.int .i64 xf) (.int .i64 xl) (.int .i64 xs) 25).on (one_new2 _ _)).on h)
    have HBY : Hid (∀ w', BX ((w.alloc (Obj.cells #[.int .i64 xf, .int .i64 xl, .int .i64 xs] 25)).alloc (Obj.cells #[.int .i64 yf, .int .i64 yl, .int .i64 ys] 25)) w' → ThreeIs w' (w.heap.size + 1) (.int .i64 yf) (.int .i64 yl) (.int .i64 ys)) := Lib.hid (fun w' h => by have := ((three_is (w.alloc (Obj.cells #[.int .i64 xf, .int .i64 xl, .int .i64 xs] 25)) (.int .i64 yf) (.int .i64 yl) (.int .i64 ys) 25).on h); simpa using this)
    have HQ : Hid (∀ w', BX ((w.alloc (Obj.cells #[.int .i64 xf, .int .i64 xl, .int .i64 xs] 25)).alloc (Obj.cells #[.int .i64 yf, .int .i64 yl, .int .i64 ys] 25)) w' → w'.cell? ⟨w.heap.size, 0, none⟩ = some (.int .i64 xf) ∧ w'.cell? ⟨w.heap.size, 1, none⟩ = some (.int .i64 xl) ∧ w'.cell? ⟨w.heap.size, 2, none⟩ = some (.int .i64 xs) ∧ w'.cell? ⟨w.heap.size + 1, 0, none⟩ = some (.int .i64 yf) ∧ w'.cell? ⟨w.heap.size + 1, 1, none⟩ = some (.int .i64 yl) ∧ w'.cell? ⟨w.heap.size + 1, 2, none⟩ = some (.int .i64 ys)) := Lib.hid (fun w' h => ⟨(HBX.out w' h).1, (HBX.out w' h).2.1, (HBX.out w' h).2.2.1, (HBY.out w' h).1, (HBY.out w' h).2.1, (HBY.out w' h).2.2.1⟩)
    have HE : Hid (∀ w', BX ((w.alloc (Obj.cells #[.int .i64 xf, .int .i64 xl, .int .i64 xs] 25)).alloc (Obj.cells #[.int .i64 yf, .int .i64 yl, .int .i64 ys] 25)) w' → Below w.heap.size w w') := Lib.hid (fun w' h => (two_new w _ _).trans (Below.mono h (by simp; omega)))
    have X0 := Lib.hid (BX.refl ((w.alloc (Obj.cells #[.int .i64 xf, .int .i64 xl, .int .i64 xs] 25)).alloc (Obj.cells #[.int .i64 yf, .int .i64 yl, .int .i64 ys] 25)))
    go_enter Try.func27, Try.ntmps27
    go_wp2_with (go_at_call 38; refine (HA.out _).mono ?_; rintro e w1 ⟨rfl, b⟩; have X1 := Lib.hid (X0.out.call b); obtain ⟨c0, c1, c2, e0, e1, e2⟩ := HQ.out _ X1.out; clear b; refine Hid.out ?_)
    refine Lib.hid ?_
    go_wp2_with (go_at_call 38; refine (HB.out _).mono ?_; rintro e w2 ⟨rfl, b⟩; have X2 := Lib.hid (X1.out.call b); clear b)
    go_ret2
    exact ⟨ret_bb HX1.out.symm HX2.out.symm, HE.out _ X2.out⟩
  · rw [ga] at HA
    rw [gb] at HB
    have HF := Lib.hid (fun g w h h2 => cuFits_any g 1 1 [a] b w (Lib.hid (show InX w (some ⟨g, 0, none⟩) 1 (cvCs [a]) from h)) h2 (Lib.hid rfl) (by omega) (Lib.hid (by unfold allV; simp [ga])) (Lib.hid gb))
    obtain ⟨x1, x2⟩ := sf_yes (l := [a]) (c := b) (by rw [lsG5_one, ga, gb]; rfl)
    have HX1 := Lib.hid x1
    have HX2 := Lib.hid x2
    generalize resSumFits1 [a] b = R1 at HX1 ⊢
    generalize resSumFits2 [a] b = R2 at HX2 ⊢
    clear x1 x2
    generalize fitV [a] b = F at HF HX1
    have HR := Lib.hid (fun w m hm => one_row w a m hm)
    clear ga gb
    obtain ⟨xf, xl, xs⟩ := a
    obtain ⟨yf, yl, ys⟩ := b
    unfold cvV at HA HB HF ⊢
    simp only at HA HB HF HR ⊢
    have HBX : Hid (∀ w', BX ((w.alloc (Obj.cells #[.int .i64 xf, .int .i64 xl, .int .i64 xs] 25)).alloc (Obj.cells #[.int .i64 yf, .int .i64 yl, .int .i64 ys] 25)) w' → ThreeIs w' w.heap.size (.int .i64 xf) (.int .i64 xl) (.int .i64 xs)) := Lib.hid (fun w' h => ((three_is w (.int .i64 xf) (.int .i64 xl) (.int .i64 xs) 25).on (one_new2 _ _)).on h)
    have HBY : Hid (∀ w', BX ((w.alloc (Obj.cells #[.int .i64 xf, .int .i64 xl, .int .i64 xs] 25)).alloc (Obj.cells #[.int .i64 yf, .int .i64 yl, .int .i64 ys] 25)) w' → ThreeIs w' (w.heap.size + 1) (.int .i64 yf) (.int .i64 yl) (.int .i64 ys)) := Lib.hid (fun w' h => by have := ((three_is (w.alloc (Obj.cells #[.int .i64 xf, .int .i64 xl, .int .i64 xs] 25)) (.int .i64 yf) (.int .i64 yl) (.int .i64 ys) 25).on h); simpa using this)
    have HQ : Hid (∀ w', BX ((w.alloc (Obj.cells #[.int .i64 xf, .int .i64 xl, .int .i64 xs] 25)).alloc (Obj.cells #[.int .i64 yf, .int .i64 yl, .int .i64 ys] 25)) w' → w'.cell? ⟨w.heap.size, 0, none⟩ = some (.int .i64 xf) ∧ w'.cell? ⟨w.heap.size, 1, none⟩ = some (.int .i64 xl) ∧ w'.cell? ⟨w.heap.size, 2, none⟩ = some (.int .i64 xs) ∧ w'.cell? ⟨w.heap.size + 1, 0, none⟩ = some (.int .i64 yf) ∧ w'.cell? ⟨w.heap.size + 1, 1, none⟩ = some (.int .i64 yl) ∧ w'.cell? ⟨w.heap.size + 1, 2, none⟩ = some (.int .i64 ys)) := Lib.hid (fun w' h => ⟨(HBX.out w' h).1, (HBX.out w' h).2.1, (HBX.out w' h).2.2.1, (HBY.out w' h).1, (HBY.out w' h).2.1, (HBY.out w' h).2.2.1⟩)
    have HE : Hid (∀ w', BX ((w.alloc (Obj.cells #[.int .i64 xf, .int .i64 xl, .int .i64 xs] 25)).alloc (Obj.cells #[.int .i64 yf, .int .i64 yl, .int .i64 ys] 25)) w' → Below w.heap.size w w') := Lib.hid (fun w' h => (two_new w _ _).trans (Below.mono h (by simp; omega)))
    have X0 := Lib.hid (BX.refl ((w.alloc (Obj.cells #[.int .i64 xf, .int .i64 xl, .int .i64 xs] 25)).alloc (Obj.cells #[.int .i64 yf, .int .i64 yl, .int .i64 ys] 25)))
    have hlt2 : ∀ w2 : World, w2.heap.size < (w2.alloc (Obj.cells #[.int .i64 xf, .int .i64 xl, .int .i64 xs] 25)).heap.size := fun w2 => by simp
    have HQa := Lib.hid (fun w' h o => HQ.out _ (BX.alloc (w' := w') h o))
    go_enter Try.func27, Try.ntmps27
    go_wp2_with (go_at_call 38; refine (HA.out _).mono ?_; rintro e w1 ⟨rfl, b⟩; have X1 := Lib.hid (X0.out.call b); obtain ⟨c0, c1, c2, e0, e1, e2⟩ := HQ.out _ X1.out; clear b; refine Hid.out ?_)
    refine Lib.hid ?_
    go_wp2_with (go_at_call 38; refine (HB.out _).mono ?_; rintro e w2 ⟨rfl, b⟩; have X2 := Lib.hid (X1.out.call b); clear b c0 c1 c2 e0 e1 e2; obtain ⟨c0, c1, c2, e0, e1, e2⟩ := HQ.out _ X2.out; obtain ⟨_, _, _, f0, f1, f2⟩ := HQa.out _ X2.out (Obj.cells #[.int .i64 xf, .int .i64 xl, .int .i64 xs] 25); refine Hid.out ?_)
    refine Lib.hid ?_
    go_wp2_with (go_at_call 51; refine (HF.out w2.heap.size _ (HR.out w2 w2.heap.size rfl) (hlt2 w2)).mono ?_; rintro e w3 ⟨rfl, b⟩; have X3 := Lib.hid ((X2.out.alloc _).call b); clear b)
    go_ret2
    exact ⟨ret_bb HX1.out.symm HX2.out.symm, HE.out _ X3.out⟩
set_option maxHeartbeats 6400000 in
theorem implCurveBelow_any (a b : Cv) (w : World) : Calls Try.prog 28 #[cvV a, cvV b] w (SaysT2 w (.bool (resSumFits1 [a] b)) (.bool (resSumFits2 [a] b))) := by
  have HF := Lib.hid (fun g w h h2 => implSumFits_any g 1 1 [a] b w (Lib.hid (show InX w (some ⟨g, 0, none⟩) 1 (cvCs [a]) from h)) h2 (Lib.hid rfl) (by omega))
  generalize resSumFits1 [a] b = R1 at HF ⊢
  generalize resSumFits2 [a] b = R2 at HF ⊢
  have HR := Lib.hid (fun w m hm => one_row w a m hm)
  obtain ⟨xf, xl, xs⟩ := a
  obtain ⟨yf, yl, ys⟩ := b
  unfold cvV at HF ⊢
  simp only at HF HR ⊢
  have HBX : Hid (∀ w', BX ((w.alloc (Obj.cells #[.int .i64 xf, .int .i64 xl, .int .i64 xs] 25)).alloc (Obj.cells #[.int .i64 yf, .int .i64 yl, .int .i64 ys] 25)) w' → ThreeIs w' w.heap.size (.int .i64 xf) (.int .i64 xl) (.int .i64 xs)) := Lib.hid (fun w' h => ((three_is w (.int .i64 xf) (.int .i64 xl) (.int .i64 xs) 25).on (one_new2 _ _)).on h)
  have HBY : Hid (∀ w', BX ((w.alloc (Obj.cells #[.int .i64 xf, .int .i64 xl, .int .i64 xs] 25)).alloc (Obj.cells #[.int .i64 yf, .int .i64 yl, .int .i64 ys] 25)) w' → ThreeIs w' (w.heap.size + 1) (.int .i64 yf) (.int .i64 yl) (.int .i64 ys)) := Lib.hid (fun w' h => by have := ((three_is (w.alloc (Obj.cells #[.int .i64 xf, .int .i64 xl, .int .i64 xs] 25)) (.int .i64 yf) (.int .i64 yl) (.int .i64 ys) 25).on h); simpa using this)
  have HQ : Hid (∀ w', BX ((w.alloc (Obj.cells #[.int .i64 xf, .int .i64 xl, .int .i64 xs] 25)).alloc (Obj.cells #[.int .i64 yf, .int .i64 yl, .int .i64 ys] 25)) w' → w'.cell? ⟨w.heap.size, 0, none⟩ = some (.int .i64 xf) ∧ w'.cell? ⟨w.heap.size, 1, none⟩ = some (.int .i64 xl) ∧ w'.cell? ⟨w.heap.size, 2, none⟩ = some (.int .i64 xs) ∧ w'.cell? ⟨w.heap.size + 1, 0, none⟩ = some (.int .i64 yf) ∧ w'.cell? ⟨w.heap.size + 1, 1, none⟩ = some (.int .i64 yl) ∧ w'.cell? ⟨w.heap.size + 1, 2, none⟩ = some (.int .i64 ys)) := Lib.hid (fun w' h => ⟨(HBX.out w' h).1, (HBX.out w' h).2.1, (HBX.out w' h).2.2.1, (HBY.out w' h).1, (HBY.out w' h).2.1, (HBY.out w' h).2.2.1⟩)
  have HE : Hid (∀ w', BX ((w.alloc (Obj.cells #[.int .i64 xf, .int .i64 xl, .int .i64 xs] 25)).alloc (Obj.cells #[.int .i64 yf, .int .i64 yl, .int .i64 ys] 25)) w' → Below w.heap.size w w') := Lib.hid (fun w' h => (two_new w _ _).trans (Below.mono h (by simp; omega)))
  have X0 := Lib.hid (BX.refl ((w.alloc (Obj.cells #[.int .i64 xf, .int .i64 xl, .int .i64 xs] 25)).alloc (Obj.cells #[.int .i64 yf, .int .i64 yl, .int .i64 ys] 25)))
  have X1 := Lib.hid (X0.out.alloc (Obj.cells #[.int .i64 xf, .int .i64 xl, .int .i64 xs] 25))
  have HRW := Lib.hid (HR.out ((w.alloc (Obj.cells #[.int .i64 xf, .int .i64 xl, .int .i64 xs] 25)).alloc (Obj.cells #[.int .i64 yf, .int .i64 yl, .int .i64 ys] 25)) (w.heap.size + 1 + 1) (by simp))
  have hlt2 : w.heap.size + 1 + 1 < (((w.alloc (Obj.cells #[.int .i64 xf, .int .i64 xl, .int .i64 xs] 25)).alloc (Obj.cells #[.int .i64 yf, .int .i64 yl, .int .i64 ys] 25)).alloc (Obj.cells #[.int .i64 xf, .int .i64 xl, .int .i64 xs] 25)).heap.size := by simp
  obtain ⟨c0, c1, c2, e0, e1, e2⟩ := HQ.out _ X1.out
  go_enter Try.func28, Try.ntmps28
  go_wp2_with (go_at_call 37; refine (HF.out _ _ HRW.out hlt2).mono ?_; rintro e w3 ⟨rfl, b⟩; have X3 := Lib.hid (X1.out.call b); clear b)
  go_ret2
  exact ⟨rfl, HE.out _ X3.out⟩
end Go.Proofs.Yteogadbjnmcblaa
