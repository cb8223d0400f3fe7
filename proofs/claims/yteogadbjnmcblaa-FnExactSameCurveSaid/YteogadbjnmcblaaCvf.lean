/- Curves: short forms: contracts of both sides. -/
import Derived.Test.YteogadbjnmcblaaCvd
namespace Go.Proofs.Yteogadbjnmcblaa
open Go.RowKit
set_option linter.unusedVariables false

theorem shortV_0 {c : Cv} (h : shp c = 0) : shortV c = ⟨0, 0, c.s⟩ := if_pos h
theorem shortV_n {c : Cv} (h : shp c ≠ 0) : shortV c = c := if_neg h
/-- the cells of a result that is a curve are there -/
def Three (w1 : World) (b : Nat) : Prop := (w1.cell? ⟨b, 0, none⟩).isSome = true ∧ (w1.cell? ⟨b, 1, none⟩).isSome = true ∧ (w1.cell? ⟨b, 2, none⟩).isSome = true
theorem read3 {w1 : World} {b : Nat} (h : Three w1 b) (v0 v1 v2 : Value) (W : World) (hW : W = ((w1.setCell ⟨b, 0, none⟩ v0).setCell ⟨b, 1, none⟩ v1).setCell ⟨b, 2, none⟩ v2) :
    W.cell? ⟨b, 0, none⟩ = some v0 ∧ W.cell? ⟨b, 1, none⟩ = some v1 ∧ W.cell? ⟨b, 2, none⟩ = some v2 := by
  obtain ⟨h0, h1, h2⟩ := h
  subst hW
  refine ⟨?_, ?_, ?_⟩ <;> simp [go_sem, World.cell?_setCell_other, World.cell?_setCell_same', h0, h1, h2]
theorem set3 {n : Nat} {w w1 : World} (h : Below n w w1) (b : Nat) (hb : n ≤ b) (v0 v1 v2 : Value) : Below n w (((w1.setCell ⟨b, 0, none⟩ v0).setCell ⟨b, 1, none⟩ v1).setCell ⟨b, 2, none⟩ v2) :=
  ((h.setCell hb _).setCell hb _).setCell hb _
set_option maxHeartbeats 1600000 in
theorem cuShort_any (c : Cv) (w : World) (h : CvOk c) : Calls Try.prog 50 #[cvV c] w (SaysV w (cvV (shortV c))) := by
  have HS := Lib.hid (fun w => cuShape_any c w h)
  by_cases hs : shp c = 0
  · rw [shortV_0 hs]
    rw [hs] at HS
    clear hs h
    obtain ⟨xf, xl, xs⟩ := c
    unfold cvV at HS ⊢
    simp only at HS ⊢
    go_enter Try.func50, Try.ntmps50
    go_wp2_with (go_at_call 48; refine (HS.out _).mono ?_; rintro e w1 ⟨rfl, b1⟩; have B1 := Lib.hid (two_below b1); have hz1 := two_size b1; obtain ⟨hc1, hf1⟩ := bcell b1; clear b1)
    have F1 : Three w1 (w.heap.size + 1) := by
      refine ⟨?_, ?_, ?_⟩ <;> rw [hc1 _ _ (by simp)] <;> simp [go_sem]
    obtain ⟨r0, r1, r2⟩ := read3 F1 (.int .i64 0) (.int .i64 0) (.int .i64 xs) _ rfl
    exact bodyPost_ret (v := .agg #[.int .i64 0, .int .i64 0, .int .i64 xs]) (by simp [results, Try.results50, go_sem, r0, r1, r2]) rfl ⟨rfl, set3 B1.out _ (Nat.le_succ _) _ _ _⟩
  · rw [shortV_n hs]
    have d : (shp c == 0) = false := by simpa using hs
    generalize shp c = S at HS d
    clear hs h
    obtain ⟨xf, xl, xs⟩ := c
    unfold cvV at HS ⊢
    simp only at HS ⊢
    go_enter Try.func50, Try.ntmps50
    go_wp2_with (go_at_call 48; refine (HS.out _).mono ?_; rintro e w1 ⟨rfl, b1⟩; have B1 := Lib.hid (two_below b1); have hz1 := two_size b1; obtain ⟨hc1, hf1⟩ := bcell b1; clear b1)
    have F1 : Three w1 (w.heap.size + 1) := by
      refine ⟨?_, ?_, ?_⟩ <;> rw [hc1 _ _ (by simp)] <;> simp [go_sem]
    obtain ⟨r0, r1, r2⟩ := read3 F1 (.int .i64 xf) (.int .i64 xl) (.int .i64 xs) _ rfl
    exact bodyPost_ret (v := .agg #[.int .i64 xf, .int .i64 xl, .int .i64 xs]) (by simp [results, Try.results50, go_sem, r0, r1, r2]) rfl ⟨rfl, set3 B1.out _ (Nat.le_succ _) _ _ _⟩
set_option maxHeartbeats 3200000 in
theorem specShortCurve_any (c : Cv) (w : World) : Calls Try.prog 24 #[cvV c] w (SaysT2 w (cvV (resShortCurve1 c)) (.bool (goodV c))) := by
  have HG := Lib.hid (fun w => cuGood_any c w)
  cases hg : goodV c
  · rw [hg] at HG
    rw [sc_no hg]
    clear hg
    obtain ⟨xf, xl, xs⟩ := c
    unfold cvV at HG ⊢
    unfold cv0
    simp only at HG ⊢
    go_enter Try.func24, Try.ntmps24
    go_wp2_with (go_at_call 38; refine (HG.out _).mono ?_; rintro e w1 ⟨rfl, b1⟩; have B1 := Lib.hid (two_below b1); have hz1 := two_size b1; obtain ⟨hc1, hf1⟩ := bcell b1; clear b1)
    have F1 : Three w1 (w.heap.size + 1) := by
      refine ⟨?_, ?_, ?_⟩ <;> rw [hc1 _ _ (by simp)] <;> simp [go_sem]
    obtain ⟨r0, r1, r2⟩ := read3 F1 (.int .i64 0) (.int .i64 0) (.int .i64 0) _ rfl
    exact bodyPost_ret (v := .tuple #[.agg #[.int .i64 0, .int .i64 0, .int .i64 0], .bool false]) (by simp [results, Try.results24, go_sem, r0, r1, r2]) rfl ⟨rfl, set3 B1.out _ (Nat.le_succ _) _ _ _⟩
  · have HS := Lib.hid (fun w => cuShort_any c w (cvok hg))
    rw [hg] at HG
    rw [sc_yes hg]
    generalize shortV c = r at HS ⊢
    clear hg
    obtain ⟨xf, xl, xs⟩ := c
    obtain ⟨rf, rl, rs⟩ := r
    unfold cvV at HG HS ⊢
    simp only at HG HS ⊢
    go_enter Try.func24, Try.ntmps24
    go_wp2_with (go_at_call 38; refine (HG.out _).mono ?_; rintro e w1 ⟨rfl, b1⟩; have B1 := Lib.hid (two_below b1); have hz1 := two_size b1; obtain ⟨hc1, hf1⟩ := bcell b1; clear b1; refine Hid.out ?_)
    refine Lib.hid ?_
    have F1 : Three w1 (w.heap.size + 1) := by
      refine ⟨?_, ?_, ?_⟩ <;> rw [hc1 _ _ (by simp)] <;> simp [go_sem]
    have hz0 : w.heap.size + 1 < w1.heap.size := hz1
    go_wp2_with (go_at_call 50; refine (HS.out _).mono ?_; rintro e w2 ⟨rfl, b2⟩; have B2 := Lib.hid (B1.out.trans (b2.mono B1.out.size)); have hz2 : w.heap.size + 1 < w2.heap.size := Nat.lt_of_lt_of_le hz0 b2.size; obtain ⟨hc2, hf2⟩ := bcell b2; clear b2)
    have F2 : Three w2 (w.heap.size + 1) := ⟨by rw [hc2 _ _ hz0]; exact F1.1, by rw [hc2 _ _ hz0]; exact F1.2.1, by rw [hc2 _ _ hz0]; exact F1.2.2⟩
    obtain ⟨r0, r1, r2⟩ := read3 F2 (.int .i64 rf) (.int .i64 rl) (.int .i64 rs) _ rfl
    exact bodyPost_ret (v := .tuple #[.agg #[.int .i64 rf, .int .i64 rl, .int .i64 rs], .bool true]) (by simp [results, Try.results24, go_sem, r0, r1, r2]) rfl ⟨rfl, set3 B2.out _ (Nat.le_succ _) _ _ _⟩
set_option maxHeartbeats 3200000 in
theorem implShortCurve_any (c : Cv) (w : World) : Calls Try.prog 25 #[cvV c] w (SaysT2 w (cvV (resShortCurve1 c)) (.bool (goodV c))) := by
  have HG := Lib.hid (fun w => implCurveShape_any c w)
  cases hg : goodV c
  · rw [hg, cs_no hg] at HG
    rw [sc_no hg]
    clear hg
    obtain ⟨xf, xl, xs⟩ := c
    unfold cvV at HG ⊢
    unfold cv0
    simp only at HG ⊢
    go_enter Try.func25, Try.ntmps25
    go_wp2_with (go_at_call 21; refine (HG.out _).mono ?_; rintro e w1 ⟨rfl, b1⟩; have B1 := Lib.hid (two_below b1); have hz1 := two_size b1; obtain ⟨hc1, hf1⟩ := bcell b1; clear b1)
    have F1 : Three w1 (w.heap.size + 1) := by
      refine ⟨?_, ?_, ?_⟩ <;> rw [hc1 _ _ (by simp)] <;> simp [go_sem]
    obtain ⟨r0, r1, r2⟩ := read3 F1 (.int .i64 0) (.int .i64 0) (.int .i64 0) _ rfl
    exact bodyPost_ret (v := .tuple #[.agg #[.int .i64 0, .int .i64 0, .int .i64 0], .bool false]) (by simp [results, Try.results25, go_sem, r0, r1, r2]) rfl ⟨rfl, set3 B1.out _ (Nat.le_succ _) _ _ _⟩
  · rw [hg, cs_yes hg] at HG
    rw [sc_yes hg]
    by_cases hs : shp c = 0
    · rw [shortV_0 hs]
      rw [hs] at HG
      clear hs hg
      obtain ⟨xf, xl, xs⟩ := c
      unfold cvV at HG ⊢
      simp only at HG ⊢
      go_enter Try.func25, Try.ntmps25
      go_wp2_with (go_at_call 21; refine (HG.out _).mono ?_; rintro e w1 ⟨rfl, b1⟩; have B1 := Lib.hid (two_below b1); have hz1 := two_size b1; obtain ⟨hc1, hf1⟩ := bcell b1; clear b1)
      have F1 : Three w1 (w.heap.size + 1) := by
        refine ⟨?_, ?_, ?_⟩ <;> rw [hc1 _ _ (by simp)] <;> simp [go_sem]
      obtain ⟨r0, r1, r2⟩ := read3 F1 (.int .i64 0) (.int .i64 0) (.int .i64 xs) _ rfl
      exact bodyPost_ret (v := .tuple #[.agg #[.int .i64 0, .int .i64 0, .int .i64 xs], .bool true]) (by simp [results, Try.results25, go_sem, r0, r1, r2]) rfl ⟨rfl, set3 B1.out _ (Nat.le_succ _) _ _ _⟩
    · rw [shortV_n hs]
      have d : (shp c == 0) = false := by simpa using hs
      generalize shp c = S at HG d
      clear hs hg
      obtain ⟨xf, xl, xs⟩ := c
      unfold cvV at HG ⊢
      simp only at HG ⊢
      go_enter Try.func25, Try.ntmps25
      go_wp2_with (go_at_call 21; refine (HG.out _).mono ?_; rintro e w1 ⟨rfl, b1⟩; have B1 := Lib.hid (two_below b1); have hz1 := two_size b1; obtain ⟨hc1, hf1⟩ := bcell b1; clear b1)
      have F1 : Three w1 (w.heap.size + 1) := by
        refine ⟨?_, ?_, ?_⟩ <;> rw [hc1 _ _ (by simp)] <;> simp [go_sem]
      obtain ⟨r0, r1, r2⟩ := read3 F1 (.int .i64 xf) (.int .i64 xl) (.int .i64 xs) _ rfl
      exact bodyPost_ret (v := .tuple #[.agg #[.int .i64 xf, .int .i64 xl, .int .i64 xs], .bool true]) (by simp [results, Try.results25, go_sem, r0, r1, r2]) rfl ⟨rfl, set3 B1.out _ (Nat.le_succ _) _ _ _⟩
end Go.Proofs.Yteogadbjnmcblaa
