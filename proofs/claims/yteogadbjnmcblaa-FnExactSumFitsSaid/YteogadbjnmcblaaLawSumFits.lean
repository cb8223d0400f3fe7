/- For every slice of curves and curve, impl.SumFits answers as its model does and writes into no argument: the law FnExactSumFits returns true. No condition. -/
import Derived.Test.YteogadbjnmcblaaRows
import Derived.Test.YteogadbjnmcblaaCvk
import Derived.ProofKit
import Derived.OpenShut
import Derived.ShutString
import Derived.ChangeOld
import Derived.Carry
namespace Go.Proofs.Yteogadbjnmcblaa.fnExactSumFits
open Go.ChangeShapes Go.WideShapes Go.ChangeAt Go.RowKit
set_option linter.unusedVariables false

theorem own : ownKnob Try.prog.godebug = none := by kernel_rfl
theorem laidOut : laidOutB Try.prog = true := by kernel_rfl
set_option maxHeartbeats 12800000 in
theorem walk (ad : Option Addr) (n cap : Nat) (l : List Cv) (hm : n ≤ maxLen) (hn : l.length = n) (w : World) (hI : ArgX w ad n (cvCs l)) (c : Cv) :
    Calls Try.prog 12 #[.slice ad n cap, cvV c] w fun e w' => e = .returned (.bool true) ∧ Below w.heap.size w w' := by
  unfold maxLen at hm
  have HN := Lib.hid hn
  have HI := Lib.hid hI
  have HZ := Lib.hid (fun w => szCurveS_any ad n cap 1048576 w (by omega) (by omega) (by omega))
  clear hI
  by_cases h : (1048576 : Int) - (n : Int) < 0
  · rw [lessN_neg h] at HZ
    clear h
    obtain ⟨xf, xl, xs⟩ := c
    unfold cvV
    simp only
    go_enter Try.func12, Try.ntmps12
    go_wp2_with (go_at_call 31; refine (HZ.out _).mono ?_; rintro e w1 ⟨rfl, b⟩; have X1 := Lib.hid (box_three b).2; clear b)
    go_ret
    exact ⟨rfl, X1.out⟩
  · rw [lessN_pos h] at HZ
    have d := not_lt (Int.not_lt.1 h)
    have hn6 : n ≤ 1048576 := by omega
    have HTO := Lib.hid (fun w h => toCurveS_any ad n cap l w (Lib.hid (show ArgX w ad n (cvCs l) from h)) HN hn6)
    unfold SaysCvS at HTO
    rw [hn] at HTO
    have HTC := Lib.hid (fun w => toCurve_any c w)
    have HSP := Lib.hid (fun g c' w h h2 => specSumFits_any g n c' l c w (Lib.hid (show InX w (some ⟨g, 0, none⟩) n (cvCs l) from h)) h2 HN hn6)
    have HIM := Lib.hid (fun g c' w h h2 => implSumFits_any g n c' l c w (Lib.hid (show InX w (some ⟨g, 0, none⟩) n (cvCs l) from h)) h2 HN hn6)
    have HEQ := Lib.hid (fun a b ca cb w h h' => eqCurveS_any a b n ca cb l w (Lib.hid h) (Lib.hid h') HN hn6)
    generalize resSumFits1 l c = g0 at HSP HIM
    generalize resSumFits2 l c = g1 at HSP HIM
    clear h hn
    obtain ⟨xf, xl, xs⟩ := c
    unfold cvV at HTC HSP HIM ⊢
    simp only at HTC HSP HIM ⊢
    have HB3 := Lib.hid (fun w' (h : BX (w.alloc (Obj.cells #[.int .i64 xf, .int .i64 xl, .int .i64 xs] 23)) w') => ((three_is w (.int .i64 xf) (.int .i64 xl) (.int .i64 xs) 23).on h))
    have HE : Hid (∀ w', BX (w.alloc (Obj.cells #[.int .i64 xf, .int .i64 xl, .int .i64 xs] 23)) w' → Below w.heap.size w w') := Lib.hid (fun w' h => (one_new2 w _).trans (Below.mono h (by simp)))
    have HQ : Hid (∀ w', BX (w.alloc (Obj.cells #[.int .i64 xf, .int .i64 xl, .int .i64 xs] 23)) w' → w'.cell? ⟨w.heap.size, 0, none⟩ = some (.int .i64 xf) ∧ w'.cell? ⟨w.heap.size, 1, none⟩ = some (.int .i64 xl) ∧ w'.cell? ⟨w.heap.size, 2, none⟩ = some (.int .i64 xs) ∧ BX (w.alloc (Obj.cells #[.int .i64 xf, .int .i64 xl, .int .i64 xs] 23)) w') := Lib.hid (fun w' h => ⟨(HB3.out w' h).1, (HB3.out w' h).2.1, (HB3.out w' h).2.2.1, h⟩)
    have HA : Hid (∀ w', BX (w.alloc (Obj.cells #[.int .i64 xf, .int .i64 xl, .int .i64 xs] 23)) w' → ArgX w' ad n (cvCs l)) := Lib.hid (fun w' h => HI.out.below (HE.out w' h))
    have X0 := Lib.hid (BX.refl (w.alloc (Obj.cells #[.int .i64 xf, .int .i64 xl, .int .i64 xs] 23)))
    go_enter Try.func12, Try.ntmps12
    go_wp2_with (go_at_call 31; refine (HZ.out _).mono ?_; rintro e w1 ⟨rfl, b⟩; have X1 := X0.out.call b; clear b; refine Hid.out ?_)
    refine Lib.hid ?_
    go_wp2_with fail
    go_region_held3 (fun w' => w'.cell? ⟨w.heap.size, 0, none⟩ = some (.int .i64 xf) ∧ w'.cell? ⟨w.heap.size, 1, none⟩ = some (.int .i64 xl) ∧ w'.cell? ⟨w.heap.size, 2, none⟩ = some (.int .i64 xs) ∧ BX (w.alloc (Obj.cells #[.int .i64 xf, .int .i64 xl, .int .i64 xs] 23)) w')
      (first | (go_split_ands; refine HQ.out _ ?_; repeat' (with_reducible first | exact BX.drew0 _ | exact BX.refl _ | assumption | refine BX.call' (by assumption) ?_ | refine BX.drew ?_)))
      (first | (go_at_call 33; go_split_ands; (with_reducible refine (HTO.out _ (HA.out _ (by assumption))).mono ?_); rintro e w2 ⟨rfl, b2, o2⟩; have O2 : Hid (InX w2 (some ⟨w1.heap.size, 0, none⟩) n (cvCs l)) := Lib.hid (own_inx o2); have G2 : w1.heap.size < w2.heap.size := (World.ownsRow.lt o2 _ rfl).2; clear o2) | (go_at_call 14; (with_reducible refine (HTC.out _).mono ?_); rintro e w3 ⟨rfl, b3⟩; have O3 := Lib.hid (O2.out.below b3); have G3 := Nat.lt_of_lt_of_le G2 b3.size) | (go_at_call 36; (with_reducible refine (HSP.out _ _ _ O3.out G3).mono ?_); rintro e w4 ⟨rfl, b4⟩))
    all_goals
      go_split_ands
      have X4 : Hid (BX (w.alloc (Obj.cells #[.int .i64 xf, .int .i64 xl, .int .i64 xs] 23)) w4) := Lib.hid (by assumption)
      go_wp2_with (go_at_call 33; refine (HTO.out _ (HA.out _ X4.out)).mono ?_; rintro e w5 ⟨rfl, b, o⟩; have X5 := Lib.hid (X4.out.call b); have O5 := Lib.hid (own_inx o); have G5 := (World.ownsRow.lt o _ rfl).2; obtain ⟨y0, y1, y2, _⟩ := HQ.out _ X5.out; clear b o; refine Hid.out ?_)
      refine Lib.hid ?_
      go_wp2_with (go_at_call 14; refine (HTC.out _).mono ?_; rintro e w6 ⟨rfl, b⟩; have X6 := Lib.hid (X5.out.call b); have O6 := Lib.hid (O5.out.below b); have G6 := Nat.lt_of_lt_of_le G5 b.size; clear b; refine Hid.out ?_)
      refine Lib.hid ?_
      go_wp2_with (go_at_call 37; refine (HIM.out _ _ _ O6.out G6).mono ?_; rintro e w7 ⟨rfl, b⟩; have X7 := Lib.hid (X6.out.call b); have O7 := Lib.hid (O6.out.below b); clear b; refine Hid.out ?_)
      refine Lib.hid ?_
      go_wp2_with (go_at_call 33; refine (HTO.out _ (HA.out _ X7.out)).mono ?_; rintro e w8 ⟨rfl, b, o⟩; have X8 := Lib.hid (X7.out.call b); have O8 := Lib.hid (O7.out.below b); have P8 := Lib.hid (own_inx o); clear b o; refine Hid.out ?_)
      refine Lib.hid ?_
      go_wp2_with (go_at_call 35; refine (HEQ.out _ _ _ _ _ O8.out P8.out).mono ?_; rintro e w9 ⟨rfl, b⟩; have X9 := Lib.hid (X8.out.call b); clear b)
      go_ret
      exact ⟨rfl, HE.out _ X9.out⟩

set_option maxRecDepth 100000 in
theorem lifted (os : Os) (started : os.Started) (H : Type) (enc : TypeId × Value → H) :
    ReturnsInHanded {} Try.checked os 12 .any (Rows.fnExactSumFitsSpec.pre6 enc Try.prog Try.f12 Rows.fnExactSumFitsRow.domain false) (Rows.fnExactSumFitsSpec.post enc Try.prog Try.f12 false true false false) := by
  refine returnsInHanded_of_change (C := Try.checked) own started (by kernel_rfl) Try.func12
    (ChangeSpec.witness6 (enc := enc) (C := Try.checked) false ⟨#[], #[.slice none 0 0, .agg #[.int .i64 0, .int .i64 0, .int .i64 0]], []⟩ 8 (by kernel_rfl) (by kernel_rfl) (by kernel_rfl) (by kernel_rfl)) ?_
  intro W base args ds gs before hval0 hW hcnd _
  have hval : ∀ (j : Nat) t v, Try.f12.params[j]? = some t → args[j]? = some v → Value.okWide Try.prog W .any base t v := hval0
  have hW' := hW
  obtain ⟨p, q, hA0, hV, rfl, hfz, hnd⟩ := hW
  have hA : DataW.TrodAll enc Try.prog W 0 (fun _ => true) true Try.f12.params.toList args.toList ds p := hA0
  rw [Try.params12] at hA hval
  obtain ⟨v0, vs0, d0, ds0, p0, q0, hargs, rfl, rfl, h0, r0⟩ := trodAll_cons hA
  obtain ⟨v1, vs1, d1, ds1, p1, q1, rfl, rfl, rfl, h1, r1⟩ := trodAll_cons r0
  obtain ⟨rfl, rfl, rfl⟩ := trodAll_nil r1
  obtain rfl : args = #[v0, v1] := by cases args; simp_all
  obtain ⟨rfl, rfl⟩ := trodVars_none hV
  obtain ⟨a0, len0, cap0, rfl⟩ := okWide_slice Try.underlying39 (hval 0 39 v0 rfl rfl)
  have k0 := h0
  have lt0 : ∀ x ∈ p0, x.block < W.heap.size := by obtain ⟨m, hm⟩ := k0; exact DataW.trod_lt m _ _ _ hm
  obtain ⟨l0, hm0, hn0, hI0⟩ : ∃ l : List Cv, len0 ≤ maxLen ∧ l.length = len0 ∧ ArgX W a0 len0 (cvCs l) := by
    obtain ⟨fuel, hf⟩ := h0
    obtain ⟨a, len, cap, l, hcs, hm, hn, hI⟩ := open_cvs hf
    simp [Value.cells] at hcs
    obtain ⟨rfl, rfl, rfl⟩ := hcs
    exact ⟨l, hm, hn, hI⟩
  have k1 := h1
  have lt1 : ∀ x ∈ p1, x.block < W.heap.size := by obtain ⟨m, hm⟩ := k1; exact DataW.trod_lt m _ _ _ hm
  obtain ⟨x1, hx1⟩ := open_cv (hval 1 23 v1 rfl rfl) h1
  subst hx1
  clear hA0 hval0
  refine (walk a0 len0 cap0 l0 hm0 hn0 W hI0 x1).mono fun e W' ⟨he, bel⟩ => ?_
  subst he
  exact ⟨_, rfl, _, _, _, [], _, [], hW', trodAll_mk1 (shut_bool Try.underlying4 _), (trodAll_cons_mk (Below.trod laidOut (by kernel_rfl) (of_decide_eq_true (by kernel_rfl)) k0 bel lt0) (trodAll_cons_mk (Below.trod laidOut (by kernel_rfl) (of_decide_eq_true (by kernel_rfl)) k1 bel lt1) trodAll_mk0)), rfl, bel.frame _, fun h => by cases h⟩

theorem over : Rows.fnExactSumFitsRow.holds Try.pinned (OpenSpec.ofChange Rows.fnExactSumFitsSpec) :=
  OpenClaim.holds_of_wide 12 Try.f12 rfl rfl rfl rfl rfl rfl rfl ⟨rfl, rfl, rfl, rfl, rfl⟩ rfl rfl rfl rfl rfl (by kernel_rfl) Try.func12 (by kernel_rfl)
    (of_decide_eq_true (by kernel_rfl)) (by unfold Func.isWrapper; first | (rw [if_pos (by decide +kernel)]; kernel_rfl) | (rw [if_neg (by decide +kernel)]; exact ⟨rfl, rfl⟩))
    (fun os started H enc _ => lifted os started H enc)

theorem proved : Rows.FnExactSumFitsSaid := over
end Go.Proofs.Yteogadbjnmcblaa.fnExactSumFits
