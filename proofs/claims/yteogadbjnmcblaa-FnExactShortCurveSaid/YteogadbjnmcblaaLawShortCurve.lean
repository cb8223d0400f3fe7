/- For every curve, impl.ShortCurve answers as its model does and writes into no argument: the law FnExactShortCurve returns true. No condition. -/
import Derived.Test.YteogadbjnmcblaaRows
import Derived.Test.YteogadbjnmcblaaCvf
import Derived.ProofKit
import Derived.OpenShut
import Derived.ShutString
import Derived.ChangeOld
import Derived.Carry
namespace Go.Proofs.Yteogadbjnmcblaa.fnExactShortCurve
open Go.ChangeShapes Go.WideShapes Go.ChangeAt Go.RowKit
set_option linter.unusedVariables false

theorem own : ownKnob Try.prog.godebug = none := by kernel_rfl
theorem laidOut : laidOutB Try.prog = true := by kernel_rfl
set_option maxHeartbeats 1600000 in
theorem walk (c : Cv) (w : World) :
    Calls Try.prog 8 #[cvV c] w fun e w' => e = .returned (.bool true) ∧ Below w.heap.size w w' := by
  have HTO := Lib.hid (fun w => toCurve_any c w)
  have HSP := Lib.hid (fun w => specShortCurve_any c w)
  have HIM := Lib.hid (fun w => implShortCurve_any c w)
  generalize resShortCurve1 c = r at HSP HIM
  generalize goodV c = g at HSP HIM
  have HEQ := Lib.hid (fun w => eqCurve_same r w)
  obtain ⟨xf, xl, xs⟩ := c
  obtain ⟨rf, rl, rs⟩ := r
  unfold cvV at HTO HSP HIM HEQ ⊢
  simp only at HTO HSP HIM HEQ ⊢
  have HQ := Lib.hid (fun w' (h : BX (w.alloc (Obj.cells #[.int .i64 xf, .int .i64 xl, .int .i64 xs] 23)) w') => ((three_is w (.int .i64 xf) (.int .i64 xl) (.int .i64 xs) 23).on h))
  have HE : Hid (∀ w', BX (w.alloc (Obj.cells #[.int .i64 xf, .int .i64 xl, .int .i64 xs] 23)) w' → Below w.heap.size w w') := Lib.hid (fun w' h => (one_new2 w _).trans (Below.mono h (by simp)))
  have X0 := Lib.hid (BX.refl (w.alloc (Obj.cells #[.int .i64 xf, .int .i64 xl, .int .i64 xs] 23)))
  go_enter Try.func8, Try.ntmps8
  go_wp2_with (go_at_call 14; refine (HTO.out _).mono ?_; rintro e w1 ⟨rfl, b⟩; have X1 := Lib.hid (X0.out.call b); clear b; refine Hid.out ?_)
  refine Lib.hid ?_
  go_wp2_with (go_at_call 24; refine (HSP.out _).mono ?_; rintro e w2 ⟨rfl, b⟩; have X2 := Lib.hid ((X1.out.call b).alloc (Obj.cells #[.int .i64 rf, .int .i64 rl, .int .i64 rs] 25)); obtain ⟨c0, c1, c2, cl⟩ := HQ.out _ X2.out; clear b; refine Hid.out ?_)
  refine Lib.hid ?_
  have R2 := Lib.hid (three_is w2 (.int .i64 rf) (.int .i64 rl) (.int .i64 rs) 25)
  go_wp2_with (go_at_call 14; refine (HTO.out _).mono ?_; rintro e w3 ⟨rfl, b⟩; have X3 := Lib.hid (X2.out.call b); have R3 := Lib.hid (R2.out.on b); clear b; refine Hid.out ?_)
  refine Lib.hid ?_
  go_wp2_with (go_at_call 25; refine (HIM.out _).mono ?_; rintro e w4 ⟨rfl, b⟩; have X4 := Lib.hid ((X3.out.call b).alloc (Obj.cells #[.int .i64 rf, .int .i64 rl, .int .i64 rs] 25)); obtain ⟨d0, d1, d2, dl⟩ := (R3.out.on b).on (one_new2 w4 (Obj.cells #[.int .i64 rf, .int .i64 rl, .int .i64 rs] 25)); clear b; refine Hid.out ?_)
  refine Lib.hid ?_
  go_wp2_with (go_at_call 26; refine (HEQ.out _).mono ?_; rintro e w5 ⟨rfl, b⟩; have X5 := Lib.hid (X4.out.call b); clear b)
  go_ret
  exact ⟨rfl, HE.out _ X5.out⟩

set_option maxRecDepth 100000 in
theorem lifted (os : Os) (started : os.Started) (H : Type) (enc : TypeId × Value → H) :
    ReturnsInHanded {} Try.checked os 8 .any (Rows.fnExactShortCurveSpec.pre6 enc Try.prog Try.f8 Rows.fnExactShortCurveRow.domain false) (Rows.fnExactShortCurveSpec.post enc Try.prog Try.f8 false true false false) := by
  refine returnsInHanded_of_change (C := Try.checked) own started (by kernel_rfl) Try.func8
    (ChangeSpec.witness6 (enc := enc) (C := Try.checked) false ⟨#[], #[.agg #[.int .i64 0, .int .i64 0, .int .i64 0]], []⟩ 8 (by kernel_rfl) (by kernel_rfl) (by kernel_rfl) (by kernel_rfl)) ?_
  intro W base args ds gs before hval0 hW hcnd _
  have hval : ∀ (j : Nat) t v, Try.f8.params[j]? = some t → args[j]? = some v → Value.okWide Try.prog W .any base t v := hval0
  have hW' := hW
  obtain ⟨p, q, hA0, hV, rfl, hfz, hnd⟩ := hW
  have hA : DataW.TrodAll enc Try.prog W 0 (fun _ => true) true Try.f8.params.toList args.toList ds p := hA0
  rw [Try.params8] at hA hval
  obtain ⟨v0, vs0, d0, ds0, p0, q0, hargs, rfl, rfl, h0, r0⟩ := trodAll_cons hA
  obtain ⟨rfl, rfl, rfl⟩ := trodAll_nil r0
  obtain rfl : args = #[v0] := by cases args; simp_all
  obtain ⟨rfl, rfl⟩ := trodVars_none hV
  have k0 := h0
  have lt0 : ∀ x ∈ p0, x.block < W.heap.size := by obtain ⟨m, hm⟩ := k0; exact DataW.trod_lt m _ _ _ hm
  obtain ⟨x0, hx0⟩ := open_cv (hval 0 23 v0 rfl rfl) h0
  subst hx0
  clear hA0 hval0
  refine (walk x0 W).mono fun e W' ⟨he, bel⟩ => ?_
  subst he
  exact ⟨_, rfl, _, _, _, [], _, [], hW', trodAll_mk1 (shut_bool Try.underlying4 _), (trodAll_cons_mk (Below.trod laidOut (by kernel_rfl) (of_decide_eq_true (by kernel_rfl)) k0 bel lt0) trodAll_mk0), rfl, bel.frame _, fun h => by cases h⟩

theorem over : Rows.fnExactShortCurveRow.holds Try.pinned (OpenSpec.ofChange Rows.fnExactShortCurveSpec) :=
  OpenClaim.holds_of_wide 8 Try.f8 rfl rfl rfl rfl rfl rfl rfl ⟨rfl, rfl, rfl, rfl, rfl⟩ rfl rfl rfl rfl rfl (by kernel_rfl) Try.func8 (by kernel_rfl)
    (of_decide_eq_true (by kernel_rfl)) (by unfold Func.isWrapper; first | (rw [if_pos (by decide +kernel)]; kernel_rfl) | (rw [if_neg (by decide +kernel)]; exact ⟨rfl, rfl⟩))
    (fun os started H enc _ => lifted os started H enc)

theorem proved : Rows.FnExactShortCurveSaid := over
end Go.Proofs.Yteogadbjnmcblaa.fnExactShortCurve
