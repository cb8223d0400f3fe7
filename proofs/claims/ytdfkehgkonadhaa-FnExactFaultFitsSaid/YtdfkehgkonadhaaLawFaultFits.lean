/- For every fault and text, impl.FaultFits answers as its model does and writes into no argument: the law FnExactFaultFits returns true. No condition. -/
import Derived.Test.YtdfkehgkonadhaaRows
import Derived.Test.YtdfkehgkonadhaaFac
import Derived.ProofKit
import Derived.OpenShut
import Derived.ShutString
import Derived.ChangeOld
import Derived.ChangeVars
import Derived.Carry
namespace Go.Proofs.Ytdfkehgkonadhaa.fnExactFaultFits
open Go.ChangeShapes Go.WideShapes Go.ChangeAt Go.RowKit
set_option linter.unusedVariables false

theorem own : ownKnob Try.prog.godebug = none := by kernel_rfl
theorem laidOut : laidOutB Try.prog = true := by kernel_rfl
set_option maxHeartbeats 1600000 in
theorem walk (x : Fa) (s : ByteArray) (w0 : s.size ≤ maxLen) (w : World) :
    Calls Try.prog 4 #[faV x, .string s] w fun e w' => e = .returned (.bool true) ∧ Below w.heap.size w w' := by
  unfold maxLen at w0
  have HTO := Lib.hid (fun w => toFault_any x w)
  have HSP := Lib.hid (fun w => specFaultFits_any x s w)
  have HIM := Lib.hid (fun w => implFaultFits_any x s w)
  generalize resFits1 x s = g1 at HSP HIM
  generalize resFits2 x s = g2 at HSP HIM
  obtain ⟨xk, xa⟩ := x
  unfold faV at HTO HSP HIM ⊢
  simp only at HTO HSP HIM ⊢
  have HQ := Lib.hid (fun w' (h : BX (w.alloc (Obj.cells #[.int .i64 xk, .int .i64 xa] 23)) w') => ((two_is w (.int .i64 xk) (.int .i64 xa) 23).on h))
  have HE : Hid (∀ w', BX (w.alloc (Obj.cells #[.int .i64 xk, .int .i64 xa] 23)) w' → Below w.heap.size w w') := Lib.hid (fun w' h => (one_new2 w _).trans (Below.mono h (by simp)))
  have X0 := Lib.hid (BX.refl (w.alloc (Obj.cells #[.int .i64 xk, .int .i64 xa] 23)))
  by_cases h : (1048576 : Int) < s.size
  · have d := is_lt h
    go_enter Try.func4, Try.ntmps4
    go_wp2
    go_ret
    exact ⟨rfl, HE.out _ X0.out⟩
  have d := not_lt (Int.not_lt.1 h)
  clear h
  go_enter Try.func4, Try.ntmps4
  go_wp2_with (go_at_call 8; refine (HTO.out _).mono ?_; rintro e w1 ⟨rfl, b⟩; have X1 := Lib.hid (X0.out.call b); clear b; refine Hid.out ?_)
  refine Lib.hid ?_
  go_wp2_with (go_at_call 10; refine (HSP.out _).mono ?_; rintro e w2 ⟨rfl, b⟩; have X2 := Lib.hid (X1.out.call b); obtain ⟨c0, c1, cl⟩ := HQ.out _ X2.out; clear b; refine Hid.out ?_)
  refine Lib.hid ?_
  go_wp2_with (go_at_call 8; refine (HTO.out _).mono ?_; rintro e w3 ⟨rfl, b⟩; have X3 := Lib.hid (X2.out.call b); clear b; refine Hid.out ?_)
  refine Lib.hid ?_
  go_wp2_with (go_at_call 11; refine (HIM.out _).mono ?_; rintro e w4 ⟨rfl, b⟩; have X4 := Lib.hid (X3.out.call b); clear b)
  go_ret
  exact ⟨rfl, HE.out _ X4.out⟩

set_option maxRecDepth 100000 in
theorem lifted (os : Os) (started : os.Started) (H : Type) (enc : TypeId × Value → H) :
    ReturnsInHanded {} Try.checked os 4 .any (Rows.fnExactFaultFitsSpec.pre6 enc Try.prog Try.f4 Rows.fnExactFaultFitsRow.domain false) (Rows.fnExactFaultFitsSpec.post enc Try.prog Try.f4 false true false false) := by
  refine returnsInHanded_of_change (C := Try.checked) own started (by kernel_rfl) Try.func4
    (ChangeSpec.witness6 (enc := enc) (C := Try.checked) false ⟨#[], #[.agg #[.int .i64 0, .int .i64 0], .string ByteArray.empty], []⟩ 8 (by kernel_rfl) (by kernel_rfl) (by kernel_rfl) (by kernel_rfl)) ?_
  intro W base args ds gs before hval0 hW hcnd _
  have hval : ∀ (j : Nat) t v, Try.f4.params[j]? = some t → args[j]? = some v → Value.okWide Try.prog W .any base t v := hval0
  have hW' := hW
  obtain ⟨p, q, hA0, hV, rfl, hfz, hnd⟩ := hW
  have hA : DataW.TrodAll enc Try.prog W 0 (fun _ => true) true Try.f4.params.toList args.toList ds p := hA0
  rw [Try.params4] at hA hval
  obtain ⟨v0, vs0, d0, ds0, p0, q0, hargs, rfl, rfl, h0, r0⟩ := trodAll_cons hA
  obtain ⟨v1, vs1, d1, ds1, p1, q1, rfl, rfl, rfl, h1, r1⟩ := trodAll_cons r0
  obtain ⟨rfl, rfl, rfl⟩ := trodAll_nil r1
  obtain rfl : args = #[v0, v1] := by cases args; simp_all
  have k0 := h0
  have lt0 : ∀ x ∈ p0, x.block < W.heap.size := by obtain ⟨m, hm⟩ := k0; exact DataW.trod_lt m _ _ _ hm
  obtain ⟨x0, hx0⟩ := open_fa (hval 0 23 v0 rfl rfl) h0
  subst hx0
  have k1 := h1
  have lt1 : ∀ x ∈ p1, x.block < W.heap.size := by obtain ⟨m, hm⟩ := k1; exact DataW.trod_lt m _ _ _ hm
  obtain ⟨s1, hs1, _, _, w1⟩ := Go.ChangeMaps.open_string Try.underlying9 (hval 1 9 v1 rfl rfl) h1
  subst hs1
  obtain ⟨rfl, rfl⟩ := trodVars_none hV
  clear hA0 hval0
  refine (walk x0 s1 w1 W).mono fun e W' ⟨he, bel⟩ => ?_
  subst he
  exact ⟨_, rfl, _, _, _, [], _, [], hW', trodAll_mk1 (shut_bool Try.underlying4 _), (trodAll_cons_mk (Below.trod laidOut (by kernel_rfl) (of_decide_eq_true (by kernel_rfl)) k0 bel lt0) (trodAll_cons_mk (Below.trod laidOut (by kernel_rfl) (of_decide_eq_true (by kernel_rfl)) k1 bel lt1) trodAll_mk0)), rfl, bel.frame _, fun h => by cases h⟩

theorem over : Rows.fnExactFaultFitsRow.holds Try.pinned (OpenSpec.ofChange Rows.fnExactFaultFitsSpec) :=
  OpenClaim.holds_of_wide 4 Try.f4 rfl rfl rfl rfl rfl rfl rfl ⟨rfl, rfl, rfl, rfl, rfl⟩ rfl rfl rfl rfl rfl (by kernel_rfl) Try.func4 (by kernel_rfl)
    (of_decide_eq_true (by kernel_rfl)) (by unfold Func.isWrapper; first | (rw [if_pos (by decide +kernel)]; kernel_rfl) | (rw [if_neg (by decide +kernel)]; exact ⟨rfl, rfl⟩))
    (fun os started H enc _ => lifted os started H enc)

theorem proved : Rows.FnExactFaultFitsSaid := over
end Go.Proofs.Ytdfkehgkonadhaa.fnExactFaultFits
