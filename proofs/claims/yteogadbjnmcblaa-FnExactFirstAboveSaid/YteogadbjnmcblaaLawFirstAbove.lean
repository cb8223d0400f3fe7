/- For every two curves, impl.FirstAbove answers as its model does and writes into no argument: the law FnExactFirstAbove returns true. No condition. -/
import Derived.Test.YteogadbjnmcblaaRows
import Derived.Test.YteogadbjnmcblaaCvn
import Derived.ProofKit
import Derived.OpenShut
import Derived.ShutString
import Derived.ChangeOld
import Derived.Carry
namespace Go.Proofs.Yteogadbjnmcblaa.fnExactFirstAbove
open Go.ChangeShapes Go.WideShapes Go.ChangeAt Go.RowKit
set_option linter.unusedVariables false

theorem own : ownKnob Try.prog.godebug = none := by kernel_rfl
theorem laidOut : laidOutB Try.prog = true := by kernel_rfl
set_option maxHeartbeats 12800000 in
theorem walk (a b : Cv) (w : World) :
    Calls Try.prog 10 #[cvV a, cvV b] w fun e w' => e = .returned (.bool true) ∧ Below w.heap.size w w' := by
  have HTA := Lib.hid (fun w => toCurve_any a w)
  have HTB := Lib.hid (fun w => toCurve_any b w)
  obtain ⟨r, k, hrk⟩ := faS_ex a b
  have HSP := Lib.hid (fun w => specFirstAbove_any a b w r k hrk)
  have HIM := Lib.hid (fun w => implFirstAbove_any a b w r k hrk)
  obtain ⟨xf, xl, xs⟩ := a
  obtain ⟨yf, yl, ys⟩ := b
  unfold cvV at HTA HTB HSP HIM ⊢
  simp only at HTA HTB HSP HIM ⊢
  have HBX : Hid (∀ w', BX ((w.alloc (Obj.cells #[.int .i64 xf, .int .i64 xl, .int .i64 xs] 23)).alloc (Obj.cells #[.int .i64 yf, .int .i64 yl, .int .i64 ys] 23)) w' → ThreeIs w' w.heap.size (.int .i64 xf) (.int .i64 xl) (.int .i64 xs)) := Lib.hid (fun w' h => ((three_is w (.int .i64 xf) (.int .i64 xl) (.int .i64 xs) 23).on (one_new2 _ _)).on h)
  have HBY : Hid (∀ w', BX ((w.alloc (Obj.cells #[.int .i64 xf, .int .i64 xl, .int .i64 xs] 23)).alloc (Obj.cells #[.int .i64 yf, .int .i64 yl, .int .i64 ys] 23)) w' → ThreeIs w' (w.heap.size + 1) (.int .i64 yf) (.int .i64 yl) (.int .i64 ys)) := Lib.hid (fun w' h => by have := ((three_is (w.alloc (Obj.cells #[.int .i64 xf, .int .i64 xl, .int .i64 xs] 23)) (.int .i64 yf) (.int .i64 yl) (.int .i64 ys) 23).on h); simpa using this)
  have HQ : Hid (∀ w', BX ((w.alloc (Obj.cells #[.int .i64 xf, .int .i64 xl, .int .i64 xs] 23)).alloc (Obj.cells #[.int .i64 yf, .int .i64 yl, .int .i64 ys] 23)) w' → w'.cell? ⟨w.heap.size, 0, none⟩ = some (.int .i64 xf) ∧ w'.cell? ⟨w.heap.size, 1, none⟩ = some (.int .i64 xl) ∧ w'.cell? ⟨w.heap.size, 2, none⟩ = some (.int .i64 xs) ∧ w'.cell? ⟨w.heap.size + 1, 0, none⟩ = some (.int .i64 yf) ∧ w'.cell? ⟨w.heap.size + 1, 1, none⟩ = some (.int .i64 yl) ∧ w'.cell? ⟨w.heap.size + 1, 2, none⟩ = some (.int .i64 ys)) := Lib.hid (fun w' h => ⟨(HBX.out w' h).1, (HBX.out w' h).2.1, (HBX.out w' h).2.2.1, (HBY.out w' h).1, (HBY.out w' h).2.1, (HBY.out w' h).2.2.1⟩)
  have HE : Hid (∀ w', BX ((w.alloc (Obj.cells #[.int .i64 xf, .int .i64 xl, .int .i64 xs] 23)).alloc (Obj.cells #[.int .i64 yf, .int .i64 yl, .int .i64 ys] 23)) w' → Below w.heap.size w w') := Lib.hid (fun w' h => (two_new w _ _).trans (Below.mono h (by simp; omega)))
  have X0 := Lib.hid (BX.refl ((w.alloc (Obj.cells #[.int .i64 xf, .int .i64 xl, .int .i64 xs] 23)).alloc (Obj.cells #[.int .i64 yf, .int .i64 yl, .int .i64 ys] 23)))
  have HQ2 : Hid (∀ w', BX ((w.alloc (Obj.cells #[.int .i64 xf, .int .i64 xl, .int .i64 xs] 23)).alloc (Obj.cells #[.int .i64 yf, .int .i64 yl, .int .i64 ys] 23)) w' → w'.cell? ⟨w.heap.size, 0, none⟩ = some (.int .i64 xf) ∧ w'.cell? ⟨w.heap.size, 1, none⟩ = some (.int .i64 xl) ∧ w'.cell? ⟨w.heap.size, 2, none⟩ = some (.int .i64 xs) ∧ w'.cell? ⟨w.heap.size + 1, 0, none⟩ = some (.int .i64 yf) ∧ w'.cell? ⟨w.heap.size + 1, 1, none⟩ = some (.int .i64 yl) ∧ w'.cell? ⟨w.heap.size + 1, 2, none⟩ = some (.int .i64 ys) ∧ BX ((w.alloc (Obj.cells #[.int .i64 xf, .int .i64 xl, .int .i64 xs] 23)).alloc (Obj.cells #[.int .i64 yf, .int .i64 yl, .int .i64 ys] 23)) w') := Lib.hid (fun w' h => by obtain ⟨c0, c1, c2, e0, e1, e2⟩ := HQ.out w' h; exact ⟨c0, c1, c2, e0, e1, e2, h⟩)
  go_enter Try.func10, Try.ntmps10
  go_wp2_with fail
  go_region_held3 (fun w' => w'.cell? ⟨w.heap.size, 0, none⟩ = some (.int .i64 xf) ∧ w'.cell? ⟨w.heap.size, 1, none⟩ = some (.int .i64 xl) ∧ w'.cell? ⟨w.heap.size, 2, none⟩ = some (.int .i64 xs) ∧ w'.cell? ⟨w.heap.size + 1, 0, none⟩ = some (.int .i64 yf) ∧ w'.cell? ⟨w.heap.size + 1, 1, none⟩ = some (.int .i64 yl) ∧ w'.cell? ⟨w.heap.size + 1, 2, none⟩ = some (.int .i64 ys) ∧ BX ((w.alloc (Obj.cells #[.int .i64 xf, .int .i64 xl, .int .i64 xs] 23)).alloc (Obj.cells #[.int .i64 yf, .int .i64 yl, .int .i64 ys] 23)) w')
    (first | (go_split_ands; refine HQ2.out _ ?_; repeat' (with_reducible first | exact BX.drew0 _ | exact BX.refl _ | assumption | refine BX.call' (by assumption) ?_ | refine BX.drew ?_)))
    (first | (go_at_call 14; (first | (with_reducible refine (HTA.out _).mono ?_) | (with_reducible refine (HTB.out _).mono ?_)); rintro e w3 ⟨rfl, b3⟩) | (go_at_call 29; go_split_ands; (with_reducible refine (HSP.out _).mono ?_); rintro e w4 ⟨rfl, b4⟩))
  all_goals
    go_split_ands
    go_wp2_with fail
    go_region_held3 (fun w' => w'.cell? ⟨w.heap.size, 0, none⟩ = some (.int .i64 xf) ∧ w'.cell? ⟨w.heap.size, 1, none⟩ = some (.int .i64 xl) ∧ w'.cell? ⟨w.heap.size, 2, none⟩ = some (.int .i64 xs) ∧ w'.cell? ⟨w.heap.size + 1, 0, none⟩ = some (.int .i64 yf) ∧ w'.cell? ⟨w.heap.size + 1, 1, none⟩ = some (.int .i64 yl) ∧ w'.cell? ⟨w.heap.size + 1, 2, none⟩ = some (.int .i64 ys) ∧ BX ((w.alloc (Obj.cells #[.int .i64 xf, .int .i64 xl, .int .i64 xs] 23)).alloc (Obj.cells #[.int .i64 yf, .int .i64 yl, .int .i64 ys] 23)) w')
      (first | (go_split_ands; refine HQ2.out _ ?_; repeat' (with_reducible first | exact BX.drew0 _ | exact BX.refl _ | assumption | refine BX.call' (by assumption) ?_ | refine BX.drew ?_)))
      (first | (go_at_call 14; (first | (with_reducible refine (HTA.out _).mono ?_) | (with_reducible refine (HTB.out _).mono ?_)); rintro e w5 ⟨rfl, b5⟩) | (go_at_call 30; go_split_ands; (with_reducible refine (HIM.out _).mono ?_); rintro e w6 ⟨rfl, b6⟩))
    all_goals
      go_split_ands
      go_wp2_with fail
      go_ret
      exact ⟨rfl, HE.out _ (by assumption)⟩

set_option maxRecDepth 100000 in
theorem lifted (os : Os) (started : os.Started) (H : Type) (enc : TypeId × Value → H) :
    ReturnsInHanded {} Try.checked os 10 .any (Rows.fnExactFirstAboveSpec.pre6 enc Try.prog Try.f10 Rows.fnExactFirstAboveRow.domain false) (Rows.fnExactFirstAboveSpec.post enc Try.prog Try.f10 false true false false) := by
  refine returnsInHanded_of_change (C := Try.checked) own started (by kernel_rfl) Try.func10
    (ChangeSpec.witness6 (enc := enc) (C := Try.checked) false ⟨#[], #[.agg #[.int .i64 0, .int .i64 0, .int .i64 0], .agg #[.int .i64 0, .int .i64 0, .int .i64 0]], []⟩ 8 (by kernel_rfl) (by kernel_rfl) (by kernel_rfl) (by kernel_rfl)) ?_
  intro W base args ds gs before hval0 hW hcnd _
  have hval : ∀ (j : Nat) t v, Try.f10.params[j]? = some t → args[j]? = some v → Value.okWide Try.prog W .any base t v := hval0
  have hW' := hW
  obtain ⟨p, q, hA0, hV, rfl, hfz, hnd⟩ := hW
  have hA : DataW.TrodAll enc Try.prog W 0 (fun _ => true) true Try.f10.params.toList args.toList ds p := hA0
  rw [Try.params10] at hA hval
  obtain ⟨v0, vs0, d0, ds0, p0, q0, hargs, rfl, rfl, h0, r0⟩ := trodAll_cons hA
  obtain ⟨v1, vs1, d1, ds1, p1, q1, rfl, rfl, rfl, h1, r1⟩ := trodAll_cons r0
  obtain ⟨rfl, rfl, rfl⟩ := trodAll_nil r1
  obtain rfl : args = #[v0, v1] := by cases args; simp_all
  obtain ⟨rfl, rfl⟩ := trodVars_none hV
  have k0 := h0
  have lt0 : ∀ x ∈ p0, x.block < W.heap.size := by obtain ⟨m, hm⟩ := k0; exact DataW.trod_lt m _ _ _ hm
  obtain ⟨x0, hx0⟩ := open_cv (hval 0 23 v0 rfl rfl) h0
  subst hx0
  have k1 := h1
  have lt1 : ∀ x ∈ p1, x.block < W.heap.size := by obtain ⟨m, hm⟩ := k1; exact DataW.trod_lt m _ _ _ hm
  obtain ⟨x1, hx1⟩ := open_cv (hval 1 23 v1 rfl rfl) h1
  subst hx1
  clear hA0 hval0
  refine (walk x0 x1 W).mono fun e W' ⟨he, bel⟩ => ?_
  subst he
  exact ⟨_, rfl, _, _, _, [], _, [], hW', trodAll_mk1 (shut_bool Try.underlying4 _), (trodAll_cons_mk (Below.trod laidOut (by kernel_rfl) (of_decide_eq_true (by kernel_rfl)) k0 bel lt0) (trodAll_cons_mk (Below.trod laidOut (by kernel_rfl) (of_decide_eq_true (by kernel_rfl)) k1 bel lt1) trodAll_mk0)), rfl, bel.frame _, fun h => by cases h⟩

theorem over : Rows.fnExactFirstAboveRow.holds Try.pinned (OpenSpec.ofChange Rows.fnExactFirstAboveSpec) :=
  OpenClaim.holds_of_wide 10 Try.f10 rfl rfl rfl rfl rfl rfl rfl ⟨rfl, rfl, rfl, rfl, rfl⟩ rfl rfl rfl rfl rfl (by kernel_rfl) Try.func10 (by kernel_rfl)
    (of_decide_eq_true (by kernel_rfl)) (by unfold Func.isWrapper; first | (rw [if_pos (by decide +kernel)]; kernel_rfl) | (rw [if_neg (by decide +kernel)]; exact ⟨rfl, rfl⟩))
    (fun os started H enc _ => lifted os started H enc)

theorem proved : Rows.FnExactFirstAboveSaid := over
end Go.Proofs.Yteogadbjnmcblaa.fnExactFirstAbove
