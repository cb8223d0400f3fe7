/- For every slice of integers, impl.AddValues answers as its model does and leaves its argument as it was: the law FnExactAddValues returns true. No condition. -/
import Derived.Test.YtelkpdkpnaeggaaRows
import Derived.Test.YtelkpdkpnaeggaaAdd
import Derived.ProofKit
import Derived.OpenShut
import Derived.ShutString
import Derived.ChangeOld
namespace Go.Proofs.Ytelkpdkpnaeggaa.fnExactAddValues
open Go.ChangeShapes Go.WideShapes Go.ChangeAt Go.RowKit
open Go.ChangeMaps (open_string shut_string)
set_option linter.unusedVariables false

theorem walk (a0 : Option Addr) (len0 cap0 : Nat) (z0 : List Int) (w : World) (w0 : IsRow .i64 w a0 len0 cap0 z0) :
    Calls Try.prog 4 #[.slice a0 len0 cap0] w fun e w' => e = .returned (.bool true) ∧ Below w.heap.size w w' := by
  obtain ⟨hm, ys, HL, HI⟩ := w0.viewI
  unfold maxLen at hm
  by_cases h : (1048576 : Int) < len0
  · have d := is_lt h
    go_enter Try.func4, Try.ntmps4
    go_wp2
    go_ret
    exact ⟨rfl, Below.refl _ _⟩
  · have d := not_lt (Int.not_lt.1 h)
    have hs : len0 ≤ 1048576 := by omega
    clear h w0
    obtain ⟨r, ok, HImpl, HSpec⟩ := add_both len0 ys HL
    have HG := Lib.hid HI.out.range
    go_enter Try.func4, Try.ntmps4
    go_wp2_with (go_at_call 23; refine (toIntS_any _ _ _ _ _ HL HI hs).mono ?_; rintro e v1 ⟨rfl, o1, b1⟩; have O1 := Lib.hid o1; have B1 := Lib.hid b1; have R1 := Lib.hid (o1.row HG.out); clear o1 b1)
    go_wp2_with (go_at_call 22; refine (HSpec.out _ _ _ _ R1).mono ?_; rintro e v2 ⟨rfl, rfl⟩)
    have I1 := Lib.hid (HI.out.below B1.out)
    go_wp2_with (go_at_call 23; refine (toIntS_any _ _ _ _ _ HL I1 hs).mono ?_; rintro e v2 ⟨rfl, o1, b1⟩; have O2 := Lib.hid o1; have B2 := Lib.hid b1; have R2 := Lib.hid (o1.row HG.out); clear o1 b1)
    go_wp2_with (go_at_call 24; refine (HImpl.out _ _ _ _ R2).mono ?_; rintro e v3 ⟨rfl, rfl⟩)
    have I2 := Lib.hid (I1.out.below B2.out)
    go_wp2_with (go_at_call 23; refine (toIntS_any _ _ _ _ _ HL I2 hs).mono ?_; rintro e v3 ⟨rfl, o1, b1⟩; have O3 := Lib.hid o1; have B3 := Lib.hid b1; have R3 := Lib.hid (o1.row HG.out); have R2' := Lib.hid (R2.out.below b1 O2.out.lt.2); clear o1 b1)
    go_wp2_with (go_at_call 25; refine (eqIntS_same _ _ _ _ _ _ _ _ _ HL R2' R3 hs).mono ?_; rintro e v4 ⟨rfl, q4⟩; have Q4 := Lib.hid q4; clear q4)
    go_ret
    exact ⟨rfl, ((B1.out.trans (B2.out.mono B1.out.size)).trans (B3.out.mono (Nat.le_trans B1.out.size B2.out.size))).trans (Q4.out.below _)⟩

set_option maxRecDepth 100000 in
theorem lifted (os : Os) (started : os.Started) (H : Type) (enc : TypeId × Value → H) :
    ReturnsInHanded {} Try.checked os 4 .any (Rows.fnExactAddValuesSpec.pre6 enc Try.prog Try.f4 Rows.fnExactAddValuesRow.domain false) (Rows.fnExactAddValuesSpec.post enc Try.prog Try.f4 false true false false) := by
  refine returnsInHanded_of_change (C := Try.checked) own started (by kernel_rfl) Try.func4
    (ChangeSpec.witness6 (enc := enc) (C := Try.checked) false ⟨#[], #[.slice none 0 0], []⟩ 8 (by kernel_rfl) (by kernel_rfl) (by kernel_rfl) (by kernel_rfl)) ?_
  intro W base args ds gs before hval0 hW hcnd _
  have hval : ∀ (j : Nat) t v, Try.f4.params[j]? = some t → args[j]? = some v → Value.okWide Try.prog W .any base t v := hval0
  have hW' := hW
  obtain ⟨p, q, hA0, hV, rfl, hfz, hnd⟩ := hW
  have hA : DataW.TrodAll enc Try.prog W 0 (fun _ => true) true Try.f4.params.toList args.toList ds p := hA0
  rw [Try.params4] at hA hval
  obtain ⟨v0, vs0, d0, ds0, p0, q0, hargs, rfl, rfl, h0, r0⟩ := trodAll_cons hA
  obtain ⟨rfl, rfl, rfl⟩ := trodAll_nil r0
  obtain rfl : args = #[v0] := by cases args; simp_all
  obtain ⟨rfl, rfl⟩ := trodVars_none hV
  obtain ⟨a0, len0, cap0, rfl⟩ := okWide_slice Try.underlying39 (hval 0 39 v0 rfl rfl)
  have k0 := h0
  have lt0 : ∀ x ∈ p0, x.block < W.heap.size := by obtain ⟨m, hm⟩ := k0; exact DataW.trod_lt m _ _ _ hm
  obtain ⟨z0, w0⟩ : ∃ zs, IsRow .i64 W a0 len0 cap0 zs := by
    obtain ⟨fuel, hf⟩ := h0
    rcases open_ints Try.underlying39 Try.underlying3 (by kernel_rfl) hf with ⟨hcs, _⟩ | ⟨x, l, c, zs, hcs, _, hl, hm, hz, _, hcell, hwz⟩
    · simp [Value.cells] at hcs
      obtain ⟨rfl, rfl, rfl⟩ := hcs
      exact ⟨[], .inl ⟨rfl, rfl, rfl, rfl⟩⟩
    · simp [Value.cells] at hcs
      obtain ⟨rfl, rfl, rfl⟩ := hcs
      exact ⟨zs, .inr ⟨_, rfl, hl, hm, by simpa using hz, hcell, hwz⟩⟩
  clear hA0 hval0
  refine (walk a0 len0 cap0 z0 W w0).mono fun e W' ⟨he, bel⟩ => ?_
  subst he
  exact ⟨_, rfl, _, _, _, [], _, [], hW', trodAll_mk1 (shut_bool Try.underlying4 _), (trodAll_cons_mk (Below.trod laidOut (by kernel_rfl) (of_decide_eq_true (by kernel_rfl)) k0 bel lt0) trodAll_mk0), rfl, bel.frame _, fun h => by cases h⟩

theorem over : Rows.fnExactAddValuesRow.holds Try.pinned (OpenSpec.ofChange Rows.fnExactAddValuesSpec) :=
  OpenClaim.holds_of_wide 4 Try.f4 rfl rfl rfl rfl rfl rfl rfl ⟨rfl, rfl, rfl, rfl, rfl⟩ rfl rfl rfl rfl rfl (by kernel_rfl) Try.func4 (by kernel_rfl)
    (of_decide_eq_true (by kernel_rfl)) (by unfold Func.isWrapper; first | (rw [if_pos (by decide +kernel)]; kernel_rfl) | (rw [if_neg (by decide +kernel)]; exact ⟨rfl, rfl⟩))
    (fun os started H enc _ => lifted os started H enc)

theorem proved : Rows.FnExactAddValuesSaid := over
end Go.Proofs.Ytelkpdkpnaeggaa.fnExactAddValues

