/- For every pair of integers, impl.WriteLittle answers as its model does and its answer owns its memory: the law FnExactWriteLittle returns true. No condition. -/
import Derived.Test.YtdpkamhjpbalhaaRows
import Derived.Test.YtdpkamhjpbalhaaWri
import Derived.ProofKit
import Derived.OpenShut
import Derived.ShutString
import Derived.ChangeOld
namespace Go.Proofs.Ytdpkamhjpbalhaa.fnExactWriteLittle
open Go.ChangeShapes Go.WideShapes Go.ChangeAt Go.RowKit
open Go.ChangeMaps (open_string shut_string)
set_option linter.unusedVariables false

set_option maxHeartbeats 1600000 in
theorem walk (a0 : Int) (a1 : Int) (w0 : (Lit.int .i64 a0).wf = true) (w1 : (Lit.int .i64 a1).wf = true) (w : World) :
    Calls Try.prog 5 #[.int .i64 a0, .int .i64 a1] w fun e w' => e = .returned (.bool true) ∧ Below w.heap.size w w' := by
  clear w0 w1
  rcases writeLittle_both a0 a1 with ⟨HI, HS⟩ | ⟨k, zs, k0, k4, hk, hr, HI, HS⟩
  · go_enter Try.func5, Try.ntmps5
    go_wp2_with (first | (go_at_call 13; refine (HS.out _).mono ?_; rintro e w' ⟨rfl, rfl⟩) | (go_at_call 12; refine (HI.out _).mono ?_; rintro e w' ⟨rfl, rfl⟩) | (go_at_call 27; refine (eqByteS_none _ _ _ _ _).mono ?_; rintro e w' ⟨rfl, q, rfl⟩) | (go_at_call 28; refine (markByteS_none _ _ _).mono ?_; rintro e w' ⟨rfl, rfl⟩) | (go_at_call 29; refine (heldByteS_none _ _ _).mono ?_; rintro e w' ⟨rfl, rfl⟩))
    go_ret
    exact ⟨rfl, by repeat (first | exact Below.refl _ _ | apply below_drewN)⟩
  · have HK := Lib.hid hk
    have HR := Lib.hid hr
    have hm : k ≤ 1048576 := by omega
    clear hk hr
    go_enter Try.func5, Try.ntmps5
    go_wp2_with (go_at_call 13; refine (HS.out _).mono ?_; rintro e v1 ⟨gs, cs, rfl, o1, b1⟩; have O1 := Lib.hid o1; have B1 := Lib.hid b1; clear o1 b1)
    go_wp2_with (go_at_call 12; refine (HI.out _).mono ?_; rintro e v2 ⟨gi, ci, rfl, o1, b1⟩; have O2 := Lib.hid o1; have B2 := Lib.hid b1; clear o1 b1)
    have HL : Hid (zs.length = k) := Lib.hid O1.out.len
    have O1b := Lib.hid (O1.out.below B2.out O1.out.lt.2)
    go_wp2_with (go_at_call 27; refine (eqByteS_same _ _ _ _ _ _ _ _ _ HL (Lib.hid (O2.out.row HR.out)) (Lib.hid (O1b.out.row HR.out)) hm).mono ?_; rintro e v3 ⟨rfl, q3⟩; have Q3 := Lib.hid q3; clear q3)
    have O1c := Lib.hid (O1b.out.below (Q3.out.below v2.heap.size) O1b.out.lt.2)
    have O2c := Lib.hid (O2.out.below (Q3.out.below v2.heap.size) O2.out.lt.2)
    have hne : gs ≠ gi := by have := O1.out.lt; have := O2.out.lt; omega
    go_wp2_with (go_at_call 28; refine (markByteS_own _ _ _ _ _ (Lib.hid O2c.out.self) hm).mono ?_; rintro e v4 ⟨rfl, o4, b4⟩; have O4 := Lib.hid o4; have B4 := Lib.hid b4; clear o4 b4)
    have O1d := Lib.hid (O1c.out.other B4.out hne)
    go_wp2_with (go_at_call 29; refine (heldByteS_own _ _ _ _ _ O4 hm).mono ?_; rintro e v5 ⟨rfl, rfl⟩)
    go_wp2_with (go_at_call 12; refine (HI.out _).mono ?_; rintro e v5 ⟨gh, ch, rfl, o1, b1⟩; have O5 := Lib.hid o1; have B5 := Lib.hid b1; clear o1 b1)
    have O1e := Lib.hid (O1d.out.below B5.out O1d.out.lt.2)
    have O4e := Lib.hid (O4.out.below B5.out O4.out.lt.2)
    go_wp2_with (go_at_call 27; refine (eqByteS_same _ _ _ _ _ _ _ _ _ HL (Lib.hid (O5.out.row HR.out)) (Lib.hid (O1e.out.row HR.out)) hm).mono ?_; rintro e v6 ⟨rfl, q6⟩; have Q6 := Lib.hid q6; clear q6)
    have O4f := Lib.hid (O4e.out.below (Q6.out.below v5.heap.size) O4e.out.lt.2)
    go_wp2_with (go_at_call 29; refine (heldByteS_own _ _ _ _ _ O4f hm).mono ?_; rintro e v7 ⟨rfl, rfl⟩)
    go_ret
    have s1 := B1.out.size
    have s2 := B2.out.size
    have s3 := (Q3.out.below 0).size
    have s4 := B4.out.2.1
    have s5 := O2.out.lt
    exact ⟨rfl, ((((B1.out.trans (B2.out.mono s1)).trans (Q3.out.below _)).trans (B4.out.1.mono (by omega))).trans (B5.out.mono (by omega))).trans (Q6.out.below _)⟩

set_option maxRecDepth 100000 in
theorem lifted (os : Os) (started : os.Started) (H : Type) (enc : TypeId × Value → H) :
    ReturnsInHanded {} Try.checked os 5 .any (Rows.fnExactWriteLittleSpec.pre6 enc Try.prog Try.f5 Rows.fnExactWriteLittleRow.domain false) (Rows.fnExactWriteLittleSpec.post enc Try.prog Try.f5 false true false false) := by
  refine returnsInHanded_of_change (C := Try.checked) own started (by kernel_rfl) Try.func5
    (ChangeSpec.witness6 (enc := enc) (C := Try.checked) false ⟨#[], #[.int .i64 0, .int .i64 0], []⟩ 8 (by kernel_rfl) (by kernel_rfl) (by kernel_rfl) (by kernel_rfl)) ?_
  intro W base args ds gs before hval0 hW hcnd _
  have hval : ∀ (j : Nat) t v, Try.f5.params[j]? = some t → args[j]? = some v → Value.okWide Try.prog W .any base t v := hval0
  have hW' := hW
  obtain ⟨p, q, hA0, hV, rfl, hfz, hnd⟩ := hW
  have hA : DataW.TrodAll enc Try.prog W 0 (fun _ => true) true Try.f5.params.toList args.toList ds p := hA0
  rw [Try.params5] at hA hval
  obtain ⟨v0, vs0, d0, ds0, p0, q0, hargs, rfl, rfl, h0, r0⟩ := trodAll_cons hA
  obtain ⟨v1, vs1, d1, ds1, p1, q1, rfl, rfl, rfl, h1, r1⟩ := trodAll_cons r0
  obtain ⟨rfl, rfl, rfl⟩ := trodAll_nil r1
  obtain rfl : args = #[v0, v1] := by cases args; simp_all
  obtain ⟨rfl, rfl⟩ := trodVars_none hV
  obtain ⟨a0, rfl, rfl, rfl, w0⟩ := open_int Try.underlying3 (hval 0 3 v0 rfl rfl) h0
  obtain ⟨a1, rfl, rfl, rfl, w1⟩ := open_int Try.underlying3 (hval 1 3 v1 rfl rfl) h1
  clear hA0 hval0
  refine (walk a0 a1 w0 w1 W).mono fun e W' ⟨he, bel⟩ => ?_
  subst he
  exact ⟨_, rfl, _, _, _, [], _, [], hW', trodAll_mk1 (shut_bool Try.underlying4 _), (trodAll_cons_mk (shut_int Try.underlying3 w0) (trodAll_cons_mk (shut_int Try.underlying3 w1) trodAll_mk0)), rfl, bel.frame _, fun h => by cases h⟩

theorem over : Rows.fnExactWriteLittleRow.holds Try.pinned (OpenSpec.ofChange Rows.fnExactWriteLittleSpec) :=
  OpenClaim.holds_of_wide 5 Try.f5 rfl rfl rfl rfl rfl rfl rfl ⟨rfl, rfl, rfl, rfl, rfl⟩ rfl rfl rfl rfl rfl (by kernel_rfl) Try.func5 (by kernel_rfl)
    (of_decide_eq_true (by kernel_rfl)) (by unfold Func.isWrapper; first | (rw [if_pos (by decide +kernel)]; kernel_rfl) | (rw [if_neg (by decide +kernel)]; exact ⟨rfl, rfl⟩))
    (fun os started H enc _ => lifted os started H enc)

theorem proved : Rows.FnExactWriteLittleSaid :=
  over
end Go.Proofs.Ytdpkamhjpbalhaa.fnExactWriteLittle

