/- For every slice of bytes and every integer, impl.PadTo answers as its model does, leaves its argument as it was, and its answer owns its memory: the law FnExactPadTo returns true. No condition. -/
import Derived.Test.YtdpkamhjpbalhaaRows
import Derived.Test.YtdpkamhjpbalhaaSpd
import Derived.ProofKit
import Derived.OpenShut
import Derived.ShutString
import Derived.ChangeOld
namespace Go.Proofs.Ytdpkamhjpbalhaa.fnExactPadTo
open Go.ChangeShapes Go.WideShapes Go.ChangeAt Go.RowKit
open Go.ChangeMaps (open_string shut_string)
set_option linter.unusedVariables false

set_option maxHeartbeats 3200000 in
theorem walk_none (a0 : Option Addr) (n cap0 : Nat) (ys : List Int) (a1 : Int) (w : World) (HL : Hid (ys.length = n)) (HI : Hid (In w a0 ys)) (hs : n ≤ 1048576)
    (HIm : Hid (∀ a cap w, Calls Try.prog 18 #[.slice a n cap, .int .i64 a1] w (GivesNone w))) (HSp : Hid (∀ a cap w, Calls Try.prog 19 #[.slice a n cap, .int .i64 a1] w (GivesNone w))) :
    Calls Try.prog 7 #[.slice a0 n cap0, .int .i64 a1] w fun e w' => e = .returned (.bool true) ∧ Below w.heap.size w w' := by
  have d := not_lt (a := 1048576) (b := (n : Int)) (by omega)
  have HG := Lib.hid HI.out.range
  go_enter Try.func7, Try.ntmps7
  go_wp2_with (go_at_call 26; refine (toByteS_any _ _ _ _ _ HL HI hs).mono ?_; rintro e v1 ⟨rfl, o, b⟩; have T1 := Lib.hid b; clear o b)
  go_wp2_with (go_at_call 19; refine (HSp.out _ _ _).mono ?_; rintro e w' ⟨rfl, rfl⟩)
  go_wp2_with (go_at_call 26; refine (toByteS_any _ _ _ _ _ HL (Lib.hid (HI.out.below T1.out)) hs).mono ?_; rintro e v2 ⟨rfl, o, b⟩; have X2 := Lib.hid o; have T2 := Lib.hid (T1.out.trans (b.mono T1.out.size)); clear o b)
  go_wp2_with (go_at_call 18; refine (HIm.out _ _ _).mono ?_; rintro e w' ⟨rfl, rfl⟩)
  go_wp2_with (go_at_call 27; refine (eqByteS_none _ _ _ _ _).mono ?_; rintro e v3 ⟨rfl, q⟩; have X3 := Lib.hid (X2.out.below (q.below v2.heap.size) X2.out.lt.2); have T3 := Lib.hid (T2.out.trans (q.below _)); clear q)
  go_wp2_with (go_at_call 26; refine (toByteS_any _ _ _ _ _ HL (Lib.hid (HI.out.below T3.out)) hs).mono ?_; rintro e v4 ⟨rfl, o, b⟩; have Y4 := Lib.hid o; have X4 := Lib.hid (X3.out.below b X3.out.lt.2); have T4 := Lib.hid (T3.out.trans (b.mono T3.out.size)); clear o b)
  go_wp2_with (go_at_call 27; refine (eqByteS_same _ _ _ _ _ _ _ _ _ HL (Lib.hid (X4.out.row HG.out)) (Lib.hid (Y4.out.row HG.out)) hs).mono ?_; rintro e v5 ⟨rfl, q⟩; have X5 := Lib.hid (X4.out.below (q.below v4.heap.size) X4.out.lt.2); have T5 := Lib.hid (T4.out.trans (q.below _)); clear q)
  go_wp2_with (go_at_call 28; refine (markByteS_own _ _ _ _ _ (Lib.hid X5.out.self) hs).mono ?_; rintro e v6 ⟨rfl, o, b⟩; have T6 := Lib.hid (T5.out.trans (b.1.mono T1.out.size)); clear o b)
  go_wp2_with (go_at_call 27; refine (eqByteS_none _ _ _ _ _).mono ?_; rintro e v7 ⟨rfl, q⟩; have T7 := Lib.hid (T6.out.trans (q.below _)); clear q)
  go_wp2_with (first | (go_at_call 28; refine (markByteS_none _ _ _).mono ?_; rintro e w' ⟨rfl, rfl⟩) | (go_at_call 29; refine (heldByteS_none _ _ _).mono ?_; rintro e w' ⟨rfl, rfl⟩))
  go_wp2_with (go_at_call 26; refine (toByteS_any _ _ _ _ _ HL (Lib.hid (HI.out.below T7.out)) hs).mono ?_; rintro e v8 ⟨rfl, o, b⟩; have T8 := Lib.hid (T7.out.trans (b.mono T7.out.size)); clear o b)
  go_wp2_with (go_at_call 18; refine (HIm.out _ _ _).mono ?_; rintro e w' ⟨rfl, rfl⟩)
  go_wp2_with (go_at_call 27; refine (eqByteS_none _ _ _ _ _).mono ?_; rintro e v9 ⟨rfl, q⟩; have T9 := Lib.hid (T8.out.trans (q.below _)); clear q)
  go_wp2_with (go_at_call 29; refine (heldByteS_none _ _ _).mono ?_; rintro e w' ⟨rfl, rfl⟩)
  go_ret
  exact ⟨rfl, T9.out⟩

set_option maxHeartbeats 3200000 in
theorem walk_some (a0 : Option Addr) (n cap0 s : Nat) (ys zs : List Int) (a1 : Int) (w : World) (HL : Hid (ys.length = n)) (HI : Hid (In w a0 ys)) (hs : n ≤ 1048576) (hs4 : s ≤ 4000) (HZ : Hid (∀ c ∈ zs, 0 ≤ c ∧ c ≤ 255))
    (HIm : Hid (∀ b off cap w, Hid (Row w b off ys) → b < w.heap.size → Calls Try.prog 18 #[.slice (some ⟨b, off, none⟩) n cap, .int .i64 a1] w (Gives w s zs)))
    (HSp : Hid (∀ b off cap w, Hid (Row w b off ys) → b < w.heap.size → Calls Try.prog 19 #[.slice (some ⟨b, off, none⟩) n cap, .int .i64 a1] w (Gives w s zs))) :
    Calls Try.prog 7 #[.slice a0 n cap0, .int .i64 a1] w fun e w' => e = .returned (.bool true) ∧ Below w.heap.size w w' := by
  have d := not_lt (a := 1048576) (b := (n : Int)) (by omega)
  have hm : s ≤ 1048576 := by omega
  have HG := Lib.hid HI.out.range
  go_enter Try.func7, Try.ntmps7
  go_wp2_with (go_at_call 26; refine (toByteS_any _ _ _ _ _ HL HI hs).mono ?_; rintro e v1 ⟨rfl, o, b⟩; have Y1 := Lib.hid o; have T1 := Lib.hid b; clear o b)
  go_wp2_with (go_at_call 19; refine (HSp.out _ _ _ _ (Lib.hid (Y1.out.row HG.out)) Y1.out.lt.2).mono ?_; rintro e v2 ⟨gs, cs, rfl, o, b⟩; have S2 := Lib.hid o; have T2 := Lib.hid (T1.out.trans (b.mono T1.out.size)); clear o b)
  have HLZ : Hid (zs.length = s) := Lib.hid S2.out.len
  go_wp2_with (go_at_call 26; refine (toByteS_any _ _ _ _ _ HL (Lib.hid (HI.out.below T2.out)) hs).mono ?_; rintro e v3 ⟨rfl, o, b⟩; have X3 := Lib.hid o; have S3 := Lib.hid (S2.out.below b S2.out.lt.2); have T3 := Lib.hid (T2.out.trans (b.mono T2.out.size)); clear o b)
  have hgx : gs < v2.heap.size := S2.out.lt.2
  have hxw : w.heap.size ≤ v2.heap.size := T2.out.size
  go_wp2_with (go_at_call 18; refine (HIm.out _ _ _ _ (Lib.hid (X3.out.row HG.out)) X3.out.lt.2).mono ?_; rintro e v4 ⟨gi, ci, rfl, o, b⟩; have G4 := Lib.hid o; have S4 := Lib.hid (S3.out.below b S3.out.lt.2); have X4 := Lib.hid (X3.out.below b X3.out.lt.2); have T4 := Lib.hid (T3.out.trans (b.mono T3.out.size)); clear o b)
  have hxi : v2.heap.size < gi := Nat.lt_of_lt_of_le X3.out.lt.2 G4.out.lt.1
  go_wp2_with (go_at_call 27; refine (eqByteS_same _ _ _ _ _ _ _ _ _ HLZ (Lib.hid (G4.out.row HZ.out)) (Lib.hid (S4.out.row HZ.out)) hm).mono ?_; rintro e v5 ⟨rfl, q⟩; have G5 := Lib.hid (G4.out.below (q.below v4.heap.size) G4.out.lt.2); have S5 := Lib.hid (S4.out.below (q.below v4.heap.size) S4.out.lt.2); have X5 := Lib.hid (X4.out.below (q.below v4.heap.size) X4.out.lt.2); have T5 := Lib.hid (T4.out.trans (q.below _)); clear q)
  go_wp2_with (go_at_call 26; refine (toByteS_any _ _ _ _ _ HL (Lib.hid (HI.out.below T5.out)) hs).mono ?_; rintro e v6 ⟨rfl, o, b⟩; have Y6 := Lib.hid o; have G6 := Lib.hid (G5.out.below b G5.out.lt.2); have S6 := Lib.hid (S5.out.below b S5.out.lt.2); have X6 := Lib.hid (X5.out.below b X5.out.lt.2); have T6 := Lib.hid (T5.out.trans (b.mono T5.out.size)); clear o b)
  go_wp2_with (go_at_call 27; refine (eqByteS_same _ _ _ _ _ _ _ _ _ HL (Lib.hid (X6.out.row HG.out)) (Lib.hid (Y6.out.row HG.out)) hs).mono ?_; rintro e v7 ⟨rfl, q⟩; have G7 := Lib.hid (G6.out.below (q.below v6.heap.size) G6.out.lt.2); have S7 := Lib.hid (S6.out.below (q.below v6.heap.size) S6.out.lt.2); have X7 := Lib.hid (X6.out.below (q.below v6.heap.size) X6.out.lt.2); have T7 := Lib.hid (T6.out.trans (q.below _)); clear q)
  go_wp2_with (go_at_call 28; refine (markByteS_own _ _ _ _ _ (Lib.hid X7.out.self) hs).mono ?_; rintro e v8 ⟨rfl, o, b⟩; have G8 := Lib.hid (G7.out.other b (by omega)); have S8 := Lib.hid (S7.out.other b (by omega)); have T8 := Lib.hid (T7.out.trans (b.1.mono hxw)); clear o b)
  go_wp2_with (go_at_call 27; refine (eqByteS_same _ _ _ _ _ _ _ _ _ HLZ (Lib.hid (G8.out.row HZ.out)) (Lib.hid (S8.out.row HZ.out)) hm).mono ?_; rintro e v9 ⟨rfl, q⟩; have G9 := Lib.hid (G8.out.below (q.below v8.heap.size) G8.out.lt.2); have S9 := Lib.hid (S8.out.below (q.below v8.heap.size) S8.out.lt.2); have T9 := Lib.hid (T8.out.trans (q.below _)); clear q)
  go_wp2_with (go_at_call 28; refine (markByteS_own _ _ _ _ _ (Lib.hid G9.out.self) hm).mono ?_; rintro e v10 ⟨rfl, o, b⟩; have M10 := Lib.hid o; have S10 := Lib.hid (S9.out.other b (by omega)); have T10 := Lib.hid (T9.out.trans (b.1.mono (by omega))); clear o b)
  go_wp2_with (go_at_call 29; refine (heldByteS_own _ _ _ _ _ M10 hm).mono ?_; rintro e w' ⟨rfl, rfl⟩)
  go_wp2_with (go_at_call 26; refine (toByteS_any _ _ _ _ _ HL (Lib.hid (HI.out.below T10.out)) hs).mono ?_; rintro e v11 ⟨rfl, o, b⟩; have Y11 := Lib.hid o; have M11 := Lib.hid (M10.out.below b M10.out.lt.2); have S11 := Lib.hid (S10.out.below b S10.out.lt.2); have T11 := Lib.hid (T10.out.trans (b.mono T10.out.size)); clear o b)
  go_wp2_with (go_at_call 18; refine (HIm.out _ _ _ _ (Lib.hid (Y11.out.row HG.out)) Y11.out.lt.2).mono ?_; rintro e v12 ⟨gh, ch, rfl, o, b⟩; have H12 := Lib.hid o; have M12 := Lib.hid (M11.out.below b M11.out.lt.2); have S12 := Lib.hid (S11.out.below b S11.out.lt.2); have T12 := Lib.hid (T11.out.trans (b.mono T11.out.size)); clear o b)
  go_wp2_with (go_at_call 27; refine (eqByteS_same _ _ _ _ _ _ _ _ _ HLZ (Lib.hid (H12.out.row HZ.out)) (Lib.hid (S12.out.row HZ.out)) hm).mono ?_; rintro e v13 ⟨rfl, q⟩; have M13 := Lib.hid (M12.out.below (q.below v12.heap.size) M12.out.lt.2); have T13 := Lib.hid (T12.out.trans (q.below _)); clear q)
  go_wp2_with (go_at_call 29; refine (heldByteS_own _ _ _ _ _ M13 hm).mono ?_; rintro e w' ⟨rfl, rfl⟩)
  go_ret
  exact ⟨rfl, T13.out⟩

theorem walk (a0 : Option Addr) (len0 cap0 : Nat) (z0 : List Int) (a1 : Int) (w : World) (w0 : IsRow .u8 w a0 len0 cap0 z0) (w1 : (Lit.int .i64 a1).wf = true) :
    Calls Try.prog 7 #[.slice a0 len0 cap0, .int .i64 a1] w fun e w' => e = .returned (.bool true) ∧ Below w.heap.size w w' := by
  obtain ⟨hm, ys, HL, HI⟩ := w0.view
  unfold maxLen at hm
  by_cases h : (1048576 : Int) < len0
  · have d := is_lt h
    go_enter Try.func7, Try.ntmps7
    go_wp2
    go_ret
    exact ⟨rfl, Below.refl _ _⟩
  · rcases padTo_both len0 ys a1 HL with ⟨HIm, HSp⟩ | ⟨s, hns, hs4, _, HIm, HSp⟩
    · exact walk_none a0 len0 cap0 ys a1 w HL HI (by omega) HIm HSp
    · exact walk_some a0 len0 cap0 s ys (padded ys s) a1 w HL HI (by omega) hs4 (padded_range _ _ HI.out.range) HIm HSp

set_option maxRecDepth 100000 in
theorem lifted (os : Os) (started : os.Started) (H : Type) (enc : TypeId × Value → H) :
    ReturnsInHanded {} Try.checked os 7 .any (Rows.fnExactPadToSpec.pre6 enc Try.prog Try.f7 Rows.fnExactPadToRow.domain false) (Rows.fnExactPadToSpec.post enc Try.prog Try.f7 false true false false) := by
  refine returnsInHanded_of_change (C := Try.checked) own started (by kernel_rfl) Try.func7
    (ChangeSpec.witness6 (enc := enc) (C := Try.checked) false ⟨#[], #[.slice none 0 0, .int .i64 0], []⟩ 8 (by kernel_rfl) (by kernel_rfl) (by kernel_rfl) (by kernel_rfl)) ?_
  intro W base args ds gs before hval0 hW hcnd _
  have hval : ∀ (j : Nat) t v, Try.f7.params[j]? = some t → args[j]? = some v → Value.okWide Try.prog W .any base t v := hval0
  have hW' := hW
  obtain ⟨p, q, hA0, hV, rfl, hfz, hnd⟩ := hW
  have hA : DataW.TrodAll enc Try.prog W 0 (fun _ => true) true Try.f7.params.toList args.toList ds p := hA0
  rw [Try.params7] at hA hval
  obtain ⟨v0, vs0, d0, ds0, p0, q0, hargs, rfl, rfl, h0, r0⟩ := trodAll_cons hA
  obtain ⟨v1, vs1, d1, ds1, p1, q1, rfl, rfl, rfl, h1, r1⟩ := trodAll_cons r0
  obtain ⟨rfl, rfl, rfl⟩ := trodAll_nil r1
  obtain rfl : args = #[v0, v1] := by cases args; simp_all
  obtain ⟨rfl, rfl⟩ := trodVars_none hV
  obtain ⟨a0, len0, cap0, rfl⟩ := okWide_slice Try.underlying22 (hval 0 22 v0 rfl rfl)
  have k0 := h0
  have lt0 : ∀ x ∈ p0, x.block < W.heap.size := by obtain ⟨m, hm⟩ := k0; exact DataW.trod_lt m _ _ _ hm
  obtain ⟨z0, w0⟩ : ∃ zs, IsRow .u8 W a0 len0 cap0 zs := by
    obtain ⟨fuel, hf⟩ := h0
    rcases open_ints Try.underlying22 Try.underlying5 (by kernel_rfl) hf with ⟨hcs, _⟩ | ⟨x, l, c, zs, hcs, _, hl, hm, hz, _, hcell, hwz⟩
    · simp [Value.cells] at hcs
      obtain ⟨rfl, rfl, rfl⟩ := hcs
      exact ⟨[], .inl ⟨rfl, rfl, rfl, rfl⟩⟩
    · simp [Value.cells] at hcs
      obtain ⟨rfl, rfl, rfl⟩ := hcs
      exact ⟨zs, .inr ⟨_, rfl, hl, hm, by simpa using hz, hcell, hwz⟩⟩
  obtain ⟨a1, rfl, rfl, rfl, w1⟩ := open_int Try.underlying3 (hval 1 3 v1 rfl rfl) h1
  clear hA0 hval0
  refine (walk a0 len0 cap0 z0 a1 W w0 w1).mono fun e W' ⟨he, bel⟩ => ?_
  subst he
  exact ⟨_, rfl, _, _, _, [], _, [], hW', trodAll_mk1 (shut_bool Try.underlying4 _), (trodAll_cons_mk (Below.trod laidOut (by kernel_rfl) (of_decide_eq_true (by kernel_rfl)) k0 bel lt0) (trodAll_cons_mk (shut_int Try.underlying3 w1) trodAll_mk0)), rfl, bel.frame _, fun h => by cases h⟩

theorem over : Rows.fnExactPadToRow.holds Try.pinned (OpenSpec.ofChange Rows.fnExactPadToSpec) :=
  OpenClaim.holds_of_wide 7 Try.f7 rfl rfl rfl rfl rfl rfl rfl ⟨rfl, rfl, rfl, rfl, rfl⟩ rfl rfl rfl rfl rfl (by kernel_rfl) Try.func7 (by kernel_rfl)
    (of_decide_eq_true (by kernel_rfl)) (by unfold Func.isWrapper; first | (rw [if_pos (by decide +kernel)]; kernel_rfl) | (rw [if_neg (by decide +kernel)]; exact ⟨rfl, rfl⟩))
    (fun os started H enc _ => lifted os started H enc)

theorem proved : Rows.FnExactPadToSaid := over
end Go.Proofs.Ytdpkamhjpbalhaa.fnExactPadTo

