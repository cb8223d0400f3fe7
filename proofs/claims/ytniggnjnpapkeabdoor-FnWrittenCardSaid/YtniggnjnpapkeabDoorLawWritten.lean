/- For every bytes that FnWritten draws from: bytes are read back from their text, decimal and hexadecimal numbers end where they should, and bad bytes are found: the law FnWritten returns true. The table of digits starts as the program's text lays it (the card ties it). No other condition. -/
import Derived.Test.YtniggnjnpapkeabDoorCards
import Derived.Test.YtniggnjnpapkeabDoorTie
import Derived.Test.YtniggnjnpapkeabDoorWrt
import Derived.ProofKit
import Derived.OpenShut
import Derived.ShutString
import Derived.ChangeOld
import Derived.ChangeVars
import Derived.Deep.DeepHandedRow
import Derived.Deep.CutRange
namespace Go.Proofs.YtniggnjnpapkeabDoor.fnWritten
set_option maxRecDepth 100000
open Go.ChangeShapes Go.WideShapes Go.ChangeAt Go.RowKit
open Go.ChangeMaps (open_string shut_string)
set_option linter.unusedVariables false

set_option maxRecDepth 100000 in
set_option maxHeartbeats 8000000 in
theorem walk_in (a0 a1 : Option Addr) (n0 n1 cap0 cap1 : Nat) (ys0 ys1 : List Int) (w : World) (HD : Hid (Dig w)) (HL0 : Hid (ys0.length = n0)) (HI0 : Hid (In w a0 ys0)) (HL1 : Hid (ys1.length = n1)) (HI1 : Hid (In w a1 ys1)) (h0 : n0 ≤ 9223372036854775807) (h1 : n1 ≤ 9223372036854775807) (d : decide ((1048576 : Int) < wrap64 ((n0 : Int) + n1)) = false) :
    Calls Tryd.prog 3 #[.slice a0 n0 cap0, .slice a1 n1 cap1] w fun e w' => e = .returned (.bool true) ∧ Below w.heap.size w w' := by
  go_enter Tryd.func3, Tryd.ntmps3
  go_wp2_with (go_at_call 4; refine (drawParse_any _ _ _ _ _ HL0 HI0 h0).mono ?_; rintro e v1 ⟨s, rfl, hs, b⟩; have T := Lib.hid b; clear b; obtain ⟨ok1, k1, z1, hk1, HZ1, HO1, HIm1, HSp1⟩ := parse_got s (by omega))
  go_wp2_with (go_at_call 5; refine (HIm1.out _ (Lib.hid (HD.out.below T.out))).mono ?_; rintro e v2 ⟨ga, ca, rfl, hc, hsrc, b, hf⟩; have A := Lib.hid hsrc; have HF := Lib.hid hf; have T := Lib.hid (T.out.trans (b.mono T.out.size)); clear hsrc b hf)
  go_wp2_with (go_at_call 6; refine (HSp1.out _).mono ?_; rintro e v3 ⟨gb, cb, rfl, hcb, hsrc, b⟩; have B := Lib.hid hsrc; have A := Lib.hid (A.out.below b); have T := Lib.hid (T.out.trans (b.mono T.out.size)); clear hsrc b)
  go_wp2_with (go_at_call 7; refine (drawDec_any _ _ _ _ _ HL1 (Lib.hid (HI1.out.below T.out)) h1).mono ?_; rintro e v4 ⟨t, ta, rfl, ht, b⟩; have A := Lib.hid (A.out.below b); have B := Lib.hid (B.out.below b); have T := Lib.hid (T.out.trans (b.mono T.out.size)); clear b; obtain ⟨x2, y2, ok2, HO2, HIm2, HSp2⟩ := decimalAt_got t ta)
  go_wp2_with (go_at_call 8; refine (HIm2.out _ (Lib.hid (HD.out.below T.out))).mono ?_; rintro e v5 ⟨rfl, q⟩; have A := Lib.hid (A.out.below (q.below _)); have B := Lib.hid (B.out.below (q.below _)); have T := Lib.hid (T.out.trans (q.below _)); clear q)
  go_wp2_with (go_at_call 9; refine (HSp2.out _).mono ?_; rintro e w' ⟨rfl, rfl⟩)
  go_wp2_with (go_at_call 10; refine (drawHex_any _ _ _ _ _ HL1 (Lib.hid (HI1.out.below T.out)) h1).mono ?_; rintro e v6 ⟨u, ua, rfl, hu, b⟩; have A := Lib.hid (A.out.below b); have B := Lib.hid (B.out.below b); have T := Lib.hid (T.out.trans (b.mono T.out.size)); clear b; obtain ⟨x3, y3, ok3, HIm3, HSp3⟩ := hexAt_both u ua)
  go_wp2_with (go_at_call 11; refine (HIm3.out _ (Lib.hid (HD.out.below T.out))).mono ?_; rintro e v7 ⟨rfl, q⟩; have A := Lib.hid (A.out.below (q.below _)); have B := Lib.hid (B.out.below (q.below _)); have T := Lib.hid (T.out.trans (q.below _)); clear q)
  go_wp2_with (go_at_call 12; refine (HSp3.out _).mono ?_; rintro e w' ⟨rfl, rfl⟩)
  go_wp2_with (go_at_call 13; refine (drawBad_any _ _ _ _ _ HL1 (Lib.hid (HI1.out.below T.out)) h1).mono ?_; rintro e v8 ⟨v, rfl, hv, b⟩; have A := Lib.hid (A.out.below b); have B := Lib.hid (B.out.below b); have T := Lib.hid (T.out.trans (b.mono T.out.size)); clear b; obtain ⟨r4, ok4, hr4, HO4, HIm4, HSp4⟩ := firstBad_got v (by omega))
  go_wp2_with (go_at_call 14; refine (HIm4.out _).mono ?_; rintro e w' ⟨rfl, rfl⟩)
  go_wp2_with (go_at_call 15; refine (HSp4.out _).mono ?_; rintro e w' ⟨rfl, rfl⟩)
  go_wp2_with (go_at_call 16; refine (drawHexOf_any _ _ _ _ _ HL1 (Lib.hid (HI1.out.below T.out)) h1).mono ?_; rintro e v9 ⟨x, rfl, b⟩; have A := Lib.hid (A.out.below b); have B := Lib.hid (B.out.below b); have T := Lib.hid (T.out.trans (b.mono T.out.size)); clear b; obtain ⟨y, ok5, hy, HO5, HIm5, HSp5⟩ := hexOf_got x)
  go_wp2_with (go_at_call 17; refine (HIm5.out _ (Lib.hid (HD.out.below T.out))).mono ?_; rintro e v10 ⟨rfl, b⟩; have A := Lib.hid (A.out.below b); have B := Lib.hid (B.out.below b); have T := Lib.hid (T.out.trans (b.mono T.out.size)); clear b)
  go_wp2_with (go_at_call 18; refine (HSp5.out _).mono ?_; rintro e w' ⟨rfl, rfl⟩)
  go_wp2_with (go_at_call 19; refine (drawIsP_any _ _ _ _ _ HL1 (Lib.hid (HI1.out.below T.out)) h1).mono ?_; rintro e v11 ⟨da, l, dc, xs, lo, hi, rfl, hl, ho, hr, b⟩; obtain ⟨hxl, hsrc⟩ := ho.src hr; have hlc := SrcAt.len ho; have HLX := Lib.hid hxl; have DA := Lib.hid hsrc; have A := Lib.hid (A.out.below b); have B := Lib.hid (B.out.below b); have T := Lib.hid (T.out.trans (b.mono T.out.size)); clear b; clear hsrc ho hr hxl; obtain ⟨r6, ok6, HIm6, HSp6⟩ := padded_srcs l xs lo hi HLX)
  go_wp2_with (go_at_call 20; refine (HIm6.out _ _ _ hlc DA).mono ?_; rintro e w' ⟨rfl, rfl⟩)
  go_wp2_with (go_at_call 21; refine (HSp6.out _ _ _ hlc DA).mono ?_; rintro e w' ⟨rfl, rfl⟩)
  go_upto_if 224 with (go_at_call 22; (with_reducible refine (qBytes_src _ _ _ _ _ _ _ HZ1 A B (by omega)).mono ?_); rintro e v12 ⟨rfl, q⟩; have A := Lib.hid (A.out.below (q.below _)); have T := Lib.hid (T.out.trans (q.below _)); clear q)
  have HBT : Hid (ok1 = true → ∀ w, Hid (SrcAt w ga k1 ca z1) → Hid (Dig w) → Calls Tryd.prog 23 #[.slice ga k1 ca] w (SaysStrB w s true)) := Lib.hid (fun h w hs hD => btBack ga k1 ca z1 s w (HF.out h) HZ1 hs hD hk1 (HO1.out h))
  go_cut [43, 44] from 225 to 236 (fun _ _ wx => Below w.heap.size w wx)
  case first =>
    cases ok1
    · go_wp2_with fail
      go_meet
      exact T.out
    · have HBT1 := Lib.hid (HBT.out rfl)
      go_wp2_with (go_at_call 23; (with_reducible refine (HBT1.out _ A (Lib.hid (HD.out.below T.out))).mono ?_); rintro e v13 ⟨rfl, b⟩; have T := Lib.hid (T.out.trans (b.mono T.out.size)); clear b)
      go_meet
      exact T.out
  case rest =>
  have T := Lib.hid hcut
  clear hcut HBT HF HO1 A
  go_upto_if 237 with fail
  go_cut [45, 46, 47] from 238 to 256 (fun _ _ _ wx => Below w.heap.size w wx)
  case first =>
    cases ok5
    · go_wp2_with fail
      go_meet
      exact T.out
    · have HHX := Lib.hid (HO5.out rfl)
      go_wp2_with (go_at_call 11; (with_reducible refine (HHX.out _ (Lib.hid (HD.out.below T.out))).mono ?_); rintro e v13 ⟨rfl, q⟩; have T := Lib.hid (T.out.trans (q.below _)); clear q)
      go_meet
      exact T.out
  case rest =>
  have T := Lib.hid hcut
  clear hcut HO5
  have hcase : ok4 = false ∨ (ok4 = true ∧ ¬ r4 < (v.size : Int)) ∨ (ok4 = true ∧ r4 < (v.size : Int)) := by
    cases ok4
    · exact .inl rfl
    · by_cases q : r4 < (v.size : Int)
      · exact .inr (.inr ⟨rfl, q⟩)
      · exact .inr (.inl ⟨rfl, q⟩)
  have HE2 : Hid (ok2 = true → decide (ta < y2) = true ∧ decide (0 ≤ x2) = true) := Lib.hid (fun h => ⟨is_lt (HO2.out h).1, is_le (HO2.out h).2⟩)
  clear HO2
  rcases hcase with rfl | ⟨rfl, hno⟩ | ⟨rfl, hyes⟩
  · go_wp2_with (go_at_call 24; (refine (drawSum_any _ _ _ _ _ HL1 (Lib.hid (HI1.out.below T.out)) h1).mono ?_); rintro e v14 ⟨sa, sl, sc, us, rfl, hsl', ho, hr, b⟩; obtain ⟨hul, hsrc⟩ := ho.src hr; have HLU := Lib.hid hul; have SA := Lib.hid hsrc; have T := Lib.hid (T.out.trans (b.mono T.out.size)); clear hsrc b ho hr hul; obtain ⟨X, okX, HIm7, HSp7⟩ := checksum_srcs sl us HLU)
    go_wp2_with (go_at_call 25; refine (HIm7.out _ _ _ SA).mono ?_; rintro e w' ⟨rfl, rfl⟩)
    go_wp2_with (go_at_call 26; refine (HSp7.out _ _ _ SA).mono ?_; rintro e w' ⟨rfl, rfl⟩; cases ok2 <;> (try (obtain ⟨e1, e2⟩ := HE2.out rfl)))
    all_goals (go_ret; exact ⟨rfl, T.out⟩)
  · have dn := not_lt (Int.not_lt.1 hno)
    go_wp2_with (go_at_call 24; (refine (drawSum_any _ _ _ _ _ HL1 (Lib.hid (HI1.out.below T.out)) h1).mono ?_); rintro e v14 ⟨sa, sl, sc, us, rfl, hsl', ho, hr, b⟩; obtain ⟨hul, hsrc⟩ := ho.src hr; have HLU := Lib.hid hul; have SA := Lib.hid hsrc; have T := Lib.hid (T.out.trans (b.mono T.out.size)); clear hsrc b ho hr hul; obtain ⟨X, okX, HIm7, HSp7⟩ := checksum_srcs sl us HLU)
    go_wp2_with (go_at_call 25; refine (HIm7.out _ _ _ SA).mono ?_; rintro e w' ⟨rfl, rfl⟩)
    go_wp2_with (go_at_call 26; refine (HSp7.out _ _ _ SA).mono ?_; rintro e w' ⟨rfl, rfl⟩; cases ok2 <;> (try (obtain ⟨e1, e2⟩ := HE2.out rfl)))
    all_goals (go_ret; exact ⟨rfl, T.out⟩)
  · have dy := is_lt hyes
    obtain ⟨fb, hb10, hix, hfb⟩ := HO4.out rfl hyes
    have HFB2 := Lib.hid hfb
    clear hfb
    go_wp2_with (go_at_call 14; refine (HFB2.out _).mono ?_; rintro e w' ⟨rfl, rfl⟩)
    go_wp2_with (go_at_call 24; (refine (drawSum_any _ _ _ _ _ HL1 (Lib.hid (HI1.out.below T.out)) h1).mono ?_); rintro e v14 ⟨sa, sl, sc, us, rfl, hsl', ho, hr, b⟩; obtain ⟨hul, hsrc⟩ := ho.src hr; have HLU := Lib.hid hul; have SA := Lib.hid hsrc; have T := Lib.hid (T.out.trans (b.mono T.out.size)); clear hsrc b ho hr hul; obtain ⟨X, okX, HIm7, HSp7⟩ := checksum_srcs sl us HLU)
    go_wp2_with (go_at_call 25; refine (HIm7.out _ _ _ SA).mono ?_; rintro e w' ⟨rfl, rfl⟩)
    go_wp2_with (go_at_call 26; refine (HSp7.out _ _ _ SA).mono ?_; rintro e w' ⟨rfl, rfl⟩; cases ok2 <;> (try (obtain ⟨e1, e2⟩ := HE2.out rfl)))
    all_goals (go_ret; exact ⟨rfl, T.out⟩)

theorem walk (a0 : Option Addr) (len0 cap0 : Nat) (z0 : List Int) (a1 : Option Addr) (len1 cap1 : Nat) (z1 : List Int) (w : World) (w0 : IsRow .u8 w a0 len0 cap0 z0) (w1 : IsRow .u8 w a1 len1 cap1 z1) (hD : Dig w) :
    Calls Tryd.prog 3 #[.slice a0 len0 cap0, .slice a1 len1 cap1] w fun e w' => e = .returned (.bool true) ∧ Below w.heap.size w w' := by
  obtain ⟨hm0, ys0, HL0, HI0⟩ := w0.view
  obtain ⟨hm1, ys1, HL1, HI1⟩ := w1.view
  unfold maxLen at hm0 hm1
  rcases Bool.eq_false_or_eq_true (decide ((1048576 : Int) < wrap64 ((len0 : Int) + len1))) with d | d
  · clear HL0 HI0 HL1 HI1 hm0 hm1
    go_enter Tryd.func3, Tryd.ntmps3
    go_wp2
    go_ret
    exact ⟨rfl, Below.refl _ _⟩
  · exact walk_in a0 a1 len0 len1 cap0 cap1 ys0 ys1 w (Lib.hid hD) HL0 HI0 HL1 HI1 (by omega) (by omega) d

theorem contract (H : Type) (enc : TypeId × Value → H) (W : World) (base : Nat) (args : Array Value) (ds gs : List (DataW H)) (before : List MemPlace)
    (hval : ∀ (j : Nat) t v, Tryd.f3.params[j]? = some t → args[j]? = some v → Value.okWide Tryd.prog W .any base t v)
    (hW : DataW.Whole enc Tryd.prog Tryd.f3.params.toList Rows.fnWrittenSpec.vars false W args.toList ds gs before) (hL : laidMetH Tryd.prog Rows.fnWrittenRow.laid W) :
    Calls Tryd.prog 3 args W fun e W' => ∃ v, e = .returned v ∧ Rows.fnWrittenSpec.post enc Tryd.prog Tryd.f3 false true false false W args v W' := by
  have hW' := hW
  obtain ⟨p, q, hA0, hV, rfl, hfz, hnd⟩ := hW
  have hA : DataW.TrodAll enc Tryd.prog W 0 (fun _ => true) true Tryd.f3.params.toList args.toList ds p := hA0
  rw [Tryd.params3] at hA hval
  obtain ⟨v0, vs0, d0, ds0, p0, q0, hargs, rfl, rfl, h0, r0⟩ := trodAll_cons hA
  obtain ⟨v1, vs1, d1, ds1, p1, q1, rfl, rfl, rfl, h1, r1⟩ := trodAll_cons r0
  obtain ⟨rfl, rfl, rfl⟩ := trodAll_nil r1
  obtain rfl : args = #[v0, v1] := by cases args; simp_all
  have hV2 := hV
  obtain ⟨gV, tV, cV, fV, dV, pV, rfl, _, _, _, _, rfl⟩ := trodVars_one hV
  obtain ⟨a0, len0, cap0, rfl⟩ := okWide_slice Tryd.underlying22 (hval 0 22 v0 rfl rfl)
  have k0 := h0
  have lt0 : ∀ x ∈ p0, x.block < W.heap.size := by obtain ⟨m, hm⟩ := k0; exact DataW.trod_lt m _ _ _ hm
  obtain ⟨z0, w0⟩ : ∃ zs, IsRow .u8 W a0 len0 cap0 zs := by
    obtain ⟨fuel, hf⟩ := h0
    rcases open_ints Tryd.underlying22 Tryd.underlying5 (by kernel_rfl) hf with ⟨hcs, _⟩ | ⟨x, l, c, zs, hcs, _, hl, hm, hz, _, hcell, hwz⟩
    · simp [Value.cells] at hcs
      obtain ⟨rfl, rfl, rfl⟩ := hcs
      exact ⟨[], .inl ⟨rfl, rfl, rfl, rfl⟩⟩
    · simp [Value.cells] at hcs
      obtain ⟨rfl, rfl, rfl⟩ := hcs
      exact ⟨zs, .inr ⟨_, rfl, hl, hm, by simpa using hz, hcell, hwz⟩⟩
  obtain ⟨a1, len1, cap1, rfl⟩ := okWide_slice Tryd.underlying22 (hval 1 22 v1 rfl rfl)
  have k1 := h1
  have lt1 : ∀ x ∈ p1, x.block < W.heap.size := by obtain ⟨m, hm⟩ := k1; exact DataW.trod_lt m _ _ _ hm
  obtain ⟨z1, w1⟩ : ∃ zs, IsRow .u8 W a1 len1 cap1 zs := by
    obtain ⟨fuel, hf⟩ := h1
    rcases open_ints Tryd.underlying22 Tryd.underlying5 (by kernel_rfl) hf with ⟨hcs, _⟩ | ⟨x, l, c, zs, hcs, _, hl, hm, hz, _, hcell, hwz⟩
    · simp [Value.cells] at hcs
      obtain ⟨rfl, rfl, rfl⟩ := hcs
      exact ⟨[], .inl ⟨rfl, rfl, rfl, rfl⟩⟩
    · simp [Value.cells] at hcs
      obtain ⟨rfl, rfl, rfl⟩ := hcs
      exact ⟨zs, .inr ⟨_, rfl, hl, hm, by simpa using hz, hcell, hwz⟩⟩
  clear hA0
  refine (walk a0 len0 cap0 z0 a1 len1 cap1 z1 W w0 w1 (dig_of_laid hL)).mono fun e W' ⟨he, bel⟩ => ?_
  subst he
  exact ⟨_, rfl, _, _, _, [], _, _, hW', trodAll_mk1 (shut_bool Tryd.underlying4 _), (trodAll_cons_mk (Below.trod laidOut (by kernel_rfl) (of_decide_eq_true (by kernel_rfl)) k0 bel lt0) (trodAll_cons_mk (Below.trod laidOut (by kernel_rfl) (of_decide_eq_true (by kernel_rfl)) k1 bel lt1) trodAll_mk0)), Below.trodVars laidOut bel (by kernel_rfl) hV2, bel.frame _, fun h => by cases h⟩

theorem laid_met (os : Os) : laidMet Tryd.prog Rows.fnWrittenRow.laid ((laidWorld os).forCall (fun _ _ => 0) ⟨#[], #[.slice none 0 0, .slice none 0 0], []⟩).memory :=
  laidMet_of_run' 8 (by kernel_rfl) (by kernel_rfl)
theorem reads (os : Os) {H : Type} (enc : TypeId × Value → H) : ∃ places, DataW.whole enc Tryd.prog ((laidWorld os).forCall (fun _ _ => 0) ⟨#[], #[.slice none 0 0, .slice none 0 0], []⟩).memory Tryd.f3.params.toList Rows.fnWrittenSpec.vars false (#[.slice none 0 0, .slice none 0 0] : Array Value).toList 8 = some ([.nil, .nil], [Rows.laid_loop_example_g00838_impl_digits], places) :=
  ⟨[.cell 0 0, .cell 0 1], by kernel_rfl⟩

set_option maxRecDepth 100000 in
theorem lifted (os : Os) (started : os.Started) (H : Type) (enc : TypeId × Value → H) (F : Stop.Interp) :
    ReturnsInHanded {} Tryd.checked os 3 .any ((OpenSpec.ofChange Rows.fnWrittenSpec).preRow enc Tryd.prog Tryd.f3 Rows.fnWrittenRow.domain false Rows.fnWrittenRow.laid) (((OpenSpec.ofChange Rows.fnWrittenSpec).at F).post enc Tryd.prog Tryd.f3 false true false false) := by
  obtain ⟨places, hx⟩ := reads os enc
  refine returnsInHanded_of_row (C := Tryd.checked) (s := OpenSpec.ofChange Rows.fnWrittenSpec) own started (by kernel_rfl) Tryd.func3
    (witness_row_at (enc := enc) (C := Tryd.checked) false (laidWorld os) #[.slice none 0 0, .slice none 0 0] rfl (by kernel_rfl) (by kernel_rfl) (by kernel_rfl)
      (OpenSpec.preRow_of_cond 8 hx (by kernel_rfl) (fun k hk => by cases hk) (by kernel_rfl) (laid_met os))) ?_
  intro W base args ds gs before hval hW _ _ _ hL _ _
  exact contract H enc W base args ds gs before hval hW hL

theorem said : Rows.FnWrittenSaid :=
  OpenClaim.holds_of_cond 3 Tryd.f3 rfl rfl rfl rfl rfl rfl rfl ⟨rfl, rfl, rfl, rfl, rfl⟩ rfl rfl rfl rfl rfl (by kernel_rfl) Tryd.func3 (by kernel_rfl)
    (of_decide_eq_true (by kernel_rfl)) (by unfold Func.isWrapper; first | (rw [if_pos (by decide +kernel)]; kernel_rfl) | (rw [if_neg (by decide +kernel)]; exact ⟨rfl, rfl⟩))
    (fun os started H enc _ F => by rw [OpenClaim.pre_eq_preRow]; exact lifted os started H enc F)

theorem plain (f : FuncId) (fn : Func) (hf : Tryd.pinned.checked.prog.funcNamed "loop.example/g00838/laws.FnWritten" = some f) (hfn : Tryd.pinned.checked.prog.funcs[f]? = some fn) :
    false = Tryd.pinned.checked.prog.looks [] ∧ ∀ (j : Nat) t, fn.params[j]? = some t → Tryd.pinned.checked.prog.wantsStandIn t = false := by
  obtain rfl : f = 3 := Option.some.inj ((show Tryd.prog.funcNamed "loop.example/g00838/laws.FnWritten" = some 3 by kernel_rfl).symm.trans hf) |>.symm
  obtain rfl : fn = Tryd.f3 := (Option.some.inj (Tryd.func3.symm.trans hfn)).symm
  refine ⟨by kernel_rfl, fun j t ht => ?_⟩
  rw [Tryd.params3] at ht
  have hm : t ∈ [22, 22] := by simpa using Array.mem_of_getElem? ht
  have hall : ([22, 22].all fun u => !Tryd.prog.wantsStandIn u) = true := by kernel_rfl
  exact (show Tryd.prog.wantsStandIn t = false by simpa using List.all_eq_true.1 hall t hm)

theorem proved : Rows.FnWrittenCardSaid :=
  Claim7.holds_tied_plain_at .later [] _ _ _ _ said (fun _ h => by cases h) (by kernel_rfl) (fun _ h => by cases h) fnWritten_row_tie rfl ⟨rfl, rfl⟩ (by kernel_rfl) rfl plain (by kernel_rfl)
end Go.Proofs.YtniggnjnpapkeabDoor.fnWritten
