/- For every bytes that FnLittle draws from: bytes of numbers are read back, padded bytes are aligned and padded, checksums do not change by padding: the law FnLittle returns true. No condition. -/
import Derived.Test.YtelkpdkpnaeggaaRows
import Derived.Test.YtelkpdkpnaeggaaGot
import Derived.ProofKit
import Derived.OpenShut
import Derived.ShutString
import Derived.ChangeOld
namespace Go.Proofs.Ytelkpdkpnaeggaa.fnLittle
open Go.ChangeShapes Go.WideShapes Go.ChangeAt Go.RowKit
open Go.ChangeMaps (open_string shut_string)
set_option linter.unusedVariables false

theorem checksum_two (m s : Nat) (us : List Int) (hr : ∀ c ∈ us, 0 ≤ c ∧ c ≤ 255) (hm : m ≤ s) (hs : s ≤ 4000) (HL : Hid (us.length = m)) : ∃ X : Int,
    Hid (∀ a cap w, Hid (SrcAt w a m cap us) → Calls Try.prog 21 #[.slice a m cap] w fun e w' => e = .returned (.tuple #[.int .i64 X, .bool true]) ∧ w = w') ∧
    Hid (∀ a cap w, Hid (SrcAt w a s cap (padded us s)) → Calls Try.prog 21 #[.slice a s cap] w fun e w' => e = .returned (.tuple #[.int .i64 X, .bool true]) ∧ w = w') := by
  refine ⟨65535 - csum us 0, fun a cap w h => checksum_src m us HL (by omega) a cap w h, fun a cap w h => ?_⟩
  have h2 := checksum_src s (padded us s) (padded_length _ _ (by have := HL.out; omega)) (by omega) a cap w h
  rw [csum_padded us s hr] at h2
  exact h2

theorem mod_ne {a b : Int} (h : a % b = 0) : (a % b != 0) = false := by simp [h]

set_option maxRecDepth 100000 in
set_option maxHeartbeats 4000000 in
theorem walk_in (a0 a1 : Option Addr) (n0 n1 cap0 cap1 : Nat) (ys0 ys1 : List Int) (w : World) (HL0 : Hid (ys0.length = n0)) (HI0 : Hid (In w a0 ys0)) (HL1 : Hid (ys1.length = n1)) (HI1 : Hid (In w a1 ys1)) (h0 : n0 ≤ 9223372036854775807) (h1 : n1 ≤ 9223372036854775807) (d : decide ((1048576 : Int) < wrap64 ((n0 : Int) + n1)) = false) :
    Calls Try.prog 3 #[.slice a0 n0 cap0, .slice a1 n1 cap1] w fun e w' => e = .returned (.bool true) ∧ Below w.heap.size w w' := by
  go_enter Try.func3, Try.ntmps3
  go_wp2_with (go_at_call 7; refine (drawWrite_any _ _ _ _ _ HL0 HI0 h0).mono ?_; rintro e v1 ⟨x, y, rfl, b⟩; have T1 := Lib.hid b; clear b; obtain ⟨ok1, k1, z1, hk1, HZ1, HO1, HIm1, HSp1⟩ := writeLittle_got x y)
  go_wp2_with (go_at_call 8; refine (HIm1.out _).mono ?_; rintro e v2 ⟨ga, ca, rfl, hc, hsrc, b⟩; have A2 := Lib.hid hsrc; have T2 := Lib.hid (T1.out.trans (b.mono T1.out.size)); clear hsrc b)
  go_wp2_with (go_at_call 9; refine (HSp1.out _).mono ?_; rintro e v3 ⟨gb, cb, rfl, hcb, hsrc, b⟩; have B3 := Lib.hid hsrc; have A3 := Lib.hid (A2.out.below b); have T3 := Lib.hid (T2.out.trans (b.mono T2.out.size)); clear hsrc b)
  go_wp2_with (go_at_call 10; refine (drawRead_any _ _ _ _ _ HL1 (Lib.hid (HI1.out.below T3.out)) h1).mono ?_; rintro e v4 ⟨da, l, dc, xs, lo, wd, rfl, hl, ho, hr, b⟩; obtain ⟨hxl, hsrc⟩ := ho.src hr; have hlc := SrcAt.len ho; have HLX := Lib.hid hxl; have D4 := Lib.hid hsrc; have A4 := Lib.hid (A3.out.below b); have B4 := Lib.hid (B3.out.below b); have T4 := Lib.hid (T3.out.trans (b.mono T3.out.size)); clear hsrc b ho hr hxl; obtain ⟨r2, ok2, HIm2, HSp2⟩ := readLittle_src l xs lo wd HLX)
  go_wp2_with (go_at_call 11; refine (HIm2.out _ _ _ hlc D4).mono ?_; rintro e w' ⟨rfl, rfl⟩)
  go_wp2_with (go_at_call 12; refine (HSp2.out _ _ _ hlc D4).mono ?_; rintro e w' ⟨rfl, rfl⟩)
  go_wp2_with (go_at_call 13; refine (drawPad_any _ _ _ _ _ HL1 (Lib.hid (HI1.out.below T4.out)) h1).mono ?_; rintro e v5 ⟨la, m, lc, us, by', rfl, hm, ho, hr, b⟩; obtain ⟨hul, hsrc⟩ := ho.src hr; have HLU := Lib.hid hul; have HRU := Lib.hid hr; have L5 := Lib.hid hsrc; have A5 := Lib.hid (A4.out.below b); have B5 := Lib.hid (B4.out.below b); have T5 := Lib.hid (T4.out.trans (b.mono T4.out.size)); clear hsrc b ho hr hul; obtain ⟨ok3, s, z3, hs3, HZ3, HO3, HIm3, HSp3⟩ := padTo_got m us by' HLU HRU.out)
  go_wp2_with (go_at_call 14; refine (HIm3.out _ _ _ L5).mono ?_; rintro e v6 ⟨pa, pc, rfl, hpc, hsrc, b⟩; have P6 := Lib.hid hsrc; have L6 := Lib.hid (L5.out.below b); have A6 := Lib.hid (A5.out.below b); have B6 := Lib.hid (B5.out.below b); have T6 := Lib.hid (T5.out.trans (b.mono T5.out.size)); clear hsrc b)
  go_wp2_with (go_at_call 15; refine (HSp3.out _ _ _ L6).mono ?_; rintro e v7 ⟨qa, qc, rfl, hqc, hsrc, b⟩; have Q7 := Lib.hid hsrc; have P7 := Lib.hid (P6.out.below b); have L7 := Lib.hid (L6.out.below b); have A7 := Lib.hid (A6.out.below b); have B7 := Lib.hid (B6.out.below b); have T7 := Lib.hid (T6.out.trans (b.mono T6.out.size)); clear hsrc b)
  go_wp2_with (go_at_call 16; refine (drawAlign_any _ _ _ _ _ HL1 (Lib.hid (HI1.out.below T7.out)) h1).mono ?_; rintro e v8 ⟨mm, to, rfl, b⟩; have Q8 := Lib.hid (Q7.out.below b); have P8 := Lib.hid (P7.out.below b); have L8 := Lib.hid (L7.out.below b); have A8 := Lib.hid (A7.out.below b); have B8 := Lib.hid (B7.out.below b); have T8 := Lib.hid (T7.out.trans (b.mono T7.out.size)); clear b; obtain ⟨five, al, HF, HIA, HSA⟩ := alignUp_got mm to)
  go_wp2_with (go_at_call 17; refine (HIA.out _).mono ?_; rintro e w' ⟨rfl, rfl⟩)
  go_wp2_with (go_at_call 18; refine (HSA.out _).mono ?_; rintro e w' ⟨rfl, rfl⟩)
  go_wp2_with (go_at_call 19; (with_reducible refine (qBytes_src _ _ _ _ _ _ _ HZ1 A8 B8 (by omega)).mono ?_); rintro e v9 ⟨rfl, q⟩; have Q9 := Lib.hid (Q8.out.below (q.below _)); have P9 := Lib.hid (P8.out.below (q.below _)); have L9 := Lib.hid (L8.out.below (q.below _)); have A9 := Lib.hid (A8.out.below (q.below _)); have T9 := Lib.hid (T8.out.trans (q.below _)); clear q)
  go_wp2_with (go_at_call 19; (with_reducible refine (qBytes_src _ _ _ _ _ _ _ HZ3 P9 Q9 (by omega)).mono ?_); rintro e v10 ⟨rfl, q⟩; have P10 := Lib.hid (P9.out.below (q.below _)); have L10 := Lib.hid (L9.out.below (q.below _)); have A10 := Lib.hid (A9.out.below (q.below _)); have T10 := Lib.hid (T9.out.trans (q.below _)); clear q; cases five <;> cases ok3 <;> cases ok1 <;> (try (obtain ⟨f1, f2, f3, f4, f5, f6, f7, f8, f9⟩ := HF.out rfl)) <;> (try (obtain ⟨g1, g2, g3, g4, g5⟩ := HO3.out rfl; subst g5; have g6 : ((s : Int) % by' != 0) = false := mod_ne g4; obtain ⟨X, HX1, HX2⟩ := checksum_two m s us HRU.out g1 hs3 HLU)) <;> (try (obtain ⟨e1, rfl, e3⟩ := HO1.out rfl)))
  all_goals (try (go_wp2_with (first | (go_at_call 20; go_loud (refine (isPadded_src _ _ _ hs3 g1 HLU _ _ _ P10).mono ?_); rintro e w' ⟨rfl, rfl⟩) | (go_at_call 21; (with_reducible refine (HX1.out _ _ _ L10).mono ?_); rintro e w' ⟨rfl, rfl⟩) | (go_at_call 21; (with_reducible refine (HX2.out _ _ _ P10).mono ?_); rintro e w' ⟨rfl, rfl⟩) | (go_at_call 11; go_loud (refine (readBack_src _ _ _ _ HZ1 hk1 e1 rfl e3 _ _ _ A10).mono ?_); rintro e w' ⟨rfl, rfl⟩))))
  all_goals (go_ret; exact ⟨rfl, T10.out⟩)

set_option maxRecDepth 100000 in
theorem walk (a0 : Option Addr) (len0 cap0 : Nat) (z0 : List Int) (a1 : Option Addr) (len1 cap1 : Nat) (z1 : List Int) (w : World) (w0 : IsRow .u8 w a0 len0 cap0 z0) (w1 : IsRow .u8 w a1 len1 cap1 z1) :
    Calls Try.prog 3 #[.slice a0 len0 cap0, .slice a1 len1 cap1] w fun e w' => e = .returned (.bool true) ∧ Below w.heap.size w w' := by
  obtain ⟨hm0, ys0, HL0, HI0⟩ := w0.view
  obtain ⟨hm1, ys1, HL1, HI1⟩ := w1.view
  unfold maxLen at hm0 hm1
  rcases Bool.eq_false_or_eq_true (decide ((1048576 : Int) < wrap64 ((len0 : Int) + len1))) with d | d
  · clear HL0 HI0 HL1 HI1 hm0 hm1
    go_enter Try.func3, Try.ntmps3
    go_wp2
    go_ret
    exact ⟨rfl, Below.refl _ _⟩
  · exact walk_in a0 a1 len0 len1 cap0 cap1 ys0 ys1 w HL0 HI0 HL1 HI1 (by omega) (by omega) d

set_option maxRecDepth 100000 in
theorem lifted (os : Os) (started : os.Started) (H : Type) (enc : TypeId × Value → H) :
    ReturnsInHanded {} Try.checked os 3 .any (Rows.fnLittleSpec.pre6 enc Try.prog Try.f3 Rows.fnLittleRow.domain false) (Rows.fnLittleSpec.post enc Try.prog Try.f3 false true false false) := by
  refine returnsInHanded_of_change (C := Try.checked) own started (by kernel_rfl) Try.func3
    (ChangeSpec.witness6 (enc := enc) (C := Try.checked) false ⟨#[], #[.slice none 0 0, .slice none 0 0], []⟩ 8 (by kernel_rfl) (by kernel_rfl) (by kernel_rfl) (by kernel_rfl)) ?_
  intro W base args ds gs before hval0 hW hcnd _
  have hval : ∀ (j : Nat) t v, Try.f3.params[j]? = some t → args[j]? = some v → Value.okWide Try.prog W .any base t v := hval0
  have hW' := hW
  obtain ⟨p, q, hA0, hV, rfl, hfz, hnd⟩ := hW
  have hA : DataW.TrodAll enc Try.prog W 0 (fun _ => true) true Try.f3.params.toList args.toList ds p := hA0
  rw [Try.params3] at hA hval
  obtain ⟨v0, vs0, d0, ds0, p0, q0, hargs, rfl, rfl, h0, r0⟩ := trodAll_cons hA
  obtain ⟨v1, vs1, d1, ds1, p1, q1, rfl, rfl, rfl, h1, r1⟩ := trodAll_cons r0
  obtain ⟨rfl, rfl, rfl⟩ := trodAll_nil r1
  obtain rfl : args = #[v0, v1] := by cases args; simp_all
  obtain ⟨rfl, rfl⟩ := trodVars_none hV
  obtain ⟨a0, len0, cap0, rfl⟩ := okWide_slice Try.underlying22 (hval 0 22 v0 rfl rfl)
  have k0 := h0
  have lt0 : ∀ x ∈ p0, x.block < W.heap.size := by obtain ⟨m, hm⟩ := k0; exact DataW.trod_lt m _ _ _ hm
  obtain ⟨z0, w0⟩ : ∃ zs, IsRow .u8 W a0 len0 cap0 zs := by
    obtain ⟨fuel, hf⟩ := h0
    rcases open_ints Try.underlying22 Try.underlying5 (by kernel_rfl) hf with ⟨hcs, _⟩ | ⟨x, l, c, zs, hcs, _, hl, hm, hz, _, hcell, hwz⟩
    · simp [Value.cells] at hcs
      obtain ⟨rfl, rfl, rfl⟩ := hcs
      exact ⟨[], .inl ⟨rfl, rfl, rfl, rfl⟩⟩
    · simp [Value.cells] at hcs
      obtain ⟨rfl, rfl, rfl⟩ := hcs
      exact ⟨zs, .inr ⟨_, rfl, hl, hm, by simpa using hz, hcell, hwz⟩⟩
  obtain ⟨a1, len1, cap1, rfl⟩ := okWide_slice Try.underlying22 (hval 1 22 v1 rfl rfl)
  have k1 := h1
  have lt1 : ∀ x ∈ p1, x.block < W.heap.size := by obtain ⟨m, hm⟩ := k1; exact DataW.trod_lt m _ _ _ hm
  obtain ⟨z1, w1⟩ : ∃ zs, IsRow .u8 W a1 len1 cap1 zs := by
    obtain ⟨fuel, hf⟩ := h1
    rcases open_ints Try.underlying22 Try.underlying5 (by kernel_rfl) hf with ⟨hcs, _⟩ | ⟨x, l, c, zs, hcs, _, hl, hm, hz, _, hcell, hwz⟩
    · simp [Value.cells] at hcs
      obtain ⟨rfl, rfl, rfl⟩ := hcs
      exact ⟨[], .inl ⟨rfl, rfl, rfl, rfl⟩⟩
    · simp [Value.cells] at hcs
      obtain ⟨rfl, rfl, rfl⟩ := hcs
      exact ⟨zs, .inr ⟨_, rfl, hl, hm, by simpa using hz, hcell, hwz⟩⟩
  clear hA0 hval0
  refine (walk a0 len0 cap0 z0 a1 len1 cap1 z1 W w0 w1).mono fun e W' ⟨he, bel⟩ => ?_
  subst he
  exact ⟨_, rfl, _, _, _, [], _, [], hW', trodAll_mk1 (shut_bool Try.underlying4 _), (trodAll_cons_mk (Below.trod laidOut (by kernel_rfl) (of_decide_eq_true (by kernel_rfl)) k0 bel lt0) (trodAll_cons_mk (Below.trod laidOut (by kernel_rfl) (of_decide_eq_true (by kernel_rfl)) k1 bel lt1) trodAll_mk0)), rfl, bel.frame _, fun h => by cases h⟩

theorem over : Rows.fnLittleRow.holds Try.pinned (OpenSpec.ofChange Rows.fnLittleSpec) :=
  OpenClaim.holds_of_wide 3 Try.f3 rfl rfl rfl rfl rfl rfl rfl ⟨rfl, rfl, rfl, rfl, rfl⟩ rfl rfl rfl rfl rfl (by kernel_rfl) Try.func3 (by kernel_rfl)
    (of_decide_eq_true (by kernel_rfl)) (by unfold Func.isWrapper; first | (rw [if_pos (by decide +kernel)]; kernel_rfl) | (rw [if_neg (by decide +kernel)]; exact ⟨rfl, rfl⟩))
    (fun os started H enc _ => lifted os started H enc)

theorem proved : Rows.FnLittleSaid := over
end Go.Proofs.Ytelkpdkpnaeggaa.fnLittle

