/- For every slice of tokens, impl.CountTokens answers as its model does, writes into no argument and owns what it answers: the law FnExactCountTokens returns true. The tables of digits, units, key words and signs start as the program's text lays them (the card ties them). No other condition. -/
import Derived.Test.YtnenfpbiobmlcaaDoorCards
import Derived.Test.YtnenfpbiobmlcaaDoorTie
import Derived.Test.YtnenfpbiobmlcaaDoorTkt
import Derived.Test.YtnenfpbiobmlcaaDoorTkt5
import Derived.ProofKit
import Derived.OpenShut
import Derived.ShutString
import Derived.ChangeOld
import Derived.ChangeVars
import Derived.Carry
import Derived.Deep.DeepHandedRow
namespace Go.Proofs.YtnenfpbiobmlcaaDoor.fnExactCountTokens
set_option maxRecDepth 100000
open Go.ChangeShapes Go.WideShapes Go.ChangeAt Go.RowKit
set_option linter.unusedVariables false

set_option maxRecDepth 100000 in
set_option maxHeartbeats 6400000 in
theorem walk (a : Option Addr) (n c : Nat) (l : List Tok) (hm : n ≤ maxLen) (w : World) (hn : l.length = n) (hI : InT w a l) (hM : SzM l) (hT : Tabs w) :
    Calls Tryd.prog 8 #[.slice a n c] w fun e w' => e = .returned (.bool true) ∧ Below w.heap.size w w' := by
  have HT := Lib.hid hT
  have HI := Lib.hid hI
  have HN := Lib.hid hn
  unfold maxLen at hm
  have HZ := Lib.hid (szTokenS_any a n c l w HI HN hm hM)
  have HJ := Lib.hid (fun v w h hz hl => specCount_any v l w h hz hl)
  have HK := Lib.hid (fun v w hT h hz => implCount_any v l w hT h hz)
  clear hT hI hn hM
  go_enter Tryd.func8, Tryd.ntmps8
  go_wp2_with (go_at_call 27; refine (HZ.out).mono ?_; rintro e w1 ⟨r0, rfl, b1, q1⟩; have B1 := Lib.hid b1; have Q1 := Lib.hid q1; clear b1 q1; refine Hid.out ?_)
  refine Lib.hid ?_
  by_cases h : r0 < 0
  · have d := is_lt h
    go_wp2_with fail
    go_ret
    exact ⟨rfl, B1.out⟩
  · have d := not_lt (Int.not_lt.1 h)
    have Q := Q1.out (by omega)
    have hl6 := Q.1
    have hn6 : n ≤ 1048576 := by rw [← HN.out]; exact hl6
    have HS := Lib.hid Q.2
    have I1 := Lib.hid (HI.out.below B1.out)
    have dq : decide (4 * (l.length : Int) + 1 < 0) = false := not_lt (by omega)
    clear Q h Q1 HZ
    have HTo := Lib.hid (fun w hI => toTokenS_any a n c l w hI HN hn6)
    rcases Bool.eq_false_or_eq_true (lsG l) with hls | hls
    · have HG := Lib.hid (cnt_range l hls)
      have HL : Hid ((cntL l).length = 4) := Lib.hid rfl
      have HE := Lib.hid (fun ga gb w h h' => eqIntS_same ga 0 gb 0 4 4 4 (cntL l) w HL h h' (by omega))
      have HJ2 := Lib.hid (fun v w h => ((HJ.out v w h HS hl6).mono fun e w' h => h.good hls))
      have HK2 := Lib.hid (fun v w hT h => ((HK.out v w hT h HS).mono fun e w' h => h.good hls))
      clear HJ HK
      go_wp2_with (go_at_call 29; refine (HTo.out _ I1).mono ?_; rintro e w2 ⟨v, rfl, s2, b2, _⟩; have B2 := Lib.hid (B1.out.trans (b2.mono B1.out.size)); have S2 := Lib.hid s2; clear b2 s2)
      go_wp2_with (go_at_call 31; refine (HJ2.out v _ S2).mono ?_; rintro e w3 ⟨gs, rfl, o3, b3⟩; have B3 := Lib.hid (B2.out.trans (b3.mono B2.out.size)); have I3 := Lib.hid (HI.out.below B3.out); have A3 := Lib.hid o3; clear b3 o3)
      go_wp2_with (go_at_call 29; refine (HTo.out _ I3).mono ?_; rintro e w4 ⟨v', rfl, s4, b4, o4⟩; have B4 := Lib.hid (B3.out.trans (b4.mono B3.out.size)); have S4 := Lib.hid s4; have O4 := Lib.hid o4; have T4 := Lib.hid (HT.out.below B4.out); have A4 := Lib.hid (A3.out.below b4 A3.out.lt.2); have Z4 := Lib.hid b4.size; clear b4 s4 o4)
      go_wp2_with (go_at_call 32; refine (HK2.out v' _ T4 S4).mono ?_; rintro e w5 ⟨gi, rfl, o5, b5⟩; have B5 := Lib.hid (B4.out.trans (b5.mono B4.out.size)); have S5 := Lib.hid (S4.out.below b5); have O5 := Lib.hid (O4.out.below b5 (Nat.le_refl _)); have A5 := Lib.hid (A4.out.below b5 A4.out.lt.2); have P5 := Lib.hid o5; clear b5 o5)
      go_wp2_with (go_at_call 33; refine (HE.out gi gs _ (Lib.hid (P5.out.row HG.out)) (Lib.hid (A5.out.row HG.out))).mono ?_; rintro e w6 ⟨rfl, d6⟩; have b6 := d6.below w5.heap.size; have B6 := Lib.hid (B5.out.trans (b6.mono B5.out.size)); have I6 := Lib.hid (HI.out.below B6.out); have S6 := Lib.hid (S5.out.below b6); have O6 := Lib.hid (O5.out.below b6 (Nat.le_refl _)); have A6 := Lib.hid (A5.out.below b6 A5.out.lt.2); have P6 := Lib.hid (P5.out.below b6 P5.out.lt.2); clear b6 d6)
      go_wp2_with (go_at_call 29; refine (HTo.out _ I6).mono ?_; rintro e w7 ⟨v'', rfl, s7, b7, _⟩; have B7 := Lib.hid (B6.out.trans (b7.mono B6.out.size)); have S7 := Lib.hid (S6.out.below b7); have S7' := Lib.hid s7; have O7 := Lib.hid (O6.out.below b7 (Nat.le_refl _)); have A7 := Lib.hid (A6.out.below b7 A6.out.lt.2); have P7 := Lib.hid (P6.out.below b7 P6.out.lt.2); clear b7 s7)
      go_wp2_with (go_at_call 20; refine (eqTokenS_any v' v'' l _ S7 S7' hl6).mono ?_; rintro e w8 ⟨rfl, b8⟩; have B8 := Lib.hid (B7.out.trans (b8.mono B7.out.size)); have O8 := Lib.hid (O7.out.below b8 (Nat.le_refl _)); have A8 := Lib.hid (A7.out.below b8 A7.out.lt.2); have P8 := Lib.hid (P7.out.below b8 P7.out.lt.2); clear b8)
      go_wp2_with (go_at_call 21; refine (markTokenS_spare v' w3.heap.size w4.heap.size _ l _ O8 (Lib.hid O4.out.lt_of) hl6).mono ?_; rintro e w9 ⟨rfl, p9⟩; have B9 := Lib.hid (B8.out.trans (p9.1.mono B3.out.size)); have A9 := Lib.hid (A8.out.below p9.1 A3.out.lt.2); have P9 := Lib.hid (P8.out.block (p9.2 gi P5.out.lt.1 P8.out.lt.2)); clear p9)
      go_wp2_with (go_at_call 33; refine (HE.out gi gs _ (Lib.hid (P9.out.row HG.out)) (Lib.hid (A9.out.row HG.out))).mono ?_; rintro e w10 ⟨rfl, d10⟩; have b10 := d10.below w9.heap.size; have B10 := Lib.hid (B9.out.trans (b10.mono B9.out.size)); have A10 := Lib.hid (A9.out.below b10 A9.out.lt.2); have P10 := Lib.hid (P9.out.below b10 P9.out.lt.2); clear b10 d10)
      go_wp2_with (go_at_call 34; refine (markIntS_four _ gi _ _ P10).mono ?_; rintro e w11 ⟨rfl, hw⟩; have b11 := marks4_below w10 gi; rw [← hw] at b11; have hgi := Nat.le_trans B4.out.size P5.out.lt.1; have hgs := Nat.lt_of_lt_of_le (Nat.lt_of_lt_of_le A3.out.lt.2 Z4.out) P5.out.lt.1; have B11 := Lib.hid (B10.out.trans (b11.mono hgi)); have A11 := Lib.hid (A10.out.below b11 hgs); have P11 := Lib.hid P10.out.marks; rw [← hw] at P11; have I11 := Lib.hid (HI.out.below B11.out); have T11 := Lib.hid (HT.out.below B11.out); clear b11 hgi hgs hw)
      go_wp2_with (go_at_call 35; refine (heldIntS_four _ gi _ P11).mono ?_; rintro e w12 ⟨rfl, rfl⟩)
      go_wp2_with (go_at_call 29; refine (HTo.out _ I11).mono ?_; rintro e w13 ⟨v3, rfl, s13, b13, _⟩; have B13 := Lib.hid (B11.out.trans (b13.mono B11.out.size)); have S13 := Lib.hid s13; have T13 := Lib.hid (HT.out.below B13.out); have A13 := Lib.hid (A11.out.below b13 A11.out.lt.2); have P13 := Lib.hid (P11.out.below b13 P11.out.lt.2); clear b13 s13)
      go_wp2_with (go_at_call 32; refine (HK2.out v3 _ T13 S13).mono ?_; rintro e w14 ⟨gj, rfl, o14, b14⟩; have B14 := Lib.hid (B13.out.trans (b14.mono B13.out.size)); have A14 := Lib.hid (A13.out.below b14 A13.out.lt.2); have P14 := Lib.hid (P13.out.below b14 P13.out.lt.2); have J14 := Lib.hid o14; clear b14 o14)
      go_wp2_with (go_at_call 33; refine (HE.out gj gs _ (Lib.hid (J14.out.row HG.out)) (Lib.hid (A14.out.row HG.out))).mono ?_; rintro e w15 ⟨rfl, d15⟩; have b15 := d15.below w14.heap.size; have B15 := Lib.hid (B14.out.trans (b15.mono B14.out.size)); have P15 := Lib.hid (P14.out.below b15 P14.out.lt.2); clear b15 d15)
      go_wp2_with (go_at_call 35; refine (heldIntS_four _ gi _ P15).mono ?_; rintro e w16 ⟨rfl, rfl⟩)
      go_ret
      exact ⟨rfl, B15.out⟩
    · have HJ2 := Lib.hid (fun v w h => ((HJ.out v w h HS hl6).mono fun e w' h => h.bad hls))
      have HK2 := Lib.hid (fun v w hT h => ((HK.out v w hT h HS).mono fun e w' h => h.bad hls))
      clear HJ HK
      go_wp2_with (go_at_call 29; refine (HTo.out _ I1).mono ?_; rintro e w2 ⟨v, rfl, s2, b2, _⟩; have B2 := Lib.hid (B1.out.trans (b2.mono B1.out.size)); have S2 := Lib.hid s2; clear b2 s2)
      go_wp2_with (go_at_call 31; refine (HJ2.out v _ S2).mono ?_; rintro e w3 ⟨rfl, b3⟩; have B3 := Lib.hid (B2.out.trans (b3.mono B2.out.size)); have I3 := Lib.hid (HI.out.below B3.out); clear b3)
      go_wp2_with (go_at_call 29; refine (HTo.out _ I3).mono ?_; rintro e w4 ⟨v', rfl, s4, b4, o4⟩; have B4 := Lib.hid (B3.out.trans (b4.mono B3.out.size)); have S4 := Lib.hid s4; have O4 := Lib.hid o4; have T4 := Lib.hid (HT.out.below B4.out); clear b4 s4 o4)
      go_wp2_with (go_at_call 32; refine (HK2.out v' _ T4 S4).mono ?_; rintro e w5 ⟨rfl, b5⟩; have B5 := Lib.hid (B4.out.trans (b5.mono B4.out.size)); have S5 := Lib.hid (S4.out.below b5); have O5 := Lib.hid (O4.out.below b5 (Nat.le_refl _)); clear b5)
      go_wp2_with (go_at_call 33; refine (eqIntS_none _ _ _ _ _).mono ?_; rintro e w6 ⟨rfl, d6⟩; have b6 := d6.below w5.heap.size; have B6 := Lib.hid (B5.out.trans (b6.mono B5.out.size)); have I6 := Lib.hid (HI.out.below B6.out); have S6 := Lib.hid (S5.out.below b6); have O6 := Lib.hid (O5.out.below b6 (Nat.le_refl _)); clear b6 d6)
      go_wp2_with (go_at_call 29; refine (HTo.out _ I6).mono ?_; rintro e w7 ⟨v'', rfl, s7, b7, _⟩; have B7 := Lib.hid (B6.out.trans (b7.mono B6.out.size)); have S7 := Lib.hid (S6.out.below b7); have S7' := Lib.hid s7; have O7 := Lib.hid (O6.out.below b7 (Nat.le_refl _)); clear b7 s7)
      go_wp2_with (go_at_call 20; refine (eqTokenS_any v' v'' l _ S7 S7' hl6).mono ?_; rintro e w8 ⟨rfl, b8⟩; have B8 := Lib.hid (B7.out.trans (b8.mono B7.out.size)); have O8 := Lib.hid (O7.out.below b8 (Nat.le_refl _)); clear b8)
      go_wp2_with (go_at_call 21; refine (markTokenS_spare v' w3.heap.size w4.heap.size _ l _ O8 (Lib.hid O4.out.lt_of) hl6).mono ?_; rintro e w9 ⟨rfl, p9⟩; have B9 := Lib.hid (B8.out.trans (p9.1.mono B3.out.size)); clear p9)
      go_wp2_with (go_at_call 33; refine (eqIntS_none _ _ _ _ _).mono ?_; rintro e w10 ⟨rfl, d10⟩; have b10 := d10.below w9.heap.size; have B10 := Lib.hid (B9.out.trans (b10.mono B9.out.size)); have I10 := Lib.hid (HI.out.below B10.out); clear b10 d10)
      go_wp2_with (go_at_call 34; refine (markIntS_none _ _ _).mono ?_; rintro e w11 ⟨rfl, rfl⟩)
      go_wp2_with (go_at_call 35; refine (heldIntS_none _ _ _).mono ?_; rintro e w12 ⟨rfl, rfl⟩)
      go_wp2_with (go_at_call 29; refine (HTo.out _ I10).mono ?_; rintro e w13 ⟨v3, rfl, s13, b13, _⟩; have B13 := Lib.hid (B10.out.trans (b13.mono B10.out.size)); have S13 := Lib.hid s13; have T13 := Lib.hid (HT.out.below B13.out); clear b13 s13)
      go_wp2_with (go_at_call 32; refine (HK2.out v3 _ T13 S13).mono ?_; rintro e w14 ⟨rfl, b14⟩; have B14 := Lib.hid (B13.out.trans (b14.mono B13.out.size)); clear b14)
      go_wp2_with (go_at_call 33; refine (eqIntS_none _ _ _ _ _).mono ?_; rintro e w15 ⟨rfl, d15⟩; have b15 := d15.below w14.heap.size; have B15 := Lib.hid (B14.out.trans (b15.mono B14.out.size)); clear b15 d15)
      go_wp2_with (go_at_call 35; refine (heldIntS_none _ _ _).mono ?_; rintro e w16 ⟨rfl, rfl⟩)
      go_ret
      exact ⟨rfl, B15.out⟩

theorem contract (H : Type) (enc : TypeId × Value → H) (W : World) (base : Nat) (args : Array Value) (ds gs : List (DataW H)) (before : List MemPlace)
    (hval : ∀ (j : Nat) t v, Tryd.f8.params[j]? = some t → args[j]? = some v → Value.okWide Tryd.prog W .any base t v)
    (hW : DataW.Whole enc Tryd.prog Tryd.f8.params.toList Rows.fnExactCountTokensSpec.vars false W args.toList ds gs before) (hL : laidMetH Tryd.prog Rows.fnExactCountTokensRow.laid W) :
    Calls Tryd.prog 8 args W fun e W' => ∃ v, e = .returned v ∧ Rows.fnExactCountTokensSpec.post enc Tryd.prog Tryd.f8 false true false false W args v W' := by
  have hW' := hW
  obtain ⟨p, q, hA0, hV, rfl, hfz, hnd⟩ := hW
  have hA : DataW.TrodAll enc Tryd.prog W 0 (fun _ => true) true Tryd.f8.params.toList args.toList ds p := hA0
  rw [Tryd.params8] at hA hval
  obtain ⟨v0, vs0, d0, ds0, p0, q0, hargs, rfl, rfl, h0, r0⟩ := trodAll_cons hA
  obtain ⟨rfl, rfl, rfl⟩ := trodAll_nil r0
  obtain rfl : args = #[v0] := by cases args; simp_all
  have hV2 := hV
  obtain ⟨dV0, dV1, dV2, dV3, rfl⟩ := trodVars_four hV
  obtain ⟨a0, len0, cap0, rfl⟩ := okWide_slice Tryd.underlying42 (hval 0 42 v0 rfl rfl)
  have k0 := h0
  have lt0 : ∀ x ∈ p0, x.block < W.heap.size := by obtain ⟨m, hm⟩ := k0; exact DataW.trod_lt m _ _ _ hm
  obtain ⟨l, hm, hn, hI, hM⟩ : ∃ l : List Tok, len0 ≤ maxLen ∧ l.length = len0 ∧ InT W a0 l ∧ SzM l := by
    obtain ⟨fuel, hf⟩ := h0
    obtain ⟨a, len, cap, l, hcs, hm, hn, hI, hM⟩ := open_toks hf
    simp [Value.cells] at hcs
    obtain ⟨rfl, rfl, rfl⟩ := hcs
    exact ⟨l, hm, hn, hI, hM⟩
  clear hA0
  refine (walk a0 len0 cap0 l hm W hn hI hM ⟨(dig_of_head hL), (units_of_head (laidMet.tail hL)), (kwt_of_head (laidMet.tail (laidMet.tail hL))), (sgt_of_head (laidMet.tail (laidMet.tail (laidMet.tail hL))))⟩).mono fun e W' ⟨he, bel⟩ => ?_
  subst he
  exact ⟨_, rfl, _, _, _, [], _, _, hW', trodAll_mk1 (shut_bool Tryd.underlying4 _), (trodAll_cons_mk (Below.trod laidOut (by kernel_rfl) (of_decide_eq_true (by kernel_rfl)) k0 bel lt0) trodAll_mk0), Below.trodVars laidOut bel (by kernel_rfl) hV2, bel.frame _, fun h => by cases h⟩

theorem laid_met (os : Os) : laidMet Tryd.prog Rows.fnExactCountTokensRow.laid ((laidWorld3 os).forCall (fun _ _ => 0) ⟨#[], #[.slice none 0 0], []⟩).memory :=
  laidMet_of_run' 8 (by kernel_rfl) (by kernel_rfl)
theorem reads (os : Os) {H : Type} (enc : TypeId × Value → H) : ∃ places, DataW.whole enc Tryd.prog ((laidWorld3 os).forCall (fun _ _ => 0) ⟨#[], #[.slice none 0 0], []⟩).memory Tryd.f8.params.toList Rows.fnExactCountTokensSpec.vars false (#[.slice none 0 0] : Array Value).toList 8 = some ([.nil], [Rows.laid_loop_example_g00838_impl_signs, Rows.laid_loop_example_g00838_impl_digits, Rows.laid_loop_example_g00838_impl_units, Rows.laid_loop_example_g00838_impl_keyWords], places) :=
  ⟨[.cell 1 0, .cell 1 1, .cell 1 2, .cell 1 3, .cell 1 4, .cell 1 5, .cell 2 0, .cell 2 1, .cell 3 0, .cell 3 1, .cell 3 2, .cell 3 3, .cell 0 0, .cell 0 1, .cell 0 2, .cell 0 3, .cell 0 4, .cell 0 5, .cell 0 6, .cell 0 7, .cell 0 8, .cell 0 9, .cell 0 10, .cell 0 11, .cell 0 12, .cell 0 13], by kernel_rfl⟩

set_option maxRecDepth 100000 in
theorem lifted (os : Os) (started : os.Started) (H : Type) (enc : TypeId × Value → H) (F : Stop.Interp) :
    ReturnsInHanded {} Tryd.checked os 8 .any ((OpenSpec.ofChange Rows.fnExactCountTokensSpec).preRow enc Tryd.prog Tryd.f8 Rows.fnExactCountTokensRow.domain false Rows.fnExactCountTokensRow.laid) (((OpenSpec.ofChange Rows.fnExactCountTokensSpec).at F).post enc Tryd.prog Tryd.f8 false true false false) := by
  obtain ⟨places, hx⟩ := reads os enc
  refine returnsInHanded_of_row (C := Tryd.checked) (s := OpenSpec.ofChange Rows.fnExactCountTokensSpec) own started (by kernel_rfl) Tryd.func8
    (witness_row_at (enc := enc) (C := Tryd.checked) false (laidWorld3 os) #[.slice none 0 0] rfl (by kernel_rfl) (by kernel_rfl) (by kernel_rfl)
      (OpenSpec.preRow_of_cond 8 hx (by kernel_rfl) (fun k hk => by cases hk) (by kernel_rfl) (laid_met os))) ?_
  intro W base args ds gs before hval hW _ _ _ hL _ _
  exact contract H enc W base args ds gs before hval hW hL

theorem said : Rows.FnExactCountTokensSaid :=
  OpenClaim.holds_of_cond 8 Tryd.f8 rfl rfl rfl rfl rfl rfl rfl ⟨rfl, rfl, rfl, rfl, rfl⟩ rfl rfl rfl rfl rfl (by kernel_rfl) Tryd.func8 (by kernel_rfl)
    (of_decide_eq_true (by kernel_rfl)) (by unfold Func.isWrapper; first | (rw [if_pos (by decide +kernel)]; kernel_rfl) | (rw [if_neg (by decide +kernel)]; exact ⟨rfl, rfl⟩))
    (fun os started H enc _ F => by rw [OpenClaim.pre_eq_preRow]; exact lifted os started H enc F)

theorem plain (f : FuncId) (fn : Func) (hf : Tryd.pinned.checked.prog.funcNamed "loop.example/g00838/laws.FnExactCountTokens" = some f) (hfn : Tryd.pinned.checked.prog.funcs[f]? = some fn) :
    false = Tryd.pinned.checked.prog.looks [] ∧ ∀ (j : Nat) t, fn.params[j]? = some t → Tryd.pinned.checked.prog.wantsStandIn t = false := by
  obtain rfl : f = 8 := Option.some.inj ((show Tryd.prog.funcNamed "loop.example/g00838/laws.FnExactCountTokens" = some 8 by kernel_rfl).symm.trans hf) |>.symm
  obtain rfl : fn = Tryd.f8 := (Option.some.inj (Tryd.func8.symm.trans hfn)).symm
  refine ⟨by kernel_rfl, fun j t ht => ?_⟩
  rw [Tryd.params8] at ht
  have hm : t ∈ [42] := by simpa using Array.mem_of_getElem? ht
  have hall : ([42].all fun u => !Tryd.prog.wantsStandIn u) = true := by kernel_rfl
  exact (show Tryd.prog.wantsStandIn t = false by simpa using List.all_eq_true.1 hall t hm)

theorem proved : Rows.FnExactCountTokensCardSaid :=
  Claim7.holds_tied_plain_at .later [] _ _ _ _ said (fun _ h => by cases h) (by kernel_rfl) (fun _ h => by cases h) fnExactCountTokens_row_tie rfl ⟨rfl, rfl⟩ (by kernel_rfl) rfl plain (by kernel_rfl)
end Go.Proofs.YtnenfpbiobmlcaaDoor.fnExactCountTokens
