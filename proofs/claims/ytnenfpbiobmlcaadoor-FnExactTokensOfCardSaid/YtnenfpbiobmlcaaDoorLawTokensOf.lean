/- For every string, impl.TokensOf answers as its model does, and what it answers is its own: the law FnExactTokensOf returns true. The tables of digits, units, key words and signs start as the program's text lays them (the card ties them). No other condition. -/
import Derived.Test.YtnenfpbiobmlcaaDoorCards
import Derived.Test.YtnenfpbiobmlcaaDoorTie
import Derived.Test.YtnenfpbiobmlcaaDoorTkt
import Derived.Test.YtnenfpbiobmlcaaDoorTkv
import Derived.ProofKit
import Derived.OpenShut
import Derived.ShutString
import Derived.ChangeOld
import Derived.ChangeVars
import Derived.Deep.DeepHandedRow
namespace Go.Proofs.YtnenfpbiobmlcaaDoor.fnExactTokensOf
set_option maxRecDepth 100000
open Go.ChangeShapes Go.WideShapes Go.ChangeAt Go.RowKit
open Go.ChangeMaps (open_string shut_string)
set_option linter.unusedVariables false

set_option maxHeartbeats 1600000 in
theorem walk (a0 : ByteArray) (w0 : a0.size ≤ maxLen) (w : World) (hT : Tabs w) :
    Calls Tryd.prog 5 #[.string a0] w fun e w' => e = .returned (.bool true) ∧ Below w.heap.size w w' := by
  have HT := Lib.hid hT
  clear hT
  unfold maxLen at w0
  by_cases h : (1048576 : Int) < a0.size
  · have d := is_lt h
    go_enter Tryd.func5, Tryd.ntmps5
    go_wp2
    go_ret
    exact ⟨rfl, Below.refl _ _⟩
  · have d := not_lt (Int.not_lt.1 h)
    have HI := Lib.hid (fun w hT => implTokensOf_any a0 w hT)
    have HS := Lib.hid (fun w => specTokensOf_any a0 w)
    have hlen := tkT_len a0
    obtain ⟨R, hR⟩ : ∃ R, tkT a0 = R := ⟨_, rfl⟩
    obtain ⟨o, ho⟩ : ∃ o, tkO a0 = o := ⟨_, rfl⟩
    rw [hR, ho] at HI HS
    rw [hR] at hlen
    clear hR ho h
    obtain ⟨l, f, g⟩ := R
    have hl2 : l.length ≤ 1048576 := Nat.le_trans hlen (by omega)
    have dq : decide (4 * (l.length : Int) + 1 < 0) = false := by simp; omega
    go_enter Tryd.func5, Tryd.ntmps5
    go_wp2_with (go_at_call 18; refine (HS.out _).mono ?_; rintro e w1 ⟨v0, rfl, o1, b1⟩; have B1 := Lib.hid b1; have S1 := Lib.hid o1.slt; clear b1 o1)
    obtain ⟨wa, hwa⟩ : ∃ wa, w1.alloc (.cells #[.int .i64 f, .int .i64 g] 26) = wa := ⟨_, rfl⟩
    rw [hwa]
    have PA := Lib.hid (two_cells hwa)
    have BA := Lib.hid (B1.out.trans (PA.out.2.1.mono B1.out.size))
    have SA := Lib.hid (S1.out.below PA.out.2.1)
    have TA := Lib.hid (HT.out.below BA.out)
    clear hwa
    go_wp2_with (go_at_call 19; refine (HI.out _ TA).mono ?_; rintro e w2 ⟨v, rfl, o2, b2⟩; have B2 := Lib.hid b2; have O2 := Lib.hid o2; have hz2 := Nat.lt_of_lt_of_le PA.out.2.2 b2.size; clear b2 o2)
    obtain ⟨wb, hwb⟩ : ∃ wb, w2.alloc (.cells #[.int .i64 f, .int .i64 g] 26) = wb := ⟨_, rfl⟩
    rw [hwb]
    have PB := Lib.hid (two_cells hwb)
    have BB := Lib.hid (B2.out.trans (PB.out.2.1.mono B2.out.size))
    have SB := Lib.hid (SA.out.below BB.out)
    have SV := Lib.hid (O2.out.slt.below PB.out.2.1)
    have FB := Lib.hid (PA.out.1.below BB.out PA.out.2.2)
    clear hwb
    go_wp2_with (go_at_call 20; refine (eqTokenS_any _ _ l _ SV SB hl2).mono ?_; rintro e w3 ⟨rfl, b3⟩; have B3 := Lib.hid (BB.out.trans (b3.mono BB.out.size)); obtain ⟨c0, c1⟩ := PB.out.1.below b3 PB.out.2.2; obtain ⟨c2, c3⟩ := PA.out.1.below (BB.out.trans (b3.mono BB.out.size)) PA.out.2.2; have O3 := Lib.hid (O2.out.below (PB.out.2.1.trans (b3.mono PB.out.2.1.size)) (Nat.le_refl _)); clear b3; refine Hid.out ?_)
    refine Lib.hid ?_
    go_wp2_with (go_at_call 17; refine (eqFault_same _ _ _).mono ?_; rintro e w4 ⟨rfl, b4⟩; have B4 := Lib.hid (B3.out.trans (b4.mono B3.out.size)); have O4 := Lib.hid (O3.out.below b4 (Nat.le_refl _)); clear b4 c0 c1 c2 c3)
    go_wp2_with (go_at_call 21; refine (markTokenS_any v wa.heap.size _ l _ O4 B4.out.size hlen).mono ?_; rintro e w5 ⟨rfl, s5, b5⟩; have B5 := Lib.hid (B4.out.trans b5); have S5 := Lib.hid s5; clear b5 s5)
    go_wp2_with (go_at_call 22; refine (heldTokenS_any v _ _ S5 hlen).mono ?_; rintro e w6 ⟨rfl, b6⟩; have B6 := Lib.hid (B5.out.trans (b6.mono B5.out.size)); have S6 := Lib.hid (S5.out.below b6); have T6 := Lib.hid (TA.out.below (B5.out.trans (b6.mono B5.out.size))); clear b6)
    go_wp2_with (go_at_call 19; refine (HI.out _ T6).mono ?_; rintro e w7 ⟨v2, rfl, o7, b7⟩; have B7 := Lib.hid (B6.out.trans (b7.mono B6.out.size)); have S7 := Lib.hid (S6.out.below b7); have N7 := Lib.hid o7.slt; clear b7 o7)
    obtain ⟨wc, hwc⟩ : ∃ wc, w7.alloc (.cells #[.int .i64 f, .int .i64 g] 26) = wc := ⟨_, rfl⟩
    rw [hwc]
    have PC := Lib.hid (two_cells hwc)
    have BC := Lib.hid (B7.out.trans (PC.out.2.1.mono B7.out.size))
    have SC := Lib.hid (SA.out.below BC.out)
    have NC := Lib.hid (N7.out.below PC.out.2.1)
    have MC := Lib.hid (S7.out.below PC.out.2.1)
    clear hwc
    go_wp2_with (go_at_call 20; refine (eqTokenS_any _ _ l _ NC SC hl2).mono ?_; rintro e w8 ⟨rfl, b8⟩; have B8 := Lib.hid (BC.out.trans (b8.mono BC.out.size)); have M8 := Lib.hid (MC.out.below b8); obtain ⟨c0, c1⟩ := PC.out.1.below b8 PC.out.2.2; obtain ⟨c2, c3⟩ := PA.out.1.below (BC.out.trans (b8.mono BC.out.size)) PA.out.2.2; clear b8; refine Hid.out ?_)
    refine Lib.hid ?_
    go_wp2_with (go_at_call 17; refine (eqFault_same _ _ _).mono ?_; rintro e w9 ⟨rfl, b9⟩; have B9 := Lib.hid (B8.out.trans (b9.mono B8.out.size)); have M9 := Lib.hid (M8.out.below b9); clear b9 c0 c1 c2 c3)
    go_wp2_with (go_at_call 22; refine (heldTokenS_any v _ _ M9 hlen).mono ?_; rintro e w10 ⟨rfl, b10⟩; have B10 := Lib.hid (B9.out.trans (b10.mono B9.out.size)); clear b10)
    go_ret
    exact ⟨rfl, BA.out.trans (B10.out.mono BA.out.size)⟩

theorem contract (H : Type) (enc : TypeId × Value → H) (W : World) (base : Nat) (args : Array Value) (ds gs : List (DataW H)) (before : List MemPlace)
    (hval : ∀ (j : Nat) t v, Tryd.f5.params[j]? = some t → args[j]? = some v → Value.okWide Tryd.prog W .any base t v)
    (hW : DataW.Whole enc Tryd.prog Tryd.f5.params.toList Rows.fnExactTokensOfSpec.vars false W args.toList ds gs before) (hL : laidMetH Tryd.prog Rows.fnExactTokensOfRow.laid W) :
    Calls Tryd.prog 5 args W fun e W' => ∃ v, e = .returned v ∧ Rows.fnExactTokensOfSpec.post enc Tryd.prog Tryd.f5 false true false false W args v W' := by
  have hW' := hW
  obtain ⟨p, q, hA0, hV, rfl, hfz, hnd⟩ := hW
  have hA : DataW.TrodAll enc Tryd.prog W 0 (fun _ => true) true Tryd.f5.params.toList args.toList ds p := hA0
  rw [Tryd.params5] at hA hval
  obtain ⟨v0, vs0, d0, ds0, p0, q0, hargs, rfl, rfl, h0, r0⟩ := trodAll_cons hA
  obtain ⟨rfl, rfl, rfl⟩ := trodAll_nil r0
  obtain rfl : args = #[v0] := by cases args; simp_all
  have hV2 := hV
  obtain ⟨dV0, dV1, dV2, dV3, rfl⟩ := trodVars_four hV
  obtain ⟨a0, rfl, rfl, rfl, w0⟩ := open_string Tryd.underlying9 (hval 0 9 v0 rfl rfl) h0
  clear hA0
  refine (walk a0 w0 W ⟨(dig_of_head hL), (units_of_head (laidMet.tail hL)), (kwt_of_head (laidMet.tail (laidMet.tail hL))), (sgt_of_head (laidMet.tail (laidMet.tail (laidMet.tail hL))))⟩).mono fun e W' ⟨he, bel⟩ => ?_
  subst he
  exact ⟨_, rfl, _, _, _, [], _, _, hW', trodAll_mk1 (shut_bool Tryd.underlying4 _), (trodAll_cons_mk (shut_string Tryd.underlying9 w0) trodAll_mk0), Below.trodVars laidOut bel (by kernel_rfl) hV2, bel.frame _, fun h => by cases h⟩

theorem laid_met (os : Os) : laidMet Tryd.prog Rows.fnExactTokensOfRow.laid ((laidWorld3 os).forCall (fun _ _ => 0) ⟨#[], #[.string ByteArray.empty], []⟩).memory :=
  laidMet_of_run' 8 (by kernel_rfl) (by kernel_rfl)
theorem reads (os : Os) {H : Type} (enc : TypeId × Value → H) : ∃ places, DataW.whole enc Tryd.prog ((laidWorld3 os).forCall (fun _ _ => 0) ⟨#[], #[.string ByteArray.empty], []⟩).memory Tryd.f5.params.toList Rows.fnExactTokensOfSpec.vars false (#[.string ByteArray.empty] : Array Value).toList 8 = some ([.lit (.string [])], [Rows.laid_loop_example_g00838_impl_signs, Rows.laid_loop_example_g00838_impl_digits, Rows.laid_loop_example_g00838_impl_units, Rows.laid_loop_example_g00838_impl_keyWords], places) :=
  ⟨[.cell 1 0, .cell 1 1, .cell 1 2, .cell 1 3, .cell 1 4, .cell 1 5, .cell 2 0, .cell 2 1, .cell 3 0, .cell 3 1, .cell 3 2, .cell 3 3, .cell 0 0, .cell 0 1, .cell 0 2, .cell 0 3, .cell 0 4, .cell 0 5, .cell 0 6, .cell 0 7, .cell 0 8, .cell 0 9, .cell 0 10, .cell 0 11, .cell 0 12, .cell 0 13], by kernel_rfl⟩

set_option maxRecDepth 100000 in
theorem lifted (os : Os) (started : os.Started) (H : Type) (enc : TypeId × Value → H) (F : Stop.Interp) :
    ReturnsInHanded {} Tryd.checked os 5 .any ((OpenSpec.ofChange Rows.fnExactTokensOfSpec).preRow enc Tryd.prog Tryd.f5 Rows.fnExactTokensOfRow.domain false Rows.fnExactTokensOfRow.laid) (((OpenSpec.ofChange Rows.fnExactTokensOfSpec).at F).post enc Tryd.prog Tryd.f5 false true false false) := by
  obtain ⟨places, hx⟩ := reads os enc
  refine returnsInHanded_of_row (C := Tryd.checked) (s := OpenSpec.ofChange Rows.fnExactTokensOfSpec) own started (by kernel_rfl) Tryd.func5
    (witness_row_at (enc := enc) (C := Tryd.checked) false (laidWorld3 os) #[.string ByteArray.empty] rfl (by kernel_rfl) (by kernel_rfl) (by kernel_rfl)
      (OpenSpec.preRow_of_cond 8 hx (by kernel_rfl) (fun k hk => by cases hk) (by kernel_rfl) (laid_met os))) ?_
  intro W base args ds gs before hval hW _ _ _ hL _ _
  exact contract H enc W base args ds gs before hval hW hL

theorem said : Rows.FnExactTokensOfSaid :=
  OpenClaim.holds_of_cond 5 Tryd.f5 rfl rfl rfl rfl rfl rfl rfl ⟨rfl, rfl, rfl, rfl, rfl⟩ rfl rfl rfl rfl rfl (by kernel_rfl) Tryd.func5 (by kernel_rfl)
    (of_decide_eq_true (by kernel_rfl)) (by unfold Func.isWrapper; first | (rw [if_pos (by decide +kernel)]; kernel_rfl) | (rw [if_neg (by decide +kernel)]; exact ⟨rfl, rfl⟩))
    (fun os started H enc _ F => by rw [OpenClaim.pre_eq_preRow]; exact lifted os started H enc F)

theorem plain (f : FuncId) (fn : Func) (hf : Tryd.pinned.checked.prog.funcNamed "loop.example/g00838/laws.FnExactTokensOf" = some f) (hfn : Tryd.pinned.checked.prog.funcs[f]? = some fn) :
    false = Tryd.pinned.checked.prog.looks [] ∧ ∀ (j : Nat) t, fn.params[j]? = some t → Tryd.pinned.checked.prog.wantsStandIn t = false := by
  obtain rfl : f = 5 := Option.some.inj ((show Tryd.prog.funcNamed "loop.example/g00838/laws.FnExactTokensOf" = some 5 by kernel_rfl).symm.trans hf) |>.symm
  obtain rfl : fn = Tryd.f5 := (Option.some.inj (Tryd.func5.symm.trans hfn)).symm
  refine ⟨by kernel_rfl, fun j t ht => ?_⟩
  rw [Tryd.params5] at ht
  have hm : t ∈ [9] := by simpa using Array.mem_of_getElem? ht
  have hall : ([9].all fun u => !Tryd.prog.wantsStandIn u) = true := by kernel_rfl
  exact (show Tryd.prog.wantsStandIn t = false by simpa using List.all_eq_true.1 hall t hm)

theorem proved : Rows.FnExactTokensOfCardSaid :=
  Claim7.holds_tied_plain_at .later [] _ _ _ _ said (fun _ h => by cases h) (by kernel_rfl) (fun _ h => by cases h) fnExactTokensOf_row_tie rfl ⟨rfl, rfl⟩ (by kernel_rfl) rfl plain (by kernel_rfl)
end Go.Proofs.YtnenfpbiobmlcaaDoor.fnExactTokensOf
