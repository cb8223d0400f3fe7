/- For every string and every number, impl.TokenAt answers as its model does: the law FnExactTokenAt returns true. The tables of digits, units, key words and signs start as the program's text lays them (the card ties them). No other condition. -/
import Derived.Test.YtnenfpbiobmlcaaDoorCards
import Derived.Test.YtnenfpbiobmlcaaDoorTie
import Derived.Test.YtnenfpbiobmlcaaDoorTkt
import Derived.Test.YtnenfpbiobmlcaaDoorTke
import Derived.ProofKit
import Derived.OpenShut
import Derived.ShutString
import Derived.ChangeOld
import Derived.ChangeVars
import Derived.Deep.DeepHandedRow
namespace Go.Proofs.YtnenfpbiobmlcaaDoor.fnExactTokenAt
set_option maxRecDepth 100000
open Go.ChangeShapes Go.WideShapes Go.ChangeAt Go.RowKit
open Go.ChangeMaps (open_string shut_string)
set_option linter.unusedVariables false

theorem walk (a0 : ByteArray) (a1 : Int) (w0 : a0.size ≤ maxLen) (w1 : (Lit.int .i64 a1).wf = true) (w : World) (hT : Tabs w) :
    Calls Tryd.prog 4 #[.string a0, .int .i64 a1] w fun e w' => e = .returned (.bool true) ∧ Below w.heap.size w w' := by
  have HT := Lib.hid hT
  clear hT
  unfold maxLen at w0
  by_cases h : (1048576 : Int) < a0.size
  · have d := is_lt h
    go_enter Tryd.func4, Tryd.ntmps4
    go_wp2
    go_ret
    exact ⟨rfl, Below.refl _ _⟩
  · have d := not_lt (Int.not_lt.1 h)
    have hs : a0.size ≤ 1048576 := by omega
    have HI := Lib.hid (fun w hT => implTokenAt_any a0 a1 w hs hT)
    have HS := Lib.hid (fun w => specTokenAt_any a0 a1 w hs)
    obtain ⟨k, b, v, n, f, g, t, o, hform⟩ := taV_form a0 a1
    rw [hform] at HI HS
    clear hform h w1
    go_enter Tryd.func4, Tryd.ntmps4
    go_wp2_with (go_at_call 14; refine (HS.out _).mono ?_; rintro e w1 ⟨rfl, b1⟩; have B1 := Lib.hid b1; clear b1)
    obtain ⟨wa, hwa⟩ : ∃ wa, (w1.alloc (.cells #[.int .i64 k, .int .i64 b, .string t, .int .i64 v] 24)).alloc (.cells #[.int .i64 f, .int .i64 g] 26) = wa := ⟨_, rfl⟩
    rw [hwa]
    have PA := Lib.hid (pair_new hwa)
    have BA := Lib.hid (B1.out.trans (PA.out.2.1.mono B1.out.size))
    have TA := Lib.hid (HT.out.below BA.out)
    clear hwa
    go_wp2_with (go_at_call 15; refine (HI.out _ TA).mono ?_; rintro e w2 ⟨rfl, b2⟩; have P2 := Lib.hid (PA.out.1.below b2 PA.out.2.2); have B2 := Lib.hid (BA.out.trans (b2.mono BA.out.size)); have hz2 := Nat.lt_of_lt_of_le PA.out.2.2 b2.size; obtain ⟨⟨p0, p1, p2, p3⟩, p4, p5⟩ := pair_later P2.out hz2; clear b2)
    obtain ⟨wb, hwb⟩ : ∃ wb, (w2.alloc (.cells #[.int .i64 k, .int .i64 b, .string t, .int .i64 v] 24)).alloc (.cells #[.int .i64 f, .int .i64 g] 26) = wb := ⟨_, rfl⟩
    rw [hwb]
    have PB := Lib.hid (pair_new hwb)
    have PC := Lib.hid (P2.out.below PB.out.2.1 hz2)
    have BB := Lib.hid (B2.out.trans (PB.out.2.1.mono B2.out.size))
    have hz3 := Nat.lt_of_lt_of_le hz2 PB.out.2.1.size
    clear hwb p0 p1 p2 p3 p4 p5
    go_wp2_with (first | (go_at_call 16; refine (eqToken_same _ _ _ _ _).mono ?_; rintro e w3 ⟨rfl, b3⟩; obtain ⟨c4, c5⟩ := (PB.out.1.below b3 PB.out.2.2).2; obtain ⟨e4, e5⟩ := (PC.out.below b3 hz3).2; have B3 := Lib.hid (BB.out.trans (b3.mono BB.out.size)); clear b3) | (go_at_call 17; refine (eqFault_same _ _ _).mono ?_; rintro e w4 ⟨rfl, b4⟩; have B4 := Lib.hid (B3.out.trans (b4.mono B3.out.size)); clear b4))
    go_ret
    exact ⟨rfl, B4.out⟩

theorem contract (H : Type) (enc : TypeId × Value → H) (W : World) (base : Nat) (args : Array Value) (ds gs : List (DataW H)) (before : List MemPlace)
    (hval : ∀ (j : Nat) t v, Tryd.f4.params[j]? = some t → args[j]? = some v → Value.okWide Tryd.prog W .any base t v)
    (hW : DataW.Whole enc Tryd.prog Tryd.f4.params.toList Rows.fnExactTokenAtSpec.vars false W args.toList ds gs before) (hL : laidMetH Tryd.prog Rows.fnExactTokenAtRow.laid W) :
    Calls Tryd.prog 4 args W fun e W' => ∃ v, e = .returned v ∧ Rows.fnExactTokenAtSpec.post enc Tryd.prog Tryd.f4 false true false false W args v W' := by
  have hW' := hW
  obtain ⟨p, q, hA0, hV, rfl, hfz, hnd⟩ := hW
  have hA : DataW.TrodAll enc Tryd.prog W 0 (fun _ => true) true Tryd.f4.params.toList args.toList ds p := hA0
  rw [Tryd.params4] at hA hval
  obtain ⟨v0, vs0, d0, ds0, p0, q0, hargs, rfl, rfl, h0, r0⟩ := trodAll_cons hA
  obtain ⟨v1, vs1, d1, ds1, p1, q1, rfl, rfl, rfl, h1, r1⟩ := trodAll_cons r0
  obtain ⟨rfl, rfl, rfl⟩ := trodAll_nil r1
  obtain rfl : args = #[v0, v1] := by cases args; simp_all
  have hV2 := hV
  obtain ⟨dV0, dV1, dV2, dV3, rfl⟩ := trodVars_four hV
  obtain ⟨a0, rfl, rfl, rfl, w0⟩ := open_string Tryd.underlying9 (hval 0 9 v0 rfl rfl) h0
  obtain ⟨a1, rfl, rfl, rfl, w1⟩ := open_int Tryd.underlying3 (hval 1 3 v1 rfl rfl) h1
  clear hA0
  refine (walk a0 a1 w0 w1 W ⟨(dig_of_head hL), (units_of_head (laidMet.tail hL)), (kwt_of_head (laidMet.tail (laidMet.tail hL))), (sgt_of_head (laidMet.tail (laidMet.tail (laidMet.tail hL))))⟩).mono fun e W' ⟨he, bel⟩ => ?_
  subst he
  exact ⟨_, rfl, _, _, _, [], _, _, hW', trodAll_mk1 (shut_bool Tryd.underlying4 _), (trodAll_cons_mk (shut_string Tryd.underlying9 w0) (trodAll_cons_mk (shut_int Tryd.underlying3 w1) trodAll_mk0)), Below.trodVars laidOut bel (by kernel_rfl) hV2, bel.frame _, fun h => by cases h⟩

theorem laid_met (os : Os) : laidMet Tryd.prog Rows.fnExactTokenAtRow.laid ((laidWorld3 os).forCall (fun _ _ => 0) ⟨#[], #[.string ByteArray.empty, .int .i64 0], []⟩).memory :=
  laidMet_of_run' 8 (by kernel_rfl) (by kernel_rfl)
theorem reads (os : Os) {H : Type} (enc : TypeId × Value → H) : ∃ places, DataW.whole enc Tryd.prog ((laidWorld3 os).forCall (fun _ _ => 0) ⟨#[], #[.string ByteArray.empty, .int .i64 0], []⟩).memory Tryd.f4.params.toList Rows.fnExactTokenAtSpec.vars false (#[.string ByteArray.empty, .int .i64 0] : Array Value).toList 8 = some ([.lit (.string []), .lit (.int .i64 0)], [Rows.laid_loop_example_g00838_impl_signs, Rows.laid_loop_example_g00838_impl_digits, Rows.laid_loop_example_g00838_impl_units, Rows.laid_loop_example_g00838_impl_keyWords], places) :=
  ⟨[.cell 1 0, .cell 1 1, .cell 1 2, .cell 1 3, .cell 1 4, .cell 1 5, .cell 2 0, .cell 2 1, .cell 3 0, .cell 3 1, .cell 3 2, .cell 3 3, .cell 0 0, .cell 0 1, .cell 0 2, .cell 0 3, .cell 0 4, .cell 0 5, .cell 0 6, .cell 0 7, .cell 0 8, .cell 0 9, .cell 0 10, .cell 0 11, .cell 0 12, .cell 0 13], by kernel_rfl⟩

set_option maxRecDepth 100000 in
theorem lifted (os : Os) (started : os.Started) (H : Type) (enc : TypeId × Value → H) (F : Stop.Interp) :
    ReturnsInHanded {} Tryd.checked os 4 .any ((OpenSpec.ofChange Rows.fnExactTokenAtSpec).preRow enc Tryd.prog Tryd.f4 Rows.fnExactTokenAtRow.domain false Rows.fnExactTokenAtRow.laid) (((OpenSpec.ofChange Rows.fnExactTokenAtSpec).at F).post enc Tryd.prog Tryd.f4 false true false false) := by
  obtain ⟨places, hx⟩ := reads os enc
  refine returnsInHanded_of_row (C := Tryd.checked) (s := OpenSpec.ofChange Rows.fnExactTokenAtSpec) own started (by kernel_rfl) Tryd.func4
    (witness_row_at (enc := enc) (C := Tryd.checked) false (laidWorld3 os) #[.string ByteArray.empty, .int .i64 0] rfl (by kernel_rfl) (by kernel_rfl) (by kernel_rfl)
      (OpenSpec.preRow_of_cond 8 hx (by kernel_rfl) (fun k hk => by cases hk) (by kernel_rfl) (laid_met os))) ?_
  intro W base args ds gs before hval hW _ _ _ hL _ _
  exact contract H enc W base args ds gs before hval hW hL

theorem said : Rows.FnExactTokenAtSaid :=
  OpenClaim.holds_of_cond 4 Tryd.f4 rfl rfl rfl rfl rfl rfl rfl ⟨rfl, rfl, rfl, rfl, rfl⟩ rfl rfl rfl rfl rfl (by kernel_rfl) Tryd.func4 (by kernel_rfl)
    (of_decide_eq_true (by kernel_rfl)) (by unfold Func.isWrapper; first | (rw [if_pos (by decide +kernel)]; kernel_rfl) | (rw [if_neg (by decide +kernel)]; exact ⟨rfl, rfl⟩))
    (fun os started H enc _ F => by rw [OpenClaim.pre_eq_preRow]; exact lifted os started H enc F)

theorem plain (f : FuncId) (fn : Func) (hf : Tryd.pinned.checked.prog.funcNamed "loop.example/g00838/laws.FnExactTokenAt" = some f) (hfn : Tryd.pinned.checked.prog.funcs[f]? = some fn) :
    false = Tryd.pinned.checked.prog.looks [] ∧ ∀ (j : Nat) t, fn.params[j]? = some t → Tryd.pinned.checked.prog.wantsStandIn t = false := by
  obtain rfl : f = 4 := Option.some.inj ((show Tryd.prog.funcNamed "loop.example/g00838/laws.FnExactTokenAt" = some 4 by kernel_rfl).symm.trans hf) |>.symm
  obtain rfl : fn = Tryd.f4 := (Option.some.inj (Tryd.func4.symm.trans hfn)).symm
  refine ⟨by kernel_rfl, fun j t ht => ?_⟩
  rw [Tryd.params4] at ht
  have hm : t ∈ [9, 3] := by simpa using Array.mem_of_getElem? ht
  have hall : ([9, 3].all fun u => !Tryd.prog.wantsStandIn u) = true := by kernel_rfl
  exact (show Tryd.prog.wantsStandIn t = false by simpa using List.all_eq_true.1 hall t hm)

theorem proved : Rows.FnExactTokenAtCardSaid :=
  Claim7.holds_tied_plain_at .later [] _ _ _ _ said (fun _ h => by cases h) (by kernel_rfl) (fun _ h => by cases h) fnExactTokenAt_row_tie rfl ⟨rfl, rfl⟩ (by kernel_rfl) rfl plain (by kernel_rfl)
end Go.Proofs.YtnenfpbiobmlcaaDoor.fnExactTokenAt
