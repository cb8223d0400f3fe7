/- For every two tokens, impl.CanTouch answers as its model does: the law FnExactCanTouch returns true. The tables of digits, units, key words and signs start as the program's text lays them (the card ties them). No other condition. -/
import Derived.Test.YtnenfpbiobmlcaaDoorCards
import Derived.Test.YtnenfpbiobmlcaaDoorTie
import Derived.Test.YtnenfpbiobmlcaaDoorTkt
import Derived.Test.YtnenfpbiobmlcaaDoorTkt6
import Derived.ProofKit
import Derived.OpenShut
import Derived.ShutString
import Derived.ChangeOld
import Derived.ChangeVars
import Derived.Deep.DeepHandedRow
namespace Go.Proofs.YtnenfpbiobmlcaaDoor.fnExactCanTouch
set_option maxRecDepth 100000
open Go.ChangeShapes Go.WideShapes Go.ChangeAt Go.RowKit
set_option linter.unusedVariables false

set_option maxHeartbeats 40000000 in
theorem walk (k a x k' a' x' : Int) (s s' : ByteArray) (w0 : s.size ≤ maxLen) (w0' : s'.size ≤ maxLen) (w : World) (hT : Tabs w) :
    Calls Tryd.prog 11 #[.agg #[.int .i64 k, .int .i64 a, .string s, .int .i64 x], .agg #[.int .i64 k', .int .i64 a', .string s', .int .i64 x']] w fun e w' => e = .returned (.bool true) ∧ Below w.heap.size w w' := by
  have HT := Lib.hid hT
  clear hT
  unfold maxLen at w0 w0'
  have HZ := Lib.hid (fun w => szToken_any k a x 1048576 s w w0 (by omega) (by omega))
  by_cases h : (1048576 : Int) - s.size < 0
  · have e : lessT 1048576 s = -1 := if_pos h
    rw [e] at HZ
    clear e h
    go_enter Tryd.func11, Tryd.ntmps11
    go_wp2_with (go_at_call 23; refine (HZ.out _).mono ?_; rintro e w1 ⟨rfl, b1⟩; have B1 := Lib.hid (two_below b1); clear b1)
    go_ret
    exact ⟨rfl, B1.out⟩
  · have d := not_lt (Int.not_lt.1 h)
    have e : lessT 1048576 s = 1048576 - s.size := if_neg h
    have hs : s.size ≤ 1048576 := by omega
    rw [e] at HZ
    have HZ' := Lib.hid (fun w => szToken_any k' a' x' (1048576 - s.size) s' w w0' (by omega) (by omega))
    clear e h
    by_cases h : (1048576 - s.size : Int) - s'.size < 0
    · have e : lessT (1048576 - s.size) s' = -1 := if_pos h
      rw [e] at HZ'
      clear e h
      go_enter Tryd.func11, Tryd.ntmps11
      go_wp2_with (go_at_call 23; refine (HZ.out _).mono ?_; rintro e w1 ⟨rfl, b1⟩; obtain ⟨F, ⟨c0, c1, c2, c3, cl⟩, B⟩ := box_two b1; have B1 := Lib.hid B; clear b1 F B cl; refine Hid.out ?_)
      refine Lib.hid ?_
      go_wp2_with (go_at_call 23; refine (HZ'.out _).mono ?_; rintro e w2 ⟨rfl, b2⟩; have B2 := Lib.hid (B1.out.trans (b2.mono B1.out.size)); clear b2)
      go_ret
      exact ⟨rfl, B2.out⟩
    · have d2 := not_lt (Int.not_lt.1 h)
      have e : lessT (1048576 - s.size) s' = 1048576 - s.size - s'.size := if_neg h
      have hs' : s'.size ≤ 1048576 := by omega
      rw [e] at HZ'
      have HC : Hid (∀ w, Calls Tryd.prog 25 #[.agg #[.int .i64 k, .int .i64 a, .string s, .int .i64 x]] w (SaysV w (.agg #[.int .i64 k, .int .i64 a, .string s, .int .i64 x]))) := Lib.hid (fun w => toToken_any k a x s w)
      have HC' : Hid (∀ w, Calls Tryd.prog 25 #[.agg #[.int .i64 k', .int .i64 a', .string s', .int .i64 x']] w (SaysV w (.agg #[.int .i64 k', .int .i64 a', .string s', .int .i64 x']))) := Lib.hid (fun w => toToken_any k' a' x' s' w)
      have HM := Lib.hid (fun w => specCan_any k a x k' a' x' s s' w hs hs')
      have HI := Lib.hid (fun w hT => implCan_any k a x k' a' x' s s' w hs hs' hT)
      obtain ⟨o, ho⟩ : ∃ o, ctG ⟨k, a, s, x⟩ ⟨k', a', s', x'⟩ = o := ⟨_, rfl⟩
      obtain ⟨r, hr⟩ : ∃ r, (o && ctT ⟨k, a, s, x⟩ ⟨k', a', s', x'⟩) = r := ⟨_, rfl⟩
      rw [ho, hr] at HM HI
      clear e h ho hr hs hs'
      go_enter Tryd.func11, Tryd.ntmps11
      go_wp2_with (go_at_call 23; refine (HZ.out _).mono ?_; rintro e w1 ⟨rfl, b1⟩; obtain ⟨F, ⟨c0, c1, c2, c3, cl⟩, B⟩ := box_two b1; have B1 := Lib.hid B; have F1 := Lib.hid (box_two b1); clear b1 F B cl; refine Hid.out ?_)
      refine Lib.hid ?_
      go_wp2_with (go_at_call 23; refine (HZ'.out _).mono ?_; rintro e w2 ⟨rfl, b2⟩; have B2 := Lib.hid (B1.out.trans (b2.mono B1.out.size)); have F2 := Lib.hid (And.intro (F1.out.1.on b2) (F1.out.2.1.on b2)); clear b2 c0 c1 c2 c3)
      have HB : Hid (∀ w', BX w2 w' → w'.cell? ⟨w.heap.size, 0, none⟩ = some (.int .i64 k) ∧ w'.cell? ⟨w.heap.size, 1, none⟩ = some (.int .i64 a) ∧ w'.cell? ⟨w.heap.size, 2, none⟩ = some (.string s) ∧ w'.cell? ⟨w.heap.size, 3, none⟩ = some (.int .i64 x) ∧ w'.cell? ⟨w.heap.size + 1, 0, none⟩ = some (.int .i64 k') ∧ w'.cell? ⟨w.heap.size + 1, 1, none⟩ = some (.int .i64 a') ∧ w'.cell? ⟨w.heap.size + 1, 2, none⟩ = some (.string s') ∧ w'.cell? ⟨w.heap.size + 1, 3, none⟩ = some (.int .i64 x') ∧ BX w2 w') := Lib.hid (fun w' h => by
        obtain ⟨c0, c1, c2, c3, _⟩ := F2.out.1.on h
        obtain ⟨e0, e1, e2, e3, _⟩ := F2.out.2.on h
        exact ⟨c0, c1, c2, c3, e0, e1, e2, e3, h⟩)
      have HTb : Hid (∀ w', BX w2 w' → Tabs w') := Lib.hid (fun w' h => HT.out.below (B2.out.trans (Below.mono h B2.out.size)))
      have HBel : Hid (∀ w', BX w2 w' → Below w.heap.size w w') := Lib.hid (fun w' h => B2.out.trans (Below.mono h B2.out.size))
      go_region_held3 (fun w' => w'.cell? ⟨w.heap.size, 0, none⟩ = some (.int .i64 k) ∧ w'.cell? ⟨w.heap.size, 1, none⟩ = some (.int .i64 a) ∧ w'.cell? ⟨w.heap.size, 2, none⟩ = some (.string s) ∧ w'.cell? ⟨w.heap.size, 3, none⟩ = some (.int .i64 x) ∧ w'.cell? ⟨w.heap.size + 1, 0, none⟩ = some (.int .i64 k') ∧ w'.cell? ⟨w.heap.size + 1, 1, none⟩ = some (.int .i64 a') ∧ w'.cell? ⟨w.heap.size + 1, 2, none⟩ = some (.string s') ∧ w'.cell? ⟨w.heap.size + 1, 3, none⟩ = some (.int .i64 x') ∧ BX w2 w')
        (first | (go_split_ands; refine HB.out _ ?_; repeat' (with_reducible first | exact BX.drew0 _ | exact BX.refl _ | assumption | refine BX.call' (by assumption) ?_ | refine BX.drew ?_)))
        (first | (go_at_call 25; (first | (with_reducible refine (HC.out _).mono ?_) | (with_reducible refine (HC'.out _).mono ?_)); rintro e w3 ⟨rfl, b3⟩) | (go_at_call 40; go_split_ands; refine (HM.out _).mono ?_; rintro e w4 ⟨rfl, b4⟩))
      all_goals
        go_split_ands
        go_wp2_with fail
        go_region_held3 (fun w' => w'.cell? ⟨w.heap.size, 0, none⟩ = some (.int .i64 k) ∧ w'.cell? ⟨w.heap.size, 1, none⟩ = some (.int .i64 a) ∧ w'.cell? ⟨w.heap.size, 2, none⟩ = some (.string s) ∧ w'.cell? ⟨w.heap.size, 3, none⟩ = some (.int .i64 x) ∧ w'.cell? ⟨w.heap.size + 1, 0, none⟩ = some (.int .i64 k') ∧ w'.cell? ⟨w.heap.size + 1, 1, none⟩ = some (.int .i64 a') ∧ w'.cell? ⟨w.heap.size + 1, 2, none⟩ = some (.string s') ∧ w'.cell? ⟨w.heap.size + 1, 3, none⟩ = some (.int .i64 x') ∧ BX w2 w')
          (first | (go_split_ands; refine HB.out _ ?_; repeat' (with_reducible first | exact BX.drew0 _ | exact BX.refl _ | assumption | refine BX.call' (by assumption) ?_ | refine BX.drew ?_)))
          (first | (go_at_call 25; (first | (with_reducible refine (HC.out _).mono ?_) | (with_reducible refine (HC'.out _).mono ?_)); rintro e w3 ⟨rfl, b3⟩) | (go_at_call 41; go_split_ands; refine (HI.out _ (HTb.out _ (by assumption))).mono ?_; rintro e w4 ⟨rfl, b4⟩))
        all_goals
          go_split_ands
          go_wp2_with fail
          go_ret
          exact ⟨rfl, HBel.out _ (by assumption)⟩

theorem contract (H : Type) (enc : TypeId × Value → H) (W : World) (base : Nat) (args : Array Value) (ds gs : List (DataW H)) (before : List MemPlace)
    (hval : ∀ (j : Nat) t v, Tryd.f11.params[j]? = some t → args[j]? = some v → Value.okWide Tryd.prog W .any base t v)
    (hW : DataW.Whole enc Tryd.prog Tryd.f11.params.toList Rows.fnExactCanTouchSpec.vars false W args.toList ds gs before) (hL : laidMetH Tryd.prog Rows.fnExactCanTouchRow.laid W) :
    Calls Tryd.prog 11 args W fun e W' => ∃ v, e = .returned v ∧ Rows.fnExactCanTouchSpec.post enc Tryd.prog Tryd.f11 false true false false W args v W' := by
  have hW' := hW
  obtain ⟨p, q, hA0, hV, rfl, hfz, hnd⟩ := hW
  have hA : DataW.TrodAll enc Tryd.prog W 0 (fun _ => true) true Tryd.f11.params.toList args.toList ds p := hA0
  rw [Tryd.params11] at hA hval
  obtain ⟨v0, vs0, d0, ds0, p0, q0, hargs, rfl, rfl, h0, r0⟩ := trodAll_cons hA
  obtain ⟨v1, vs1, d1, ds1, p1, q1, rfl, rfl, rfl, h1, r1⟩ := trodAll_cons r0
  obtain ⟨rfl, rfl, rfl⟩ := trodAll_nil r1
  obtain rfl : args = #[v0, v1] := by cases args; simp_all
  have hV2 := hV
  obtain ⟨dV0, dV1, dV2, dV3, rfl⟩ := trodVars_four hV
  obtain ⟨k, a, x, s, rfl, rfl, w0, shut⟩ := open_tok (hval 0 37 v0 rfl rfl) h0
  obtain ⟨k', a', x', s', rfl, rfl, w0', shut'⟩ := open_tok (hval 1 37 v1 rfl rfl) h1
  clear hA0
  refine (walk k a x k' a' x' s s' w0 w0' W ⟨(dig_of_head hL), (units_of_head (laidMet.tail hL)), (kwt_of_head (laidMet.tail (laidMet.tail hL))), (sgt_of_head (laidMet.tail (laidMet.tail (laidMet.tail hL))))⟩).mono fun e W' ⟨he, bel⟩ => ?_
  subst he
  exact ⟨_, rfl, _, _, _, [], _, _, hW', trodAll_mk1 (shut_bool Tryd.underlying4 _), (trodAll_cons_mk (shut _ _ _ _) (trodAll_cons_mk (shut' _ _ _ _) trodAll_mk0)), Below.trodVars laidOut bel (by kernel_rfl) hV2, bel.frame _, fun h => by cases h⟩

theorem laid_met (os : Os) : laidMet Tryd.prog Rows.fnExactCanTouchRow.laid ((laidWorld3 os).forCall (fun _ _ => 0) ⟨#[], #[.agg #[.int .i64 0, .int .i64 0, .string ByteArray.empty, .int .i64 0], .agg #[.int .i64 0, .int .i64 0, .string ByteArray.empty, .int .i64 0]], []⟩).memory :=
  laidMet_of_run' 8 (by kernel_rfl) (by kernel_rfl)
theorem reads (os : Os) {H : Type} (enc : TypeId × Value → H) : ∃ places, DataW.whole enc Tryd.prog ((laidWorld3 os).forCall (fun _ _ => 0) ⟨#[], #[.agg #[.int .i64 0, .int .i64 0, .string ByteArray.empty, .int .i64 0], .agg #[.int .i64 0, .int .i64 0, .string ByteArray.empty, .int .i64 0]], []⟩).memory Tryd.f11.params.toList Rows.fnExactCanTouchSpec.vars false (#[.agg #[.int .i64 0, .int .i64 0, .string ByteArray.empty, .int .i64 0], .agg #[.int .i64 0, .int .i64 0, .string ByteArray.empty, .int .i64 0]] : Array Value).toList 8 = some ([.agg [.lit (.int .i64 0), .lit (.int .i64 0), .lit (.string []), .lit (.int .i64 0)], .agg [.lit (.int .i64 0), .lit (.int .i64 0), .lit (.string []), .lit (.int .i64 0)]], [Rows.laid_loop_example_g00838_impl_signs, Rows.laid_loop_example_g00838_impl_digits, Rows.laid_loop_example_g00838_impl_units, Rows.laid_loop_example_g00838_impl_keyWords], places) :=
  ⟨[.cell 1 0, .cell 1 1, .cell 1 2, .cell 1 3, .cell 1 4, .cell 1 5, .cell 2 0, .cell 2 1, .cell 3 0, .cell 3 1, .cell 3 2, .cell 3 3, .cell 0 0, .cell 0 1, .cell 0 2, .cell 0 3, .cell 0 4, .cell 0 5, .cell 0 6, .cell 0 7, .cell 0 8, .cell 0 9, .cell 0 10, .cell 0 11, .cell 0 12, .cell 0 13], by kernel_rfl⟩

set_option maxRecDepth 100000 in
theorem lifted (os : Os) (started : os.Started) (H : Type) (enc : TypeId × Value → H) (F : Stop.Interp) :
    ReturnsInHanded {} Tryd.checked os 11 .any ((OpenSpec.ofChange Rows.fnExactCanTouchSpec).preRow enc Tryd.prog Tryd.f11 Rows.fnExactCanTouchRow.domain false Rows.fnExactCanTouchRow.laid) (((OpenSpec.ofChange Rows.fnExactCanTouchSpec).at F).post enc Tryd.prog Tryd.f11 false true false false) := by
  obtain ⟨places, hx⟩ := reads os enc
  refine returnsInHanded_of_row (C := Tryd.checked) (s := OpenSpec.ofChange Rows.fnExactCanTouchSpec) own started (by kernel_rfl) Tryd.func11
    (witness_row_at (enc := enc) (C := Tryd.checked) false (laidWorld3 os) #[.agg #[.int .i64 0, .int .i64 0, .string ByteArray.empty, .int .i64 0], .agg #[.int .i64 0, .int .i64 0, .string ByteArray.empty, .int .i64 0]] rfl (by kernel_rfl) (by kernel_rfl) (by kernel_rfl)
      (OpenSpec.preRow_of_cond 8 hx (by kernel_rfl) (fun k hk => by cases hk) (by kernel_rfl) (laid_met os))) ?_
  intro W base args ds gs before hval hW _ _ _ hL _ _
  exact contract H enc W base args ds gs before hval hW hL

theorem said : Rows.FnExactCanTouchSaid :=
  OpenClaim.holds_of_cond 11 Tryd.f11 rfl rfl rfl rfl rfl rfl rfl ⟨rfl, rfl, rfl, rfl, rfl⟩ rfl rfl rfl rfl rfl (by kernel_rfl) Tryd.func11 (by kernel_rfl)
    (of_decide_eq_true (by kernel_rfl)) (by unfold Func.isWrapper; first | (rw [if_pos (by decide +kernel)]; kernel_rfl) | (rw [if_neg (by decide +kernel)]; exact ⟨rfl, rfl⟩))
    (fun os started H enc _ F => by rw [OpenClaim.pre_eq_preRow]; exact lifted os started H enc F)

theorem plain (f : FuncId) (fn : Func) (hf : Tryd.pinned.checked.prog.funcNamed "loop.example/g00838/laws.FnExactCanTouch" = some f) (hfn : Tryd.pinned.checked.prog.funcs[f]? = some fn) :
    false = Tryd.pinned.checked.prog.looks [] ∧ ∀ (j : Nat) t, fn.params[j]? = some t → Tryd.pinned.checked.prog.wantsStandIn t = false := by
  obtain rfl : f = 11 := Option.some.inj ((show Tryd.prog.funcNamed "loop.example/g00838/laws.FnExactCanTouch" = some 11 by kernel_rfl).symm.trans hf) |>.symm
  obtain rfl : fn = Tryd.f11 := (Option.some.inj (Tryd.func11.symm.trans hfn)).symm
  refine ⟨by kernel_rfl, fun j t ht => ?_⟩
  rw [Tryd.params11] at ht
  have hm : t ∈ [37, 37] := by simpa using Array.mem_of_getElem? ht
  have hall : ([37, 37].all fun u => !Tryd.prog.wantsStandIn u) = true := by kernel_rfl
  exact (show Tryd.prog.wantsStandIn t = false by simpa using List.all_eq_true.1 hall t hm)

theorem proved : Rows.FnExactCanTouchCardSaid :=
  Claim7.holds_tied_plain_at .later [] _ _ _ _ said (fun _ h => by cases h) (by kernel_rfl) (fun _ h => by cases h) fnExactCanTouch_row_tie rfl ⟨rfl, rfl⟩ (by kernel_rfl) rfl plain (by kernel_rfl)
end Go.Proofs.YtnenfpbiobmlcaaDoor.fnExactCanTouch
