/- For every string and every number, impl.ParseLeaf answers as its model does and writes into no argument: the law FnExactParseLeaf returns true. The tables of digits, units, key words, signs start as the program's text lays them (the card ties them). No other condition. -/
import Derived.Test.YthpejbdbbofaaaaDoorCards
import Derived.Test.YthpejbdbbofaaaaDoorTie
import Derived.Test.YthpejbdbbofaaaaDoorTkt
import Derived.Test.YthpejbdbbofaaaaDoorPst
import Derived.ProofKit
import Derived.OpenShut
import Derived.ShutString
import Derived.ChangeOld
import Derived.ChangeVars
import Derived.Carry
import Derived.Deep.DeepHandedRow
namespace Go.Proofs.YthpejbdbbofaaaaDoor.fnExactParseLeaf
set_option maxRecDepth 100000
open Go.ChangeShapes Go.WideShapes Go.ChangeAt Go.RowKit
open Go.ChangeMaps (open_string shut_string)
set_option linter.unusedVariables false
set_option linter.unusedSimpArgs false

theorem eq_same (x : Cls) (w : World) :
    Calls Tryd.prog 51 #[clsV x, clsV x] w (SaysB w true) := by
  obtain ⟨xi, xp, xr, xe, xb, xu, xo, xl⟩ := x
  unfold clsV
  simp only
  go_enter Tryd.func51, Tryd.ntmps51
  go_wp2
  go_ret
  exact ⟨rfl, two_new _ _ _⟩
set_option maxHeartbeats 3200000 in
theorem walk (s : ByteArray) (w0 : s.size ≤ maxLen) (p : Int) (w : World) (hT : Tabs w) :
    Calls Tryd.prog 7 #[.string s, .int .i64 p] w fun e w' => e = .returned (.bool true) ∧ Below w.heap.size w w' := by
  have HT := Lib.hid hT
  clear hT
  unfold maxLen at w0
  by_cases h : (1048576 : Int) < s.size
  · have d := is_lt h
    go_enter Tryd.func7, Tryd.ntmps7
    go_wp2
    go_ret
    exact ⟨rfl, Below.refl _ _⟩
  have d := not_lt (Int.not_lt.1 h)
  have hs : s.size ≤ 1048576 := by omega
  have HSP := Lib.hid (fun w => specParseLeaf_any s p w hs)
  have HIM := Lib.hid (fun w HT => implParseLeaf_any s p w HT)
  generalize resParseLeaf s p = A at HSP HIM
  obtain ⟨x, ⟨fk, fa⟩, ok⟩ := A
  have HEQ := Lib.hid (eq_same x)
  unfold clsV at HSP HIM HEQ
  unfold faV at HSP HIM
  simp only at HSP HIM HEQ
  clear h
  go_enter Tryd.func7, Tryd.ntmps7
  go_wp2_with (go_at_call 49; refine (HSP.out _).mono ?_; rintro e w1 ⟨rfl, b⟩; have B1 := Lib.hid b; clear b)
  obtain ⟨Wa, hWa⟩ : ∃ Wa, (w1.alloc (.cells #[.int .i64 x.i, .int .i64 x.p, .int .i64 x.r, .int .i64 x.e, .int .i64 x.b, .int .i64 x.u, .int .i64 x.o, .int .i64 x.l] 62)).alloc (.cells #[.int .i64 fk, .int .i64 fa] 26) = Wa := ⟨_, rfl⟩
  rw [hWa]
  have ba : Below w1.heap.size w1 Wa := by rw [← hWa]; exact two_new _ _ _
  have A1 : Hid (BoxAt Wa w1.heap.size #[.int .i64 x.i, .int .i64 x.p, .int .i64 x.r, .int .i64 x.e, .int .i64 x.b, .int .i64 x.u, .int .i64 x.o, .int .i64 x.l] 62) := Lib.hid (by rw [← hWa]; exact (BoxAt.new w1 _ _).below (one_new2 _ _))
  have A2 : Hid (BoxAt Wa (w1.heap.size + 1) #[.int .i64 fk, .int .i64 fa] 26) := Lib.hid (by rw [← hWa]; have q := BoxAt.new (w1.alloc (.cells #[.int .i64 x.i, .int .i64 x.p, .int .i64 x.r, .int .i64 x.e, .int .i64 x.b, .int .i64 x.u, .int .i64 x.o, .int .i64 x.l] 62)) #[.int .i64 fk, .int .i64 fa] 26; rw [show (w1.alloc (.cells #[.int .i64 x.i, .int .i64 x.p, .int .i64 x.r, .int .i64 x.e, .int .i64 x.b, .int .i64 x.u, .int .i64 x.o, .int .i64 x.l] 62)).heap.size = w1.heap.size + 1 by simp] at q; exact q)
  have BA := Lib.hid (B1.out.trans (ba.mono B1.out.size))
  have TA := Lib.hid (HT.out.below BA.out)
  clear hWa ba
  go_wp2_with (go_at_call 50; refine (HIM.out _ TA).mono ?_; rintro e w2 ⟨rfl, b⟩; have B2 := Lib.hid b; have D1 := Lib.hid ((A1.out.below b).below (two_new w2 (.cells #[.int .i64 x.i, .int .i64 x.p, .int .i64 x.r, .int .i64 x.e, .int .i64 x.b, .int .i64 x.u, .int .i64 x.o, .int .i64 x.l] 62) (.cells #[.int .i64 fk, .int .i64 fa] 26))); have D2 := Lib.hid ((A2.out.below b).below (two_new w2 (.cells #[.int .i64 x.i, .int .i64 x.p, .int .i64 x.r, .int .i64 x.e, .int .i64 x.b, .int .i64 x.u, .int .i64 x.o, .int .i64 x.l] 62) (.cells #[.int .i64 fk, .int .i64 fa] 26))); obtain ⟨b0, b1, b2, b3, b4, b5, b6, b7, bf⟩ := box_eights D1.out; clear b)
  have C2 : Hid (BoxAt ((w2.alloc (.cells #[.int .i64 x.i, .int .i64 x.p, .int .i64 x.r, .int .i64 x.e, .int .i64 x.b, .int .i64 x.u, .int .i64 x.o, .int .i64 x.l] 62)).alloc (.cells #[.int .i64 fk, .int .i64 fa] 26)) (w2.heap.size + 1) #[.int .i64 fk, .int .i64 fa] 26) := Lib.hid (by have q := BoxAt.new (w2.alloc (.cells #[.int .i64 x.i, .int .i64 x.p, .int .i64 x.r, .int .i64 x.e, .int .i64 x.b, .int .i64 x.u, .int .i64 x.o, .int .i64 x.l] 62)) #[.int .i64 fk, .int .i64 fa] 26; rw [show (w2.alloc (.cells #[.int .i64 x.i, .int .i64 x.p, .int .i64 x.r, .int .i64 x.e, .int .i64 x.b, .int .i64 x.u, .int .i64 x.o, .int .i64 x.l] 62)).heap.size = w2.heap.size + 1 by simp] at q; exact q)
  have BB := Lib.hid ((BA.out.trans (B2.out.mono BA.out.size)).trans ((two_new w2 (.cells #[.int .i64 x.i, .int .i64 x.p, .int .i64 x.r, .int .i64 x.e, .int .i64 x.b, .int .i64 x.u, .int .i64 x.o, .int .i64 x.l] 62) (.cells #[.int .i64 fk, .int .i64 fa] 26)).mono (by have := BA.out.size; have := B2.out.size; omega)))
  have s1 : w1.heap.size + 1 + 1 = w1.heap.size + 2 := rfl
  go_wp2_with (first | (go_at_call 51; (with_reducible refine (HEQ.out _).mono ?_); rintro e w3 ⟨rfl, b⟩; have B3 := Lib.hid b; have m0 : w3.cell? ⟨w2.heap.size + 1, 0, none⟩ = some (.int .i64 fk) := (by rw [(C2.out.below b).cell 0]; rfl); have m1 : w3.cell? ⟨w2.heap.size + 1, 1, none⟩ = some (.int .i64 fa) := (by rw [(C2.out.below b).cell 1]; rfl); have n0 : w3.cell? ⟨w1.heap.size + 1, 0, none⟩ = some (.int .i64 fk) := (by rw [(D2.out.below b).cell 0]; rfl); have n1 : w3.cell? ⟨w1.heap.size + 1, 1, none⟩ = some (.int .i64 fa) := (by rw [(D2.out.below b).cell 1]; rfl); clear b) | (go_at_call 48; refine (eqFault_same _ _ _).mono ?_; rintro e w4 ⟨rfl, b⟩; have B4 := Lib.hid b; clear b))
  go_ret
  exact ⟨rfl, (BB.out.trans (B3.out.mono BB.out.size)).trans (B4.out.mono (by have := BB.out.size; have := B3.out.size; omega))⟩

theorem contract (H : Type) (enc : TypeId × Value → H) (W : World) (base : Nat) (args : Array Value) (ds gs : List (DataW H)) (before : List MemPlace)
    (hval : ∀ (j : Nat) t v, Tryd.f7.params[j]? = some t → args[j]? = some v → Value.okWide Tryd.prog W .any base t v)
    (hW : DataW.Whole enc Tryd.prog Tryd.f7.params.toList Rows.fnExactParseLeafSpec.vars false W args.toList ds gs before) (hL : laidMetH Tryd.prog Rows.fnExactParseLeafRow.laid W) :
    Calls Tryd.prog 7 args W fun e W' => ∃ v, e = .returned v ∧ Rows.fnExactParseLeafSpec.post enc Tryd.prog Tryd.f7 false true false false W args v W' := by
  have hW' := hW
  obtain ⟨p, q, hA0, hV, rfl, hfz, hnd⟩ := hW
  have hA : DataW.TrodAll enc Tryd.prog W 0 (fun _ => true) true Tryd.f7.params.toList args.toList ds p := hA0
  rw [Tryd.params7] at hA hval
  obtain ⟨v0, vs0, d0, ds0, p0, q0, hargs, rfl, rfl, h0, r0⟩ := trodAll_cons hA
  obtain ⟨v1, vs1, d1, ds1, p1, q1, rfl, rfl, rfl, h1, r1⟩ := trodAll_cons r0
  obtain ⟨rfl, rfl, rfl⟩ := trodAll_nil r1
  obtain rfl : args = #[v0, v1] := by cases args; simp_all
  have k0 := h0
  have lt0 : ∀ x ∈ p0, x.block < W.heap.size := by obtain ⟨m, hm⟩ := k0; exact DataW.trod_lt m _ _ _ hm
  obtain ⟨s0, hs0, _, _, w0⟩ := open_string Tryd.underlying9 (hval 0 9 v0 rfl rfl) h0
  subst hs0
  have k1 := h1
  have lt1 : ∀ x ∈ p1, x.block < W.heap.size := by obtain ⟨m, hm⟩ := k1; exact DataW.trod_lt m _ _ _ hm
  obtain ⟨a1, ha1, _, _, w1⟩ := open_int Tryd.underlying3 (hval 1 3 v1 rfl rfl) h1
  subst ha1
  have hV2 := hV
  obtain ⟨dV0, dV1, dV2, dV3, rfl⟩ := trodVars_four hV
  clear hA0
  refine (walk s0 w0 a1 W ⟨(dig_of_head hL), (units_of_head (laidMet.tail hL)), (kwt_of_head (laidMet.tail (laidMet.tail hL))), (sgt_of_head (laidMet.tail (laidMet.tail (laidMet.tail hL))))⟩).mono fun e W' ⟨he, bel⟩ => ?_
  subst he
  exact ⟨_, rfl, _, _, _, [], _, _, hW', trodAll_mk1 (shut_bool Tryd.underlying4 _), (trodAll_cons_mk (Below.trod laidOut (by kernel_rfl) (of_decide_eq_true (by kernel_rfl)) k0 bel lt0) (trodAll_cons_mk (Below.trod laidOut (by kernel_rfl) (of_decide_eq_true (by kernel_rfl)) k1 bel lt1) trodAll_mk0)), Below.trodVars laidOut bel (by kernel_rfl) hV2, bel.frame _, fun h => by cases h⟩

theorem laid_met (os : Os) : laidMet Tryd.prog Rows.fnExactParseLeafRow.laid ((laidWorld3 os).forCall (fun _ _ => 0) ⟨#[], #[.string ByteArray.empty, .int .i64 0], []⟩).memory :=
  laidMet_of_run' 8 (by kernel_rfl) (by kernel_rfl)
theorem reads (os : Os) {H : Type} (enc : TypeId × Value → H) : ∃ places, DataW.whole enc Tryd.prog ((laidWorld3 os).forCall (fun _ _ => 0) ⟨#[], #[.string ByteArray.empty, .int .i64 0], []⟩).memory Tryd.f7.params.toList Rows.fnExactParseLeafSpec.vars false (#[.string ByteArray.empty, .int .i64 0] : Array Value).toList 8 = some ([.lit (.string []), .lit (.int .i64 0)], [Rows.laid_loop_example_g00838_impl_signs, Rows.laid_loop_example_g00838_impl_digits, Rows.laid_loop_example_g00838_impl_units, Rows.laid_loop_example_g00838_impl_keyWords], places) :=
  ⟨[.cell 0 0, .cell 0 1, .cell 0 2, .cell 0 3, .cell 0 4, .cell 0 5, .cell 3 0, .cell 3 1, .cell 4 0, .cell 4 1, .cell 4 2, .cell 4 3, .cell 1 0, .cell 1 1, .cell 1 2, .cell 1 3, .cell 1 4, .cell 1 5, .cell 1 6, .cell 1 7, .cell 1 8, .cell 1 9, .cell 1 10, .cell 1 11, .cell 1 12, .cell 1 13], by kernel_rfl⟩

set_option maxRecDepth 100000 in
theorem lifted (os : Os) (started : os.Started) (H : Type) (enc : TypeId × Value → H) (F : Stop.Interp) :
    ReturnsInHanded {} Tryd.checked os 7 .any ((OpenSpec.ofChange Rows.fnExactParseLeafSpec).preRow enc Tryd.prog Tryd.f7 Rows.fnExactParseLeafRow.domain false Rows.fnExactParseLeafRow.laid) (((OpenSpec.ofChange Rows.fnExactParseLeafSpec).at F).post enc Tryd.prog Tryd.f7 false true false false) := by
  obtain ⟨places, hx⟩ := reads os enc
  refine returnsInHanded_of_row (C := Tryd.checked) (s := OpenSpec.ofChange Rows.fnExactParseLeafSpec) own started (by kernel_rfl) Tryd.func7
    (witness_row_at (enc := enc) (C := Tryd.checked) false (laidWorld3 os) #[.string ByteArray.empty, .int .i64 0] rfl (by kernel_rfl) (by kernel_rfl) (by kernel_rfl)
      (OpenSpec.preRow_of_cond 8 hx (by kernel_rfl) (fun k hk => by cases hk) (by kernel_rfl) (laid_met os))) ?_
  intro W base args ds gs before hval hW _ _ _ hL _ _
  exact contract H enc W base args ds gs before hval hW hL

theorem said : Rows.FnExactParseLeafSaid :=
  OpenClaim.holds_of_cond 7 Tryd.f7 rfl rfl rfl rfl rfl rfl rfl ⟨rfl, rfl, rfl, rfl, rfl⟩ rfl rfl rfl rfl rfl (by kernel_rfl) Tryd.func7 (by kernel_rfl)
    (of_decide_eq_true (by kernel_rfl)) (by unfold Func.isWrapper; first | (rw [if_pos (by decide +kernel)]; kernel_rfl) | (rw [if_neg (by decide +kernel)]; exact ⟨rfl, rfl⟩))
    (fun os started H enc _ F => by rw [OpenClaim.pre_eq_preRow]; exact lifted os started H enc F)

theorem plain (f : FuncId) (fn : Func) (hf : Tryd.pinned.checked.prog.funcNamed "loop.example/g00838/laws.FnExactParseLeaf" = some f) (hfn : Tryd.pinned.checked.prog.funcs[f]? = some fn) :
    true = Tryd.pinned.checked.prog.looks [] ∧ ∀ (j : Nat) t, fn.params[j]? = some t → Tryd.pinned.checked.prog.wantsStandIn t = false := by
  obtain rfl : f = 7 := Option.some.inj ((show Tryd.prog.funcNamed "loop.example/g00838/laws.FnExactParseLeaf" = some 7 by kernel_rfl).symm.trans hf) |>.symm
  obtain rfl : fn = Tryd.f7 := (Option.some.inj (Tryd.func7.symm.trans hfn)).symm
  refine ⟨by kernel_rfl, fun j t ht => ?_⟩
  rw [Tryd.params7] at ht
  have hm : t ∈ [9, 3] := by simpa using Array.mem_of_getElem? ht
  have hall : ([9, 3].all fun u => !Tryd.prog.wantsStandIn u) = true := by kernel_rfl
  exact (show Tryd.prog.wantsStandIn t = false by simpa using List.all_eq_true.1 hall t hm)

theorem proved : Rows.FnExactParseLeafCardSaid :=
  Claim7.holds_tied_plain_at .later [] _ _ _ _ said (fun _ h => by cases h) (by kernel_rfl) (fun _ h => by cases h) fnExactParseLeaf_row_tie rfl ⟨rfl, rfl⟩ (by kernel_rfl) rfl plain (by kernel_rfl)
end Go.Proofs.YthpejbdbbofaaaaDoor.fnExactParseLeaf
