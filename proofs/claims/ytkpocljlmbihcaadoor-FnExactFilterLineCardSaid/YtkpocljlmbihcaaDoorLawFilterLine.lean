/- For every filter, impl.FilterLine answers as its model does and writes into no argument: the law FnExactFilterLine returns true. The tables start as the texts lay them (the card ties them). No other condition. -/
import Derived.Test.YtkpocljlmbihcaaDoorCards
import Derived.Test.YtkpocljlmbihcaaDoorTie
import Derived.Test.YtkpocljlmbihcaaDoorFlw
import Derived.Test.YtkpocljlmbihcaaDoorPrc
import Derived.Test.YtkpocljlmbihcaaDoorCfn
import Derived.Test.YtkpocljlmbihcaaDoorPro
import Derived.Test.YtkpocljlmbihcaaDoorKwl
import Derived.ProofKit
import Derived.OpenShut
import Derived.ShutString
import Derived.ChangeOld
import Derived.ChangeVars
import Derived.Carry
import Derived.Deep.DeepHandedRow
namespace Go.Proofs.YtkpocljlmbihcaaDoor.fnExactFilterLine
set_option maxRecDepth 100000
open Go.ChangeShapes Go.WideShapes Go.ChangeAt Go.RowKit
set_option linter.unusedVariables false

theorem own : ownKnob Tryd.prog.godebug = none := by kernel_rfl
theorem laidOut : laidOutB Tryd.prog = true := by kernel_rfl
theorem gFww : Tryd.prog.globalNamed "loop.example/g00838/impl.fieldWords" = some 0 := by kernel_rfl
theorem tFww : (Tryd.prog.globals[0]?).map (·.type) = some 57 := by kernel_rfl
theorem fww_of_head {W : World} {r : List (String × DataW Unit)} (h : laidMet Tryd.prog (("loop.example/g00838/impl.fieldWords", Rows.laid_loop_example_g00838_impl_fieldWords) :: r) W) : FwW W := by
  obtain ⟨ps, ⟨g', t', cs, fuel, p, q, hg', ht', hvar, hd, _, _⟩, _⟩ := h
  obtain rfl := Option.some.inj (gFww.symm.trans hg')
  obtain rfl := Option.some.inj (tFww.symm.trans ht')
  have hcs := cells_of_texts (zs := fldA.map fun s => s.data.toList) Tryd.underlying57 Tryd.underlying9 (by kernel_rfl) (by kernel_rfl) (show DataW.trod _ Tryd.prog W _ _ _ fuel 57 cs.toList = some (.agg ((fldA.map fun s => s.data.toList).map fun z => .lit (.string z)), p) from hd)
  obtain ⟨t, fr, hb⟩ := block_of_var gFww hvar
  have hb2 : W.heap[0]? = some (.cells (fldA.map Value.string).toArray t fr) := by
    rw [hb, show cs = (fldA.map Value.string).toArray from Array.toList_inj.1 (by rw [hcs]; rfl)]
  intro f hf
  rcases (show f = 0 ∨ f = 1 ∨ f = 2 ∨ f = 3 by omega) with rfl | rfl | rfl | rfl <;> simp [World.cell?, hb2, fldA]
set_option maxHeartbeats 1600000 in
theorem walk (x : Flt) (w : World) (hW : FwW w) (hP : Pow w) (hD : Dig w) :
    Calls Tryd.prog 4 #[fltV x] w fun e w' => e = .returned (.bool true) ∧ Below w.heap.size w w' := by
  have HW := Lib.hid hW
  have HP := Lib.hid hP
  have HD := Lib.hid hD
  clear hW hP hD
  have HTO := Lib.hid (fun w => toFilter_any x w)
  have HSP := Lib.hid (fun w => specFilterLine_any x w)
  have HIM := Lib.hid (fun w hW hP hD => implFilterLine_any x w (Lib.hid (show FwW w from hW)) (Lib.hid (show Pow w from hP)) (Lib.hid (show Dig w from hD)))
  generalize resFilterLine x = g1 at HSP HIM
  generalize goodFl x = g2 at HSP HIM
  obtain ⟨xo, xf, xm, xv, xt⟩ := x
  unfold fltV at HTO HSP HIM ⊢
  simp only at HTO HSP HIM ⊢
  have HQ := Lib.hid (fun w' (h : BX (w.alloc (Obj.cells #[.int .i64 xo, .int .i64 xf, .int .i64 xm, .int .i64 xv, .int .i64 xt] 30)) w') => (box_fives2 h).1)
  have HE : Hid (∀ w', BX (w.alloc (Obj.cells #[.int .i64 xo, .int .i64 xf, .int .i64 xm, .int .i64 xv, .int .i64 xt] 30)) w' → Below w.heap.size w w') := Lib.hid (fun w' h => (box_fives2 h).2)
  have X0 := Lib.hid (BX.refl (w.alloc (Obj.cells #[.int .i64 xo, .int .i64 xf, .int .i64 xm, .int .i64 xv, .int .i64 xt] 30)))
  go_enter Tryd.func4, Tryd.ntmps4
  go_wp2_with (go_at_call 10; refine (HTO.out _).mono ?_; rintro e w1 ⟨rfl, b⟩; have X1 := Lib.hid (X0.out.call b); clear b; refine Hid.out ?_)
  refine Lib.hid ?_
  go_wp2_with (go_at_call 9; refine (HSP.out _).mono ?_; rintro e w2 ⟨rfl, b⟩; have X2 := Lib.hid (X1.out.call b); obtain ⟨c0, c1, c2, c3, c4⟩ := HQ.out _ X2.out; clear b; refine Hid.out ?_)
  refine Lib.hid ?_
  go_wp2_with (go_at_call 10; refine (HTO.out _).mono ?_; rintro e w3 ⟨rfl, b⟩; have X3 := Lib.hid (X2.out.call b); clear b; refine Hid.out ?_)
  refine Lib.hid ?_
  go_wp2_with (go_at_call 11; refine (HIM.out _ (HW.out.below (HE.out _ X3.out)) (HP.out.below (HE.out _ X3.out)) (HD.out.below (HE.out _ X3.out))).mono ?_; rintro e w4 ⟨rfl, b⟩; have X4 := Lib.hid (X3.out.call b); clear b)
  go_ret
  exact ⟨rfl, HE.out _ X4.out⟩

theorem contract (H : Type) (enc : TypeId × Value → H) (W : World) (base : Nat) (args : Array Value) (ds gs : List (DataW H)) (before : List MemPlace)
    (hval : ∀ (j : Nat) t v, Tryd.f4.params[j]? = some t → args[j]? = some v → Value.okWide Tryd.prog W .any base t v)
    (hW : DataW.Whole enc Tryd.prog Tryd.f4.params.toList Rows.fnExactFilterLineSpec.vars false W args.toList ds gs before) (hL : laidMetH Tryd.prog Rows.fnExactFilterLineRow.laid W) :
    Calls Tryd.prog 4 args W fun e W' => ∃ v, e = .returned v ∧ Rows.fnExactFilterLineSpec.post enc Tryd.prog Tryd.f4 false true false false W args v W' := by
  have hW' := hW
  obtain ⟨p, q, hA0, hV, rfl, hfz, hnd⟩ := hW
  have hA : DataW.TrodAll enc Tryd.prog W 0 (fun _ => true) true Tryd.f4.params.toList args.toList ds p := hA0
  rw [Tryd.params4] at hA hval
  obtain ⟨v0, vs0, d0, ds0, p0, q0, hargs, rfl, rfl, h0, r0⟩ := trodAll_cons hA
  obtain ⟨rfl, rfl, rfl⟩ := trodAll_nil r0
  obtain rfl : args = #[v0] := by cases args; simp_all
  have k0 := h0
  have lt0 : ∀ x ∈ p0, x.block < W.heap.size := by obtain ⟨m, hm⟩ := k0; exact DataW.trod_lt m _ _ _ hm
  obtain ⟨x0, hx0⟩ := open_flt (hval 0 30 v0 rfl rfl) h0
  subst hx0
  have hV2 := hV
  obtain ⟨gV, tV, cV, fV, dV, pV, gV2, tV2, cV2, fV2, dV2, pV2, rfl, _, _, _, _, _, _, _, _, rfl⟩ := trodVars_two hV
  clear hA0
  refine (walk x0 W (fww_of_head (laidMet.tail (laidMet.tail (laidMet.tail (laidMet.tail hL))))) (pow10_of_head (laidMet.tail (laidMet.tail hL))) (dig_of_head (laidMet.tail (laidMet.tail (laidMet.tail hL))))).mono fun e W' ⟨he, bel⟩ => ?_
  subst he
  exact ⟨_, rfl, _, _, _, [], _, _, hW', trodAll_mk1 (shut_bool Tryd.underlying4 _), (trodAll_cons_mk (Below.trod laidOut (by kernel_rfl) (of_decide_eq_true (by kernel_rfl)) k0 bel lt0) trodAll_mk0), Below.trodVars laidOut bel (by kernel_rfl) hV2, bel.frame _, fun h => by cases h⟩

theorem laid_met (os : Os) : laidMet Tryd.prog Rows.fnExactFilterLineRow.laid ((laidG os).forCall (fun _ _ => 0) ⟨#[], #[.agg #[.int .i64 0, .int .i64 0, .int .i64 0, .int .i64 0, .int .i64 0]], []⟩).memory :=
  laidMet_of_run' 8 (by kernel_rfl) (by kernel_rfl)
theorem reads (os : Os) {H : Type} (enc : TypeId × Value → H) : ∃ places, DataW.whole enc Tryd.prog ((laidG os).forCall (fun _ _ => 0) ⟨#[], #[.agg #[.int .i64 0, .int .i64 0, .int .i64 0, .int .i64 0, .int .i64 0]], []⟩).memory Tryd.f4.params.toList Rows.fnExactFilterLineSpec.vars false (#[.agg #[.int .i64 0, .int .i64 0, .int .i64 0, .int .i64 0, .int .i64 0]] : Array Value).toList 8 = some ([.agg [.lit (.int .i64 0), .lit (.int .i64 0), .lit (.int .i64 0), .lit (.int .i64 0), .lit (.int .i64 0)]], [Rows.laid_loop_example_g00838_impl_fieldWords, Rows.laid_loop_example_g00838_impl_digits], places) :=
  ⟨[.cell 0 0, .cell 0 1, .cell 0 2, .cell 0 3, .cell 2 0, .cell 2 1], by kernel_rfl⟩

set_option maxRecDepth 100000 in
theorem lifted (os : Os) (started : os.Started) (H : Type) (enc : TypeId × Value → H) (F : Stop.Interp) :
    ReturnsInHanded {} Tryd.checked os 4 .any ((OpenSpec.ofChange Rows.fnExactFilterLineSpec).preRow enc Tryd.prog Tryd.f4 Rows.fnExactFilterLineRow.domain false Rows.fnExactFilterLineRow.laid) (((OpenSpec.ofChange Rows.fnExactFilterLineSpec).at F).post enc Tryd.prog Tryd.f4 false true false false) := by
  obtain ⟨places, hx⟩ := reads os enc
  refine returnsInHanded_of_row (C := Tryd.checked) (s := OpenSpec.ofChange Rows.fnExactFilterLineSpec) own started (by kernel_rfl) Tryd.func4
    (witness_row_at (enc := enc) (C := Tryd.checked) false (laidG os) #[.agg #[.int .i64 0, .int .i64 0, .int .i64 0, .int .i64 0, .int .i64 0]] rfl (by kernel_rfl) (by kernel_rfl) (by kernel_rfl)
      (OpenSpec.preRow_of_cond 8 hx (by kernel_rfl) (fun k hk => by cases hk) (by kernel_rfl) (laid_met os))) ?_
  intro W base args ds gs before hval hW _ _ _ hL _ _
  exact contract H enc W base args ds gs before hval hW hL

theorem said : Rows.FnExactFilterLineSaid :=
  OpenClaim.holds_of_cond 4 Tryd.f4 rfl rfl rfl rfl rfl rfl rfl ⟨rfl, rfl, rfl, rfl, rfl⟩ rfl rfl rfl rfl rfl (by kernel_rfl) Tryd.func4 (by kernel_rfl)
    (of_decide_eq_true (by kernel_rfl)) (by unfold Func.isWrapper; first | (rw [if_pos (by decide +kernel)]; kernel_rfl) | (rw [if_neg (by decide +kernel)]; exact ⟨rfl, rfl⟩))
    (fun os started H enc _ F => by rw [OpenClaim.pre_eq_preRow]; exact lifted os started H enc F)

theorem plain (f : FuncId) (fn : Func) (hf : Tryd.pinned.checked.prog.funcNamed "loop.example/g00838/laws.FnExactFilterLine" = some f) (hfn : Tryd.pinned.checked.prog.funcs[f]? = some fn) :
    false = Tryd.pinned.checked.prog.looks [] ∧ ∀ (j : Nat) t, fn.params[j]? = some t → Tryd.pinned.checked.prog.wantsStandIn t = false := by
  obtain rfl : f = 4 := Option.some.inj ((show Tryd.prog.funcNamed "loop.example/g00838/laws.FnExactFilterLine" = some 4 by kernel_rfl).symm.trans hf) |>.symm
  obtain rfl : fn = Tryd.f4 := (Option.some.inj (Tryd.func4.symm.trans hfn)).symm
  refine ⟨by kernel_rfl, fun j t ht => ?_⟩
  rw [Tryd.params4] at ht
  have hm : t ∈ [30] := by simpa using Array.mem_of_getElem? ht
  have hall : ([30].all fun u => !Tryd.prog.wantsStandIn u) = true := by kernel_rfl
  exact (show Tryd.prog.wantsStandIn t = false by simpa using List.all_eq_true.1 hall t hm)

theorem proved : Rows.FnExactFilterLineCardSaid :=
  Claim7.holds_tied_plain_at .later [] _ _ _ _ said (fun _ h => by cases h) (by kernel_rfl) (fun _ h => by cases h) fnExactFilterLine_row_tie rfl ⟨rfl, rfl⟩ (by kernel_rfl) rfl plain (by kernel_rfl)
end Go.Proofs.YtkpocljlmbihcaaDoor.fnExactFilterLine
