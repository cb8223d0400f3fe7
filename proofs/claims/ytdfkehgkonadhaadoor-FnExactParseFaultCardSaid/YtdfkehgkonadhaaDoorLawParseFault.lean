/- For every string, impl.ParseFault answers as its model does and writes into no argument: the law FnExactParseFault returns true. The tables start as the texts lay them (the card ties them). No other condition. -/
import Derived.Test.YtdfkehgkonadhaaDoorCards
import Derived.Test.YtdfkehgkonadhaaDoorTie
import Derived.Test.YtdfkehgkonadhaaDoorFps
import Derived.ProofKit
import Derived.OpenShut
import Derived.ShutString
import Derived.ChangeOld
import Derived.ChangeVars
import Derived.Carry
import Derived.Deep.DeepHandedRow
namespace Go.Proofs.YtdfkehgkonadhaaDoor.fnExactParseFault
set_option maxRecDepth 100000
open Go.ChangeShapes Go.WideShapes Go.ChangeAt Go.RowKit
set_option linter.unusedVariables false

theorem own : ownKnob Tryd.prog.godebug = none := by kernel_rfl
theorem laidOut : laidOutB Tryd.prog = true := by kernel_rfl
set_option maxHeartbeats 1600000 in
theorem walk (s : ByteArray) (w0 : s.size ≤ maxLen) (w : World) (hM : MaxL w) (hK : Knt w) (hD : Dig w) :
    Calls Tryd.prog 10 #[.string s] w fun e w' => e = .returned (.bool true) ∧ Below w.heap.size w w' := by
  unfold maxLen at w0
  have HM := Lib.hid hM
  have HK := Lib.hid hK
  have HD := Lib.hid hD
  clear hM hK hD
  by_cases h : (1048576 : Int) < s.size
  · have d := is_lt h
    go_enter Tryd.func10, Tryd.ntmps10
    go_wp2
    go_ret
    exact ⟨rfl, Below.refl _ _⟩
  have d := not_lt (Int.not_lt.1 h)
  have hs : s.size ≤ 1048576 := by omega
  obtain ⟨r, q, hr⟩ := pfS_ex s
  have HSP := Lib.hid (fun w => specParse_any s r q hr w hs)
  have HIM := Lib.hid (fun w hM hK hD => implParse_any s r q hr w hs (Lib.hid (show MaxL w from hM)) (Lib.hid (show Knt w from hK)) (Lib.hid (show Dig w from hD)))
  have HEQ := Lib.hid (fun w => eqFault_same r w)
  obtain ⟨rk, ra⟩ := r
  unfold faV at HSP HIM HEQ
  simp only at HSP HIM HEQ
  have X0 := Lib.hid (BX.refl w)
  clear h hr
  go_enter Tryd.func10, Tryd.ntmps10
  go_wp2_with (go_at_call 26; refine (HSP.out _).mono ?_; rintro e w2 ⟨rfl, b⟩; have X2 := Lib.hid ((X0.out.call b).alloc (Obj.cells #[.int .i64 rk, .int .i64 ra] 37)); clear b; refine Hid.out ?_)
  refine Lib.hid ?_
  have R2 := Lib.hid (two_is w2 (.int .i64 rk) (.int .i64 ra) 37)
  have K2 : Hid (MaxL (w2.alloc (Obj.cells #[.int .i64 rk, .int .i64 ra] 37)) ∧ Knt (w2.alloc (Obj.cells #[.int .i64 rk, .int .i64 ra] 37)) ∧ Dig (w2.alloc (Obj.cells #[.int .i64 rk, .int .i64 ra] 37))) := Lib.hid ⟨HM.out.below X2.out, HK.out.below X2.out, HD.out.below X2.out⟩
  go_wp2_with (go_at_call 27; refine (HIM.out _ K2.out.1 K2.out.2.1 K2.out.2.2).mono ?_; rintro e w4 ⟨rfl, b⟩; have X4 := Lib.hid ((X2.out.call b).alloc (Obj.cells #[.int .i64 rk, .int .i64 ra] 37)); obtain ⟨d0, d1, dl⟩ := (R2.out.on b).on (one_new2 w4 (Obj.cells #[.int .i64 rk, .int .i64 ra] 37)); clear b; refine Hid.out ?_)
  refine Lib.hid ?_
  go_wp2_with (go_at_call 28; refine (HEQ.out _).mono ?_; rintro e w5 ⟨rfl, b⟩; have X5 := Lib.hid (X4.out.call b); clear b)
  go_ret
  exact ⟨rfl, X5.out⟩

theorem contract (H : Type) (enc : TypeId × Value → H) (W : World) (base : Nat) (args : Array Value) (ds gs : List (DataW H)) (before : List MemPlace)
    (hval : ∀ (j : Nat) t v, Tryd.f10.params[j]? = some t → args[j]? = some v → Value.okWide Tryd.prog W .any base t v)
    (hW : DataW.Whole enc Tryd.prog Tryd.f10.params.toList Rows.fnExactParseFaultSpec.vars false W args.toList ds gs before) (hL : laidMetH Tryd.prog Rows.fnExactParseFaultRow.laid W) (hSh : W.ShapedOpen Tryd.prog) :
    Calls Tryd.prog 10 args W fun e W' => ∃ v, e = .returned v ∧ Rows.fnExactParseFaultSpec.post enc Tryd.prog Tryd.f10 false true false false W args v W' := by
  have hW' := hW
  obtain ⟨p, q, hA0, hV, rfl, hfz, hnd⟩ := hW
  have hA : DataW.TrodAll enc Tryd.prog W 0 (fun _ => true) true Tryd.f10.params.toList args.toList ds p := hA0
  rw [Tryd.params10] at hA hval
  obtain ⟨v0, vs0, d0, ds0, p0, q0, hargs, rfl, rfl, h0, r0⟩ := trodAll_cons hA
  obtain ⟨rfl, rfl, rfl⟩ := trodAll_nil r0
  obtain rfl : args = #[v0] := by cases args; simp_all
  have k0 := h0
  have lt0 : ∀ x ∈ p0, x.block < W.heap.size := by obtain ⟨m, hm⟩ := k0; exact DataW.trod_lt m _ _ _ hm
  obtain ⟨s0, hs0, _, _, w0⟩ := Go.ChangeMaps.open_string Tryd.underlying9 (hval 0 9 v0 rfl rfl) h0
  subst hs0
  have hV2 := hV
  obtain ⟨gV, tV, cV, fV, dV, pV, gV2, tV2, cV2, fV2, dV2, pV2, rfl, _, _, _, _, _, _, _, _, rfl⟩ := trodVars_two hV
  clear hA0
  refine (walk s0 w0 W (maxl_of hSh) (knt_of_head (laidMet.tail hL)) (dig_of_head hL)).mono fun e W' ⟨he, bel⟩ => ?_
  subst he
  exact ⟨_, rfl, _, _, _, [], _, _, hW', trodAll_mk1 (shut_bool Tryd.underlying4 _), (trodAll_cons_mk (Below.trod laidOut (by kernel_rfl) (of_decide_eq_true (by kernel_rfl)) k0 bel lt0) trodAll_mk0), Below.trodVars laidOut bel (by kernel_rfl) hV2, bel.frame _, fun h => by cases h⟩

theorem laid_met (os : Os) : laidMet Tryd.prog Rows.fnExactParseFaultRow.laid ((laidG os).forCall (fun _ _ => 0) ⟨#[], #[.string ByteArray.empty], []⟩).memory :=
  laidMet_of_run' 8 (by kernel_rfl) (by kernel_rfl)
theorem reads (os : Os) {H : Type} (enc : TypeId × Value → H) : ∃ places, DataW.whole enc Tryd.prog ((laidG os).forCall (fun _ _ => 0) ⟨#[], #[.string ByteArray.empty], []⟩).memory Tryd.f10.params.toList Rows.fnExactParseFaultSpec.vars false (#[.string ByteArray.empty] : Array Value).toList 8 = some ([.lit (.string [])], [Rows.laid_loop_example_g00838_impl_kindNames, Rows.laid_loop_example_g00838_impl_digits], places) :=
  ⟨[.cell 0 0, .cell 0 1, .cell 0 2, .cell 0 3, .cell 0 4, .cell 0 5, .cell 0 6, .cell 0 7, .cell 1 0, .cell 1 1], by kernel_rfl⟩

set_option maxRecDepth 100000 in
theorem lifted (os : Os) (started : os.Started) (H : Type) (enc : TypeId × Value → H) (F : Stop.Interp) :
    ReturnsInHanded {} Tryd.checked os 10 .any ((OpenSpec.ofChange Rows.fnExactParseFaultSpec).preRow enc Tryd.prog Tryd.f10 Rows.fnExactParseFaultRow.domain false Rows.fnExactParseFaultRow.laid) (((OpenSpec.ofChange Rows.fnExactParseFaultSpec).at F).post enc Tryd.prog Tryd.f10 false true false false) := by
  obtain ⟨places, hx⟩ := reads os enc
  refine returnsInHanded_of_row (C := Tryd.checked) (s := OpenSpec.ofChange Rows.fnExactParseFaultSpec) own started (by kernel_rfl) Tryd.func10
    (witness_row_at (enc := enc) (C := Tryd.checked) false (laidG os) #[.string ByteArray.empty] rfl (by kernel_rfl) (by kernel_rfl) (by kernel_rfl)
      (OpenSpec.preRow_of_cond 8 hx (by kernel_rfl) (fun k hk => by cases hk) (by kernel_rfl) (laid_met os))) ?_
  intro W base args ds gs before hval hW _ _ _ hL hSh _
  exact contract H enc W base args ds gs before hval hW hL hSh

theorem said : Rows.FnExactParseFaultSaid :=
  OpenClaim.holds_of_cond 10 Tryd.f10 rfl rfl rfl rfl rfl rfl rfl ⟨rfl, rfl, rfl, rfl, rfl⟩ rfl rfl rfl rfl rfl (by kernel_rfl) Tryd.func10 (by kernel_rfl)
    (of_decide_eq_true (by kernel_rfl)) (by unfold Func.isWrapper; first | (rw [if_pos (by decide +kernel)]; kernel_rfl) | (rw [if_neg (by decide +kernel)]; exact ⟨rfl, rfl⟩))
    (fun os started H enc _ F => by rw [OpenClaim.pre_eq_preRow]; exact lifted os started H enc F)

theorem plain (f : FuncId) (fn : Func) (hf : Tryd.pinned.checked.prog.funcNamed "loop.example/g00838/laws.FnExactParseFault" = some f) (hfn : Tryd.pinned.checked.prog.funcs[f]? = some fn) :
    false = Tryd.pinned.checked.prog.looks [] ∧ ∀ (j : Nat) t, fn.params[j]? = some t → Tryd.pinned.checked.prog.wantsStandIn t = false := by
  obtain rfl : f = 10 := Option.some.inj ((show Tryd.prog.funcNamed "loop.example/g00838/laws.FnExactParseFault" = some 10 by kernel_rfl).symm.trans hf) |>.symm
  obtain rfl : fn = Tryd.f10 := (Option.some.inj (Tryd.func10.symm.trans hfn)).symm
  refine ⟨by kernel_rfl, fun j t ht => ?_⟩
  rw [Tryd.params10] at ht
  have hm : t ∈ [9] := by simpa using Array.mem_of_getElem? ht
  have hall : ([9].all fun u => !Tryd.prog.wantsStandIn u) = true := by kernel_rfl
  exact (show Tryd.prog.wantsStandIn t = false by simpa using List.all_eq_true.1 hall t hm)

theorem proved : Rows.FnExactParseFaultCardSaid :=
  Claim7.holds_tied_plain_at .later [] _ _ _ _ said (fun _ h => by cases h) (by kernel_rfl) (fun _ h => by cases h) fnExactParseFault_row_tie rfl ⟨rfl, rfl⟩ (by kernel_rfl) rfl plain (by kernel_rfl)
end Go.Proofs.YtdfkehgkonadhaaDoor.fnExactParseFault
