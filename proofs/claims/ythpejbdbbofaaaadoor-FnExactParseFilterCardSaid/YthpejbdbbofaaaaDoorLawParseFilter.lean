/- For every string, impl.ParseFilter answers as its model does and writes into no argument: the law FnExactParseFilter returns true. The tables of digits, units, key words, signs and fields start as the program's text lays them (the card ties them). No other condition. -/
import Derived.Test.YthpejbdbbofaaaaDoorCards
import Derived.Test.YthpejbdbbofaaaaDoorTie
import Derived.Test.YthpejbdbbofaaaaDoorTkt
import Derived.Test.YthpejbdbbofaaaaDoorPst
import Derived.ProofKit
import Derived.OpenShut
import Derived.ShutString
import Derived.ChangeOld
import Derived.ChangeVars
import Derived.Carry
import Derived.Deep.DeepHandedRow
namespace Go.Proofs.YthpejbdbbofaaaaDoor.fnExactParseFilter
set_option maxRecDepth 100000
open Go.ChangeShapes Go.WideShapes Go.ChangeAt Go.RowKit
open Go.ChangeMaps (open_string shut_string)
set_option linter.unusedVariables false
set_option linter.unusedSimpArgs false

theorem gFwt : Tryd.prog.globalNamed "loop.example/g00838/impl.fieldWords" = some 2 := by kernel_rfl
theorem tFwt : (Tryd.prog.globals[2]?).map (·.type) = some 200 := by kernel_rfl
theorem fwt_of_head {W : World} {r : List (String × DataW Unit)} (h : laidMet Tryd.prog (("loop.example/g00838/impl.fieldWords", Rows.laid_loop_example_g00838_impl_fieldWords) :: r) W) : Fwt W := by
  obtain ⟨ps, ⟨g', t', cs, fuel, p, q, hg', ht', hvar, hd, _, _⟩, _⟩ := h
  obtain rfl := Option.some.inj (gFwt.symm.trans hg')
  obtain rfl := Option.some.inj (tFwt.symm.trans ht')
  have hcs := cells_of_texts (zs := fwA.map fun s => s.data.toList) Tryd.underlying200 Tryd.underlying9 (by kernel_rfl) (by kernel_rfl) (show DataW.trod _ Tryd.prog W _ _ _ fuel 200 cs.toList = some (.agg ((fwA.map fun s => s.data.toList).map fun z => .lit (.string z)), p) from hd)
  obtain ⟨t, fr, hb⟩ := block_of_var gFwt hvar
  refine ⟨t, fr, ?_⟩
  rw [hb, show cs = (fwA.map Value.string).toArray from Array.toList_inj.1 (by rw [hcs]; rfl)]
/-- Five named variables, opened. -/
theorem trodVars_five {H : Type} {enc : TypeId × Value → H} {P : Program} {w : World} {spare : Nat → Bool} {n0 n1 n2 n3 n4 : String} {gs : List (DataW H)} {ps : List MemPlace} (h : DataW.TrodVars enc P w spare [n0, n1, n2, n3, n4] gs ps) :
    ∃ d0 d1 d2 d3 d4, gs = [d0, d1, d2, d3, d4] := by
  cases gs with
  | nil => simp [DataW.TrodVars] at h
  | cons d ds =>
    obtain ⟨g0, t0, cs0, f0, p0, q0, h1, h2, h3, h4, hs, e⟩ := h
    obtain ⟨d0, d1, d2, d3, rfl⟩ := trodVars_four hs
    exact ⟨d, d0, d1, d2, d3, rfl⟩
/-- a world for the witness: the tables in their places -/
noncomputable def laidWorld6 (os : Os) : World :=
  { laidWorld3 os with heap := (laidWorld3 os).heap.modify 2 fun
      | .cells _ t frozen => .cells #[.string ⟨#[115, 111, 117, 114, 99, 101]⟩, .string ⟨#[100, 101, 115, 116]⟩, .string ⟨#[112, 111, 114, 116]⟩, .string ⟨#[109, 97, 114, 107]⟩] t frozen
      | o => o }
theorem eq_same (x : Flt) (w : World) :
    Calls Tryd.prog 47 #[fltV x, fltV x] w (SaysB w true) := by
  obtain ⟨xo, xf, xm, xv, xt⟩ := x
  unfold fltV
  simp only
  go_enter Tryd.func47, Tryd.ntmps47
  go_wp2
  go_ret
  exact ⟨rfl, two_new _ _ _⟩
set_option maxHeartbeats 3200000 in
theorem walk (s : ByteArray) (w0 : s.size ≤ maxLen) (w : World) (hT : Tabs w) (hF : Fwt w) :
    Calls Tryd.prog 6 #[.string s] w fun e w' => e = .returned (.bool true) ∧ Below w.heap.size w w' := by
  have HT := Lib.hid hT
  clear hT
  have HF := Lib.hid hF
  clear hF
  unfold maxLen at w0
  by_cases h : (1048576 : Int) < s.size
  · have d := is_lt h
    go_enter Tryd.func6, Tryd.ntmps6
    go_wp2
    go_ret
    exact ⟨rfl, Below.refl _ _⟩
  have d := not_lt (Int.not_lt.1 h)
  have hs : s.size ≤ 1048576 := by omega
  have HSP := Lib.hid (fun w => specParseFilter_any s w hs)
  have HIM := Lib.hid (fun w HT HF => implParseFilter_any s w HT HF)
  generalize resParseFilter s = A at HSP HIM
  obtain ⟨x, ⟨fk, fa⟩, ok⟩ := A
  have HEQ := Lib.hid (eq_same x)
  unfold fltV at HSP HIM HEQ
  unfold faV at HSP HIM
  simp only at HSP HIM HEQ
  clear h
  go_enter Tryd.func6, Tryd.ntmps6
  go_wp2_with (go_at_call 45; refine (HSP.out _).mono ?_; rintro e w1 ⟨rfl, b⟩; have B1 := Lib.hid b; clear b)
  obtain ⟨Wa, hWa⟩ : ∃ Wa, (w1.alloc (.cells #[.int .i64 x.o, .int .i64 x.f, .int .i64 x.m, .int .i64 x.v, .int .i64 x.t] 77)).alloc (.cells #[.int .i64 fk, .int .i64 fa] 26) = Wa := ⟨_, rfl⟩
  rw [hWa]
  have ba : Below w1.heap.size w1 Wa := by rw [← hWa]; exact two_new _ _ _
  have A1 : Hid (BoxAt Wa w1.heap.size #[.int .i64 x.o, .int .i64 x.f, .int .i64 x.m, .int .i64 x.v, .int .i64 x.t] 77) := Lib.hid (by rw [← hWa]; exact (BoxAt.new w1 _ _).below (one_new2 _ _))
  have A2 : Hid (BoxAt Wa (w1.heap.size + 1) #[.int .i64 fk, .int .i64 fa] 26) := Lib.hid (by rw [← hWa]; have q := BoxAt.new (w1.alloc (.cells #[.int .i64 x.o, .int .i64 x.f, .int .i64 x.m, .int .i64 x.v, .int .i64 x.t] 77)) #[.int .i64 fk, .int .i64 fa] 26; rw [show (w1.alloc (.cells #[.int .i64 x.o, .int .i64 x.f, .int .i64 x.m, .int .i64 x.v, .int .i64 x.t] 77)).heap.size = w1.heap.size + 1 by simp] at q; exact q)
  have BA := Lib.hid (B1.out.trans (ba.mono B1.out.size))
  have TA := Lib.hid (HT.out.below BA.out)
  have FA := Lib.hid (HF.out.below BA.out HF.out.lt)
  clear hWa ba
  go_wp2_with (go_at_call 46; refine (HIM.out _ TA FA).mono ?_; rintro e w2 ⟨rfl, b⟩; have B2 := Lib.hid b; have D1 := Lib.hid ((A1.out.below b).below (two_new w2 (.cells #[.int .i64 x.o, .int .i64 x.f, .int .i64 x.m, .int .i64 x.v, .int .i64 x.t] 77) (.cells #[.int .i64 fk, .int .i64 fa] 26))); have D2 := Lib.hid ((A2.out.below b).below (two_new w2 (.cells #[.int .i64 x.o, .int .i64 x.f, .int .i64 x.m, .int .i64 x.v, .int .i64 x.t] 77) (.cells #[.int .i64 fk, .int .i64 fa] 26))); obtain ⟨b0, b1, b2, b3, b4, bf⟩ := box_fives D1.out; clear b)
  have C2 : Hid (BoxAt ((w2.alloc (.cells #[.int .i64 x.o, .int .i64 x.f, .int .i64 x.m, .int .i64 x.v, .int .i64 x.t] 77)).alloc (.cells #[.int .i64 fk, .int .i64 fa] 26)) (w2.heap.size + 1) #[.int .i64 fk, .int .i64 fa] 26) := Lib.hid (by have q := BoxAt.new (w2.alloc (.cells #[.int .i64 x.o, .int .i64 x.f, .int .i64 x.m, .int .i64 x.v, .int .i64 x.t] 77)) #[.int .i64 fk, .int .i64 fa] 26; rw [show (w2.alloc (.cells #[.int .i64 x.o, .int .i64 x.f, .int .i64 x.m, .int .i64 x.v, .int .i64 x.t] 77)).heap.size = w2.heap.size + 1 by simp] at q; exact q)
  have BB := Lib.hid ((BA.out.trans (B2.out.mono BA.out.size)).trans ((two_new w2 (.cells #[.int .i64 x.o, .int .i64 x.f, .int .i64 x.m, .int .i64 x.v, .int .i64 x.t] 77) (.cells #[.int .i64 fk, .int .i64 fa] 26)).mono (by have := BA.out.size; have := B2.out.size; omega)))
  have s1 : w1.heap.size + 1 + 1 = w1.heap.size + 2 := rfl
  go_wp2_with (first | (go_at_call 47; (with_reducible refine (HEQ.out _).mono ?_); rintro e w3 ⟨rfl, b⟩; have B3 := Lib.hid b; have m0 : w3.cell? ⟨w2.heap.size + 1, 0, none⟩ = some (.int .i64 fk) := (by rw [(C2.out.below b).cell 0]; rfl); have m1 : w3.cell? ⟨w2.heap.size + 1, 1, none⟩ = some (.int .i64 fa) := (by rw [(C2.out.below b).cell 1]; rfl); have n0 : w3.cell? ⟨w1.heap.size + 1, 0, none⟩ = some (.int .i64 fk) := (by rw [(D2.out.below b).cell 0]; rfl); have n1 : w3.cell? ⟨w1.heap.size + 1, 1, none⟩ = some (.int .i64 fa) := (by rw [(D2.out.below b).cell 1]; rfl); clear b) | (go_at_call 48; refine (eqFault_same _ _ _).mono ?_; rintro e w4 ⟨rfl, b⟩; have B4 := Lib.hid b; clear b))
  go_ret
  exact ⟨rfl, (BB.out.trans (B3.out.mono BB.out.size)).trans (B4.out.mono (by have := BB.out.size; have := B3.out.size; omega))⟩

theorem contract (H : Type) (enc : TypeId × Value → H) (W : World) (base : Nat) (args : Array Value) (ds gs : List (DataW H)) (before : List MemPlace)
    (hval : ∀ (j : Nat) t v, Tryd.f6.params[j]? = some t → args[j]? = some v → Value.okWide Tryd.prog W .any base t v)
    (hW : DataW.Whole enc Tryd.prog Tryd.f6.params.toList Rows.fnExactParseFilterSpec.vars false W args.toList ds gs before) (hL : laidMetH Tryd.prog Rows.fnExactParseFilterRow.laid W) :
    Calls Tryd.prog 6 args W fun e W' => ∃ v, e = .returned v ∧ Rows.fnExactParseFilterSpec.post enc Tryd.prog Tryd.f6 false true false false W args v W' := by
  have hW' := hW
  obtain ⟨p, q, hA0, hV, rfl, hfz, hnd⟩ := hW
  have hA : DataW.TrodAll enc Tryd.prog W 0 (fun _ => true) true Tryd.f6.params.toList args.toList ds p := hA0
  rw [Tryd.params6] at hA hval
  obtain ⟨v0, vs0, d0, ds0, p0, q0, hargs, rfl, rfl, h0, r0⟩ := trodAll_cons hA
  obtain ⟨rfl, rfl, rfl⟩ := trodAll_nil r0
  obtain rfl : args = #[v0] := by cases args; simp_all
  have k0 := h0
  have lt0 : ∀ x ∈ p0, x.block < W.heap.size := by obtain ⟨m, hm⟩ := k0; exact DataW.trod_lt m _ _ _ hm
  obtain ⟨s0, hs0, _, _, w0⟩ := open_string Tryd.underlying9 (hval 0 9 v0 rfl rfl) h0
  subst hs0
  have hV2 := hV
  obtain ⟨dV0, dV1, dV2, dV3, dV4, rfl⟩ := trodVars_five hV
  clear hA0
  refine (walk s0 w0 W ⟨(dig_of_head hL), (units_of_head (laidMet.tail hL)), (kwt_of_head (laidMet.tail (laidMet.tail hL))), (sgt_of_head (laidMet.tail (laidMet.tail (laidMet.tail hL))))⟩ (fwt_of_head (laidMet.tail (laidMet.tail (laidMet.tail (laidMet.tail hL)))))).mono fun e W' ⟨he, bel⟩ => ?_
  subst he
  exact ⟨_, rfl, _, _, _, [], _, _, hW', trodAll_mk1 (shut_bool Tryd.underlying4 _), (trodAll_cons_mk (Below.trod laidOut (by kernel_rfl) (of_decide_eq_true (by kernel_rfl)) k0 bel lt0) trodAll_mk0), Below.trodVars laidOut bel (by kernel_rfl) hV2, bel.frame _, fun h => by cases h⟩

theorem laid_met (os : Os) : laidMet Tryd.prog Rows.fnExactParseFilterRow.laid ((laidWorld6 os).forCall (fun _ _ => 0) ⟨#[], #[.string ByteArray.empty], []⟩).memory :=
  laidMet_of_run' 8 (by kernel_rfl) (by kernel_rfl)
theorem reads (os : Os) {H : Type} (enc : TypeId × Value → H) : ∃ places, DataW.whole enc Tryd.prog ((laidWorld6 os).forCall (fun _ _ => 0) ⟨#[], #[.string ByteArray.empty], []⟩).memory Tryd.f6.params.toList Rows.fnExactParseFilterSpec.vars false (#[.string ByteArray.empty] : Array Value).toList 8 = some ([.lit (.string [])], [Rows.laid_loop_example_g00838_impl_signs, Rows.laid_loop_example_g00838_impl_digits, Rows.laid_loop_example_g00838_impl_units, Rows.laid_loop_example_g00838_impl_keyWords, Rows.laid_loop_example_g00838_impl_fieldWords], places) :=
  ⟨[.cell 0 0, .cell 0 1, .cell 0 2, .cell 0 3, .cell 0 4, .cell 0 5, .cell 3 0, .cell 3 1, .cell 4 0, .cell 4 1, .cell 4 2, .cell 4 3, .cell 1 0, .cell 1 1, .cell 1 2, .cell 1 3, .cell 1 4, .cell 1 5, .cell 1 6, .cell 1 7, .cell 1 8, .cell 1 9, .cell 1 10, .cell 1 11, .cell 1 12, .cell 1 13, .cell 2 0, .cell 2 1, .cell 2 2, .cell 2 3], by kernel_rfl⟩

set_option maxRecDepth 100000 in
theorem lifted (os : Os) (started : os.Started) (H : Type) (enc : TypeId × Value → H) (F : Stop.Interp) :
    ReturnsInHanded {} Tryd.checked os 6 .any ((OpenSpec.ofChange Rows.fnExactParseFilterSpec).preRow enc Tryd.prog Tryd.f6 Rows.fnExactParseFilterRow.domain false Rows.fnExactParseFilterRow.laid) (((OpenSpec.ofChange Rows.fnExactParseFilterSpec).at F).post enc Tryd.prog Tryd.f6 false true false false) := by
  obtain ⟨places, hx⟩ := reads os enc
  refine returnsInHanded_of_row (C := Tryd.checked) (s := OpenSpec.ofChange Rows.fnExactParseFilterSpec) own started (by kernel_rfl) Tryd.func6
    (witness_row_at (enc := enc) (C := Tryd.checked) false (laidWorld6 os) #[.string ByteArray.empty] rfl (by kernel_rfl) (by kernel_rfl) (by kernel_rfl)
      (OpenSpec.preRow_of_cond 8 hx (by kernel_rfl) (fun k hk => by cases hk) (by kernel_rfl) (laid_met os))) ?_
  intro W base args ds gs before hval hW _ _ _ hL _ _
  exact contract H enc W base args ds gs before hval hW hL

theorem said : Rows.FnExactParseFilterSaid :=
  OpenClaim.holds_of_cond 6 Tryd.f6 rfl rfl rfl rfl rfl rfl rfl ⟨rfl, rfl, rfl, rfl, rfl⟩ rfl rfl rfl rfl rfl (by kernel_rfl) Tryd.func6 (by kernel_rfl)
    (of_decide_eq_true (by kernel_rfl)) (by unfold Func.isWrapper; first | (rw [if_pos (by decide +kernel)]; kernel_rfl) | (rw [if_neg (by decide +kernel)]; exact ⟨rfl, rfl⟩))
    (fun os started H enc _ F => by rw [OpenClaim.pre_eq_preRow]; exact lifted os started H enc F)

theorem plain (f : FuncId) (fn : Func) (hf : Tryd.pinned.checked.prog.funcNamed "loop.example/g00838/laws.FnExactParseFilter" = some f) (hfn : Tryd.pinned.checked.prog.funcs[f]? = some fn) :
    true = Tryd.pinned.checked.prog.looks [] ∧ ∀ (j : Nat) t, fn.params[j]? = some t → Tryd.pinned.checked.prog.wantsStandIn t = false := by
  obtain rfl : f = 6 := Option.some.inj ((show Tryd.prog.funcNamed "loop.example/g00838/laws.FnExactParseFilter" = some 6 by kernel_rfl).symm.trans hf) |>.symm
  obtain rfl : fn = Tryd.f6 := (Option.some.inj (Tryd.func6.symm.trans hfn)).symm
  refine ⟨by kernel_rfl, fun j t ht => ?_⟩
  rw [Tryd.params6] at ht
  have hm : t ∈ [9] := by simpa using Array.mem_of_getElem? ht
  have hall : ([9].all fun u => !Tryd.prog.wantsStandIn u) = true := by kernel_rfl
  exact (show Tryd.prog.wantsStandIn t = false by simpa using List.all_eq_true.1 hall t hm)

theorem proved : Rows.FnExactParseFilterCardSaid :=
  Claim7.holds_tied_plain_at .later [] _ _ _ _ said (fun _ h => by cases h) (by kernel_rfl) (fun _ h => by cases h) fnExactParseFilter_row_tie rfl ⟨rfl, rfl⟩ (by kernel_rfl) rfl plain (by kernel_rfl)
end Go.Proofs.YthpejbdbbofaaaaDoor.fnExactParseFilter
