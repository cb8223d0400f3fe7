/- For every integer, impl.FormsOf answers as its model does and its answer owns its memory: the law FnExactFormsOf returns true. The table of units and the library's table of powers of ten start as the texts lay them (the card ties it). No other condition. -/
import Derived.Test.YtniggnjnpapkeaaDoorCards
import Derived.Test.YtniggnjnpapkeaaDoorTie
import Derived.Test.YtniggnjnpapkeaaDoorNt2
import Derived.Test.YtniggnjnpapkeaaDoorSbm
import Derived.ProofKit
import Derived.OpenShut
import Derived.ShutString
import Derived.ChangeOld
import Derived.ChangeVars
import Derived.Deep.DeepHandedRow
namespace Go.Proofs.YtniggnjnpapkeaaDoor.fnExactFormsOf
set_option maxRecDepth 100000
open Go.ChangeShapes Go.WideShapes Go.ChangeAt Go.RowKit
open Go.ChangeMaps (open_string shut_string)
set_option linter.unusedVariables false

def Gives (w : World) (n : Nat) (l : List ByteArray) (e : Ending) (w' : World) : Prop := ∃ g cap, e = .returned (.tuple #[.slice (some ⟨g, 0, none⟩) n cap, .bool true]) ∧ OwnS w' w.heap.size g n cap l ∧ Below w.heap.size w w'
set_option maxHeartbeats 1600000 in
theorem walk_some (a0 : Int) (n : Nat) (l : List ByteArray) (w : World) (HP : Hid (Pow w)) (HU : Hid (Units w)) (hn : 0 < n) (hm : n ≤ 8)
    (HI : Hid (∀ w, Hid (Units w) → Hid (Pow w) → Calls Tryd.prog 18 #[.int .i64 a0] w (Gives w n l))) (HS : Hid (∀ w, Calls Tryd.prog 17 #[.int .i64 a0] w (Gives w n l))) :
    Calls Tryd.prog 7 #[.int .i64 a0] w fun e w' => e = .returned (.bool true) ∧ Below w.heap.size w w' := by
  have hm2 : n ≤ 1048576 := by omega
  go_enter Tryd.func7, Tryd.ntmps7
  go_wp2_with (go_at_call 17; refine (HS.out _).mono ?_; rintro e v1 ⟨gs, cs, rfl, o, b⟩; have S1 := Lib.hid o; have T1 := Lib.hid b; clear o b)
  go_wp2_with (go_at_call 18; refine (HI.out _ (Lib.hid (HU.out.below T1.out)) (Lib.hid (HP.out.below T1.out))).mono ?_; rintro e v2 ⟨gi, ci, rfl, o, b⟩; have G2 := Lib.hid o; have S2 := Lib.hid (S1.out.below b S1.out.lt.2); have T2 := Lib.hid (T1.out.trans (b.mono T1.out.size)); clear o b)
  have hne : gs ≠ gi := by have := S1.out.lt; have := G2.out.lt; omega
  have hwg : w.heap.size ≤ gi := by have := T1.out.size; have := G2.out.lt; omega
  go_wp2_with (go_at_call 19; refine (eqStringS_same _ _ _ _ _ l _ (Lib.hid (fun k hk => G2.out.cell k hk)) (Lib.hid (fun k hk => S2.out.cell k hk)) hm2).mono ?_; rintro e v3 ⟨rfl, q⟩; have G3 := Lib.hid (G2.out.below (q.below v2.heap.size) G2.out.lt.2); have S3 := Lib.hid (S2.out.below (q.below v2.heap.size) S2.out.lt.2); have T3 := Lib.hid (T2.out.trans (q.below _)); clear q)
  go_wp2_with (go_at_call 20; refine (markStringS_own _ _ _ _ _ (Lib.hid G3.out.self) hm).mono ?_; rintro e v4 ⟨rfl, o, b⟩; have M4 := Lib.hid o; have S4 := Lib.hid (S3.out.only b hne); have T4 := Lib.hid (T3.out.trans (b.1.mono hwg)); clear o b)
  go_wp2_with (go_at_call 21; refine (heldStringS_own _ _ _ _ _ M4 hm).mono ?_; rintro e v5 ⟨rfl, b⟩; have M5 := Lib.hid (M4.out.below b M4.out.lt.2); have S5 := Lib.hid (S4.out.below b S4.out.lt.2); have T5 := Lib.hid (T4.out.trans (b.mono T4.out.size)); clear b)
  go_wp2_with (go_at_call 18; refine (HI.out _ (Lib.hid (HU.out.below T5.out)) (Lib.hid (HP.out.below T5.out))).mono ?_; rintro e v6 ⟨gh, ch, rfl, o, b⟩; have H6 := Lib.hid o; have M6 := Lib.hid (M5.out.below b M5.out.lt.2); have S6 := Lib.hid (S5.out.below b S5.out.lt.2); have T6 := Lib.hid (T5.out.trans (b.mono T5.out.size)); clear o b)
  go_wp2_with (go_at_call 19; refine (eqStringS_same _ _ _ _ _ l _ (Lib.hid (fun k hk => H6.out.cell k hk)) (Lib.hid (fun k hk => S6.out.cell k hk)) hm2).mono ?_; rintro e v7 ⟨rfl, q⟩; have M7 := Lib.hid (M6.out.below (q.below v6.heap.size) M6.out.lt.2); have T7 := Lib.hid (T6.out.trans (q.below _)); clear q)
  go_wp2_with (go_at_call 21; refine (heldStringS_own _ _ _ _ _ M7 hm).mono ?_; rintro e v8 ⟨rfl, b⟩; have T8 := Lib.hid (T7.out.trans (b.mono T7.out.size)); clear b)
  go_ret
  exact ⟨rfl, T8.out⟩
set_option maxHeartbeats 1600000 in
theorem walk_none (a0 : Int) (w : World) (h : Hid (a0 < 0 ∨ 1000000000 < a0)) :
    Calls Tryd.prog 7 #[.int .i64 a0] w fun e w' => e = .returned (.bool true) ∧ Below w.heap.size w w' := by
  have HI := Lib.hid (fun w => implForms_no a0 h w)
  have HS := Lib.hid (fun w => specForms_no a0 h w)
  have T0 := Lib.hid (Below.refl w.heap.size w)
  go_enter Tryd.func7, Tryd.ntmps7
  go_wp2_with (first | (go_at_call 17; refine (HS.out _).mono ?_; rintro e w' ⟨rfl, rfl⟩) | (go_at_call 18; refine (HI.out _).mono ?_; rintro e w' ⟨rfl, rfl⟩) | (go_at_call 20; refine (markStringS_none _ _ _).mono ?_; rintro e w' ⟨rfl, rfl⟩) | (go_at_call 21; refine (heldStringS_none _ _ _).mono ?_; rintro e w' ⟨rfl, rfl⟩) | (go_at_call 19; refine (eqStringS_none _ _ _ _ _).mono ?_; rintro e v1 ⟨rfl, q⟩; have T0 := Lib.hid (T0.out.trans (q.below _)); clear q))
  go_ret
  exact ⟨rfl, T0.out⟩

theorem walk (a0 : Int) (w0 : (Lit.int .i64 a0).wf = true) (w : World) (hP : Pow w) (hU : Units w) :
    Calls Tryd.prog 7 #[.int .i64 a0] w fun e w' => e = .returned (.bool true) ∧ Below w.heap.size w w' := by
  by_cases h : 0 ≤ a0 ∧ a0 ≤ 1000000000
  · obtain ⟨m, rfl⟩ := Int.eq_ofNat_of_zero_le h.1
    have conv : ∀ (w w' : World) (e : Ending), (∃ v, e = .returned (.tuple #[v, .bool true]) ∧ OwnZ w' w.heap.size v (formsL m).length (formsL m) ∧ Below w.heap.size w w') → Gives w (formsL m).length (formsL m) e w' := fun w w' e ⟨v, he, ho, hb⟩ => by
      obtain ⟨g, cap, rfl, hs⟩ := ho.some (forms_pos m)
      exact ⟨g, cap, he, hs, hb⟩
    exact walk_some m _ _ w (Lib.hid hP) (Lib.hid hU) (forms_pos m) (forms_le m) (Lib.hid fun w hU hP => (implForms_any m h.2 w hU hP).mono (fun e w' q => conv _ _ _ q)) (Lib.hid fun w => (specForms_any m h.2 w).mono (fun e w' q => conv _ _ _ q))
  · exact walk_none a0 w (Lib.hid (by omega))

theorem contract (H : Type) (enc : TypeId × Value → H) (W : World) (base : Nat) (args : Array Value) (ds gs : List (DataW H)) (before : List MemPlace)
    (hval : ∀ (j : Nat) t v, Tryd.f7.params[j]? = some t → args[j]? = some v → Value.okWide Tryd.prog W .any base t v)
    (hW : DataW.Whole enc Tryd.prog Tryd.f7.params.toList Rows.fnExactFormsOfSpec.vars false W args.toList ds gs before) (hL : laidMetH Tryd.prog Rows.fnExactFormsOfRow.laid W) :
    Calls Tryd.prog 7 args W fun e W' => ∃ v, e = .returned v ∧ Rows.fnExactFormsOfSpec.post enc Tryd.prog Tryd.f7 false true false false W args v W' := by
  have hW' := hW
  obtain ⟨p, q, hA0, hV, rfl, hfz, hnd⟩ := hW
  have hA : DataW.TrodAll enc Tryd.prog W 0 (fun _ => true) true Tryd.f7.params.toList args.toList ds p := hA0
  rw [Tryd.params7] at hA hval
  obtain ⟨v0, vs0, d0, ds0, p0, q0, hargs, rfl, rfl, h0, r0⟩ := trodAll_cons hA
  obtain ⟨rfl, rfl, rfl⟩ := trodAll_nil r0
  obtain rfl : args = #[v0] := by cases args; simp_all
  have hV2 := hV
  obtain ⟨gV, tV, cV, fV, dV, pV, rfl, _, _, _, _, rfl⟩ := trodVars_one hV
  obtain ⟨a0, rfl, rfl, rfl, w0⟩ := open_int Tryd.underlying3 (hval 0 3 v0 rfl rfl) h0
  clear hA0
  refine (walk a0 w0 W (pow10_of_head (laidMet.tail (laidMet.tail hL))) (units_of_head (laidMet.tail (laidMet.tail (laidMet.tail hL))))).mono fun e W' ⟨he, bel⟩ => ?_
  subst he
  exact ⟨_, rfl, _, _, _, [], _, _, hW', trodAll_mk1 (shut_bool Tryd.underlying4 _), (trodAll_cons_mk (shut_int Tryd.underlying3 w0) trodAll_mk0), Below.trodVars laidOut bel (by kernel_rfl) hV2, bel.frame _, fun h => by cases h⟩

theorem laid_met (os : Os) : laidMet Tryd.prog Rows.fnExactFormsOfRow.laid ((laidWorld2 os).forCall (fun _ _ => 0) ⟨#[], #[.int .i64 0], []⟩).memory :=
  laidMet_of_run' 8 (by kernel_rfl) (by kernel_rfl)
theorem reads (os : Os) {H : Type} (enc : TypeId × Value → H) : ∃ places, DataW.whole enc Tryd.prog ((laidWorld2 os).forCall (fun _ _ => 0) ⟨#[], #[.int .i64 0], []⟩).memory Tryd.f7.params.toList Rows.fnExactFormsOfSpec.vars false (#[.int .i64 0] : Array Value).toList 8 = some ([.lit (.int .i64 0)], [Rows.laid_loop_example_g00838_impl_units], places) :=
  ⟨[.cell 0 0, .cell 0 1, .cell 0 2, .cell 0 3], by kernel_rfl⟩

set_option maxRecDepth 100000 in
theorem lifted (os : Os) (started : os.Started) (H : Type) (enc : TypeId × Value → H) (F : Stop.Interp) :
    ReturnsInHanded {} Tryd.checked os 7 .any ((OpenSpec.ofChange Rows.fnExactFormsOfSpec).preRow enc Tryd.prog Tryd.f7 Rows.fnExactFormsOfRow.domain false Rows.fnExactFormsOfRow.laid) (((OpenSpec.ofChange Rows.fnExactFormsOfSpec).at F).post enc Tryd.prog Tryd.f7 false true false false) := by
  obtain ⟨places, hx⟩ := reads os enc
  refine returnsInHanded_of_row (C := Tryd.checked) (s := OpenSpec.ofChange Rows.fnExactFormsOfSpec) own started (by kernel_rfl) Tryd.func7
    (witness_row_at (enc := enc) (C := Tryd.checked) false (laidWorld2 os) #[.int .i64 0] rfl (by kernel_rfl) (by kernel_rfl) (by kernel_rfl)
      (OpenSpec.preRow_of_cond 8 hx (by kernel_rfl) (fun k hk => by cases hk) (by kernel_rfl) (laid_met os))) ?_
  intro W base args ds gs before hval hW _ _ _ hL _ _
  exact contract H enc W base args ds gs before hval hW hL

theorem said : Rows.FnExactFormsOfSaid :=
  OpenClaim.holds_of_cond 7 Tryd.f7 rfl rfl rfl rfl rfl rfl rfl ⟨rfl, rfl, rfl, rfl, rfl⟩ rfl rfl rfl rfl rfl (by kernel_rfl) Tryd.func7 (by kernel_rfl)
    (of_decide_eq_true (by kernel_rfl)) (by unfold Func.isWrapper; first | (rw [if_pos (by decide +kernel)]; kernel_rfl) | (rw [if_neg (by decide +kernel)]; exact ⟨rfl, rfl⟩))
    (fun os started H enc _ F => by rw [OpenClaim.pre_eq_preRow]; exact lifted os started H enc F)

theorem plain (f : FuncId) (fn : Func) (hf : Tryd.pinned.checked.prog.funcNamed "loop.example/g00838/laws.FnExactFormsOf" = some f) (hfn : Tryd.pinned.checked.prog.funcs[f]? = some fn) :
    false = Tryd.pinned.checked.prog.looks [] ∧ ∀ (j : Nat) t, fn.params[j]? = some t → Tryd.pinned.checked.prog.wantsStandIn t = false := by
  obtain rfl : f = 7 := Option.some.inj ((show Tryd.prog.funcNamed "loop.example/g00838/laws.FnExactFormsOf" = some 7 by kernel_rfl).symm.trans hf) |>.symm
  obtain rfl : fn = Tryd.f7 := (Option.some.inj (Tryd.func7.symm.trans hfn)).symm
  refine ⟨by kernel_rfl, fun j t ht => ?_⟩
  rw [Tryd.params7] at ht
  have hm : t ∈ [3] := by simpa using Array.mem_of_getElem? ht
  have hall : ([3].all fun u => !Tryd.prog.wantsStandIn u) = true := by kernel_rfl
  exact (show Tryd.prog.wantsStandIn t = false by simpa using List.all_eq_true.1 hall t hm)

theorem proved : Rows.FnExactFormsOfCardSaid :=
  Claim7.holds_tied_plain_at .later [] _ _ _ _ said (fun _ h => by cases h) (by kernel_rfl) (fun _ h => by cases h) fnExactFormsOf_row_tie rfl ⟨rfl, rfl⟩ (by kernel_rfl) rfl plain (by kernel_rfl)
end Go.Proofs.YtniggnjnpapkeaaDoor.fnExactFormsOf
