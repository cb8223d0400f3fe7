/- For every string, impl.ParseBytes answers as its model does and its answer owns its memory: the law FnExactParseBytes returns true. The table of digits starts as the program's text lays it (the card ties it). No other condition. -/
import Derived.Test.YtdpkamhjpbalhaaDoorCards
import Derived.Test.YtdpkamhjpbalhaaDoorTie
import Derived.Test.YtdpkamhjpbalhaaDoorParT
import Derived.ProofKit
import Derived.OpenShut
import Derived.ShutString
import Derived.ChangeOld
import Derived.ChangeVars
import Derived.Deep.DeepHandedRow
namespace Go.Proofs.YtdpkamhjpbalhaaDoor.fnExactParseBytes
open Go.ChangeShapes Go.WideShapes Go.ChangeAt Go.RowKit
open Go.ChangeMaps (open_string shut_string)
set_option linter.unusedVariables false

set_option maxHeartbeats 1600000 in
theorem walk_none (a0 : ByteArray) (w : World) (HD : Hid (Dig w)) (hs : (a0.size : Int) ≤ 1048576)
    (HI : Hid (∀ w, Hid (Dig w) → Calls Tryd.prog 10 #[.string a0] w (GivesNoneB w))) (HS : Hid (∀ w, Calls Tryd.prog 11 #[.string a0] w (GivesNoneB w))) :
    Calls Tryd.prog 8 #[.string a0] w fun e w' => e = .returned (.bool true) ∧ Below w.heap.size w w' := by
  have d := not_lt hs
  go_enter Tryd.func8, Tryd.ntmps8
  go_wp2_with (go_at_call 11; refine (HS.out _).mono ?_; rintro e v1 ⟨rfl, b⟩; have T1 := Lib.hid b; clear b)
  go_wp2_with (go_at_call 10; refine (HI.out _ (Lib.hid (HD.out.below T1.out))).mono ?_; rintro e v2 ⟨rfl, b⟩; have T2 := Lib.hid (T1.out.trans (b.mono T1.out.size)); clear b)
  go_wp2_with (go_at_call 34; refine (eqByteS_none _ _ _ _ _).mono ?_; rintro e v3 ⟨rfl, q⟩; have T3 := Lib.hid (T2.out.trans (q.below _)); clear q)
  go_wp2_with (first | (go_at_call 35; refine (markByteS_none _ _ _).mono ?_; rintro e w' ⟨rfl, rfl⟩) | (go_at_call 36; refine (heldByteS_none _ _ _).mono ?_; rintro e w' ⟨rfl, rfl⟩))
  go_wp2_with (go_at_call 10; refine (HI.out _ (Lib.hid (HD.out.below T3.out))).mono ?_; rintro e v4 ⟨rfl, b⟩; have T4 := Lib.hid (T3.out.trans (b.mono T3.out.size)); clear b)
  go_wp2_with (go_at_call 34; refine (eqByteS_none _ _ _ _ _).mono ?_; rintro e v5 ⟨rfl, q⟩; have T5 := Lib.hid (T4.out.trans (q.below _)); clear q)
  go_wp2_with (go_at_call 36; refine (heldByteS_none _ _ _).mono ?_; rintro e w' ⟨rfl, rfl⟩)
  go_ret
  exact ⟨rfl, T5.out⟩

set_option maxHeartbeats 1600000 in
theorem walk_empty (a0 : ByteArray) (zs : List Int) (w : World) (HD : Hid (Dig w)) (hs : (a0.size : Int) ≤ 1048576)
    (HI : Hid (∀ w, Hid (Dig w) → Calls Tryd.prog 10 #[.string a0] w (Gives w 0 zs))) (HS : Hid (∀ w, Calls Tryd.prog 11 #[.string a0] w (SpGives w 0 zs))) :
    Calls Tryd.prog 8 #[.string a0] w fun e w' => e = .returned (.bool true) ∧ Below w.heap.size w w' := by
  have d := not_lt hs
  have HS2 : Hid (∀ w, Calls Tryd.prog 11 #[.string a0] w fun e w' => (∃ a c, e = .returned (.tuple #[.slice a 0 c, .bool true])) ∧ Below w.heap.size w w') := fun w => (HS.out w).mono fun e w' ⟨v, he, ho, hb⟩ => by
    refine ⟨?_, hb⟩
    rcases ho.2 with ⟨rfl, _⟩ | ⟨g, cap, cur, rfl, _⟩
    · exact ⟨_, _, he⟩
    · exact ⟨_, _, he⟩
  go_enter Tryd.func8, Tryd.ntmps8
  go_wp2_with (go_at_call 11; refine (HS2.out _).mono ?_; rintro e v1 ⟨⟨sa, sc, rfl⟩, b⟩; have T1 := Lib.hid b; clear b)
  go_wp2_with (go_at_call 10; refine (HI.out _ (Lib.hid (HD.out.below T1.out))).mono ?_; rintro e v2 ⟨gi, ci, rfl, o, b⟩; have T2 := Lib.hid (T1.out.trans (b.mono T1.out.size)); clear o b)
  go_wp2_with (go_at_call 34; refine (eqByteS_none _ _ _ _ _).mono ?_; rintro e v3 ⟨rfl, q⟩; have T3 := Lib.hid (T2.out.trans (q.below _)); clear q)
  go_wp2_with (first | (go_at_call 35; refine (markByteS_none _ _ _).mono ?_; rintro e w' ⟨rfl, rfl⟩) | (go_at_call 36; refine (heldByteS_none _ _ _).mono ?_; rintro e w' ⟨rfl, rfl⟩))
  go_wp2_with (go_at_call 10; refine (HI.out _ (Lib.hid (HD.out.below T3.out))).mono ?_; rintro e v4 ⟨gh, ch, rfl, o, b⟩; have T4 := Lib.hid (T3.out.trans (b.mono T3.out.size)); clear o b)
  go_wp2_with (go_at_call 34; refine (eqByteS_none _ _ _ _ _).mono ?_; rintro e v5 ⟨rfl, q⟩; have T5 := Lib.hid (T4.out.trans (q.below _)); clear q)
  go_wp2_with (go_at_call 36; refine (heldByteS_none _ _ _).mono ?_; rintro e w' ⟨rfl, rfl⟩)
  go_ret
  exact ⟨rfl, T5.out⟩

set_option maxHeartbeats 1600000 in
theorem walk_some (a0 : ByteArray) (n : Nat) (zs : List Int) (w : World) (HD : Hid (Dig w)) (hs : (a0.size : Int) ≤ 1048576) (hn : 0 < n) (hn4 : n ≤ 4000) (HR : Hid (∀ c ∈ zs, 0 ≤ c ∧ c ≤ 255))
    (HI : Hid (∀ w, Hid (Dig w) → Calls Tryd.prog 10 #[.string a0] w (Gives w n zs))) (HS : Hid (∀ w, Calls Tryd.prog 11 #[.string a0] w (SpGives w n zs))) :
    Calls Tryd.prog 8 #[.string a0] w fun e w' => e = .returned (.bool true) ∧ Below w.heap.size w w' := by
  have d := not_lt hs
  have hm : n ≤ 1048576 := by omega
  have HS2 : Hid (∀ w, Calls Tryd.prog 11 #[.string a0] w (Gives w n zs)) := fun w => (HS.out w).mono fun e w' ⟨v, he, ho, hb⟩ => by
    obtain ⟨g, cap, rfl, hob⟩ := OwnV.some ho hn
    exact ⟨g, cap, he, hob, hb⟩
  go_enter Tryd.func8, Tryd.ntmps8
  go_wp2_with (go_at_call 11; refine (HS2.out _).mono ?_; rintro e v1 ⟨gs, cs, rfl, o, b⟩; have S1 := Lib.hid o; have T1 := Lib.hid b; clear o b)
  have HL : Hid (zs.length = n) := Lib.hid S1.out.len
  go_wp2_with (go_at_call 10; refine (HI.out _ (Lib.hid (HD.out.below T1.out))).mono ?_; rintro e v2 ⟨gi, ci, rfl, o, b⟩; have G2 := Lib.hid o; have S2 := Lib.hid (S1.out.below b S1.out.lt.2); have T2 := Lib.hid (T1.out.trans (b.mono T1.out.size)); clear o b)
  have hne : gs ≠ gi := by have := S1.out.lt; have := G2.out.lt; omega
  have hwg : w.heap.size ≤ gi := by have := T1.out.size; have := G2.out.lt; omega
  go_wp2_with (go_at_call 34; refine (eqByteS_same _ _ _ _ _ _ _ _ _ HL (Lib.hid (G2.out.row HR.out)) (Lib.hid (S2.out.row HR.out)) hm).mono ?_; rintro e v3 ⟨rfl, q⟩; have G3 := Lib.hid (G2.out.below (q.below v2.heap.size) G2.out.lt.2); have S3 := Lib.hid (S2.out.below (q.below v2.heap.size) S2.out.lt.2); have T3 := Lib.hid (T2.out.trans (q.below _)); clear q)
  go_wp2_with (go_at_call 35; refine (markByteS_own _ _ _ _ _ (Lib.hid G3.out.self) hm).mono ?_; rintro e v4 ⟨rfl, o, b⟩; have M4 := Lib.hid o; have S4 := Lib.hid (S3.out.other b hne); have T4 := Lib.hid (T3.out.trans (b.1.mono hwg)); clear o b)
  go_wp2_with (go_at_call 36; refine (heldByteS_own _ _ _ _ _ M4 hm).mono ?_; rintro e w' ⟨rfl, rfl⟩)
  go_wp2_with (go_at_call 10; refine (HI.out _ (Lib.hid (HD.out.below T4.out))).mono ?_; rintro e v5 ⟨gh, ch, rfl, o, b⟩; have H5 := Lib.hid o; have M5 := Lib.hid (M4.out.below b M4.out.lt.2); have S5 := Lib.hid (S4.out.below b S4.out.lt.2); have T5 := Lib.hid (T4.out.trans (b.mono T4.out.size)); clear o b)
  go_wp2_with (go_at_call 34; refine (eqByteS_same _ _ _ _ _ _ _ _ _ HL (Lib.hid (H5.out.row HR.out)) (Lib.hid (S5.out.row HR.out)) hm).mono ?_; rintro e v6 ⟨rfl, q⟩; have M6 := Lib.hid (M5.out.below (q.below v5.heap.size) M5.out.lt.2); have T6 := Lib.hid (T5.out.trans (q.below _)); clear q)
  go_wp2_with (go_at_call 36; refine (heldByteS_own _ _ _ _ _ M6 hm).mono ?_; rintro e w' ⟨rfl, rfl⟩)
  go_ret
  exact ⟨rfl, T6.out⟩

theorem walk (a0 : ByteArray) (w0 : a0.size ≤ maxLen) (w : World) (hD : Dig w) :
    Calls Tryd.prog 8 #[.string a0] w fun e w' => e = .returned (.bool true) ∧ Below w.heap.size w w' := by
  unfold maxLen at w0
  by_cases h : (1048576 : Int) < a0.size
  · have d := is_lt h
    go_enter Tryd.func8, Tryd.ntmps8
    go_wp2
    go_ret
    exact ⟨rfl, Below.refl _ _⟩
  · rcases parseBytes_both a0 (by omega) with ⟨HI, HS⟩ | ⟨n, zs, hn4, HR, HI, HS⟩
    · exact walk_none a0 w hD (by omega) HI HS
    · rcases Nat.eq_zero_or_pos n with rfl | hn
      · exact walk_empty a0 zs w hD (by omega) HI HS
      · exact walk_some a0 n zs w hD (by omega) hn hn4 HR HI HS

theorem contract (H : Type) (enc : TypeId × Value → H) (W : World) (base : Nat) (args : Array Value) (ds gs : List (DataW H)) (before : List MemPlace)
    (hval : ∀ (j : Nat) t v, Tryd.f8.params[j]? = some t → args[j]? = some v → Value.okWide Tryd.prog W .any base t v)
    (hW : DataW.Whole enc Tryd.prog Tryd.f8.params.toList Rows.fnExactParseBytesSpec.vars false W args.toList ds gs before) (hL : laidMetH Tryd.prog Rows.fnExactParseBytesRow.laid W) :
    Calls Tryd.prog 8 args W fun e W' => ∃ v, e = .returned v ∧ Rows.fnExactParseBytesSpec.post enc Tryd.prog Tryd.f8 false true false false W args v W' := by
  have hW' := hW
  obtain ⟨p, q, hA0, hV, rfl, hfz, hnd⟩ := hW
  have hA : DataW.TrodAll enc Tryd.prog W 0 (fun _ => true) true Tryd.f8.params.toList args.toList ds p := hA0
  rw [Tryd.params8] at hA hval
  obtain ⟨v0, vs0, d0, ds0, p0, q0, hargs, rfl, rfl, h0, r0⟩ := trodAll_cons hA
  obtain ⟨rfl, rfl, rfl⟩ := trodAll_nil r0
  obtain rfl : args = #[v0] := by cases args; simp_all
  have hV2 := hV
  obtain ⟨gV, tV, cV, fV, dV, pV, rfl, _, _, _, _, rfl⟩ := trodVars_one hV
  obtain ⟨a0, rfl, rfl, rfl, w0⟩ := open_string Tryd.underlying9 (hval 0 9 v0 rfl rfl) h0
  clear hA0
  refine (walk a0 w0 W (dig_of_laid hL)).mono fun e W' ⟨he, bel⟩ => ?_
  subst he
  exact ⟨_, rfl, _, _, _, [], _, _, hW', trodAll_mk1 (shut_bool Tryd.underlying4 _), (trodAll_cons_mk (shut_string Tryd.underlying9 w0) trodAll_mk0), Below.trodVars laidOut bel (by kernel_rfl) hV2, bel.frame _, fun h => by cases h⟩

theorem laid_met (os : Os) : laidMet Tryd.prog Rows.fnExactParseBytesRow.laid ((laidWorld os).forCall (fun _ _ => 0) ⟨#[], #[.string ByteArray.empty], []⟩).memory :=
  laidMet_of_run' 8 (by kernel_rfl) (by kernel_rfl)
theorem reads (os : Os) {H : Type} (enc : TypeId × Value → H) : ∃ places, DataW.whole enc Tryd.prog ((laidWorld os).forCall (fun _ _ => 0) ⟨#[], #[.string ByteArray.empty], []⟩).memory Tryd.f8.params.toList Rows.fnExactParseBytesSpec.vars false (#[.string ByteArray.empty] : Array Value).toList 8 = some ([.lit (.string [])], [Rows.laid_loop_example_g00838_impl_digits], places) :=
  ⟨[.cell 0 0, .cell 0 1], by kernel_rfl⟩

set_option maxRecDepth 100000 in
theorem lifted (os : Os) (started : os.Started) (H : Type) (enc : TypeId × Value → H) (F : Stop.Interp) :
    ReturnsInHanded {} Tryd.checked os 8 .any ((OpenSpec.ofChange Rows.fnExactParseBytesSpec).preRow enc Tryd.prog Tryd.f8 Rows.fnExactParseBytesRow.domain false Rows.fnExactParseBytesRow.laid) (((OpenSpec.ofChange Rows.fnExactParseBytesSpec).at F).post enc Tryd.prog Tryd.f8 false true false false) := by
  obtain ⟨places, hx⟩ := reads os enc
  refine returnsInHanded_of_row (C := Tryd.checked) (s := OpenSpec.ofChange Rows.fnExactParseBytesSpec) own started (by kernel_rfl) Tryd.func8
    (witness_row_at (enc := enc) (C := Tryd.checked) false (laidWorld os) #[.string ByteArray.empty] rfl (by kernel_rfl) (by kernel_rfl) (by kernel_rfl)
      (OpenSpec.preRow_of_cond 8 hx (by kernel_rfl) (fun k hk => by cases hk) (by kernel_rfl) (laid_met os))) ?_
  intro W base args ds gs before hval hW _ _ _ hL _ _
  exact contract H enc W base args ds gs before hval hW hL

theorem said : Rows.FnExactParseBytesSaid :=
  OpenClaim.holds_of_cond 8 Tryd.f8 rfl rfl rfl rfl rfl rfl rfl ⟨rfl, rfl, rfl, rfl, rfl⟩ rfl rfl rfl rfl rfl (by kernel_rfl) Tryd.func8 (by kernel_rfl)
    (of_decide_eq_true (by kernel_rfl)) (by unfold Func.isWrapper; first | (rw [if_pos (by decide +kernel)]; kernel_rfl) | (rw [if_neg (by decide +kernel)]; exact ⟨rfl, rfl⟩))
    (fun os started H enc _ F => by rw [OpenClaim.pre_eq_preRow]; exact lifted os started H enc F)

theorem plain (f : FuncId) (fn : Func) (hf : Tryd.pinned.checked.prog.funcNamed "loop.example/g00838/laws.FnExactParseBytes" = some f) (hfn : Tryd.pinned.checked.prog.funcs[f]? = some fn) :
    false = Tryd.pinned.checked.prog.looks [] ∧ ∀ (j : Nat) t, fn.params[j]? = some t → Tryd.pinned.checked.prog.wantsStandIn t = false := by
  obtain rfl : f = 8 := Option.some.inj ((show Tryd.prog.funcNamed "loop.example/g00838/laws.FnExactParseBytes" = some 8 by kernel_rfl).symm.trans hf) |>.symm
  obtain rfl : fn = Tryd.f8 := (Option.some.inj (Tryd.func8.symm.trans hfn)).symm
  refine ⟨by kernel_rfl, fun j t ht => ?_⟩
  rw [Tryd.params8] at ht
  have hm : t ∈ [9] := by simpa using Array.mem_of_getElem? ht
  have hall : ([9].all fun u => !Tryd.prog.wantsStandIn u) = true := by kernel_rfl
  exact (show Tryd.prog.wantsStandIn t = false by simpa using List.all_eq_true.1 hall t hm)

theorem proved : Rows.FnExactParseBytesCardSaid :=
  Claim7.holds_tied_plain_at .later [] _ _ _ _ said (fun _ h => by cases h) (by kernel_rfl) (fun _ h => by cases h) fnExactParseBytes_row_tie rfl ⟨rfl, rfl⟩ (by kernel_rfl) rfl plain (by kernel_rfl)
end Go.Proofs.YtdpkamhjpbalhaaDoor.fnExactParseBytes
