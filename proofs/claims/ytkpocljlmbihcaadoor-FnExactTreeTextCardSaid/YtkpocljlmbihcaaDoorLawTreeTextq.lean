/- For every configuration and index, impl.TreeText answers as its model does and writes into no argument: the law FnExactTreeText returns true. The tables start as the texts lay them (the card ties them). No other condition. -/
import Derived.Test.YtkpocljlmbihcaaDoorCards
import Derived.Test.YtkpocljlmbihcaaDoorTie
import Derived.Test.YtkpocljlmbihcaaDoorPkc
import Derived.Test.YtkpocljlmbihcaaDoorPkv
import Derived.Test.YtkpocljlmbihcaaDoorPkw
import Derived.Test.YtkpocljlmbihcaaDoorPki
import Derived.ProofKit
import Derived.OpenShut
import Derived.ShutString
import Derived.ChangeOld
import Derived.ChangeVars
import Derived.Carry
import Derived.Deep.DeepHandedRow
namespace Go.Proofs.YtkpocljlmbihcaaDoor.fnExactTreeText
set_option maxRecDepth 100000
open Go.ChangeShapes Go.WideShapes Go.ChangeAt Go.RowKit
set_option linter.unusedVariables false

theorem own : ownKnob Tryd.prog.godebug = none := by kernel_rfl
theorem laidOut : laidOutB Tryd.prog = true := by kernel_rfl
theorem bx_below {wb w' : World} (h : BX wb w') : Below wb.heap.size wb w' := h
set_option maxHeartbeats 6400000 in
theorem walk (v : Value) (c : Cfg) (w : World) (hT : Kwt w) (hP : Pow w) (hc : ArgCfg w v c) :
    Calls Tryd.prog 5 #[v] w fun e w' => e = .returned (.bool true) ∧ Below w.heap.size w w' := by
  obtain ⟨ac, cc, af, cf, rfl, m0, m1, m2, ic, if_⟩ := hc
  have hc : ArgCfg w (.agg #[.string c.s, .slice ac c.cs.length cc, .slice af c.fs.length cf, .int .i64 c.d]) c := ⟨ac, cc, af, cf, rfl, m0, m1, m2, ic, if_⟩
  have HT := Lib.hid hT
  have HP := Lib.hid hP
  have HZ := Lib.hid (fun w h => szConfig_any _ c w (Lib.hid (show ArgCfg w (.agg #[.string c.s, .slice ac c.cs.length cc, .slice af c.fs.length cf, .int .i64 c.d]) c from h)))
  have HTO := Lib.hid (fun w h HM => toConfig_any _ c w (Lib.hid (show ArgCfg w (.agg #[.string c.s, .slice ac c.cs.length cc, .slice af c.fs.length cf, .int .i64 c.d]) c from h)) HM)
  have HEQ := Lib.hid (fun v v' w h h' HM => eqConfig_any v v' c w h h' HM)
  have HSP := Lib.hid (fun v w h HM => specTreeText_any v c w h HM)
  have HIM := Lib.hid (fun v w hk h HM hP => implTreeText_any v c w hk h HM (Lib.hid (show Pow w from hP)))
  generalize resTreeText1 c = g1 at HSP HIM
  generalize goodC c = g2 at HSP HIM
  have HA := Lib.hid hc
  clear hT hP hc ic if_ m0 m1 m2
  obtain ⟨s, cs, fs, d⟩ := c
  simp only at HZ HTO HA ⊢
  have A0 := Lib.hid (Aft.refl w (Obj.cells #[.string s, .slice ac cs.length cc, .slice af fs.length cf, .int .i64 d] 38))
  go_enter Tryd.func5, Tryd.ntmps5
  go_wp2_with (go_at_call 12; refine (HZ.out _ (HA.out.below A0.out.all.2)).mono ?_; rintro e w1 ⟨r0, rfl, b1, q1⟩; have A1 := Lib.hid (A0.out.on b1); have Q1 := Lib.hid q1; obtain ⟨y0, y1, y2, y3, _⟩ := A1.out.all.1; clear b1 q1; refine Hid.out ?_)
  refine Lib.hid ?_
  by_cases h : r0 < 0
  · have dr := is_lt h
    go_wp2_with fail
    go_ret
    exact ⟨rfl, A1.out.all.2⟩
  · have dr := not_lt (Int.not_lt.1 h)
    have M := Lib.hid (Q1.out (by omega))
    clear h Q1 HZ
    go_wp2_with (go_at_call 14; refine (HTO.out _ (HA.out.below A1.out.all.2) M).mono ?_; rintro e w2 ⟨v2, rfl, s2, b2⟩; obtain ⟨p2, c2, f2, l2, rfl, i2, j2⟩ := s2.cfg; have A2 := Lib.hid (A1.out.on b2); have S2 : Hid (CfgV w2 _ ⟨s, cs, fs, d⟩) := Lib.hid ⟨p2, c2, f2, l2, rfl, i2, j2⟩; clear b2 s2 i2 j2)
    go_wp2_with (go_at_call 13; refine (HSP.out _ _ S2 M).mono ?_; rintro e w3 ⟨rfl, b3⟩; have A3 := Lib.hid (A2.out.on b3); obtain ⟨z0, z1, z2, z3, _⟩ := A3.out.all.1; clear b3; refine Hid.out ?_)
    refine Lib.hid ?_
    go_wp2_with (go_at_call 14; refine (HTO.out _ (HA.out.below A3.out.all.2) M).mono ?_; rintro e w4 ⟨v4, rfl, s4, b4⟩; obtain ⟨p4, c4, f4, l4, rfl, i4, j4⟩ := s4.cfg; have A4 := Lib.hid (A3.out.on b4); have S4 : Hid (CfgV w4 _ ⟨s, cs, fs, d⟩) := Lib.hid ⟨p4, c4, f4, l4, rfl, i4, j4⟩; clear b4 s4 i4 j4)
    go_wp2_with (go_at_call 15; refine (HIM.out _ _ (Lib.hid (HT.out.below (A4.out.alloc _).all.2)) (Lib.hid (S4.out.below (one_new2 _ _))) M (HP.out.below (A4.out.alloc _).all.2)).mono ?_; rintro e w5 ⟨rfl, b5⟩; have A5 := Lib.hid (A4.out.on ((one_new2 _ _).trans (b5.mono (by simp)))); have S5 := Lib.hid (S4.out.below ((one_new2 _ _).trans (b5.mono (by simp)))); have X5 := Lib.hid (box_four b5).1; clear b5; refine Hid.out ?_)
    refine Lib.hid ?_
    clear y0 y1 y2 y3 z0 z1 z2 z3
    have HAB : Hid (∀ w', BX w5 w' → Aft w (Obj.cells #[.string s, .slice ac cs.length cc, .slice af fs.length cf, .int .i64 d] 38) w') := Lib.hid (fun w' h => A5.out.on h)
    have HQ : Hid (∀ w', BX w5 w' → w'.cell? ⟨w.heap.size, 0, none⟩ = some (.string s) ∧ w'.cell? ⟨w.heap.size, 1, none⟩ = some (.slice ac cs.length cc) ∧ w'.cell? ⟨w.heap.size, 2, none⟩ = some (.slice af fs.length cf) ∧ w'.cell? ⟨w.heap.size, 3, none⟩ = some (.int .i64 d) ∧ w'.cell? ⟨w4.heap.size, 0, none⟩ = some (.string s) ∧ w'.cell? ⟨w4.heap.size, 1, none⟩ = some (.slice p4 cs.length c4) ∧ w'.cell? ⟨w4.heap.size, 2, none⟩ = some (.slice f4 fs.length l4) ∧ w'.cell? ⟨w4.heap.size, 3, none⟩ = some (.int .i64 d) ∧ BX w5 w') := Lib.hid (fun w' h => by
      obtain ⟨e0, e1, e2, e3, _⟩ := (HAB.out w' h).all.1
      obtain ⟨x0, x1, x2, x3, _⟩ := X5.out.on h
      exact ⟨e0, e1, e2, e3, x0, x1, x2, x3, h⟩)
    go_wp2_with fail
    refine wp_region_held_drew (S := fun w' => w'.cell? ⟨w.heap.size, 0, none⟩ = some (.string s) ∧ w'.cell? ⟨w.heap.size, 1, none⟩ = some (.slice ac cs.length cc) ∧ w'.cell? ⟨w.heap.size, 2, none⟩ = some (.slice af fs.length cf) ∧ w'.cell? ⟨w.heap.size, 3, none⟩ = some (.int .i64 d) ∧ w'.cell? ⟨w4.heap.size, 0, none⟩ = some (.string s) ∧ w'.cell? ⟨w4.heap.size, 1, none⟩ = some (.slice p4 cs.length c4) ∧ w'.cell? ⟨w4.heap.size, 2, none⟩ = some (.slice f4 fs.length l4) ∧ w'.cell? ⟨w4.heap.size, 3, none⟩ = some (.int .i64 d) ∧ BX w5 w') (by kernel_rfl) ?_ (fun hHeld => ?_)
    · (try dsimp only)
      (first | (go_split_ands; refine HQ.out _ ?_; repeat' (with_reducible first | exact BX.drew0 _ | exact BX.refl _ | assumption | refine BX.call' (by assumption) ?_ | refine BX.drew ?_)))
    refine held_take (i := 0) (d := 35) (v := ?_) rfl rfl (by kernel_rfl) (by kernel_rfl) (by kernel_rfl) (fun _ _ _ h => h) (by rfl) ?_ (by assumption) ?_
    rotate_left
    · intro w hSw
      (try dsimp only at hSw)
      go_simp
      try with_reducible rfl
    try simp only [Act.put, List.setIfInBounds_toArray, List.set_cons_zero, List.set_cons_succ]
    refine held_take (i := 1) (d := 36) (v := ?_) rfl rfl (by kernel_rfl) (by kernel_rfl) (by kernel_rfl) (fun _ _ _ h => h) (by rfl) ?_ (by assumption) ?_
    rotate_left
    · intro w hSw
      (try dsimp only at hSw)
      go_simp
      try with_reducible rfl
    try simp only [Act.put, List.setIfInBounds_toArray, List.set_cons_zero, List.set_cons_succ]
    refine wpAnyH_ready (rs := [2]) (by kernel_rfl) (by simp) ?_
    refine AllReadyH.cons rfl (fun K' hK => ?_) AllReadyH.nil
    go_simp
    (first | (go_split_ands; (with_reducible refine (HTO.out _ (HA.out.below (HAB.out _ (by assumption)).all.2) M).mono ?_); rintro e w6 ⟨v6, rfl, s6, b3⟩; have S6 := Lib.hid s6.cfg; clear s6) | (go_split_ands; (with_reducible refine (HEQ.out _ _ _ (Lib.hid (S5.out.below (bx_below (by assumption)))) S6 M).mono ?_); rintro e w7 ⟨rfl, b4⟩))
    refine hK.out _ _ ?_ (fun hHeld => ?_)
    · (try dsimp only)
      (first | (go_split_ands; refine HQ.out _ ?_; repeat' (with_reducible first | exact BX.drew0 _ | exact BX.refl _ | assumption | refine BX.call' (by assumption) ?_ | refine BX.drew ?_)))
    clear hK K'
    try simp only [Act.put, List.setIfInBounds_toArray, List.set_cons_zero, List.set_cons_succ]
    refine wpAnyH_ready (rs := [3]) (by kernel_rfl) (by simp) ?_
    refine AllReadyH.cons rfl (fun K' hK => ?_) AllReadyH.nil
    go_simp
    (first | (go_split_ands; (with_reducible refine (HTO.out _ (HA.out.below (HAB.out _ (by assumption)).all.2) M).mono ?_); rintro e w6 ⟨v6, rfl, s6, b3⟩; have S6 := Lib.hid s6.cfg; clear s6) | (go_split_ands; (with_reducible refine (HEQ.out _ _ _ (Lib.hid (S5.out.below (bx_below (by assumption)))) S6 M).mono ?_); rintro e w7 ⟨rfl, b4⟩))
    refine hK.out _ _ ?_ (fun hHeld => ?_)
    · (try dsimp only)
      (first | (go_split_ands; refine HQ.out _ ?_; repeat' (with_reducible first | exact BX.drew0 _ | exact BX.refl _ | assumption | refine BX.call' (by assumption) ?_ | refine BX.drew ?_)))
    clear hK K'
    try simp only [Act.put, List.setIfInBounds_toArray, List.set_cons_zero, List.set_cons_succ]
    refine held_take (i := 4) (d := 39) (v := ?_) rfl rfl (by kernel_rfl) (by kernel_rfl) (by kernel_rfl) (fun _ _ _ h => h) (by rfl) ?_ (by assumption) ?_
    rotate_left
    · intro w hSw
      (try dsimp only at hSw)
      go_simp
      try with_reducible rfl
    try simp only [Act.put, List.setIfInBounds_toArray, List.set_cons_zero, List.set_cons_succ]
    refine wpAnyH_done (by kernel_rfl) ?_ _
    go_split_ands
    go_wp2_with fail
    go_ret
    exact ⟨rfl, (HAB.out _ (by assumption)).all.2⟩

theorem contract (H : Type) (enc : TypeId × Value → H) (W : World) (base : Nat) (args : Array Value) (ds gs : List (DataW H)) (before : List MemPlace)
    (hval : ∀ (j : Nat) t v, Tryd.f5.params[j]? = some t → args[j]? = some v → Value.okWide Tryd.prog W .any base t v)
    (hW : DataW.Whole enc Tryd.prog Tryd.f5.params.toList Rows.fnExactTreeTextSpec.vars false W args.toList ds gs before) (hL : laidMetH Tryd.prog Rows.fnExactTreeTextRow.laid W) :
    Calls Tryd.prog 5 args W fun e W' => ∃ v, e = .returned v ∧ Rows.fnExactTreeTextSpec.post enc Tryd.prog Tryd.f5 false true false false W args v W' := by
  have hW' := hW
  obtain ⟨p, q, hA0, hV, rfl, hfz, hnd⟩ := hW
  have hA : DataW.TrodAll enc Tryd.prog W 0 (fun _ => true) true Tryd.f5.params.toList args.toList ds p := hA0
  rw [Tryd.params5] at hA hval
  obtain ⟨v0, vs0, d0, ds0, p0, q0, hargs, rfl, rfl, h0, r0⟩ := trodAll_cons hA
  obtain ⟨rfl, rfl, rfl⟩ := trodAll_nil r0
  obtain rfl : args = #[v0] := by cases args; simp_all
  have k0 := h0
  have lt0 : ∀ x ∈ p0, x.block < W.heap.size := by obtain ⟨m, hm⟩ := k0; exact DataW.trod_lt m _ _ _ hm
  obtain ⟨c0, hc0⟩ := open_cfg (hval 0 38 v0 rfl rfl) h0
  have hV2 := hV
  obtain ⟨gV, tV, cV, fV, dV, pV, rfl, _, _, _, _, rfl⟩ := trodVars_one hV
  clear hA0
  refine (walk v0 c0 W (kwt_of_head (laidMet.tail (laidMet.tail (laidMet.tail hL)))) (pow10_of_head (laidMet.tail (laidMet.tail hL))) hc0).mono fun e W' ⟨he, bel⟩ => ?_
  subst he
  exact ⟨_, rfl, _, _, _, [], _, _, hW', trodAll_mk1 (shut_bool Tryd.underlying4 _), (trodAll_cons_mk (Below.trod laidOut (by kernel_rfl) (of_decide_eq_true (by kernel_rfl)) k0 bel lt0) trodAll_mk0), Below.trodVars laidOut bel (by kernel_rfl) hV2, bel.frame _, fun h => by cases h⟩

theorem laid_met (os : Os) : laidMet Tryd.prog Rows.fnExactTreeTextRow.laid ((laidG os).forCall (fun _ _ => 0) ⟨#[], #[.agg #[.string ByteArray.empty, .slice none 0 0, .slice none 0 0, .int .i64 0]], []⟩).memory :=
  laidMet_of_run' 8 (by kernel_rfl) (by kernel_rfl)
theorem reads (os : Os) {H : Type} (enc : TypeId × Value → H) : ∃ places, DataW.whole enc Tryd.prog ((laidG os).forCall (fun _ _ => 0) ⟨#[], #[.agg #[.string ByteArray.empty, .slice none 0 0, .slice none 0 0, .int .i64 0]], []⟩).memory Tryd.f5.params.toList Rows.fnExactTreeTextSpec.vars false (#[.agg #[.string ByteArray.empty, .slice none 0 0, .slice none 0 0, .int .i64 0]] : Array Value).toList 8 = some ([.agg [.lit (.string []), .nil, .nil, .lit (.int .i64 0)]], [Rows.laid_loop_example_g00838_impl_keyWords], places) :=
  ⟨[.cell 3 0, .cell 3 1, .cell 3 2, .cell 3 3, .cell 3 4, .cell 3 5, .cell 3 6, .cell 3 7, .cell 3 8, .cell 3 9, .cell 3 10, .cell 3 11, .cell 3 12, .cell 3 13], by kernel_rfl⟩

set_option maxRecDepth 100000 in
theorem lifted (os : Os) (started : os.Started) (H : Type) (enc : TypeId × Value → H) (F : Stop.Interp) :
    ReturnsInHanded {} Tryd.checked os 5 .any ((OpenSpec.ofChange Rows.fnExactTreeTextSpec).preRow enc Tryd.prog Tryd.f5 Rows.fnExactTreeTextRow.domain false Rows.fnExactTreeTextRow.laid) (((OpenSpec.ofChange Rows.fnExactTreeTextSpec).at F).post enc Tryd.prog Tryd.f5 false true false false) := by
  obtain ⟨places, hx⟩ := reads os enc
  refine returnsInHanded_of_row (C := Tryd.checked) (s := OpenSpec.ofChange Rows.fnExactTreeTextSpec) own started (by kernel_rfl) Tryd.func5
    (witness_row_at (enc := enc) (C := Tryd.checked) false (laidG os) #[.agg #[.string ByteArray.empty, .slice none 0 0, .slice none 0 0, .int .i64 0]] rfl (by kernel_rfl) (by kernel_rfl) (by kernel_rfl)
      (OpenSpec.preRow_of_cond 8 hx (by kernel_rfl) (fun k hk => by cases hk) (by kernel_rfl) (laid_met os))) ?_
  intro W base args ds gs before hval hW _ _ _ hL _ _
  exact contract H enc W base args ds gs before hval hW hL

theorem said : Rows.FnExactTreeTextSaid :=
  OpenClaim.holds_of_cond 5 Tryd.f5 rfl rfl rfl rfl rfl rfl rfl ⟨rfl, rfl, rfl, rfl, rfl⟩ rfl rfl rfl rfl rfl (by kernel_rfl) Tryd.func5 (by kernel_rfl)
    (of_decide_eq_true (by kernel_rfl)) (by unfold Func.isWrapper; first | (rw [if_pos (by decide +kernel)]; kernel_rfl) | (rw [if_neg (by decide +kernel)]; exact ⟨rfl, rfl⟩))
    (fun os started H enc _ F => by rw [OpenClaim.pre_eq_preRow]; exact lifted os started H enc F)

theorem plain (f : FuncId) (fn : Func) (hf : Tryd.pinned.checked.prog.funcNamed "loop.example/g00838/laws.FnExactTreeText" = some f) (hfn : Tryd.pinned.checked.prog.funcs[f]? = some fn) :
    false = Tryd.pinned.checked.prog.looks [] ∧ ∀ (j : Nat) t, fn.params[j]? = some t → Tryd.pinned.checked.prog.wantsStandIn t = false := by
  obtain rfl : f = 5 := Option.some.inj ((show Tryd.prog.funcNamed "loop.example/g00838/laws.FnExactTreeText" = some 5 by kernel_rfl).symm.trans hf) |>.symm
  obtain rfl : fn = Tryd.f5 := (Option.some.inj (Tryd.func5.symm.trans hfn)).symm
  refine ⟨by kernel_rfl, fun j t ht => ?_⟩
  rw [Tryd.params5] at ht
  have hm : t ∈ [38] := by simpa using Array.mem_of_getElem? ht
  have hall : ([38].all fun u => !Tryd.prog.wantsStandIn u) = true := by kernel_rfl
  exact (show Tryd.prog.wantsStandIn t = false by simpa using List.all_eq_true.1 hall t hm)

theorem proved : Rows.FnExactTreeTextCardSaid :=
  Claim7.holds_tied_plain_at .later [] _ _ _ _ said (fun _ h => by cases h) (by kernel_rfl) (fun _ h => by cases h) fnExactTreeText_row_tie rfl ⟨rfl, rfl⟩ (by kernel_rfl) rfl plain (by kernel_rfl)
end Go.Proofs.YtkpocljlmbihcaaDoor.fnExactTreeText
