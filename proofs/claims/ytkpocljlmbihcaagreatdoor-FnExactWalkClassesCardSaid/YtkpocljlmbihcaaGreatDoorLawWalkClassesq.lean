/- For every configuration, impl.WalkClasses answers as its model does, writes into no argument and owns its answer: the law FnExactWalkClasses returns true. The tables start as the texts lay them (the card ties them). No other condition. -/
import Derived.Test.YtkpocljlmbihcaaGreatDoorCards
import Derived.Test.YtkpocljlmbihcaaGreatDoorTie
import Derived.Test.YtkpocljlmbihcaaGreatDoorPkc
import Derived.Test.YtkpocljlmbihcaaGreatDoorPkw
import Derived.Test.YtkpocljlmbihcaaGreatDoorPkg
import Derived.ProofKit
import Derived.OpenShut
import Derived.ShutString
import Derived.ChangeOld
import Derived.ChangeVars
import Derived.Carry
import Derived.Deep.DeepHandedRow
namespace Go.Proofs.YtkpocljlmbihcaaGreatDoor.fnExactWalkClasses
set_option maxRecDepth 100000
open Go.ChangeShapes Go.WideShapes Go.ChangeAt Go.RowKit
set_option linter.unusedVariables false

theorem own : ownKnob Tryz.prog.godebug = none := by kernel_rfl
theorem laidOut : laidOutB Tryz.prog = true := by kernel_rfl
theorem bx_below {wb w' : World} (h : BX wb w') : Below wb.heap.size wb w' := h
set_option maxRecDepth 100000 in
set_option maxHeartbeats 12800000 in
theorem walk (v : Value) (c : Cfg) (w : World) (hT : Kwt w) (hU : Units w) (hP : Pow w) (hW : FwW w) (hD : Dig w) (hc : ArgCfg w v c) :
    Calls Tryz.prog 6 #[v] w fun e w' => e = .returned (.bool true) ∧ Below w.heap.size w w' := by
  obtain ⟨ac, cc, af, cf, rfl, m0, m1, m2, ic, if_⟩ := hc
  have hc : ArgCfg w (.agg #[.string c.s, .slice ac c.cs.length cc, .slice af c.fs.length cf, .int .i64 c.d]) c := ⟨ac, cc, af, cf, rfl, m0, m1, m2, ic, if_⟩
  have HT := Lib.hid hT
  have HU := Lib.hid hU
  have HP := Lib.hid hP
  have HW := Lib.hid hW
  have HD := Lib.hid hD
  have HZ := Lib.hid (fun w h => szConfig_any _ c w (Lib.hid (show ArgCfg w (.agg #[.string c.s, .slice ac c.cs.length cc, .slice af c.fs.length cf, .int .i64 c.d]) c from h)))
  have HTO := Lib.hid (fun w h HM => toConfig_any _ c w (Lib.hid (show ArgCfg w (.agg #[.string c.s, .slice ac c.cs.length cc, .slice af c.fs.length cf, .int .i64 c.d]) c from h)) HM)
  have HEQ := Lib.hid (fun v v' w h h' HM => eqConfig_any v v' c w h h' HM)
  have HSP := Lib.hid (fun v w h HM => specWalkClasses_any v c w h HM)
  have HIM := Lib.hid (fun v w hk h HM hU hP hW hD => implWalkClasses_any v c w hk h HM (Lib.hid (show Units w from hU)) (Lib.hid (show Pow w from hP)) (Lib.hid (show FwW w from hW)) (Lib.hid (show Dig w from hD)))
  have hkl := lenWalkClasses c
  generalize resWalkClasses1 c = K at HSP HIM hkl
  generalize resWalkClasses2 c = g2 at HSP HIM
  have HEI := Lib.hid (fun v v' B B' w HA HB => eqIntS_any v v' B B' K w HA HB (by omega))
  have HMI := Lib.hid (fun v B xs w HO => markIntS_any v B K.length xs w HO (by omega))
  have HHI := Lib.hid (fun v B w HO => heldIntS_any v B K.length w HO (by omega))
  have dk0 : decide ((1 : Int) + (K.length : Int) < 0) = false := not_lt (by omega)
  have HA := Lib.hid hc
  clear hT hU hP hW hD hc ic if_ m0 m1 m2
  obtain ⟨s, cs, fs, d⟩ := c
  simp only at HZ HTO HA ⊢
  have A0 := Lib.hid (Aft.refl w (Obj.cells #[.string s, .slice ac cs.length cc, .slice af fs.length cf, .int .i64 d] 25))
  go_enter Tryz.func6, Tryz.ntmps6
  go_wp2_with (go_at_call 7; refine (HZ.out _ (HA.out.below A0.out.all.2)).mono ?_; rintro e w1 ⟨r0, rfl, b1, q1⟩; have A1 := Lib.hid (A0.out.on b1); have Q1 := Lib.hid q1; obtain ⟨y0, y1, y2, y3, _⟩ := A1.out.all.1; clear b1 q1; refine Hid.out ?_)
  refine Lib.hid ?_
  by_cases h : r0 < 0
  · have dr := is_lt h
    go_wp2_with fail
    go_ret
    exact ⟨rfl, A1.out.all.2⟩
  have dr := not_lt (Int.not_lt.1 h)
  have M := Lib.hid (Q1.out (by omega))
  have hcl : cs.length ≤ 1048576 := M.out.2.1
  have hfl : fs.length ≤ 1048576 := M.out.2.2
  clear h Q1 HZ
  go_wp2_with (go_at_call 9; refine (HTO.out _ (HA.out.below A1.out.all.2) M).mono ?_; rintro e w2 ⟨v2, rfl, s2, b2⟩; obtain ⟨p2, c2, f2, l2, rfl, i2, j2⟩ := s2.cfg; have A2 := Lib.hid (A1.out.on b2); have S2 : Hid (CfgV w2 _ ⟨s, cs, fs, d⟩) := Lib.hid ⟨p2, c2, f2, l2, rfl, i2, j2⟩; clear b2 s2 i2 j2)
  go_wp2_with (go_at_call 16; refine (HSP.out _ _ S2 M).mono ?_; rintro e w3 ⟨v0, rfl, o3, b3⟩; have A3 := Lib.hid (A2.out.on b3); have W3 := Lib.hid o3; obtain ⟨z0, z1, z2, z3, _⟩ := A3.out.all.1; clear b3 o3; refine Hid.out ?_)
  refine Lib.hid ?_
  go_wp2_with (go_at_call 9; refine (HTO.out _ (HA.out.below A3.out.all.2) M).mono ?_; rintro e w4 ⟨v4, rfl, ⟨vc, vf, rfl, o4, o4', o4d⟩, b4⟩; obtain ⟨p4, c4, rfl, i4⟩ := own_in o4; obtain ⟨f4, l4, rfl, j4⟩ := own_in o4'; have A4 := Lib.hid (A3.out.on b4); have S4 : Hid (CfgV w4 _ ⟨s, cs, fs, d⟩) := Lib.hid ⟨p4, c4, f4, l4, rfl, i4, j4⟩; have OC := Lib.hid o4; have OF := Lib.hid o4'; have OD := Lib.hid o4d; have W4 := Lib.hid (own_low W3.out b4 (Nat.le_refl _)); have hs34 := b4.size; clear b4 i4 j4 o4 o4' o4d)
  go_wp2_with (go_at_call 17; refine (HIM.out _ _ (Lib.hid (HT.out.below (A4.out.alloc _).all.2)) (Lib.hid (S4.out.below (one_new2 _ _))) M (HU.out.below (A4.out.alloc _).all.2) (HP.out.below (A4.out.alloc _).all.2) (HW.out.below (A4.out.alloc _).all.2) (HD.out.below (A4.out.alloc _).all.2)).mono ?_; rintro e w5 ⟨g0, rfl, o5, b5⟩; have b45 := (one_new2 w4 (Obj.cells #[.string s, .slice p4 cs.length c4, .slice f4 fs.length l4, .int .i64 d] 32)).trans (b5.mono (by simp)); have A5 := Lib.hid (A4.out.on b45); have S5 := Lib.hid (S4.out.below b45); have X5 := Lib.hid (box_four b5).1; have G5 := Lib.hid o5; have W5 := Lib.hid (own_low W4.out b45 (Nat.le_refl _)); have OC5 := Lib.hid (own_low OC.out b45 (Nat.le_refl _)); have OF5 := Lib.hid (own_low OF.out b45 (Nat.le_refl _)); have hs45 : w4.heap.size + 1 ≤ w5.heap.size := (Nat.le_trans (by simp) b5.size); clear b5 b45 o5 y0 y1 y2 y3 z0 z1 z2 z3; refine Hid.out ?_)
  refine Lib.hid ?_
  have e45 : (w4.alloc (Obj.cells #[.string s, .slice p4 cs.length c4, .slice f4 fs.length l4, .int .i64 d] 32)).heap.size = w4.heap.size + 1 := by simp
  rw [e45] at G5
  go_wp2_with (go_at_call 18; refine (HEI.out _ _ _ _ _ G5 W5).mono ?_; rintro e w6 ⟨rfl, b6⟩; have A6 := Lib.hid (A5.out.on b6); have S6 := Lib.hid (S5.out.below b6); have X6 := Lib.hid (X5.out.on b6); have G6 := Lib.hid (own_low G5.out b6 (Nat.le_refl _)); have W6 := Lib.hid (own_low W5.out b6 (Nat.le_refl _)); have OC6 := Lib.hid (own_low OC5.out b6 (Nat.le_refl _)); have OF6 := Lib.hid (own_low OF5.out b6 (Nat.le_refl _)); have hs56 := b6.size; clear b6; refine Hid.out ?_)
  refine Lib.hid ?_
  have HAB : Hid (∀ w', BX w6 w' → Aft w (Obj.cells #[.string s, .slice ac cs.length cc, .slice af fs.length cf, .int .i64 d] 25) w') := Lib.hid (fun w' h => A6.out.on h)
  have HQ : Hid (∀ w', BX w6 w' → w'.cell? ⟨w.heap.size, 0, none⟩ = some (.string s) ∧ w'.cell? ⟨w.heap.size, 1, none⟩ = some (.slice ac cs.length cc) ∧ w'.cell? ⟨w.heap.size, 2, none⟩ = some (.slice af fs.length cf) ∧ w'.cell? ⟨w.heap.size, 3, none⟩ = some (.int .i64 d) ∧ w'.cell? ⟨w4.heap.size, 0, none⟩ = some (.string s) ∧ w'.cell? ⟨w4.heap.size, 1, none⟩ = some (.slice p4 cs.length c4) ∧ w'.cell? ⟨w4.heap.size, 2, none⟩ = some (.slice f4 fs.length l4) ∧ w'.cell? ⟨w4.heap.size, 3, none⟩ = some (.int .i64 d) ∧ BX w6 w') := Lib.hid (fun w' h => by
    obtain ⟨e0, e1, e2, e3, _⟩ := (HAB.out w' h).all.1
    obtain ⟨x0, x1, x2, x3, _⟩ := X6.out.on h
    exact ⟨e0, e1, e2, e3, x0, x1, x2, x3, h⟩)
  go_wp2_with fail
  refine wp_region_held_drew (S := fun w' => w'.cell? ⟨w.heap.size, 0, none⟩ = some (.string s) ∧ w'.cell? ⟨w.heap.size, 1, none⟩ = some (.slice ac cs.length cc) ∧ w'.cell? ⟨w.heap.size, 2, none⟩ = some (.slice af fs.length cf) ∧ w'.cell? ⟨w.heap.size, 3, none⟩ = some (.int .i64 d) ∧ w'.cell? ⟨w4.heap.size, 0, none⟩ = some (.string s) ∧ w'.cell? ⟨w4.heap.size, 1, none⟩ = some (.slice p4 cs.length c4) ∧ w'.cell? ⟨w4.heap.size, 2, none⟩ = some (.slice f4 fs.length l4) ∧ w'.cell? ⟨w4.heap.size, 3, none⟩ = some (.int .i64 d) ∧ BX w6 w') (by kernel_rfl) ?_ (fun hHeld => ?_)
  · (try dsimp only)
    (first | (go_split_ands; refine HQ.out _ ?_; repeat' (with_reducible first | exact BX.drew0 _ | exact BX.refl _ | assumption | refine BX.call' (by assumption) ?_ | refine BX.drew ?_)))
  refine held_take (i := 0) (d := 41) (v := ?_) rfl rfl (by kernel_rfl) (by kernel_rfl) (by kernel_rfl) (fun _ _ _ h => h) (by rfl) ?_ (by assumption) ?_
  rotate_left
  · intro w hSw
    (try dsimp only at hSw)
    go_simp
    try with_reducible rfl
  try simp only [Act.put, List.setIfInBounds_toArray, List.set_cons_zero, List.set_cons_succ]
  refine held_take (i := 1) (d := 42) (v := ?_) rfl rfl (by kernel_rfl) (by kernel_rfl) (by kernel_rfl) (fun _ _ _ h => h) (by rfl) ?_ (by assumption) ?_
  rotate_left
  · intro w hSw
    (try dsimp only at hSw)
    go_simp
    try with_reducible rfl
  try simp only [Act.put, List.setIfInBounds_toArray, List.set_cons_zero, List.set_cons_succ]
  refine wpAnyH_ready (rs := [2]) (by kernel_rfl) (by simp) ?_
  refine AllReadyH.cons rfl (fun K' hK => ?_) AllReadyH.nil
  go_simp
  (first | (go_split_ands; (with_reducible refine (HTO.out _ (HA.out.below (HAB.out _ (by assumption)).all.2) M).mono ?_); rintro e w7 ⟨v7, rfl, s7, b7⟩; have S7 := Lib.hid s7.cfg; clear s7) | (go_split_ands; (with_reducible refine (HEQ.out _ _ _ (Lib.hid (S6.out.below (bx_below (by assumption)))) S7 M).mono ?_); rintro e w8 ⟨rfl, b8⟩))
  refine hK.out _ _ ?_ (fun hHeld => ?_)
  · (try dsimp only)
    (first | (go_split_ands; refine HQ.out _ ?_; repeat' (with_reducible first | exact BX.drew0 _ | exact BX.refl _ | assumption | refine BX.call' (by assumption) ?_ | refine BX.drew ?_)))
  clear hK K'
  try simp only [Act.put, List.setIfInBounds_toArray, List.set_cons_zero, List.set_cons_succ]
  refine wpAnyH_ready (rs := [3]) (by kernel_rfl) (by simp) ?_
  refine AllReadyH.cons rfl (fun K' hK => ?_) AllReadyH.nil
  go_simp
  (first | (go_split_ands; (with_reducible refine (HTO.out _ (HA.out.below (HAB.out _ (by assumption)).all.2) M).mono ?_); rintro e w7 ⟨v7, rfl, s7, b7⟩; have S7 := Lib.hid s7.cfg; clear s7) | (go_split_ands; (with_reducible refine (HEQ.out _ _ _ (Lib.hid (S6.out.below (bx_below (by assumption)))) S7 M).mono ?_); rintro e w8 ⟨rfl, b8⟩))
  refine hK.out _ _ ?_ (fun hHeld => ?_)
  · (try dsimp only)
    (first | (go_split_ands; refine HQ.out _ ?_; repeat' (with_reducible first | exact BX.drew0 _ | exact BX.refl _ | assumption | refine BX.call' (by assumption) ?_ | refine BX.drew ?_)))
  clear hK K'
  try simp only [Act.put, List.setIfInBounds_toArray, List.set_cons_zero, List.set_cons_succ]
  refine held_take (i := 4) (d := 45) (v := ?_) rfl rfl (by kernel_rfl) (by kernel_rfl) (by kernel_rfl) (fun _ _ _ h => h) (by rfl) ?_ (by assumption) ?_
  rotate_left
  · intro w hSw
    (try dsimp only at hSw)
    go_simp
    try with_reducible rfl
  try simp only [Act.put, List.setIfInBounds_toArray, List.set_cons_zero, List.set_cons_succ]
  refine wpAnyH_done (by kernel_rfl) ?_ _
  go_split_ands
  have h68 : BX w6 w8 := by assumption
  have A8 := Lib.hid (HAB.out w8 h68)
  have G8 := Lib.hid (own_low G6.out (bx_below h68) (Nat.le_refl _))
  have W8 := Lib.hid (own_low W6.out (bx_below h68) (Nat.le_refl _))
  have OC8 := Lib.hid (own_low OC6.out (bx_below h68) (Nat.le_refl _))
  have OF8 := Lib.hid (own_low OF6.out (bx_below h68) (Nat.le_refl _))
  have hs68 := BX.size h68
  have hB8 : w3.heap.size ≤ w8.heap.size := by omega
  have hw3 : w.heap.size + 1 ≤ w3.heap.size := A3.out.all.1.2.2.2.2
  have hw4 : w.heap.size + 1 ≤ w4.heap.size + 1 := by omega
  have hkm : decide (1 + 8 * (cs.length : Int) + 5 * (fs.length : Int) < 0) = false := not_lt (by omega)
  have HNE : Hid (∀ g, g0.ownBlock = some g → g < w8.heap.size ∧ (Value.slice p4 cs.length c4).ownBlock ≠ some g ∧ (Value.slice f4 fs.length l4).ownBlock ≠ some g) := Lib.hid (fun g h => by
    have h1 := World.ownsRow.lt G8.out g h
    refine ⟨h1.2, fun q => ?_, fun q => ?_⟩
    · have := (World.ownsRow.lt OC.out g q).2; omega
    · have := (World.ownsRow.lt OF.out g q).2; omega)
  have HWL : Hid (∀ g, v0.ownBlock = some g → g < w3.heap.size ∧ g < w4.heap.size + 1) := Lib.hid (fun g h => by
    have := (World.ownsRow.lt W3.out g h).2
    exact ⟨this, by omega⟩)
  have HMC := Lib.hid (markConfig_any s p4 f4 cs.length fs.length c4 l4 d w3.heap.size _ _ w8 OC8 OF8 OD hB8 hcl hfl)
  clear hs34 hs45 hs56 hs68
  go_wp2_with (go_at_call 19; refine HMC.out.mono ?_; rintro e w9 ⟨rfl, b9, o9⟩; have A9 := Lib.hid (A8.out.up (b9.mono hw3)); have W9 := Lib.hid (own_below W8.out b9 (fun g h => (HWL.out g h).1)); have G9 := Lib.hid (own_heap G8.out (fun g h => o9 g (HNE.out g h).1 (HNE.out g h).2.1 (HNE.out g h).2.2)); clear b9 o9; refine Hid.out ?_)
  refine Lib.hid ?_
  go_wp2_with (go_at_call 18; refine (HEI.out _ _ _ _ _ G9 W9).mono ?_; rintro e w10 ⟨rfl, b10⟩; have A10 := Lib.hid (A9.out.on b10); have G10 := Lib.hid (own_low G9.out b10 (Nat.le_refl _)); have W10 := Lib.hid (own_low W9.out b10 (Nat.le_refl _)); clear b10; refine Hid.out ?_)
  refine Lib.hid ?_
  go_wp2_with (go_at_call 20; refine (HMI.out _ _ _ _ G10).mono ?_; rintro e w11 ⟨rfl, o11, b11⟩; have A11 := Lib.hid (A10.out.up (b11.mono hw4)); have W11 := Lib.hid (own_below W10.out b11 (fun g h => (HWL.out g h).2)); have G11 := Lib.hid o11; clear b11 o11; refine Hid.out ?_)
  refine Lib.hid ?_
  obtain ⟨y0, y1, y2, y3, _⟩ := A11.out.all.1
  go_wp2_with (go_at_call 21; refine (HHI.out _ _ _ G11).mono ?_; rintro e w' ⟨rfl, rfl⟩; refine Hid.out ?_)
  refine Lib.hid ?_
  go_wp2_with (go_at_call 9; refine (HTO.out _ (HA.out.below A11.out.all.2) M).mono ?_; rintro e w12 ⟨v12, rfl, s12, b12⟩; obtain ⟨p12, c12, f12, l12, rfl, i12, j12⟩ := s12.cfg; have A12 := Lib.hid (A11.out.on b12); have S12 : Hid (CfgV w12 _ ⟨s, cs, fs, d⟩) := Lib.hid ⟨p12, c12, f12, l12, rfl, i12, j12⟩; have G12 := Lib.hid (own_low G11.out b12 (Nat.le_refl _)); have W12 := Lib.hid (own_low W11.out b12 (Nat.le_refl _)); clear b12 s12 i12 j12)
  go_wp2_with (go_at_call 17; refine (HIM.out _ _ (Lib.hid (HT.out.below A12.out.all.2)) S12 M (HU.out.below A12.out.all.2) (HP.out.below A12.out.all.2) (HW.out.below A12.out.all.2) (HD.out.below A12.out.all.2)).mono ?_; rintro e w13 ⟨h0, rfl, o13, b13⟩; have A13 := Lib.hid (A12.out.on b13); have G13 := Lib.hid (own_low G12.out b13 (Nat.le_refl _)); have W13 := Lib.hid (own_low W12.out b13 (Nat.le_refl _)); have H13 := Lib.hid o13; clear b13 o13 y0 y1 y2 y3; refine Hid.out ?_)
  refine Lib.hid ?_
  go_wp2_with (go_at_call 18; refine (HEI.out _ _ _ _ _ H13 W13).mono ?_; rintro e w14 ⟨rfl, b14⟩; have A14 := Lib.hid (A13.out.on b14); have G14 := Lib.hid (own_low G13.out b14 (Nat.le_refl _)); clear b14; refine Hid.out ?_)
  refine Lib.hid ?_
  go_wp2_with (go_at_call 21; refine (HHI.out _ _ _ G14).mono ?_; rintro e w' ⟨rfl, rfl⟩)
  go_ret
  exact ⟨rfl, A14.out.all.2⟩

theorem contract (H : Type) (enc : TypeId × Value → H) (W : World) (base : Nat) (args : Array Value) (ds gs : List (DataW H)) (before : List MemPlace)
    (hval : ∀ (j : Nat) t v, Tryz.f6.params[j]? = some t → args[j]? = some v → Value.okWide Tryz.prog W .any base t v)
    (hW : DataW.Whole enc Tryz.prog Tryz.f6.params.toList Rows.fnExactWalkClassesSpec.vars false W args.toList ds gs before) (hL : laidMetH Tryz.prog Rows.fnExactWalkClassesRow.laid W) :
    Calls Tryz.prog 6 args W fun e W' => ∃ v, e = .returned v ∧ Rows.fnExactWalkClassesSpec.post enc Tryz.prog Tryz.f6 false true false false W args v W' := by
  have hW' := hW
  obtain ⟨p, q, hA0, hV, rfl, hfz, hnd⟩ := hW
  have hA : DataW.TrodAll enc Tryz.prog W 0 (fun _ => true) true Tryz.f6.params.toList args.toList ds p := hA0
  rw [Tryz.params6] at hA hval
  obtain ⟨v0, vs0, d0, ds0, p0, q0, hargs, rfl, rfl, h0, r0⟩ := trodAll_cons hA
  obtain ⟨rfl, rfl, rfl⟩ := trodAll_nil r0
  obtain rfl : args = #[v0] := by cases args; simp_all
  have k0 := h0
  have lt0 : ∀ x ∈ p0, x.block < W.heap.size := by obtain ⟨m, hm⟩ := k0; exact DataW.trod_lt m _ _ _ hm
  obtain ⟨c0, hc0⟩ := open_cfg (hval 0 25 v0 rfl rfl) h0
  have hV2 := hV
  obtain ⟨dV0, dV1, dV2, dV3, rfl⟩ := trodVars_four hV
  clear hA0
  refine (walk v0 c0 W (kwt_of_head (laidMet.tail (laidMet.tail (laidMet.tail (laidMet.tail (laidMet.tail hL)))))) (units_of_head (laidMet.tail (laidMet.tail (laidMet.tail (laidMet.tail hL))))) (pow10_of_head (laidMet.tail (laidMet.tail hL))) (fww_of_head (laidMet.tail (laidMet.tail (laidMet.tail (laidMet.tail (laidMet.tail (laidMet.tail hL))))))) (dig_of_head (laidMet.tail (laidMet.tail (laidMet.tail hL)))) hc0).mono fun e W' ⟨he, bel⟩ => ?_
  subst he
  exact ⟨_, rfl, _, _, _, [], _, _, hW', trodAll_mk1 (shut_bool Tryz.underlying4 _), (trodAll_cons_mk (Below.trod laidOut (by kernel_rfl) (of_decide_eq_true (by kernel_rfl)) k0 bel lt0) trodAll_mk0), Below.trodVars laidOut bel (by kernel_rfl) hV2, bel.frame _, fun h => by cases h⟩

theorem laid_met (os : Os) : laidMet Tryz.prog Rows.fnExactWalkClassesRow.laid ((laidG os).forCall (fun _ _ => 0) ⟨#[], #[.agg #[.string ByteArray.empty, .slice none 0 0, .slice none 0 0, .int .i64 0]], []⟩).memory :=
  laidMet_of_run' 8 (by kernel_rfl) (by kernel_rfl)
theorem reads (os : Os) {H : Type} (enc : TypeId × Value → H) : ∃ places, DataW.whole enc Tryz.prog ((laidG os).forCall (fun _ _ => 0) ⟨#[], #[.agg #[.string ByteArray.empty, .slice none 0 0, .slice none 0 0, .int .i64 0]], []⟩).memory Tryz.f6.params.toList Rows.fnExactWalkClassesSpec.vars false (#[.agg #[.string ByteArray.empty, .slice none 0 0, .slice none 0 0, .int .i64 0]] : Array Value).toList 8 = some ([.agg [.lit (.string []), .nil, .nil, .lit (.int .i64 0)]], [Rows.laid_loop_example_g00838_impl_keyWords, Rows.laid_loop_example_g00838_impl_units, Rows.laid_loop_example_g00838_impl_fieldWords, Rows.laid_loop_example_g00838_impl_digits], places) :=
  ⟨[.cell 1 0, .cell 1 1, .cell 1 2, .cell 1 3, .cell 1 4, .cell 1 5, .cell 1 6, .cell 1 7, .cell 1 8, .cell 1 9, .cell 1 10, .cell 1 11, .cell 1 12, .cell 1 13, .cell 2 0, .cell 2 1, .cell 2 2, .cell 2 3, .cell 0 0, .cell 0 1, .cell 0 2, .cell 0 3, .cell 5 0, .cell 5 1], by kernel_rfl⟩

set_option maxRecDepth 100000 in
theorem lifted (os : Os) (started : os.Started) (H : Type) (enc : TypeId × Value → H) (F : Stop.Interp) :
    ReturnsInHanded {} Tryz.checked os 6 .any ((OpenSpec.ofChange Rows.fnExactWalkClassesSpec).preRow enc Tryz.prog Tryz.f6 Rows.fnExactWalkClassesRow.domain false Rows.fnExactWalkClassesRow.laid) (((OpenSpec.ofChange Rows.fnExactWalkClassesSpec).at F).post enc Tryz.prog Tryz.f6 false true false false) := by
  obtain ⟨places, hx⟩ := reads os enc
  refine returnsInHanded_of_row (C := Tryz.checked) (s := OpenSpec.ofChange Rows.fnExactWalkClassesSpec) own started (by kernel_rfl) Tryz.func6
    (witness_row_at (enc := enc) (C := Tryz.checked) false (laidG os) #[.agg #[.string ByteArray.empty, .slice none 0 0, .slice none 0 0, .int .i64 0]] rfl (by kernel_rfl) (by kernel_rfl) (by kernel_rfl)
      (OpenSpec.preRow_of_cond 8 hx (by kernel_rfl) (fun k hk => by cases hk) (by kernel_rfl) (laid_met os))) ?_
  intro W base args ds gs before hval hW _ _ _ hL _ _
  exact contract H enc W base args ds gs before hval hW hL

theorem said : Rows.FnExactWalkClassesSaid :=
  OpenClaim.holds_of_cond 6 Tryz.f6 rfl rfl rfl rfl rfl rfl rfl ⟨rfl, rfl, rfl, rfl, rfl⟩ rfl rfl rfl rfl rfl (by kernel_rfl) Tryz.func6 (by kernel_rfl)
    (of_decide_eq_true (by kernel_rfl)) (by unfold Func.isWrapper; first | (rw [if_pos (by decide +kernel)]; kernel_rfl) | (rw [if_neg (by decide +kernel)]; exact ⟨rfl, rfl⟩))
    (fun os started H enc _ F => by rw [OpenClaim.pre_eq_preRow]; exact lifted os started H enc F)

theorem plain (f : FuncId) (fn : Func) (hf : Tryz.pinned.checked.prog.funcNamed "loop.example/g00838/laws.FnExactWalkClasses" = some f) (hfn : Tryz.pinned.checked.prog.funcs[f]? = some fn) :
    false = Tryz.pinned.checked.prog.looks [] ∧ ∀ (j : Nat) t, fn.params[j]? = some t → Tryz.pinned.checked.prog.wantsStandIn t = false := by
  obtain rfl : f = 6 := Option.some.inj ((show Tryz.prog.funcNamed "loop.example/g00838/laws.FnExactWalkClasses" = some 6 by kernel_rfl).symm.trans hf) |>.symm
  obtain rfl : fn = Tryz.f6 := (Option.some.inj (Tryz.func6.symm.trans hfn)).symm
  refine ⟨by kernel_rfl, fun j t ht => ?_⟩
  rw [Tryz.params6] at ht
  have hm : t ∈ [25] := by simpa using Array.mem_of_getElem? ht
  have hall : ([25].all fun u => !Tryz.prog.wantsStandIn u) = true := by kernel_rfl
  exact (show Tryz.prog.wantsStandIn t = false by simpa using List.all_eq_true.1 hall t hm)

theorem proved : Rows.FnExactWalkClassesCardSaid :=
  Claim7.holds_tied_plain_at .later [] _ _ _ _ said (fun _ h => by cases h) (by kernel_rfl) (fun _ h => by cases h) fnExactWalkClasses_row_tie rfl ⟨rfl, rfl⟩ (by kernel_rfl) rfl plain (by kernel_rfl)
end Go.Proofs.YtkpocljlmbihcaaGreatDoor.fnExactWalkClasses
