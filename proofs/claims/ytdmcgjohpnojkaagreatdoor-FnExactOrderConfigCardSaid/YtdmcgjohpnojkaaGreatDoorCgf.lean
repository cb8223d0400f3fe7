/- SetLimit, the model's. -/
import Derived.Test.YtdmcgjohpnojkaaGreatDoorCge
namespace Go.Proofs.YtdmcgjohpnojkaaGreatDoor
set_option maxRecDepth 100000
open Go.RowKit
set_option linter.unusedVariables false

theorem FourIs.far {w : World} {b g j : Nat} {a0 a1 a2 a3 : Value} (h : FourIs w b a0 a1 a2 a3) (hg : b ≠ g) (v : Value) : FourIs (w.setCell ⟨g, j, none⟩ v) b a0 a1 a2 a3 := by
  obtain ⟨h0, h1, h2, h3, hb⟩ := h
  refine ⟨?_, ?_, ?_, ?_, by rw [Go.Deep.nblk_setCell]; exact hb⟩ <;> rw [World.cell?_setCell_other _ _ _ _ (by simp)] <;> assumption
theorem lenSetLimit (c : Cfg) (id lim : Int) (h : CfgM c) : CfgM (resSetLimit1 c id lim) := by
  unfold resSetLimit1
  split
  · exact setL_M h _ _
  · exact ⟨Nat.zero_le _, Nat.zero_le _, Nat.zero_le _⟩
set_option maxHeartbeats 6400000 in
theorem specSetLimit_any (v : Value) (c : Cfg) (B : Nat) (id lim : Int) (w : World) (HV : Hid (OwnCfg w B v c)) (HM : Hid (CfgM c)) :
    Calls Tryz.prog 42 #[v, .int .i64 id, .int .i64 lim] w (SaysCB w (resSetLimit1 c id lim) (resSetLimit2 c id lim)) := by
  have HGD := Lib.hid (fun w' (b : Below w.heap.size w w') => cfGood_any v c w' (Lib.hid (HV.out.cfg.below b)) HM)
  have HCO := Lib.hid (fun w' (b : Below w.heap.size w w') h1 => cfOwn_any v c B w' (Lib.hid (HV.out.on b)) HM h1)
  obtain ⟨vc, vf, rfl, oc, of, od⟩ := HV.out
  obtain ⟨ac, cc, rfl, ic⟩ := own_in oc
  obtain ⟨af, cf, rfl, _⟩ := own_in of
  clear oc of od
  obtain ⟨s, cs, fs, d⟩ := c
  have q1 : cs.length ≤ 1048576 := HM.out.2.1
  simp only at HGD HCO ic ⊢
  have HI := Lib.hid ic
  have HTG := Lib.hid (fun w' HI => cfTarget_any s ac af cs.length cc fs.length cf d cs id w' HI (Lib.hid rfl) q1)
  have HFF := Lib.hid (fun w' HI => cfFind_any s ac af cs.length cc fs.length cf d cs id w' HI (Lib.hid rfl) q1)
  clear ic
  cases hgd : goodC ⟨s, cs, fs, d⟩
  · obtain ⟨x1, x2⟩ := sl_no (c := ⟨s, cs, fs, d⟩) (id := id) lim (by rw [hgd]; rfl)
    rw [x1, x2]
    rw [hgd] at HGD
    clear x1 x2 hgd HCO HV HM HFF HTG
    go_enter Tryz.func42, Tryz.ntmps42
    go_wp2_with (go_at_call 77; refine (HGD.out _ (two_new _ _ _)).mono ?_; rintro e w1 ⟨rfl, b1⟩; have B1 := Lib.hid (two_below b1); have Z1 := Lib.hid (zer_new b1); clear b1; refine Hid.out ?_)
    refine Lib.hid ?_
    obtain ⟨⟨x0, x1, x2, x3, _⟩, x4⟩ := Z1.out
    have y0 := x4 0
    have y1 := x4 1
    have y2 := x4 2
    have y3 := x4 3
    clear x4
    go_wp2_with fail
    obtain ⟨r0, r1, r2, r3⟩ := read4 Z1.out.four (.string ⟨#[]⟩) (.slice none 0 0) (.slice none 0 0) (.int .i64 0) _ rfl
    exact bodyPost_ret (v := .tuple #[zV, .bool false]) (by simp [results, Tryz.results42, go_sem, r0, r1, r2, r3, zV]) rfl ⟨_, rfl, own_zV _ _, set4 B1.out _ (Nat.le_succ _) _ _ _ _⟩
  cases hl : leafB cs id
  · obtain ⟨x1, x2⟩ := sl_no (c := ⟨s, cs, fs, d⟩) (id := id) lim (by simp only; rw [hl]; simp)
    rw [x1, x2]
    rw [hgd] at HGD
    rw [hl] at HTG
    clear x1 x2 hgd HCO HV HM HFF hl
    go_enter Tryz.func42, Tryz.ntmps42
    go_wp2_with (go_at_call 77; refine (HGD.out _ (two_new _ _ _)).mono ?_; rintro e w1 ⟨rfl, b1⟩; have B1 := Lib.hid (two_below b1); have Z1 := Lib.hid (zer_new b1); obtain ⟨e0, e1, e2, e3, _⟩ := copy_box b1; clear b1; refine Hid.out ?_)
    refine Lib.hid ?_
    go_wp2_with (go_at_call 96; refine (HTG.out _ (Lib.hid (HI.out.below B1.out))).mono ?_; rintro e w2 ⟨rfl, b2⟩; have B2 := Lib.hid (B1.out.trans (b2.mono B1.out.size)); have Z2 := Lib.hid (Z1.out.on b2); clear b2 e0 e1 e2 e3; refine Hid.out ?_)
    refine Lib.hid ?_
    obtain ⟨⟨x0, x1, x2, x3, _⟩, x4⟩ := Z2.out
    have y0 := x4 0
    have y1 := x4 1
    have y2 := x4 2
    have y3 := x4 3
    clear x4
    go_wp2_with fail
    obtain ⟨r0, r1, r2, r3⟩ := read4 Z2.out.four (.string ⟨#[]⟩) (.slice none 0 0) (.slice none 0 0) (.int .i64 0) _ rfl
    exact bodyPost_ret (v := .tuple #[zV, .bool false]) (by simp [results, Tryz.results42, go_sem, r0, r1, r2, r3, zV]) rfl ⟨_, rfl, own_zV _ _, set4 B2.out _ (Nat.le_succ _) _ _ _ _⟩
  · obtain ⟨k, hf⟩ : ∃ k, fnd cs id = Option.some k := by
      unfold leafB at hl
      exact Option.isSome_iff_exists.1 (Bool.and_eq_true_iff.1 hl).1
    obtain ⟨x1, x2⟩ := sl_yes (c := ⟨s, cs, fs, d⟩) (id := id) (lim := lim) (by simp only; rw [hgd, hl]; rfl) hf
    have hk := (fnd_get cs id k hf).1
    rw [x1, x2]
    obtain ⟨b, hb⟩ : ∃ b, goodC (setL ⟨s, cs, fs, d⟩ k lim) = b := ⟨_, rfl⟩
    rw [hb]
    obtain ⟨rc, hrc⟩ : ∃ rc, (if b = true then setL ⟨s, cs, fs, d⟩ k lim else cfg0) = rc := ⟨_, rfl⟩
    rw [hrc]
    have HRC := Lib.hid hrc
    have HB := Lib.hid hb
    rw [hgd] at HGD
    rw [hl] at HTG
    rw [fndI_some hf] at HFF
    have HCO1 := Lib.hid (fun w' b => HCO.out w' b (by omega))
    have HMS := Lib.hid (setL_M HM.out k lim)
    clear x1 x2 hgd hl HCO HV HM hf hb hrc
    go_enter Tryz.func42, Tryz.ntmps42
    go_wp2_with (go_at_call 77; refine (HGD.out _ (two_new _ _ _)).mono ?_; rintro e w0 ⟨rfl, b1⟩; have B0 := Lib.hid (two_below b1); have Z0 := Lib.hid (zer_new b1); have X0 := Lib.hid (copy_box b1); obtain ⟨e0, e1, e2, e3, _⟩ := X0.out; clear b1; refine Hid.out ?_)
    refine Lib.hid ?_
    go_wp2_with (go_at_call 96; refine (HTG.out _ (Lib.hid (HI.out.below B0.out))).mono ?_; rintro e w1 ⟨rfl, b2⟩; have B1 := Lib.hid (B0.out.trans (b2.mono B0.out.size)); have Z1 := Lib.hid (Z0.out.on b2); have X1 := Lib.hid (X0.out.on b2); clear b2 e0 e1 e2 e3; obtain ⟨e0, e1, e2, e3, _⟩ := X1.out; refine Hid.out ?_)
    refine Lib.hid ?_
    have hz1 : w.heap.size + 1 < w1.heap.size := Z1.out.1.2.2.2.2
    go_wp2_with (go_at_call 91; refine (HCO1.out _ B1.out).mono ?_; rintro e w2 ⟨v2, rfl, o2, b2⟩; have O2 := Lib.hid o2; have B2 := Lib.hid b2; obtain ⟨vc2, vf2, rfl, oc2, of2, od2⟩ := o2; obtain ⟨a2, k2, rfl, i2⟩ := own_in oc2; obtain ⟨f2, l2, rfl, _⟩ := own_in of2; obtain ⟨g, rfl, _, hg⟩ := i2 (by simp only; omega); simp only at O2 oc2 hg; clear e0 e1 e2 e3 of2 od2 i2 b2; refine Hid.out ?_)
    refine Lib.hid ?_
    have hgl := (World.ownsRow.lt oc2 g rfl).1
    have hz2 := B2.out.size
    have hgw : w.heap.size ≤ g := by omega
    go_wp2_with fail
    have BA : Hid (Below w2.heap.size w2 (w2.alloc (Obj.cells #[.string s, .slice (some ⟨g, 0, none⟩) cs.length k2, .slice f2 fs.length l2, .int .i64 d] 54)).drew) := Lib.hid (below_drewN (one_new2 w2 (Obj.cells #[.string s, .slice (some ⟨g, 0, none⟩) cs.length k2, .slice f2 fs.length l2, .int .i64 d] 54)) 1)
    have X8 : Hid (FourIs (w2.alloc (Obj.cells #[.string s, .slice (some ⟨g, 0, none⟩) cs.length k2, .slice f2 fs.length l2, .int .i64 d] 54)).drew w2.heap.size (.string s) (.slice (some ⟨g, 0, none⟩) cs.length k2) (.slice f2 fs.length l2) (.int .i64 d)) := Lib.hid (box_four (below_drewN (Below.refl _ _) 1)).1
    have XI := Lib.hid ((X1.out.on B2.out).on BA.out)
    have ZR := Lib.hid ((Z1.out.on B2.out).on BA.out)
    have O3 := Lib.hid (O2.out.on BA.out)
    have B3 : Hid (Below w.heap.size w (w2.alloc (Obj.cells #[.string s, .slice (some ⟨g, 0, none⟩) cs.length k2, .slice f2 fs.length l2, .int .i64 d] 54)).drew) := Lib.hid ((B1.out.trans (B2.out.mono (by omega))).trans (BA.out.mono (by omega)))
    refine wp_region_held_drew (S := fun w' => w'.cell? ⟨w.heap.size, 0, none⟩ = some (.string s) ∧ w'.cell? ⟨w.heap.size, 1, none⟩ = some (.slice ac cs.length cc) ∧ w'.cell? ⟨w.heap.size, 2, none⟩ = some (.slice af fs.length cf) ∧ w'.cell? ⟨w.heap.size, 3, none⟩ = some (.int .i64 d) ∧ w'.cell? ⟨w2.heap.size, 1, none⟩ = some (.slice (some ⟨g, 0, none⟩) cs.length k2)) (by kernel_rfl) ?_ (fun hHeld => ?_)
    · (try dsimp only)
      exact ⟨XI.out.1, XI.out.2.1, XI.out.2.2.1, XI.out.2.2.2.1, X8.out.2.1⟩
    obtain ⟨u0, hu0⟩ : ∃ u0, (w2.alloc (Obj.cells #[.string s, .slice (some ⟨g, 0, none⟩) cs.length k2, .slice f2 fs.length l2, .int .i64 d] 54)).drew = u0 := ⟨_, rfl⟩
    rw [hu0] at hHeld X8 XI ZR O3 B3 ⊢
    clear hu0 BA
    refine held_take (i := 0) (d := 21) (v := ?_) rfl rfl (by kernel_rfl) (by kernel_rfl) (by kernel_rfl) (fun _ _ _ h => h) (by rfl) ?_ (by assumption) ?_
    rotate_left
    · intro w hSw
      (try dsimp only at hSw)
      go_simp
      try with_reducible rfl
    try simp only [Act.put, List.setIfInBounds_toArray, List.set_cons_zero, List.set_cons_succ]
    refine held_take (i := 1) (d := 22) (v := ?_) rfl rfl (by kernel_rfl) (by kernel_rfl) (by kernel_rfl) (fun _ _ _ h => h) (by rfl) ?_ (by assumption) ?_
    rotate_left
    · intro w hSw
      (try dsimp only at hSw)
      go_simp
      try with_reducible rfl
    try simp only [Act.put, List.setIfInBounds_toArray, List.set_cons_zero, List.set_cons_succ]
    refine held_take (i := 2) (d := 23) (v := ?_) rfl rfl (by kernel_rfl) (by kernel_rfl) (by kernel_rfl) (fun _ _ _ h => h) (by rfl) ?_ (by assumption) ?_
    rotate_left
    · intro w hSw
      (try dsimp only at hSw)
      go_simp
      try with_reducible rfl
    try simp only [Act.put, List.setIfInBounds_toArray, List.set_cons_zero, List.set_cons_succ]
    refine held_take (i := 3) (d := 24) (v := ?_) rfl rfl (by kernel_rfl) (by kernel_rfl) (by kernel_rfl) (fun _ _ _ h => h) (by rfl) ?_ (by assumption) ?_
    rotate_left
    · intro w hSw
      (try dsimp only at hSw)
      go_simp
      try with_reducible rfl
    try simp only [Act.put, List.setIfInBounds_toArray, List.set_cons_zero, List.set_cons_succ]
    refine held_take (i := 5) (d := 26) (v := ?_) rfl rfl (by kernel_rfl) (by kernel_rfl) (by kernel_rfl) (fun _ _ _ h => h) (by rfl) ?_ (by assumption) ?_
    rotate_left
    · intro w hSw
      (try dsimp only at hSw)
      go_simp
      try with_reducible rfl
    try simp only [Act.put, List.setIfInBounds_toArray, List.set_cons_zero, List.set_cons_succ]
    refine wpAnyH_ready (rs := [4]) (by kernel_rfl) (by simp) ?_
    refine AllReadyH.cons rfl (fun K' hK => ?_) AllReadyH.nil
    go_simp
    go_at_call 78
    refine (HFF.out _ (Lib.hid (HI.out.below B3.out))).mono ?_
    rintro e u1 ⟨rfl, b4⟩
    have X9 := Lib.hid (X8.out.on b4)
    have XJ := Lib.hid (XI.out.on b4)
    have ZS := Lib.hid (ZR.out.on b4)
    have O4 := Lib.hid (O3.out.on b4)
    have B4' := Lib.hid (B3.out.trans (b4.mono B3.out.size))
    refine hK.out _ _ ?_ (fun hHeld => ?_)
    · (try dsimp only)
      exact ⟨XJ.out.1, XJ.out.2.1, XJ.out.2.2.1, XJ.out.2.2.2.1, X9.out.2.1⟩
    clear hK K' b4 X8 XI ZR O3 B3
    try simp only [Act.put, List.setIfInBounds_toArray, List.set_cons_zero, List.set_cons_succ]
    refine held_take (i := 6) (d := 27) (v := ?_) rfl rfl (by kernel_rfl) (by kernel_rfl) (by kernel_rfl) (fun _ _ _ h => h) (by rfl) ?_ (by assumption) ?_
    rotate_left
    · intro w hSw
      (try dsimp only at hSw)
      go_simp
      try with_reducible rfl
    try simp only [Act.put, List.setIfInBounds_toArray, List.set_cons_zero, List.set_cons_succ]
    refine held_take (i := 7) (d := 28) (v := ?_) rfl rfl (by kernel_rfl) (by kernel_rfl) (by kernel_rfl) (fun _ _ _ h => h) (by rfl) ?_ (by assumption) ?_
    rotate_left
    · intro w hSw
      (try dsimp only at hSw)
      go_simp
      try with_reducible rfl
    try simp only [Act.put, List.setIfInBounds_toArray, List.set_cons_zero, List.set_cons_succ]
    obtain ⟨vc3, vf3, hv3, oc3, _, _⟩ := O4.out
    simp only [Value.agg.injEq, Array.mk.injEq, List.cons.injEq, and_true, true_and] at hv3
    obtain ⟨rfl, rfl⟩ := hv3
    simp only at oc3
    obtain ⟨u7, c7⟩ := own_cell oc3 (k * 8 + 7) (by omega)
    have f7 := World.ownsRow.frozenAt oc3 (k * 8 + 7)
    have n1 : ¬ g = w.heap.size := by omega
    have n2 : ¬ w2.heap.size = g := by omega
    have n3 : w.heap.size ≠ g := by omega
    have n4 : w.heap.size + 1 ≠ g := by omega
    refine wpAnyH_ready (rs := [8]) (by kernel_rfl) (by simp) ?_
    refine AllReadyH.cons rfl (fun K' hK => ?_) AllReadyH.nil
    go_simp
    have O5 := Lib.hid (O4.out.lim k hk lim)
    have X10 := Lib.hid (X9.out.far (j := k * 8 + 7) n2 (.int .i64 lim))
    have XK := Lib.hid (XJ.out.far (j := k * 8 + 7) n3 (.int .i64 lim))
    have ZR2 := Lib.hid (ZS.out.set (j := k * 8 + 7) n4 (.int .i64 lim))
    have B5 := Lib.hid (B4'.out.setCell (p := ⟨g, k * 8 + 7, none⟩) hgw (.int .i64 lim))
    refine hK.out _ _ ?_ (fun hHeld => ?_)
    · (try dsimp only)
      exact ⟨XK.out.1, XK.out.2.1, XK.out.2.2.1, XK.out.2.2.2.1, X10.out.2.1⟩
    clear hK K'
    obtain ⟨u2, hu2⟩ : ∃ u2, u1.setCell ⟨g, k * 8 + 7, none⟩ (.int .i64 lim) = u2 := ⟨_, rfl⟩
    rw [hu2] at hHeld O5 X10 XK ZR2 B5 ⊢
    clear hu2 oc3 c7 f7 oc2
    refine wpAnyH_done (by kernel_rfl) ?_ _
    have HIV := Lib.hid (cfIf_any _ _ _ (Lib.hid O5.out.cfg) HMS)
    rw [HB.out] at HIV
    obtain ⟨z0, z1, z2, z3, _⟩ := X10.out
    clear hHeld
    cases b
    · obtain rfl : cfg0 = rc := HRC.out
      unfold SaysIf at HIV
      simp only [Bool.false_eq_true, if_false] at HIV
      unfold zV at HIV
      go_wp2_with (go_at_call 87; refine HIV.out.mono ?_; rintro e w4 ⟨rfl, b4⟩; have B4 := Lib.hid b4; clear b4; refine Hid.out ?_)
      refine Lib.hid ?_
      obtain ⟨⟨x0, x1, x2, x3, _⟩, x4⟩ := ZR2.out.on B4.out
      have y0 := x4 0
      have y1 := x4 1
      have y2 := x4 2
      have y3 := x4 3
      clear x4
      go_wp2_with fail
      have F4 := (ZR2.out.on B4.out).four
      obtain ⟨r0, r1, r2, r3⟩ := read4 F4 (.string ⟨#[]⟩) (.slice none 0 0) (.slice none 0 0) (.int .i64 0) _ rfl
      exact bodyPost_ret (v := .tuple #[zV, .bool false]) (by simp [results, Tryz.results42, go_sem, r0, r1, r2, r3, zV]) rfl ⟨_, rfl, own_zV _ _, set4 (B5.out.trans (B4.out.mono B5.out.size)) _ (Nat.le_succ _) _ _ _ _⟩
    · obtain rfl : setL ⟨s, cs, fs, d⟩ k lim = rc := HRC.out
      unfold SaysIf at HIV
      simp only [if_true] at HIV
      skip
      go_wp2_with (go_at_call 87; refine HIV.out.mono ?_; rintro e w4 ⟨rfl, b4⟩; have B4 := Lib.hid b4; clear b4; refine Hid.out ?_)
      refine Lib.hid ?_
      obtain ⟨⟨x0, x1, x2, x3, _⟩, x4⟩ := ZR2.out.on B4.out
      have y0 := x4 0
      have y1 := x4 1
      have y2 := x4 2
      have y3 := x4 3
      clear x4
      go_wp2_with fail
      have F4 := (ZR2.out.on B4.out).four
      obtain ⟨r0, r1, r2, r3⟩ := read4 F4 (.string s) (.slice (some ⟨g, 0, none⟩) cs.length k2) (.slice f2 fs.length l2) (.int .i64 d) _ rfl
      exact bodyPost_ret (v := .tuple #[(.agg #[.string s, .slice (some ⟨g, 0, none⟩) cs.length k2, .slice f2 fs.length l2, .int .i64 d]), .bool true]) (by simp [results, Tryz.results42, go_sem, r0, r1, r2, r3]) rfl ⟨_, rfl, ((O5.out.on B4.out).set4 hz1 _ _ _ _).base (by omega), set4 (B5.out.trans (B4.out.mono B5.out.size)) _ (Nat.le_succ _) _ _ _ _⟩
end Go.Proofs.YtdmcgjohpnojkaaGreatDoor
