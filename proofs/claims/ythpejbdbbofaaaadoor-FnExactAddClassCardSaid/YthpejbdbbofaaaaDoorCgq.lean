/- AddClass, the model's. -/
import Derived.Test.YthpejbdbbofaaaaDoorCgp
namespace Go.Proofs.YthpejbdbbofaaaaDoor
set_option maxRecDepth 100000
open Go.RowKit
set_option linter.unusedVariables false
set_option linter.unusedSimpArgs false

/-- a class added: its parent's limit is 0 then -/
def addL (c : Cfg) (x : Cls) : Cfg := match fnd c.cs x.p with
  | .none => ⟨c.s, putC c.cs x, c.fs, c.d⟩
  | .some i => ⟨c.s, putC (setL c i 0).cs x, c.fs, c.d⟩
theorem addL_none {c : Cfg} {x : Cls} (h : fnd c.cs x.p = Option.none) : addL c x = ⟨c.s, putC c.cs x, c.fs, c.d⟩ := by unfold addL; rw [h]
theorem addL_some {c : Cfg} {x : Cls} {i : Nat} (h : fnd c.cs x.p = Option.some i) : addL c x = ⟨c.s, putC (setL c i 0).cs x, c.fs, c.d⟩ := by unfold addL; rw [h]
theorem addL_M {c : Cfg} (x : Cls) (hn : c.cs.length ≤ 24) (h : CfgM c) : CfgM (addL c x) := by
  obtain ⟨a, _, d⟩ := h
  unfold addL
  split
  · exact ⟨a, by simp only [putC_length]; omega, d⟩
  · exact ⟨a, by simp only [putC_length, setL, List.length_set]; omega, d⟩
def resAddClass2 (c : Cfg) (x : Cls) : Bool := goodC c && goodC (addL c x)
def resAddClass1 (c : Cfg) (x : Cls) : Cfg := if resAddClass2 c x then addL c x else cfg0
theorem ad_no {c : Cfg} {x : Cls} (h : goodC c = false) : resAddClass1 c x = cfg0 ∧ resAddClass2 c x = false := by
  have : resAddClass2 c x = false := by unfold resAddClass2; rw [h]; rfl
  unfold resAddClass1; rw [this]; exact ⟨rfl, rfl⟩
theorem ad_yes {c : Cfg} {x : Cls} (h : goodC c = true) : resAddClass1 c x = (if goodC (addL c x) then addL c x else cfg0) ∧ resAddClass2 c x = goodC (addL c x) := by
  have : resAddClass2 c x = goodC (addL c x) := by unfold resAddClass2; rw [h]; rfl
  unfold resAddClass1; rw [this]; exact ⟨rfl, rfl⟩
theorem lenAddClass (c : Cfg) (x : Cls) (h : CfgM c) : CfgM (resAddClass1 c x) := by
  cases hg : goodC c
  · rw [(ad_no hg).1]; exact ⟨Nat.zero_le _, Nat.zero_le _, Nat.zero_le _⟩
  · rw [(ad_yes hg).1]
    split
    · exact addL_M x (good_of hg).n24 h
    · exact ⟨Nat.zero_le _, Nat.zero_le _, Nat.zero_le _⟩
theorem EightB.farq {w : World} {b : Nat} {x : Cls} (h : EightB w b x) {c : Nat} (o : Nat) (hc : c ≠ b) (v : Value) : EightB (w.setCell ⟨c, o, none⟩ v) b x := by
  obtain ⟨h0, h1, h2, h3, h4, h5, h6, h7⟩ := h
  have q := fun k => World.cell?_setCell_far w ⟨c, o, none⟩ ⟨b, k, none⟩ v hc
  exact ⟨(q _).trans h0, (q _).trans h1, (q _).trans h2, (q _).trans h3, (q _).trans h4, (q _).trans h5, (q _).trans h6, (q _).trans h7⟩
theorem ad_box {w w1 : World} {a0 a1 a2 a3 : Value} {t1 t2 t3 : TypeId} {x : Cls} (b : Below (((w.alloc (.cells #[a0, a1, a2, a3] t1)).alloc (.cells #[.int .i64 x.i, .int .i64 x.p, .int .i64 x.r, .int .i64 x.e, .int .i64 x.b, .int .i64 x.u, .int .i64 x.o, .int .i64 x.l] t2)).alloc (.cells #[.string ⟨#[]⟩, .slice none 0 0, .slice none 0 0, .int .i64 0] t3)).heap.size (((w.alloc (.cells #[a0, a1, a2, a3] t1)).alloc (.cells #[.int .i64 x.i, .int .i64 x.p, .int .i64 x.r, .int .i64 x.e, .int .i64 x.b, .int .i64 x.u, .int .i64 x.o, .int .i64 x.l] t2)).alloc (.cells #[.string ⟨#[]⟩, .slice none 0 0, .slice none 0 0, .int .i64 0] t3)) w1) :
    FourIs w1 w.heap.size a0 a1 a2 a3 ∧ EightB w1 (w.heap.size + 1) x ∧ Zer w1 (w.heap.size + 2) ∧ Below w.heap.size w w1 := by
  have e1 : (w.alloc (.cells #[a0, a1, a2, a3] t1)).heap.size = w.heap.size + 1 := by simp
  have z := zer_new b
  rw [e1] at z
  have x8 := eight_new (w.alloc (.cells #[a0, a1, a2, a3] t1)) x t2
  rw [e1] at x8
  have c2 := (one_new2 ((w.alloc (.cells #[a0, a1, a2, a3] t1)).alloc (.cells #[.int .i64 x.i, .int .i64 x.p, .int .i64 x.r, .int .i64 x.e, .int .i64 x.b, .int .i64 x.u, .int .i64 x.o, .int .i64 x.l] t2)) (.cells #[.string ⟨#[]⟩, .slice none 0 0, .slice none 0 0, .int .i64 0] t3)).trans (b.mono (by simp))
  have c1 := (one_new2 (w.alloc (.cells #[a0, a1, a2, a3] t1)) (.cells #[.int .i64 x.i, .int .i64 x.p, .int .i64 x.r, .int .i64 x.e, .int .i64 x.b, .int .i64 x.u, .int .i64 x.o, .int .i64 x.l] t2)).trans (c2.mono (by simp))
  exact ⟨(box_four c1).1, x8.on c2 (by simp), z, (box_four c1).2⟩
set_option maxHeartbeats 6400000 in
theorem specAddClass_any (v : Value) (c : Cfg) (B : Nat) (x : Cls) (w : World) (HV : Hid (OwnCfg w B v c)) (HM : Hid (CfgM c)) :
    Calls Tryd.prog 38 #[v, clsV x] w (SaysCB w (resAddClass1 c x) (resAddClass2 c x)) := by
  have HGD := Lib.hid (fun w' (b : Below w.heap.size w w') => cfGood_any v c w' (Lib.hid (HV.out.cfg.below b)) HM)
  have HCO := Lib.hid (fun w' (b : Below w.heap.size w w') h1 => cfOwn_any v c B w' (Lib.hid (HV.out.on b)) HM h1)
  obtain ⟨vc, vf, rfl, oc, of, od⟩ := HV.out
  obtain ⟨ac, cc, rfl, ic⟩ := own_in oc
  obtain ⟨af, cf, rfl, _⟩ := own_in of
  clear oc of od ic
  obtain ⟨s, cs, fs, d⟩ := c
  have q1 : cs.length ≤ 1048576 := HM.out.2.1
  simp only at HGD HCO ⊢
  cases hgd : goodC (⟨s, cs, fs, d⟩ : Cfg)
  · obtain ⟨x1, x2⟩ := ad_no (c := (⟨s, cs, fs, d⟩ : Cfg)) (x := x) hgd
    rw [x1, x2]
    rw [hgd] at HGD
    clear x1 x2 hgd HCO HV HM
    obtain ⟨xi, xp, xr, xe, xb, xu, xo, xl⟩ := x
    unfold clsV
    simp only
    go_enter Tryd.func38, Tryd.ntmps38
    go_wp2_with (go_at_call 79; refine (HGD.out _ ((two_new _ _ _).alloc (by simp; omega) _)).mono ?_; rintro e w1 ⟨rfl, b1⟩; have AB := Lib.hid (ad_box (x := ⟨xi, xp, xr, xe, xb, xu, xo, xl⟩) b1); clear b1; refine Hid.out ?_)
    refine Lib.hid ?_
    obtain ⟨⟨x0, x1, x2, x3, _⟩, x4⟩ := AB.out.2.2.1
    have y0 := x4 0
    have y1 := x4 1
    have y2 := x4 2
    have y3 := x4 3
    clear x4
    go_wp2_with fail
    obtain ⟨r0, r1, r2, r3⟩ := read4 AB.out.2.2.1.four (.string ⟨#[]⟩) (.slice none 0 0) (.slice none 0 0) (.int .i64 0) _ rfl
    exact bodyPost_ret (v := .tuple #[zV, .bool false]) (by simp [results, Tryd.results38, go_sem, r0, r1, r2, r3, zV]) rfl ⟨_, rfl, own_zV _ _, set4 AB.out.2.2.2 _ (by omega) _ _ _ _⟩
  · obtain ⟨x1, x2⟩ := ad_yes (c := (⟨s, cs, fs, d⟩ : Cfg)) (x := x) hgd
    have G := good_of hgd
    have n24 : cs.length ≤ 24 := G.n24
    have n1 : 1 ≤ cs.length := G.n1
    have HMS := Lib.hid (addL_M (c := (⟨s, cs, fs, d⟩ : Cfg)) x n24 HM.out)
    rw [x1, x2]
    obtain ⟨b, hb⟩ : ∃ b, goodC (addL (⟨s, cs, fs, d⟩ : Cfg) x) = b := ⟨_, rfl⟩
    rw [hb]
    obtain ⟨rc, hrc⟩ : ∃ rc, (if b = true then addL (⟨s, cs, fs, d⟩ : Cfg) x else cfg0) = rc := ⟨_, rfl⟩
    rw [hrc]
    have HRC := Lib.hid hrc
    have HB := Lib.hid hb
    rw [hgd] at HGD
    have HCO1 := Lib.hid (fun w' b => HCO.out w' b n1)
    obtain ⟨xi, xp, xr, xe, xb, xu, xo, xl⟩ := x
    unfold clsV
    simp only
    have HFF := Lib.hid (fun g f2 k2 l2 w' HI => cfFind_any s (some ⟨g, 0, none⟩) f2 cs.length k2 fs.length l2 d cs xp w' HI (Lib.hid rfl) q1)
    clear x1 x2 hgd HCO HV HM hb hrc G
    go_enter Tryd.func38, Tryd.ntmps38
    go_wp2_with (go_at_call 79; refine (HGD.out _ ((two_new _ _ _).alloc (by simp; omega) _)).mono ?_; rintro e w1 ⟨rfl, b1⟩; have AB := Lib.hid (ad_box (x := ⟨xi, xp, xr, xe, xb, xu, xo, xl⟩) b1); obtain ⟨e0, e1, e2, e3, _⟩ := AB.out.1; clear b1; refine Hid.out ?_)
    refine Lib.hid ?_
    have B1 := Lib.hid AB.out.2.2.2
    have Z1 := Lib.hid AB.out.2.2.1
    have E1 := Lib.hid AB.out.2.1
    have hz1 : w.heap.size + 2 < w1.heap.size := Z1.out.1.2.2.2.2
    clear AB
    go_wp2_with (go_at_call 89; refine (HCO1.out _ B1.out).mono ?_; rintro e w2 ⟨v2, rfl, o2, b2⟩; have O2 := Lib.hid o2; have B2 := Lib.hid b2; obtain ⟨vc2, vf2, rfl, oc2, of2, od2⟩ := o2; obtain ⟨a2, k2, rfl, i2⟩ := own_in oc2; obtain ⟨f2, l2, rfl, _⟩ := own_in of2; obtain ⟨g, rfl, _, hg⟩ := i2 (by simp only; omega); simp only at O2 oc2 of2 od2 hg; have OC2 := Lib.hid oc2; have OF2 := Lib.hid of2; have OD2 := Lib.hid od2; have HII := Lib.hid i2; clear e0 e1 e2 e3 oc2 of2 od2 i2 b2; refine Hid.out ?_)
    refine Lib.hid ?_
    have hgl := (World.ownsRow.lt OC2.out g rfl).1
    have hz2 := B2.out.size
    have hgw : w.heap.size ≤ g := by omega
    have XU : Hid (FourIs (w2.alloc (Obj.cells #[.string s, .slice (some ⟨g, 0, none⟩) cs.length k2, .slice f2 fs.length l2, .int .i64 d] 47)) w2.heap.size (.string s) (.slice (some ⟨g, 0, none⟩) cs.length k2) (.slice f2 fs.length l2) (.int .i64 d)) := Lib.hid (box_four (Below.refl _ _)).1
    have FU : Hid (FroB (w2.alloc (Obj.cells #[.string s, .slice (some ⟨g, 0, none⟩) cs.length k2, .slice f2 fs.length l2, .int .i64 d] 47)) w2.heap.size) := Lib.hid (FroB.new w2 _ _)
    have BU : Hid (Below w.heap.size w (w2.alloc (Obj.cells #[.string s, .slice (some ⟨g, 0, none⟩) cs.length k2, .slice f2 fs.length l2, .int .i64 d] 47))) := Lib.hid ((B1.out.trans (B2.out.mono (by omega))).alloc (by omega) _)
    have ZU : Hid (Zer (w2.alloc (Obj.cells #[.string s, .slice (some ⟨g, 0, none⟩) cs.length k2, .slice f2 fs.length l2, .int .i64 d] 47)) (w.heap.size + 2)) := Lib.hid ((Z1.out.on B2.out).on (one_new2 _ _))
    have EU : Hid (EightB (w2.alloc (Obj.cells #[.string s, .slice (some ⟨g, 0, none⟩) cs.length k2, .slice f2 fs.length l2, .int .i64 d] 47)) (w.heap.size + 1) ⟨xi, xp, xr, xe, xb, xu, xo, xl⟩) := Lib.hid ((E1.out.on2 B2.out (by omega)).on2 (one_new2 _ _) (by omega))
    have OU := Lib.hid (O2.out.on (one_new2 w2 (Obj.cells #[.string s, .slice (some ⟨g, 0, none⟩) cs.length k2, .slice f2 fs.length l2, .int .i64 d] 47)))
    have CU := Lib.hid (own_low OC2.out (one_new2 w2 (Obj.cells #[.string s, .slice (some ⟨g, 0, none⟩) cs.length k2, .slice f2 fs.length l2, .int .i64 d] 47)) (Nat.le_refl _))
    have IU : Hid (InX (w2.alloc (Obj.cells #[.string s, .slice (some ⟨g, 0, none⟩) cs.length k2, .slice f2 fs.length l2, .int .i64 d] 47)) (some ⟨g, 0, none⟩) cs.length (clsCs cs)) := Lib.hid (by obtain ⟨ad, c', e, hi⟩ := own_in CU.out; cases e; exact hi)
    have hs3 : w2.heap.size < (w2.alloc (Obj.cells #[.string s, .slice (some ⟨g, 0, none⟩) cs.length k2, .slice f2 fs.length l2, .int .i64 d] 47)).heap.size := by simp
    obtain ⟨z0, z1, z2, z3, _⟩ := XU.out
    have f1 := FU.out 1
    obtain ⟨c0, c1, c2, c3, c4, c5, c6, c7⟩ := EU.out
    try simp only at c0 c1 c2 c3 c4 c5 c6 c7
    have HFX := Lib.hid (HFF.out g f2 k2 l2)
    clear HFF HII O2 HGD HCO1 E1 Z1
    cases hfn : fnd cs xp with
    | none =>
      have hA := addL_none (c := (⟨s, cs, fs, d⟩ : Cfg)) (x := ⟨xi, xp, xr, xe, xb, xu, xo, xl⟩) hfn
      rw [hA] at HMS HB HRC
      rw [fndI_none hfn] at HFX
      have hLL : Hid (cs.length = cs.length) := Lib.hid rfl
      clear hA hfn
      go_wp2_with (go_at_call 90; refine (HFX.out _ IU).mono ?_; rintro e u1 ⟨rfl, b3⟩; have B4 := Lib.hid (BU.out.trans (b3.mono BU.out.size)); have X4 := Lib.hid (XU.out.on b3); have F4 := Lib.hid (FU.out.on b3 XU.out.2.2.2.2); have Z4 := Lib.hid (ZU.out.on b3); have E4 := Lib.hid (EU.out.on2 b3 (by omega)); have OF4 := Lib.hid (own_low OF2.out ((one_new2 w2 (Obj.cells #[.string s, .slice (some ⟨g, 0, none⟩) cs.length k2, .slice f2 fs.length l2, .int .i64 d] 47)).trans (b3.mono (by simp))) (Nat.le_refl _)); have C4 := Lib.hid (own_low CU.out b3 (Nat.le_refl _)); have hs4 := b3.size; clear b3 z0 z1 z2 z3 c0 c1 c2 c3 c4 c5 c6 c7 f1; obtain ⟨z0, z1, z2, z3, _⟩ := X4.out; have f1 := F4.out 1; obtain ⟨c0, c1, c2, c3, c4, c5, c6, c7⟩ := E4.out; refine Hid.out ?_)
      refine Lib.hid ?_
      try simp only at c0 c1 c2 c3 c4 c5 c6 c7
      have HPT := Lib.hid (cfPut_any _ _ cs ⟨xi, xp, xr, xe, xb, xu, xo, xl⟩ u1 C4 (by omega) n1)
      unfold clsV at HPT
      simp only at HPT
      go_wp2_with (go_at_call 91; refine (HPT.out).mono ?_; rintro e u2 ⟨vr, rfl, orow, b3⟩; have B5 := Lib.hid (B4.out.trans (b3.mono B4.out.size)); have X5 := Lib.hid (X4.out.on b3); have F5 := Lib.hid (F4.out.on b3 X4.out.2.2.2.2); have Z5 := Lib.hid (Z4.out.on b3); have OF5 := Lib.hid (own_low OF4.out b3 (Nat.le_refl _)); have OR5 := Lib.hid orow; have hs5 := b3.size; clear b3 orow z0 z1 z2 z3 f1; obtain ⟨ar, kr, rfl, _⟩ := own_in OR5.out; obtain ⟨z0, z1, z2, z3, _⟩ := X5.out; have f1 := F5.out 1; refine Hid.out ?_)
      refine Lib.hid ?_
      have hf2 : ∀ q, (Value.slice f2 fs.length l2).ownBlock = some q → q < w2.heap.size := fun q hq => (World.ownsRow.lt OF2.out q hq).2
      have hrr : ∀ q, (Value.slice ar (cs.length + 1) kr).ownBlock = some q → w2.heap.size < q := fun q hq => by have := (World.ownsRow.lt OR5.out q hq).1; omega
      have BZ : Hid (Below w.heap.size w (u2.setCell ⟨w2.heap.size, 1, none⟩ (.slice ar (cs.length + 1) kr))) := Lib.hid (B5.out.setCell (p := ⟨w2.heap.size, 1, none⟩) (by show w.heap.size ≤ w2.heap.size; omega) _)
      have XZ := Lib.hid (X5.out.set1 (.slice ar (cs.length + 1) kr))
      have ZZ : Hid (Zer (u2.setCell ⟨w2.heap.size, 1, none⟩ (.slice ar (cs.length + 1) kr)) (w.heap.size + 2)) := Lib.hid (Z5.out.set (by omega) _)
      have OZ : Hid (OwnCfg (u2.setCell ⟨w2.heap.size, 1, none⟩ (.slice ar (cs.length + 1) kr)) w1.heap.size (.agg #[.string s, .slice ar (cs.length + 1) kr, .slice f2 fs.length l2, .int .i64 d]) (⟨s, putC cs ⟨xi, xp, xr, xe, xb, xu, xo, xl⟩, fs, d⟩ : Cfg)) := Lib.hid ⟨_, _, rfl, by
        show World.ownsRow _ _ _ _ _ (putC cs ⟨xi, xp, xr, xe, xb, xu, xo, xl⟩).length (clsCs (putC cs ⟨xi, xp, xr, xe, xb, xu, xo, xl⟩))
        simp only [putC_length, hLL.out]
        exact own_far (own_base OR5.out (by omega)) (fun q hq => by have := hrr q hq; omega) _, own_far OF5.out (fun q hq => by have := hf2 q hq; omega) _, fun q hq hq2 => by have := hrr q hq; have := hf2 q hq2; omega⟩
      have HIX := Lib.hid (cfIf_any _ _ _ (Lib.hid OZ.out.cfg) HMS)
      rw [HB.out] at HIX
      cases b
      · obtain rfl : cfg0 = rc := HRC.out
        unfold SaysIf at HIX
        simp only [Bool.false_eq_true, if_false] at HIX
        unfold zV at HIX
        obtain ⟨t0, t1, t2, t3, _⟩ := XZ.out
        go_wp2_with (go_at_call 92; refine HIX.out.mono ?_; rintro e wv ⟨rfl, bv⟩; have BV := Lib.hid bv; clear bv; refine Hid.out ?_)
        refine Lib.hid ?_
        clear z0 z1 z2 z3 t0 t1 t2 t3
        obtain ⟨⟨x0, x1, x2, x3, _⟩, x4⟩ := ZZ.out.on BV.out
        have y0 := x4 0
        have y1 := x4 1
        have y2 := x4 2
        have y3 := x4 3
        clear x4
        go_wp2_with fail
        have F9 := (ZZ.out.on BV.out).four
        obtain ⟨r0, r1, r2, r3⟩ := read4 F9 (.string ⟨#[]⟩) (.slice none 0 0) (.slice none 0 0) (.int .i64 0) _ rfl
        exact bodyPost_ret (v := .tuple #[zV, .bool false]) (by simp [results, Tryd.results38, go_sem, r0, r1, r2, r3, zV]) rfl ⟨_, rfl, own_zV _ _, set4 (BZ.out.trans (BV.out.mono BZ.out.size)) _ (by omega) _ _ _ _⟩
      · obtain rfl : (⟨s, putC cs ⟨xi, xp, xr, xe, xb, xu, xo, xl⟩, fs, d⟩ : Cfg) = rc := HRC.out
        unfold SaysIf at HIX
        simp only [if_true] at HIX
        skip
        obtain ⟨t0, t1, t2, t3, _⟩ := XZ.out
        go_wp2_with (go_at_call 92; refine HIX.out.mono ?_; rintro e wv ⟨rfl, bv⟩; have BV := Lib.hid bv; clear bv; refine Hid.out ?_)
        refine Lib.hid ?_
        clear z0 z1 z2 z3 t0 t1 t2 t3
        obtain ⟨⟨x0, x1, x2, x3, _⟩, x4⟩ := ZZ.out.on BV.out
        have y0 := x4 0
        have y1 := x4 1
        have y2 := x4 2
        have y3 := x4 3
        clear x4
        go_wp2_with fail
        have F9 := (ZZ.out.on BV.out).four
        obtain ⟨r0, r1, r2, r3⟩ := read4 F9 (.string s) (.slice ar (cs.length + 1) kr) (.slice f2 fs.length l2) (.int .i64 d) _ rfl
        exact bodyPost_ret (v := .tuple #[(.agg #[.string s, .slice ar (cs.length + 1) kr, .slice f2 fs.length l2, .int .i64 d]), .bool true]) (by simp [results, Tryd.results38, go_sem, r0, r1, r2, r3]) rfl ⟨_, rfl, ((OZ.out.on BV.out).set4 (by omega) _ _ _ _).base (by omega), set4 (BZ.out.trans (BV.out.mono BZ.out.size)) _ (by omega) _ _ _ _⟩
    | some i =>
      have hi : i < cs.length := (fnd_get _ _ _ hfn).1
      have hA := addL_some (c := (⟨s, cs, fs, d⟩ : Cfg)) (x := ⟨xi, xp, xr, xe, xb, xu, xo, xl⟩) hfn
      rw [hA] at HMS HB HRC
      rw [fndI_some hfn] at HFX
      obtain ⟨ds, hds⟩ : ∃ ds, (setL (⟨s, cs, fs, d⟩ : Cfg) i 0).cs = ds := ⟨_, rfl⟩
      have hLL : Hid (ds.length = cs.length) := Lib.hid (by rw [← hds]; simp [setL])
      rw [hds] at HMS HB HRC
      have hDS : Hid (clsCs ds = (clsCs cs).set (i * 8 + 7) (.int .i64 0)) := Lib.hid (by rw [clsCs_set cs i 0 hi, ← hds]; rfl)
      clear hA hfn hds
      go_wp2_with (go_at_call 90; refine (HFX.out _ IU).mono ?_; rintro e u1 ⟨rfl, b3⟩; have B4 := Lib.hid (BU.out.trans (b3.mono BU.out.size)); have X4 := Lib.hid (XU.out.on b3); have F4 := Lib.hid (FU.out.on b3 XU.out.2.2.2.2); have Z4 := Lib.hid (ZU.out.on b3); have E4 := Lib.hid (EU.out.on2 b3 (by omega)); have OF4 := Lib.hid (own_low OF2.out ((one_new2 w2 (Obj.cells #[.string s, .slice (some ⟨g, 0, none⟩) cs.length k2, .slice f2 fs.length l2, .int .i64 d] 47)).trans (b3.mono (by simp))) (Nat.le_refl _)); have C4 := Lib.hid (own_low CU.out b3 (Nat.le_refl _)); have hs4 := b3.size; clear b3 z0 z1 z2 z3 c0 c1 c2 c3 c4 c5 c6 c7 f1; obtain ⟨z0, z1, z2, z3, _⟩ := X4.out; have f1 := F4.out 1; obtain ⟨c0, c1, c2, c3, c4, c5, c6, c7⟩ := E4.out; refine Hid.out ?_)
      refine Lib.hid ?_
      try simp only at c0 c1 c2 c3 c4 c5 c6 c7
      obtain ⟨u7, c7s⟩ := own_cell C4.out (i * 8 + 7) (by omega)
      have f7 := World.ownsRow.frozenAt C4.out (i * 8 + 7)
      have n5 : ¬ w2.heap.size = g := by omega
      have n6 : ¬ g = w2.heap.size := by omega
      have n7 : ¬ g = w.heap.size + 1 := by omega
      have n8 : ¬ w.heap.size + 1 = g := by omega
      have B4s : Hid (Below w.heap.size w (u1.setCell ⟨g, i * 8 + 7, none⟩ (.int .i64 0))) := Lib.hid (B4.out.setCell (p := ⟨g, i * 8 + 7, none⟩) hgw _)
      have X4s := Lib.hid (X4.out.far (g := g) (j := i * 8 + 7) (by omega) (.int .i64 0))
      have F4s : Hid (FroB (u1.setCell ⟨g, i * 8 + 7, none⟩ (.int .i64 0)) w2.heap.size) := Lib.hid (F4.out.set _ _)
      have Z4s : Hid (Zer (u1.setCell ⟨g, i * 8 + 7, none⟩ (.int .i64 0)) (w.heap.size + 2)) := Lib.hid (Z4.out.set (by omega) _)
      have E4s : Hid (EightB (u1.setCell ⟨g, i * 8 + 7, none⟩ (.int .i64 0)) (w.heap.size + 1) ⟨xi, xp, xr, xe, xb, xu, xo, xl⟩) := Lib.hid (E4.out.farq (i * 8 + 7) n7 _)
      have OF4s : Hid ((u1.setCell ⟨g, i * 8 + 7, none⟩ (.int .i64 0)).ownsRow w1.heap.size 77 5 (.slice f2 fs.length l2) fs.length (fltCs fs)) := Lib.hid (own_far OF4.out (fun q hq e => OD2.out g rfl (by rw [hq, e])) _)
      have C4s : Hid ((u1.setCell ⟨g, i * 8 + 7, none⟩ (.int .i64 0)).ownsRow w1.heap.size 62 8 (.slice (some ⟨g, 0, none⟩) cs.length k2) ds.length (clsCs ds)) := Lib.hid (by rw [hLL.out, hDS.out]; exact own_store C4.out _ _)
      obtain ⟨v0, v1, v2, v3, _⟩ := X4s.out
      have v4 := F4s.out 1
      obtain ⟨d0, d1, d2, d3, d4, d5, d6, d7⟩ := E4s.out
      try simp only at d0 d1 d2 d3 d4 d5 d6 d7
      have hs4s : u1.heap.size ≤ (u1.setCell ⟨g, i * 8 + 7, none⟩ (.int .i64 0)).heap.size := by rw [Go.Deep.nblk_setCell]; exact Nat.le_refl _
      have HPT := Lib.hid (cfPut_any _ _ ds ⟨xi, xp, xr, xe, xb, xu, xo, xl⟩ (u1.setCell ⟨g, i * 8 + 7, none⟩ (.int .i64 0)) C4s (by rw [hLL.out]; omega) (by rw [hLL.out]; exact n1))
      unfold clsV at HPT
      simp only at HPT
      rw [hLL.out] at HPT
      go_wp2_with (go_at_call 91; refine (HPT.out).mono ?_; rintro e u2 ⟨vr, rfl, orow, b3⟩; have B5 := Lib.hid (B4s.out.trans (b3.mono B4s.out.size)); have X5 := Lib.hid (X4s.out.on b3); have F5 := Lib.hid (F4s.out.on b3 X4s.out.2.2.2.2); have Z5 := Lib.hid (Z4s.out.on b3); have OF5 := Lib.hid (own_low OF4s.out b3 (Nat.le_refl _)); have OR5 := Lib.hid orow; have hs5 := b3.size; clear b3 orow z0 z1 z2 z3 f1 v0 v1 v2 v3 v4; obtain ⟨ar, kr, rfl, _⟩ := own_in OR5.out; obtain ⟨z0, z1, z2, z3, _⟩ := X5.out; have f1 := F5.out 1; refine Hid.out ?_)
      refine Lib.hid ?_
      have hf2 : ∀ q, (Value.slice f2 fs.length l2).ownBlock = some q → q < w2.heap.size := fun q hq => (World.ownsRow.lt OF2.out q hq).2
      have hrr : ∀ q, (Value.slice ar (cs.length + 1) kr).ownBlock = some q → w2.heap.size < q := fun q hq => by have := (World.ownsRow.lt OR5.out q hq).1; omega
      have BZ : Hid (Below w.heap.size w (u2.setCell ⟨w2.heap.size, 1, none⟩ (.slice ar (cs.length + 1) kr))) := Lib.hid (B5.out.setCell (p := ⟨w2.heap.size, 1, none⟩) (by show w.heap.size ≤ w2.heap.size; omega) _)
      have XZ := Lib.hid (X5.out.set1 (.slice ar (cs.length + 1) kr))
      have ZZ : Hid (Zer (u2.setCell ⟨w2.heap.size, 1, none⟩ (.slice ar (cs.length + 1) kr)) (w.heap.size + 2)) := Lib.hid (Z5.out.set (by omega) _)
      have OZ : Hid (OwnCfg (u2.setCell ⟨w2.heap.size, 1, none⟩ (.slice ar (cs.length + 1) kr)) w1.heap.size (.agg #[.string s, .slice ar (cs.length + 1) kr, .slice f2 fs.length l2, .int .i64 d]) (⟨s, putC ds ⟨xi, xp, xr, xe, xb, xu, xo, xl⟩, fs, d⟩ : Cfg)) := Lib.hid ⟨_, _, rfl, by
        show World.ownsRow _ _ _ _ _ (putC ds ⟨xi, xp, xr, xe, xb, xu, xo, xl⟩).length (clsCs (putC ds ⟨xi, xp, xr, xe, xb, xu, xo, xl⟩))
        simp only [putC_length, hLL.out]
        exact own_far (own_base OR5.out (by omega)) (fun q hq => by have := hrr q hq; omega) _, own_far OF5.out (fun q hq => by have := hf2 q hq; omega) _, fun q hq hq2 => by have := hrr q hq; have := hf2 q hq2; omega⟩
      have HIX := Lib.hid (cfIf_any _ _ _ (Lib.hid OZ.out.cfg) HMS)
      rw [HB.out] at HIX
      cases b
      · obtain rfl : cfg0 = rc := HRC.out
        unfold SaysIf at HIX
        simp only [Bool.false_eq_true, if_false] at HIX
        unfold zV at HIX
        obtain ⟨t0, t1, t2, t3, _⟩ := XZ.out
        go_wp2_with (go_at_call 92; refine HIX.out.mono ?_; rintro e wv ⟨rfl, bv⟩; have BV := Lib.hid bv; clear bv; refine Hid.out ?_)
        refine Lib.hid ?_
        clear z0 z1 z2 z3 t0 t1 t2 t3
        obtain ⟨⟨x0, x1, x2, x3, _⟩, x4⟩ := ZZ.out.on BV.out
        have y0 := x4 0
        have y1 := x4 1
        have y2 := x4 2
        have y3 := x4 3
        clear x4
        go_wp2_with fail
        have F9 := (ZZ.out.on BV.out).four
        obtain ⟨r0, r1, r2, r3⟩ := read4 F9 (.string ⟨#[]⟩) (.slice none 0 0) (.slice none 0 0) (.int .i64 0) _ rfl
        exact bodyPost_ret (v := .tuple #[zV, .bool false]) (by simp [results, Tryd.results38, go_sem, r0, r1, r2, r3, zV]) rfl ⟨_, rfl, own_zV _ _, set4 (BZ.out.trans (BV.out.mono BZ.out.size)) _ (by omega) _ _ _ _⟩
      · obtain rfl : (⟨s, putC ds ⟨xi, xp, xr, xe, xb, xu, xo, xl⟩, fs, d⟩ : Cfg) = rc := HRC.out
        unfold SaysIf at HIX
        simp only [if_true] at HIX
        skip
        obtain ⟨t0, t1, t2, t3, _⟩ := XZ.out
        go_wp2_with (go_at_call 92; refine HIX.out.mono ?_; rintro e wv ⟨rfl, bv⟩; have BV := Lib.hid bv; clear bv; refine Hid.out ?_)
        refine Lib.hid ?_
        clear z0 z1 z2 z3 t0 t1 t2 t3
        obtain ⟨⟨x0, x1, x2, x3, _⟩, x4⟩ := ZZ.out.on BV.out
        have y0 := x4 0
        have y1 := x4 1
        have y2 := x4 2
        have y3 := x4 3
        clear x4
        go_wp2_with fail
        have F9 := (ZZ.out.on BV.out).four
        obtain ⟨r0, r1, r2, r3⟩ := read4 F9 (.string s) (.slice ar (cs.length + 1) kr) (.slice f2 fs.length l2) (.int .i64 d) _ rfl
        exact bodyPost_ret (v := .tuple #[(.agg #[.string s, .slice ar (cs.length + 1) kr, .slice f2 fs.length l2, .int .i64 d]), .bool true]) (by simp [results, Tryd.results38, go_sem, r0, r1, r2, r3]) rfl ⟨_, rfl, ((OZ.out.on BV.out).set4 (by omega) _ _ _ _).base (by omega), set4 (BZ.out.trans (BV.out.mono BZ.out.size)) _ (by omega) _ _ _ _⟩
end Go.Proofs.YthpejbdbbofaaaaDoor
