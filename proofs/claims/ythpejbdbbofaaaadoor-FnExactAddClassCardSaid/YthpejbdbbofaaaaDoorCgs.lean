/- AddClass, the program's. -/
import Derived.Test.YthpejbdbbofaaaaDoorCgq
import Derived.Test.YthpejbdbbofaaaaDoorCgr
import Derived.Test.YthpejbdbbofaaaaDoorCgh
namespace Go.Proofs.YthpejbdbbofaaaaDoor
set_option maxRecDepth 100000
open Go.RowKit
set_option linter.unusedVariables false
set_option linter.unusedSimpArgs false

theorem plc_putK : ∀ (cs : List Cls) (id : Int), plc cs id = putK cs id
  | [], _ => rfl
  | x :: r, id => by unfold plc putK; rw [plc_putK r id]
theorem setL_inc {c : Cfg} (h : IncC c.cs) (i : Nat) (lim : Int) : IncC (setL c i lim).cs := by
  have e : ∀ j, ((c.cs.set i { c.cs.getD i cls0 with l := lim }).getD j cls0).i = (c.cs.getD j cls0).i := fun j => by
    simp only [List.getD_eq_getElem?_getD, List.getElem?_set]
    by_cases hij : i = j
    · subst hij
      by_cases hl : i < c.cs.length
      · simp [hl]
      · simp [hl]
    · simp [hij]
  intro j k hjk hk
  show ((c.cs.set i { c.cs.getD i cls0 with l := lim }).getD j cls0).i < ((c.cs.set i { c.cs.getD i cls0 with l := lim }).getD k cls0).i
  rw [e j, e k]
  exact h j k hjk (by simpa [setL] using hk)
set_option maxHeartbeats 6400000 in
theorem implAddClass_any (v : Value) (c : Cfg) (B : Nat) (x : Cls) (w : World) (HK : Hid (Kwt w)) (HV : Hid (OwnCfg w B v c)) (HM : Hid (CfgM c)) :
    Calls Tryd.prog 41 #[v, clsV x] w (SaysCB w (resAddClass1 c x) (resAddClass2 c x)) := by
  have HGD := Lib.hid (fun w' (b : Below w.heap.size w w') => implIsConfig_any v c w' (Lib.hid (HK.out.below b)) (Lib.hid (HV.out.cfg.below b)) HM)
  have HCO := Lib.hid (fun w' (b : Below w.heap.size w w') h1 => copyOf_any v c B w' (Lib.hid (HV.out.on b)) HM h1)
  obtain ⟨vc, vf, rfl, oc, of, od⟩ := HV.out
  obtain ⟨ac, cc, rfl, ic⟩ := own_in oc
  obtain ⟨af, cf, rfl, _⟩ := own_in of
  clear oc of od ic
  obtain ⟨s, cs, fs, d⟩ := c
  have q1 : cs.length ≤ 1048576 := HM.out.2.1
  simp only at HGD HCO ⊢
  cases hgd : goodC (⟨s, cs, fs, d⟩ : Cfg)
  · obtain ⟨x1, x2⟩ := ad_no (c := (⟨s, cs, fs, d⟩ : Cfg)) (x := x) hgd
    rw [x1, x2]
    rw [hgd] at HGD
    clear x1 x2 hgd HCO HV HM
    obtain ⟨xi, xp, xr, xe, xb, xu, xo, xl⟩ := x
    unfold clsV
    simp only
    go_enter Tryd.func41, Tryd.ntmps41
    go_wp2_with (go_at_call 77; refine (HGD.out _ ((two_new _ _ _).alloc (by simp; omega) _)).mono ?_; rintro e w1 ⟨rfl, b1⟩; have AB := Lib.hid (ad_box (x := ⟨xi, xp, xr, xe, xb, xu, xo, xl⟩) b1); clear b1; refine Hid.out ?_)
    refine Lib.hid ?_
    obtain ⟨⟨x0, x1, x2, x3, _⟩, x4⟩ := AB.out.2.2.1
    have y0 := x4 0
    have y1 := x4 1
    have y2 := x4 2
    have y3 := x4 3
    clear x4
    go_wp2_with fail
    obtain ⟨r0, r1, r2, r3⟩ := read4 AB.out.2.2.1.four (.string ⟨#[]⟩) (.slice none 0 0) (.slice none 0 0) (.int .i64 0) _ rfl
    exact bodyPost_ret (v := .tuple #[zV, .bool false]) (by simp [results, Tryd.results41, go_sem, r0, r1, r2, r3, zV]) rfl ⟨_, rfl, own_zV _ _, set4 AB.out.2.2.2 _ (by omega) _ _ _ _⟩
  · obtain ⟨x1, x2⟩ := ad_yes (c := (⟨s, cs, fs, d⟩ : Cfg)) (x := x) hgd
    have G := good_of hgd
    have n24 : cs.length ≤ 24 := G.n24
    have n1 : 1 ≤ cs.length := G.n1
    have HMS := Lib.hid (addL_M (c := (⟨s, cs, fs, d⟩ : Cfg)) x n24 HM.out)
    rw [x1, x2]
    obtain ⟨b, hb⟩ : ∃ b, goodC (addL (⟨s, cs, fs, d⟩ : Cfg) x) = b := ⟨_, rfl⟩
    rw [hb]
    obtain ⟨rc, hrc⟩ : ∃ rc, (if b = true then addL (⟨s, cs, fs, d⟩ : Cfg) x else cfg0) = rc := ⟨_, rfl⟩
    rw [hrc]
    have HRC := Lib.hid hrc
    have HB := Lib.hid hb
    rw [hgd] at HGD
    have HCO1 := Lib.hid (fun w' b => HCO.out w' b n1)
    obtain ⟨xi, xp, xr, xe, xb, xu, xo, xl⟩ := x
    unfold clsV
    simp only
    have HINC : Hid (IncC cs) := Lib.hid (okL_inc cs 0 G.ok)
    have HPL := Lib.hid (fun g k2 cs' id w' HI h hi => placeOf_any (some ⟨g, 0, none⟩) cs.length k2 cs' id w' HI h q1 hi)
    clear x1 x2 hgd HCO HV HM hb hrc G
    go_enter Tryd.func41, Tryd.ntmps41
    go_wp2_with (go_at_call 77; refine (HGD.out _ ((two_new _ _ _).alloc (by simp; omega) _)).mono ?_; rintro e w1 ⟨rfl, b1⟩; have AB := Lib.hid (ad_box (x := ⟨xi, xp, xr, xe, xb, xu, xo, xl⟩) b1); obtain ⟨e0, e1, e2, e3, _⟩ := AB.out.1; clear b1; refine Hid.out ?_)
    refine Lib.hid ?_
    have B1 := Lib.hid AB.out.2.2.2
    have Z1 := Lib.hid AB.out.2.2.1
    have E1 := Lib.hid AB.out.2.1
    have hz1 : w.heap.size + 2 < w1.heap.size := Z1.out.1.2.2.2.2
    clear AB
    go_wp2_with (go_at_call 95; refine (HCO1.out _ B1.out).mono ?_; rintro e w2 ⟨v2, rfl, o2, b2⟩; have O2 := Lib.hid o2; have B2 := Lib.hid b2; obtain ⟨vc2, vf2, rfl, oc2, of2, od2⟩ := o2; obtain ⟨a2, k2, rfl, i2⟩ := own_in oc2; obtain ⟨f2, l2, rfl, _⟩ := own_in of2; obtain ⟨g, rfl, _, hg⟩ := i2 (by simp only; omega); simp only at O2 oc2 of2 od2 hg; have OC2 := Lib.hid oc2; have OF2 := Lib.hid of2; have OD2 := Lib.hid od2; have HII := Lib.hid i2; clear e0 e1 e2 e3 oc2 of2 od2 i2 b2; refine Hid.out ?_)
    refine Lib.hid ?_
    have hgl := (World.ownsRow.lt OC2.out g rfl).1
    have hz2 := B2.out.size
    have hgw : w.heap.size ≤ g := by omega
    have XU : Hid (FourIs (w2.alloc (Obj.cells #[.string s, .slice (some ⟨g, 0, none⟩) cs.length k2, .slice f2 fs.length l2, .int .i64 d] 47)) w2.heap.size (.string s) (.slice (some ⟨g, 0, none⟩) cs.length k2) (.slice f2 fs.length l2) (.int .i64 d)) := Lib.hid (box_four (Below.refl _ _)).1
    have FU : Hid (FroB (w2.alloc (Obj.cells #[.string s, .slice (some ⟨g, 0, none⟩) cs.length k2, .slice f2 fs.length l2, .int .i64 d] 47)) w2.heap.size) := Lib.hid (FroB.new w2 _ _)
    have BU : Hid (Below w.heap.size w (w2.alloc (Obj.cells #[.string s, .slice (some ⟨g, 0, none⟩) cs.length k2, .slice f2 fs.length l2, .int .i64 d] 47))) := Lib.hid ((B1.out.trans (B2.out.mono (by omega))).alloc (by omega) _)
    have ZU : Hid (Zer (w2.alloc (Obj.cells #[.string s, .slice (some ⟨g, 0, none⟩) cs.length k2, .slice f2 fs.length l2, .int .i64 d] 47)) (w.heap.size + 2)) := Lib.hid ((Z1.out.on B2.out).on (one_new2 _ _))
    have EU : Hid (EightB (w2.alloc (Obj.cells #[.string s, .slice (some ⟨g, 0, none⟩) cs.length k2, .slice f2 fs.length l2, .int .i64 d] 47)) (w.heap.size + 1) ⟨xi, xp, xr, xe, xb, xu, xo, xl⟩) := Lib.hid ((E1.out.on2 B2.out (by omega)).on2 (one_new2 _ _) (by omega))
    have OU := Lib.hid (O2.out.on (one_new2 w2 (Obj.cells #[.string s, .slice (some ⟨g, 0, none⟩) cs.length k2, .slice f2 fs.length l2, .int .i64 d] 47)))
    have CU := Lib.hid (own_low OC2.out (one_new2 w2 (Obj.cells #[.string s, .slice (some ⟨g, 0, none⟩) cs.length k2, .slice f2 fs.length l2, .int .i64 d] 47)) (Nat.le_refl _))
    have IU : Hid (InX (w2.alloc (Obj.cells #[.string s, .slice (some ⟨g, 0, none⟩) cs.length k2, .slice f2 fs.length l2, .int .i64 d] 47)) (some ⟨g, 0, none⟩) cs.length (clsCs cs)) := Lib.hid (by obtain ⟨ad, c', e, hi⟩ := own_in CU.out; cases e; exact hi)
    have hs3 : w2.heap.size < (w2.alloc (Obj.cells #[.string s, .slice (some ⟨g, 0, none⟩) cs.length k2, .slice f2 fs.length l2, .int .i64 d] 47)).heap.size := by simp
    obtain ⟨z0, z1, z2, z3, _⟩ := XU.out
    have f1 := FU.out 1
    obtain ⟨c0, c1, c2, c3, c4, c5, c6, c7⟩ := EU.out
    try simp only at c0 c1 c2 c3 c4 c5 c6 c7
    have HBC : Hid ((w2.alloc (Obj.cells #[.string s, .slice (some ⟨g, 0, none⟩) cs.length k2, .slice f2 fs.length l2, .int .i64 d] 47)).heap[w2.heap.size]? = some (Obj.cells #[.string s, .slice (some ⟨g, 0, none⟩) cs.length k2, .slice f2 fs.length l2, .int .i64 d] 47)) := Lib.hid (heap_alloc_new w2 _)
    clear HII O2 HGD HCO1 E1 Z1
    have OFU := Lib.hid (own_low OF2.out (one_new2 w2 (Obj.cells #[.string s, .slice (some ⟨g, 0, none⟩) cs.length k2, .slice f2 fs.length l2, .int .i64 d] 47)) (Nat.le_refl _))
    have HBU := HBC
    have HP1 := Lib.hid (HPL.out g k2 cs xp _ IU (Lib.hid rfl) HINC)
    cases hfn : fnd cs xp with
    | none =>
      have hA := addL_none (c := (⟨s, cs, fs, d⟩ : Cfg)) (x := ⟨xi, xp, xr, xe, xb, xu, xo, xl⟩) hfn
      rw [hA] at HMS HB HRC
      rw [plc_of_none HINC.out hfn] at HP1
      obtain ⟨ds, hds⟩ : ∃ ds, cs = ds := ⟨_, rfl⟩
      have hLL : Hid (ds.length = cs.length) := Lib.hid (by rw [hds])
      have HINC2 : Hid (IncC ds) := Lib.hid (by rw [← hds]; exact HINC.out)
      rw [hds] at HMS HB HRC
      have HDS := Lib.hid hds
      clear hA hfn hds
      go_wp2_with (go_at_call 71; refine (HP1.out).mono ?_; rintro e u1 ⟨rfl, b3⟩; have B4 := Lib.hid (BU.out.trans (b3.mono BU.out.size)); have X4 := Lib.hid (XU.out.on b3); have F4 := Lib.hid (FU.out.on b3 XU.out.2.2.2.2); have Z4 := Lib.hid (ZU.out.on b3); have E4 := Lib.hid (EU.out.on2 b3 (by omega)); have OF4 := Lib.hid (own_low OFU.out b3 (Nat.le_refl _)); have C4 := Lib.hid (own_low CU.out b3 (Nat.le_refl _)); have HB4 := Lib.hid ((b3.block w2.heap.size (by omega)).trans HBU.out); have hs4 := b3.size; clear b3 z0 z1 z2 z3 c0 c1 c2 c3 c4 c5 c6 c7 f1; obtain ⟨z0, z1, z2, z3, _⟩ := X4.out; have f1 := F4.out 1; obtain ⟨c0, c1, c2, c3, c4, c5, c6, c7⟩ := E4.out; refine Hid.out ?_)
      refine Lib.hid ?_
      try simp only at c0 c1 c2 c3 c4 c5 c6 c7
      have CT : Hid (u1.ownsRow w1.heap.size 62 8 (.slice (some ⟨g, 0, none⟩) cs.length k2) ds.length (clsCs ds)) := Lib.hid (by rw [← HDS.out]; exact C4.out)
      clear C4 HDS
      have C4 := CT
      have IX : Hid (InX u1 (some ⟨g, 0, none⟩) cs.length (clsCs ds)) := Lib.hid (by
        have q := C4.out
        rw [hLL.out] at q
        obtain ⟨ad, c', e, hi⟩ := own_in q
        cases e
        exact hi)
      have HP2 := Lib.hid (HPL.out g k2 ds xi _ IX hLL HINC2)
      go_wp2_with (go_at_call 71; refine (HP2.out).mono ?_; rintro e u5 ⟨rfl, b3⟩; have B5 := Lib.hid (B4.out.trans (b3.mono B4.out.size)); have X5 := Lib.hid (X4.out.on b3); have F5 := Lib.hid (F4.out.on b3 X4.out.2.2.2.2); have Z5 := Lib.hid (Z4.out.on b3); have E5 := Lib.hid (E4.out.on2 b3 (by omega)); have OF5 := Lib.hid (own_low OF4.out b3 (Nat.le_refl _)); have C5 := Lib.hid (own_low C4.out b3 (Nat.le_refl _)); have HB5 := Lib.hid ((b3.block w2.heap.size (by omega)).trans HB4.out); have hs5 := b3.size; clear b3 z0 z1 z2 z3 f1 c0 c1 c2 c3 c4 c5 c6 c7; obtain ⟨z0, z1, z2, z3, _⟩ := X5.out; have f1 := F5.out 1; obtain ⟨c0, c1, c2, c3, c4, c5, c6, c7⟩ := E5.out; refine Hid.out ?_)
      refine Lib.hid ?_
      try simp only at c0 c1 c2 c3 c4 c5 c6 c7
      go_wp2_with fail
      obtain ⟨ux, hux⟩ : ∃ ux, u5.alloc (Obj.cells #[.int .i64 xi, .int .i64 xp, .int .i64 xr, .int .i64 xe, .int .i64 xb, .int .i64 xu, .int .i64 xo, .int .i64 xl] 62) = ux := ⟨_, rfl⟩
      rw [hux]
      have bx : Below u5.heap.size u5 ux := by rw [← hux]; exact one_new2 _ _
      have HCA : Hid (ClsAt ux u5.heap.size ⟨xi, xp, xr, xe, xb, xu, xo, xl⟩) := Lib.hid (by rw [← hux]; exact heap_alloc_new u5 _)
      have hgu : g < u5.heap.size := (World.ownsRow.lt C5.out g rfl).2
      have hsx := bx.size
      have CX := Lib.hid (own_low C5.out bx (Nat.le_refl _))
      have OFX := Lib.hid (own_low OF5.out bx (Nat.le_refl _))
      have XX := Lib.hid (X5.out.on bx)
      have FX := Lib.hid (F5.out.on bx X5.out.2.2.2.2)
      have ZX := Lib.hid (Z5.out.on bx)
      have HBX := Lib.hid ((bx.block w2.heap.size (by omega)).trans HB5.out)
      have BX := Lib.hid (B5.out.trans (bx.mono B5.out.size))
      have hpk : plc ds xi = putK ds xi := plc_putK _ _
      have hpl : plc ds xi ≤ cs.length := by rw [hpk, ← hLL.out]; exact putK_le _ _
      have HINS : Hid (Calls Tryd.prog 96 #[.slice (some ⟨g, 0, none⟩) cs.length k2, .int .i64 (plc ds xi), .slice (some ⟨u5.heap.size, 0, none⟩) 1 1] ux (SaysIns ux w1.heap.size g cs.length (plc ds xi) (clsCs ds) ⟨xi, xp, xr, xe, xb, xu, xo, xl⟩)) := Lib.hid (insert_any w1.heap.size g cs.length k2 (plc ds xi) u5.heap.size (clsCs ds) ⟨xi, xp, xr, xe, xb, xu, xo, xl⟩ ux (Lib.hid (by have q := CX.out; rw [hLL.out] at q; exact q)) (Lib.hid (clsCs_one ds)) HCA (by omega) (by omega) q1 n1 hpl)
      clear hux bx IX HP2
      go_wp2_with (go_at_call 96; refine (HINS.out).mono ?_; rintro e u6 ⟨gn, kn, rfl, orow, b3, hsame⟩; have OR6 := Lib.hid orow; have BI := Lib.hid b3; have HSM := Lib.hid hsame; have X6 := Lib.hid (XX.out.same (hsame w2.heap.size (by omega) (by omega)) b3.size); have F6 := Lib.hid (FX.out.same (hsame w2.heap.size (by omega) (by omega))); clear orow b3 hsame z0 z1 z2 z3 f1 c0 c1 c2 c3 c4 c5 c6 c7; obtain ⟨z0, z1, z2, z3, _⟩ := X6.out; have f1 := F6.out 1; refine Hid.out ?_)
      refine Lib.hid ?_
      have B6 := Lib.hid (BX.out.trans (BI.out.mono (by omega)))
      have Z6 := Lib.hid (ZX.out.same (HSM.out (w.heap.size + 2) (by omega) (by omega)) BI.out.size)
      have HB6 : u6.heap[w2.heap.size]? = some (Obj.cells #[.string s, .slice (some ⟨g, 0, none⟩) cs.length k2, .slice f2 fs.length l2, .int .i64 d] 47) := (HSM.out w2.heap.size (by omega) (by omega)).trans HBX.out
      have OF6 : Hid (u6.ownsRow w1.heap.size 77 5 (.slice f2 fs.length l2) fs.length (fltCs fs)) := Lib.hid (own_heap OFX.out (fun q hq => HSM.out q (by have := (World.ownsRow.lt OFX.out q hq).2; omega) (fun e => OD2.out g rfl (by rw [hq, e]))))
      have OR7 : Hid (u6.ownsRow w1.heap.size 62 8 (.slice (some ⟨gn, 0, none⟩) (cs.length + 1) kn) (cs.length + 1) (clsCs (putC ds ⟨xi, xp, xr, xe, xb, xu, xo, xl⟩))) := Lib.hid (by
        have q := OR6.out
        have e : (clsCs ds).take (putK ds xi * 8) ++ clsC ⟨xi, xp, xr, xe, xb, xu, xo, xl⟩ ++ (clsCs ds).drop (putK ds xi * 8) = clsCs (putC ds ⟨xi, xp, xr, xe, xb, xu, xo, xl⟩) := putC_cells ds ⟨xi, xp, xr, xe, xb, xu, xo, xl⟩
        rw [hpk, e] at q
        exact q)
      have hty : u6.heap[gn]? ≠ some (Obj.cells #[.string s, .slice (some ⟨g, 0, none⟩) cs.length k2, .slice f2 fs.length l2, .int .i64 d] 47) := fun h => by
        obtain ⟨cur, hg, _⟩ := own_row OR6.out
        rw [hg] at h
        cases h
      have hrr : gn ≠ w2.heap.size := fun e => hty (by rw [e]; exact HB6)
      have hrf : ∀ q, (Value.slice f2 fs.length l2).ownBlock = some q → q ≠ gn := fun q hq e => by
        obtain ⟨cur, hg, _⟩ := own_row OR6.out
        subst e
        rcases OF6.out.2 with ⟨hv, _⟩ | ⟨g', cap', cur', hv, _, hg', _⟩
        · rw [hv] at hq; cases hq
        · rw [hv] at hq
          cases hq
          rw [hg] at hg'
          cases hg'
      clear HSM BI HINS OR6 HCA
      have BZ : Hid (Below w.heap.size w (u6.setCell ⟨w2.heap.size, 1, none⟩ (.slice (some ⟨gn, 0, none⟩) (cs.length + 1) kn))) := Lib.hid (B6.out.setCell (p := ⟨w2.heap.size, 1, none⟩) (by show w.heap.size ≤ w2.heap.size; omega) _)
      have XZ := Lib.hid (X6.out.set1 (.slice (some ⟨gn, 0, none⟩) (cs.length + 1) kn))
      have ZZ : Hid (Zer (u6.setCell ⟨w2.heap.size, 1, none⟩ (.slice (some ⟨gn, 0, none⟩) (cs.length + 1) kn)) (w.heap.size + 2)) := Lib.hid (Z6.out.set (by omega) _)
      have OZ : Hid (OwnCfg (u6.setCell ⟨w2.heap.size, 1, none⟩ (.slice (some ⟨gn, 0, none⟩) (cs.length + 1) kn)) w1.heap.size (.agg #[.string s, .slice (some ⟨gn, 0, none⟩) (cs.length + 1) kn, .slice f2 fs.length l2, .int .i64 d]) (⟨s, putC ds ⟨xi, xp, xr, xe, xb, xu, xo, xl⟩, fs, d⟩ : Cfg)) := Lib.hid ⟨_, _, rfl, by
        show World.ownsRow _ _ _ _ _ (putC ds ⟨xi, xp, xr, xe, xb, xu, xo, xl⟩).length (clsCs (putC ds ⟨xi, xp, xr, xe, xb, xu, xo, xl⟩))
        simp only [putC_length, hLL.out]
        exact own_far OR7.out (fun q hq => by cases hq; exact hrr) _, own_far OF6.out (fun q hq => by have := (World.ownsRow.lt OF2.out q hq).2; omega) _, fun q hq hq2 => by cases hq; exact hrf _ hq2 rfl⟩
      have HIX := Lib.hid (ifValid_any _ _ _ (Lib.hid (HK.out.below BZ.out)) (Lib.hid OZ.out.cfg) HMS)
      rw [HB.out] at HIX
      cases b
      · obtain rfl : cfg0 = rc := HRC.out
        unfold SaysIf at HIX
        simp only [Bool.false_eq_true, if_false] at HIX
        unfold zV at HIX
        obtain ⟨t0, t1, t2, t3, _⟩ := XZ.out
        go_wp2_with (go_at_call 97; refine HIX.out.mono ?_; rintro e wv ⟨rfl, bv⟩; have BV := Lib.hid bv; clear bv; refine Hid.out ?_)
        refine Lib.hid ?_
        clear z0 z1 z2 z3 t0 t1 t2 t3
        obtain ⟨⟨x0, x1, x2, x3, _⟩, x4⟩ := ZZ.out.on BV.out
        have y0 := x4 0
        have y1 := x4 1
        have y2 := x4 2
        have y3 := x4 3
        clear x4
        go_wp2_with fail
        have F9 := (ZZ.out.on BV.out).four
        obtain ⟨r0, r1, r2, r3⟩ := read4 F9 (.string ⟨#[]⟩) (.slice none 0 0) (.slice none 0 0) (.int .i64 0) _ rfl
        exact bodyPost_ret (v := .tuple #[zV, .bool false]) (by simp [results, Tryd.results41, go_sem, r0, r1, r2, r3, zV]) rfl ⟨_, rfl, own_zV _ _, set4 (BZ.out.trans (BV.out.mono BZ.out.size)) _ (by omega) _ _ _ _⟩
      · obtain rfl : (⟨s, putC ds ⟨xi, xp, xr, xe, xb, xu, xo, xl⟩, fs, d⟩ : Cfg) = rc := HRC.out
        unfold SaysIf at HIX
        simp only [if_true] at HIX
        skip
        obtain ⟨t0, t1, t2, t3, _⟩ := XZ.out
        go_wp2_with (go_at_call 97; refine HIX.out.mono ?_; rintro e wv ⟨rfl, bv⟩; have BV := Lib.hid bv; clear bv; refine Hid.out ?_)
        refine Lib.hid ?_
        clear z0 z1 z2 z3 t0 t1 t2 t3
        obtain ⟨⟨x0, x1, x2, x3, _⟩, x4⟩ := ZZ.out.on BV.out
        have y0 := x4 0
        have y1 := x4 1
        have y2 := x4 2
        have y3 := x4 3
        clear x4
        go_wp2_with fail
        have F9 := (ZZ.out.on BV.out).four
        obtain ⟨r0, r1, r2, r3⟩ := read4 F9 (.string s) (.slice (some ⟨gn, 0, none⟩) (cs.length + 1) kn) (.slice f2 fs.length l2) (.int .i64 d) _ rfl
        exact bodyPost_ret (v := .tuple #[(.agg #[.string s, .slice (some ⟨gn, 0, none⟩) (cs.length + 1) kn, .slice f2 fs.length l2, .int .i64 d]), .bool true]) (by simp [results, Tryd.results41, go_sem, r0, r1, r2, r3]) rfl ⟨_, rfl, ((OZ.out.on BV.out).set4 (by omega) _ _ _ _).base (by omega), set4 (BZ.out.trans (BV.out.mono BZ.out.size)) _ (by omega) _ _ _ _⟩
    | some i =>
      have hi : i < cs.length := (fnd_get _ _ _ hfn).1
      obtain ⟨hp1, hp2⟩ := plc_of_fnd HINC.out hfn
      rw [hp1, hp2] at HP1
      have hA := addL_some (c := (⟨s, cs, fs, d⟩ : Cfg)) (x := ⟨xi, xp, xr, xe, xb, xu, xo, xl⟩) hfn
      rw [hA] at HMS HB HRC
      obtain ⟨ds, hds⟩ : ∃ ds, (setL (⟨s, cs, fs, d⟩ : Cfg) i 0).cs = ds := ⟨_, rfl⟩
      have hLL : Hid (ds.length = cs.length) := Lib.hid (by rw [← hds]; simp [setL])
      have HINC2 : Hid (IncC ds) := Lib.hid (by rw [← hds]; exact setL_inc HINC.out i 0)
      rw [hds] at HMS HB HRC
      have hDS : Hid (clsCs ds = (clsCs cs).set (i * 8 + 7) (.int .i64 0)) := Lib.hid (by rw [clsCs_set cs i 0 hi, ← hds]; rfl)
      clear hA hfn hds hp1 hp2
      go_wp2_with (go_at_call 71; refine (HP1.out).mono ?_; rintro e u1 ⟨rfl, b3⟩; have B4 := Lib.hid (BU.out.trans (b3.mono BU.out.size)); have X4 := Lib.hid (XU.out.on b3); have F4 := Lib.hid (FU.out.on b3 XU.out.2.2.2.2); have Z4 := Lib.hid (ZU.out.on b3); have E4 := Lib.hid (EU.out.on2 b3 (by omega)); have OF4 := Lib.hid (own_low OFU.out b3 (Nat.le_refl _)); have C4 := Lib.hid (own_low CU.out b3 (Nat.le_refl _)); have HB4 := Lib.hid ((b3.block w2.heap.size (by omega)).trans HBU.out); have hs4 := b3.size; clear b3 z0 z1 z2 z3 c0 c1 c2 c3 c4 c5 c6 c7 f1; obtain ⟨z0, z1, z2, z3, _⟩ := X4.out; have f1 := F4.out 1; obtain ⟨c0, c1, c2, c3, c4, c5, c6, c7⟩ := E4.out; refine Hid.out ?_)
      refine Lib.hid ?_
      try simp only at c0 c1 c2 c3 c4 c5 c6 c7
      obtain ⟨u7, c7s⟩ := own_cell C4.out (i * 8 + 7) (by omega)
      have f7 := World.ownsRow.frozenAt C4.out (i * 8 + 7)
      have n5 : ¬ w2.heap.size = g := by omega
      have n6 : ¬ g = w2.heap.size := by omega
      have n7 : ¬ g = w.heap.size + 1 := by omega
      have n8 : ¬ w.heap.size + 1 = g := by omega
      have BS : Hid (Below w.heap.size w (u1.setCell ⟨g, i * 8 + 7, none⟩ (.int .i64 0))) := Lib.hid (B4.out.setCell (p := ⟨g, i * 8 + 7, none⟩) hgw _)
      have XS := Lib.hid (X4.out.far (g := g) (j := i * 8 + 7) (by omega) (.int .i64 0))
      have FS : Hid (FroB (u1.setCell ⟨g, i * 8 + 7, none⟩ (.int .i64 0)) w2.heap.size) := Lib.hid (F4.out.set _ _)
      have ZS : Hid (Zer (u1.setCell ⟨g, i * 8 + 7, none⟩ (.int .i64 0)) (w.heap.size + 2)) := Lib.hid (Z4.out.set (by omega) _)
      have ES : Hid (EightB (u1.setCell ⟨g, i * 8 + 7, none⟩ (.int .i64 0)) (w.heap.size + 1) ⟨xi, xp, xr, xe, xb, xu, xo, xl⟩) := Lib.hid (E4.out.farq (i * 8 + 7) n7 _)
      have OFS : Hid ((u1.setCell ⟨g, i * 8 + 7, none⟩ (.int .i64 0)).ownsRow w1.heap.size 77 5 (.slice f2 fs.length l2) fs.length (fltCs fs)) := Lib.hid (own_far OF4.out (fun q hq e => OD2.out g rfl (by rw [hq, e])) _)
      have CS : Hid ((u1.setCell ⟨g, i * 8 + 7, none⟩ (.int .i64 0)).ownsRow w1.heap.size 62 8 (.slice (some ⟨g, 0, none⟩) cs.length k2) ds.length (clsCs ds)) := Lib.hid (by rw [hLL.out, hDS.out]; exact own_store C4.out _ _)
      have HBS : Hid ((u1.setCell ⟨g, i * 8 + 7, none⟩ (.int .i64 0)).heap[w2.heap.size]? = some (Obj.cells #[.string s, .slice (some ⟨g, 0, none⟩) cs.length k2, .slice f2 fs.length l2, .int .i64 d] 47)) := Lib.hid ((heap_setCell_other u1 ⟨g, i * 8 + 7, none⟩ w2.heap.size _ (by show w2.heap.size ≠ g; omega)).trans HB4.out)
      have hsS : (u1.setCell ⟨g, i * 8 + 7, none⟩ (.int .i64 0)).heap.size = u1.heap.size := Go.Deep.nblk_setCell _ _ _
      obtain ⟨v0, v1, v2, v3, _⟩ := XS.out
      have v4 := FS.out 1
      obtain ⟨d0, d1, d2, d3, d4, d5, d6, d7⟩ := ES.out
      try simp only at d0 d1 d2 d3 d4 d5 d6 d7
      have IX : Hid (InX (u1.setCell ⟨g, i * 8 + 7, none⟩ (.int .i64 0)) (some ⟨g, 0, none⟩) cs.length (clsCs ds)) := Lib.hid (by
        have q := CS.out
        rw [hLL.out] at q
        obtain ⟨ad, c', e, hi⟩ := own_in q
        cases e
        exact hi)
      have HP2 := Lib.hid (HPL.out g k2 ds xi _ IX hLL HINC2)
      go_wp2_with (go_at_call 71; refine (HP2.out).mono ?_; rintro e u5 ⟨rfl, b3⟩; have B5 := Lib.hid (BS.out.trans (b3.mono BS.out.size)); have X5 := Lib.hid (XS.out.on b3); have F5 := Lib.hid (FS.out.on b3 XS.out.2.2.2.2); have Z5 := Lib.hid (ZS.out.on b3); have E5 := Lib.hid (ES.out.on2 b3 (by omega)); have OF5 := Lib.hid (own_low OFS.out b3 (Nat.le_refl _)); have C5 := Lib.hid (own_low CS.out b3 (Nat.le_refl _)); have HB5 := Lib.hid ((b3.block w2.heap.size (by omega)).trans HBS.out); have hs5 := b3.size; clear b3 z0 z1 z2 z3 f1 c0 c1 c2 c3 c4 c5 c6 c7 v0 v1 v2 v3 v4 d0 d1 d2 d3 d4 d5 d6 d7; obtain ⟨z0, z1, z2, z3, _⟩ := X5.out; have f1 := F5.out 1; obtain ⟨c0, c1, c2, c3, c4, c5, c6, c7⟩ := E5.out; refine Hid.out ?_)
      refine Lib.hid ?_
      try simp only at c0 c1 c2 c3 c4 c5 c6 c7
      go_wp2_with fail
      obtain ⟨ux, hux⟩ : ∃ ux, u5.alloc (Obj.cells #[.int .i64 xi, .int .i64 xp, .int .i64 xr, .int .i64 xe, .int .i64 xb, .int .i64 xu, .int .i64 xo, .int .i64 xl] 62) = ux := ⟨_, rfl⟩
      rw [hux]
      have bx : Below u5.heap.size u5 ux := by rw [← hux]; exact one_new2 _ _
      have HCA : Hid (ClsAt ux u5.heap.size ⟨xi, xp, xr, xe, xb, xu, xo, xl⟩) := Lib.hid (by rw [← hux]; exact heap_alloc_new u5 _)
      have hgu : g < u5.heap.size := (World.ownsRow.lt C5.out g rfl).2
      have hsx := bx.size
      have CX := Lib.hid (own_low C5.out bx (Nat.le_refl _))
      have OFX := Lib.hid (own_low OF5.out bx (Nat.le_refl _))
      have XX := Lib.hid (X5.out.on bx)
      have FX := Lib.hid (F5.out.on bx X5.out.2.2.2.2)
      have ZX := Lib.hid (Z5.out.on bx)
      have HBX := Lib.hid ((bx.block w2.heap.size (by omega)).trans HB5.out)
      have BX := Lib.hid (B5.out.trans (bx.mono B5.out.size))
      have hpk : plc ds xi = putK ds xi := plc_putK _ _
      have hpl : plc ds xi ≤ cs.length := by rw [hpk, ← hLL.out]; exact putK_le _ _
      have HINS : Hid (Calls Tryd.prog 96 #[.slice (some ⟨g, 0, none⟩) cs.length k2, .int .i64 (plc ds xi), .slice (some ⟨u5.heap.size, 0, none⟩) 1 1] ux (SaysIns ux w1.heap.size g cs.length (plc ds xi) (clsCs ds) ⟨xi, xp, xr, xe, xb, xu, xo, xl⟩)) := Lib.hid (insert_any w1.heap.size g cs.length k2 (plc ds xi) u5.heap.size (clsCs ds) ⟨xi, xp, xr, xe, xb, xu, xo, xl⟩ ux (Lib.hid (by have q := CX.out; rw [hLL.out] at q; exact q)) (Lib.hid (clsCs_one ds)) HCA (by omega) (by omega) q1 n1 hpl)
      clear hux bx IX HP2
      go_wp2_with (go_at_call 96; refine (HINS.out).mono ?_; rintro e u6 ⟨gn, kn, rfl, orow, b3, hsame⟩; have OR6 := Lib.hid orow; have BI := Lib.hid b3; have HSM := Lib.hid hsame; have X6 := Lib.hid (XX.out.same (hsame w2.heap.size (by omega) (by omega)) b3.size); have F6 := Lib.hid (FX.out.same (hsame w2.heap.size (by omega) (by omega))); clear orow b3 hsame z0 z1 z2 z3 f1 c0 c1 c2 c3 c4 c5 c6 c7; obtain ⟨z0, z1, z2, z3, _⟩ := X6.out; have f1 := F6.out 1; refine Hid.out ?_)
      refine Lib.hid ?_
      have B6 := Lib.hid (BX.out.trans (BI.out.mono (by omega)))
      have Z6 := Lib.hid (ZX.out.same (HSM.out (w.heap.size + 2) (by omega) (by omega)) BI.out.size)
      have HB6 : u6.heap[w2.heap.size]? = some (Obj.cells #[.string s, .slice (some ⟨g, 0, none⟩) cs.length k2, .slice f2 fs.length l2, .int .i64 d] 47) := (HSM.out w2.heap.size (by omega) (by omega)).trans HBX.out
      have OF6 : Hid (u6.ownsRow w1.heap.size 77 5 (.slice f2 fs.length l2) fs.length (fltCs fs)) := Lib.hid (own_heap OFX.out (fun q hq => HSM.out q (by have := (World.ownsRow.lt OFX.out q hq).2; omega) (fun e => OD2.out g rfl (by rw [hq, e]))))
      have OR7 : Hid (u6.ownsRow w1.heap.size 62 8 (.slice (some ⟨gn, 0, none⟩) (cs.length + 1) kn) (cs.length + 1) (clsCs (putC ds ⟨xi, xp, xr, xe, xb, xu, xo, xl⟩))) := Lib.hid (by
        have q := OR6.out
        have e : (clsCs ds).take (putK ds xi * 8) ++ clsC ⟨xi, xp, xr, xe, xb, xu, xo, xl⟩ ++ (clsCs ds).drop (putK ds xi * 8) = clsCs (putC ds ⟨xi, xp, xr, xe, xb, xu, xo, xl⟩) := putC_cells ds ⟨xi, xp, xr, xe, xb, xu, xo, xl⟩
        rw [hpk, e] at q
        exact q)
      have hty : u6.heap[gn]? ≠ some (Obj.cells #[.string s, .slice (some ⟨g, 0, none⟩) cs.length k2, .slice f2 fs.length l2, .int .i64 d] 47) := fun h => by
        obtain ⟨cur, hg, _⟩ := own_row OR6.out
        rw [hg] at h
        cases h
      have hrr : gn ≠ w2.heap.size := fun e => hty (by rw [e]; exact HB6)
      have hrf : ∀ q, (Value.slice f2 fs.length l2).ownBlock = some q → q ≠ gn := fun q hq e => by
        obtain ⟨cur, hg, _⟩ := own_row OR6.out
        subst e
        rcases OF6.out.2 with ⟨hv, _⟩ | ⟨g', cap', cur', hv, _, hg', _⟩
        · rw [hv] at hq; cases hq
        · rw [hv] at hq
          cases hq
          rw [hg] at hg'
          cases hg'
      clear HSM BI HINS OR6 HCA
      have BZ : Hid (Below w.heap.size w (u6.setCell ⟨w2.heap.size, 1, none⟩ (.slice (some ⟨gn, 0, none⟩) (cs.length + 1) kn))) := Lib.hid (B6.out.setCell (p := ⟨w2.heap.size, 1, none⟩) (by show w.heap.size ≤ w2.heap.size; omega) _)
      have XZ := Lib.hid (X6.out.set1 (.slice (some ⟨gn, 0, none⟩) (cs.length + 1) kn))
      have ZZ : Hid (Zer (u6.setCell ⟨w2.heap.size, 1, none⟩ (.slice (some ⟨gn, 0, none⟩) (cs.length + 1) kn)) (w.heap.size + 2)) := Lib.hid (Z6.out.set (by omega) _)
      have OZ : Hid (OwnCfg (u6.setCell ⟨w2.heap.size, 1, none⟩ (.slice (some ⟨gn, 0, none⟩) (cs.length + 1) kn)) w1.heap.size (.agg #[.string s, .slice (some ⟨gn, 0, none⟩) (cs.length + 1) kn, .slice f2 fs.length l2, .int .i64 d]) (⟨s, putC ds ⟨xi, xp, xr, xe, xb, xu, xo, xl⟩, fs, d⟩ : Cfg)) := Lib.hid ⟨_, _, rfl, by
        show World.ownsRow _ _ _ _ _ (putC ds ⟨xi, xp, xr, xe, xb, xu, xo, xl⟩).length (clsCs (putC ds ⟨xi, xp, xr, xe, xb, xu, xo, xl⟩))
        simp only [putC_length, hLL.out]
        exact own_far OR7.out (fun q hq => by cases hq; exact hrr) _, own_far OF6.out (fun q hq => by have := (World.ownsRow.lt OF2.out q hq).2; omega) _, fun q hq hq2 => by cases hq; exact hrf _ hq2 rfl⟩
      have HIX := Lib.hid (ifValid_any _ _ _ (Lib.hid (HK.out.below BZ.out)) (Lib.hid OZ.out.cfg) HMS)
      rw [HB.out] at HIX
      cases b
      · obtain rfl : cfg0 = rc := HRC.out
        unfold SaysIf at HIX
        simp only [Bool.false_eq_true, if_false] at HIX
        unfold zV at HIX
        obtain ⟨t0, t1, t2, t3, _⟩ := XZ.out
        go_wp2_with (go_at_call 97; refine HIX.out.mono ?_; rintro e wv ⟨rfl, bv⟩; have BV := Lib.hid bv; clear bv; refine Hid.out ?_)
        refine Lib.hid ?_
        clear z0 z1 z2 z3 t0 t1 t2 t3
        obtain ⟨⟨x0, x1, x2, x3, _⟩, x4⟩ := ZZ.out.on BV.out
        have y0 := x4 0
        have y1 := x4 1
        have y2 := x4 2
        have y3 := x4 3
        clear x4
        go_wp2_with fail
        have F9 := (ZZ.out.on BV.out).four
        obtain ⟨r0, r1, r2, r3⟩ := read4 F9 (.string ⟨#[]⟩) (.slice none 0 0) (.slice none 0 0) (.int .i64 0) _ rfl
        exact bodyPost_ret (v := .tuple #[zV, .bool false]) (by simp [results, Tryd.results41, go_sem, r0, r1, r2, r3, zV]) rfl ⟨_, rfl, own_zV _ _, set4 (BZ.out.trans (BV.out.mono BZ.out.size)) _ (by omega) _ _ _ _⟩
      · obtain rfl : (⟨s, putC ds ⟨xi, xp, xr, xe, xb, xu, xo, xl⟩, fs, d⟩ : Cfg) = rc := HRC.out
        unfold SaysIf at HIX
        simp only [if_true] at HIX
        skip
        obtain ⟨t0, t1, t2, t3, _⟩ := XZ.out
        go_wp2_with (go_at_call 97; refine HIX.out.mono ?_; rintro e wv ⟨rfl, bv⟩; have BV := Lib.hid bv; clear bv; refine Hid.out ?_)
        refine Lib.hid ?_
        clear z0 z1 z2 z3 t0 t1 t2 t3
        obtain ⟨⟨x0, x1, x2, x3, _⟩, x4⟩ := ZZ.out.on BV.out
        have y0 := x4 0
        have y1 := x4 1
        have y2 := x4 2
        have y3 := x4 3
        clear x4
        go_wp2_with fail
        have F9 := (ZZ.out.on BV.out).four
        obtain ⟨r0, r1, r2, r3⟩ := read4 F9 (.string s) (.slice (some ⟨gn, 0, none⟩) (cs.length + 1) kn) (.slice f2 fs.length l2) (.int .i64 d) _ rfl
        exact bodyPost_ret (v := .tuple #[(.agg #[.string s, .slice (some ⟨gn, 0, none⟩) (cs.length + 1) kn, .slice f2 fs.length l2, .int .i64 d]), .bool true]) (by simp [results, Tryd.results41, go_sem, r0, r1, r2, r3]) rfl ⟨_, rfl, ((OZ.out.on BV.out).set4 (by omega) _ _ _ _).base (by omega), set4 (BZ.out.trans (BV.out.mono BZ.out.size)) _ (by omega) _ _ _ _⟩
end Go.Proofs.YthpejbdbbofaaaaDoor
