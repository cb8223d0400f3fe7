/- DropClass, the model's (written by tools/gen_cgo.py). -/
import Derived.Test.YtdmcgjohpnojkaaGreatDoorCgi
import Derived.Deep.CutRange
import Derived.Deep.RegionHeld3
namespace Go.Proofs.YtdmcgjohpnojkaaGreatDoor
set_option maxRecDepth 100000
open Go.RowKit
set_option linter.unusedVariables false
set_option linter.unusedSimpArgs false

/-- a class boxed by the call -/
def DcR (w1 : World) (x : Cls) (v : Value) (wx : World) : Prop := ∃ bx, v = .pointer (some ⟨bx, 0, none⟩) ∧ Below w1.heap.size w1 wx ∧ w1.heap.size ≤ bx ∧ bx < wx.heap.size ∧ EightB wx bx x
/-- the box of a configuration without classes -/
def DdR (w2 : World) (s : ByteArray) (fs : List Flt) (d : Int) (v : Value) (wx : World) : Prop := ∃ bo vf, v = .pointer (some ⟨bo, 0, none⟩) ∧ Below w2.heap.size w2 wx ∧ w2.heap.size ≤ bo ∧ bo < wx.heap.size ∧ FourIs wx bo (.string s) (.slice none 0 0) vf (.int .i64 d) ∧ FroB wx bo ∧ wx.ownsRow w2.heap.size 113 5 vf fs.length (fltCs fs) ∧ ∀ g, vf.ownBlock = some g → g ≠ bo
theorem own_far {w : World} {B n z b j : Nat} {T : TypeId} {v : Value} {xs : List Value} (h : w.ownsRow B T z v n xs) (hd : ∀ g, v.ownBlock = some g → g ≠ b) (u : Value) : (w.setCell ⟨b, j, none⟩ u).ownsRow B T z v n xs :=
  own_onl h (onl_set (fun _ _ => rfl) _ _) (fun g hg e => hd g hg (by simpa using e.symm))
theorem own_far4 {w : World} {B n z b : Nat} {T : TypeId} {v : Value} {xs : List Value} (h : w.ownsRow B T z v n xs) (hd : ∀ g, v.ownBlock = some g → g ≠ b) (v0 v1 v2 v3 : Value) : ((((w.setCell ⟨b, 0, none⟩ v0).setCell ⟨b, 1, none⟩ v1).setCell ⟨b, 2, none⟩ v2).setCell ⟨b, 3, none⟩ v3).ownsRow B T z v n xs :=
  own_far (own_far (own_far (own_far h hd v0) hd v1) hd v2) hd v3
theorem eight_new (w : World) (x : Cls) (t : TypeId) : EightB (w.alloc (.cells #[.int .i64 x.i, .int .i64 x.p, .int .i64 x.r, .int .i64 x.e, .int .i64 x.b, .int .i64 x.u, .int .i64 x.o, .int .i64 x.l] t)) w.heap.size x := (box_eight (Below.refl _ _)).1
theorem put8 {w1 : World} {b : Nat} (h : EightS w1 b) (x : Cls) : EightB ((((((((w1.setCell ⟨b, 0, none⟩ (.int .i64 x.i)).setCell ⟨b, 1, none⟩ (.int .i64 x.p)).setCell ⟨b, 2, none⟩ (.int .i64 x.r)).setCell ⟨b, 3, none⟩ (.int .i64 x.e)).setCell ⟨b, 4, none⟩ (.int .i64 x.b)).setCell ⟨b, 5, none⟩ (.int .i64 x.u)).setCell ⟨b, 6, none⟩ (.int .i64 x.o)).setCell ⟨b, 7, none⟩ (.int .i64 x.l)) b x := read8 h x _ rfl
/-- the model's result, as far as it is gathered -/
def DlAt (w2 : World) (B3 bo : Nat) (s : ByteArray) (fs : List Flt) (d : Int) (vF v : Value) (L : List Cls) (wr : World) : Prop :=
  Below w2.heap.size w2 wr ∧ B3 ≤ wr.heap.size ∧ FourIs wr bo (.string s) v vF (.int .i64 d) ∧ FroB wr bo ∧ wr.ownsRow w2.heap.size 113 5 vF fs.length (fltCs fs) ∧ wr.ownsRow B3 63 8 v L.length (clsCs L)
theorem DlAt.on {w2 wr w' : World} {B3 bo : Nat} {s : ByteArray} {fs : List Flt} {d : Int} {vF v : Value} {L : List Cls} (h : DlAt w2 B3 bo s fs d vF v L wr) (hb : Below wr.heap.size wr w') : DlAt w2 B3 bo s fs d vF v L w' := by
  obtain ⟨h1, h2, h3, h4, h5, h6⟩ := h
  exact ⟨h1.trans (hb.mono h1.size), Nat.le_trans h2 hb.size, h3.on hb, h4.on hb h3.2.2.2.2, own_low h5 hb (Nat.le_refl _), own_low h6 hb (Nat.le_refl _)⟩
theorem DlAt.snoc {w2 wr w' : World} {B3 bo : Nat} {s : ByteArray} {fs : List Flt} {d : Int} {vF v v' : Value} {L : List Cls} {y : Cls} (h : DlAt w2 B3 bo s fs d vF v L wr) (hg : wr.grownBy w' v.ownBlock)
    (ho : w'.ownsRow B3 63 8 v' (L.length + 1) (clsCs L ++ clsC y)) (h1 : w2.heap.size ≤ bo) (h2 : bo < B3) (h3 : w2.heap.size ≤ B3) (h4 : ∀ g, vF.ownBlock = some g → g < B3 ∧ g ≠ bo) :
    DlAt w2 B3 bo s fs d vF v' (L ++ [y]) (w'.setCell ⟨bo, 1, none⟩ v') := by
  obtain ⟨a1, a2, a3, a4, a5, a6⟩ := h
  have hl := fun g hv => (World.ownsRow.lt a6 g hv).1
  have hbk := hg.block bo a3.2.2.2.2 (fun q => by have := hl bo q.symm; omega)
  refine ⟨(a1.grown hg a1.size (fun g hv => by have := hl g hv; omega)).setCell h1 _, ?_, (a3.same hbk hg.size).set1 _, (a4.same hbk).set _ _, ?_, ?_⟩
  · rw [Go.Deep.nblk_setCell]; exact Nat.le_trans a2 hg.size
  · exact own_far (own_heap a5 (fun g hv => hg.block g (World.ownsRow.lt a5 g hv).2 (fun q => by have := hl g q.symm; have := (h4 g hv).1; omega))) (fun g hv => (h4 g hv).2) _
  · rw [List.length_append, clsCs_append]
    have : clsCs [y] = clsC y := by simp [clsCs]
    rw [this]
    exact own_far ho (fun g hv => by have := (World.ownsRow.lt ho g hv).1; omega) _
theorem eight_cells (w : World) (y : Cls) (t : TypeId) : ∀ j u, (clsC y)[j]? = some u → (w.alloc (.cells #[.int .i64 y.i, .int .i64 y.p, .int .i64 y.r, .int .i64 y.e, .int .i64 y.b, .int .i64 y.u, .int .i64 y.o, .int .i64 y.l] t)).cell? ((⟨w.heap.size, 0, none⟩ : Addr).add j) = some u := by
  intro j u hj
  unfold clsC at hj
  match j, hj with
  | 0, hj | 1, hj | 2, hj | 3, hj | 4, hj | 5, hj | 6, hj | 7, hj => simp at hj; subst hj; simp [Addr.add]
  | j + 8, hj => simp at hj
theorem clsC_one (y : Cls) : ∀ u ∈ clsC y, u.oneCell' = true := by
  intro u hu
  simp only [clsC, List.mem_cons, List.not_mem_nil, or_false] at hu
  rcases hu with rfl | rfl | rfl | rfl | rfl | rfl | rfl | rfl <;> rfl
theorem filter_at (cs : List Cls) (k : Nat) (hk : k < cs.length) (x : Cls) (hx : cs.getD k cls0 = x) (p : Cls → Bool) : (cs.drop k).filter p = (if p x then [x] else []) ++ (cs.drop (k + 1)).filter p := by
  rw [List.getD_eq_getElem?_getD, List.getElem?_eq_getElem hk] at hx
  simp only [Option.getD_some] at hx
  rw [List.drop_eq_getElem_cons hk, hx, List.filter_cons]
  split <;> simp
def DlRel (w2 : World) (B3 bo : Nat) (s : ByteArray) (fs : List Flt) (d : Int) (vF : Value) (cs C : List Cls) (id : Int) (i : Value) (wr : World) : Prop :=
  ∃ (j : Nat) (L : List Cls) (v : Value), j ≤ cs.length ∧ L.length ≤ j ∧ i = .int .i64 j ∧ DlAt w2 B3 bo s fs d vF v L wr ∧ Hid (L ++ (cs.drop j).filter (fun y => !(y.i == id)) = C)
set_option maxHeartbeats 12800000 in
theorem specDropClass_any (v : Value) (c : Cfg) (B : Nat) (id : Int) (w : World) (HV : Hid (OwnCfg w B v c)) (HM : Hid (CfgM c)) :
    Calls Tryz.prog 39 #[v, .int .i64 id] w (SaysCB w (resDropClass1 c id) (resDropClass2 c id)) := by
  have HGD := Lib.hid (fun w' (b : Below w.heap.size w w') => cfGood_any v c w' (Lib.hid (HV.out.cfg.below b)) HM)
  obtain ⟨vc, vf, rfl, oc, of, od⟩ := HV.out
  obtain ⟨ac, cc, rfl, ic⟩ := own_in oc
  obtain ⟨af, cf, rfl, _⟩ := own_in of
  have OF := Lib.hid of
  clear oc of od
  obtain ⟨s, cs, fs, d⟩ := c
  have q1 : cs.length ≤ 1048576 := HM.out.2.1
  have q2 : fs.length ≤ 1048576 := HM.out.2.2
  simp only at HGD ic OF ⊢
  have HI := Lib.hid ic
  have HTG := Lib.hid (fun w' HI => cfTarget_any s ac af cs.length cc fs.length cf d cs id w' HI (Lib.hid rfl) q1)
  have HFF := Lib.hid (fun w' HI => cfFind_any s ac af cs.length cc fs.length cf d cs id w' HI (Lib.hid rfl) q1)
  clear ic
  cases hgd : goodC ⟨s, cs, fs, d⟩
  · obtain ⟨x1, x2⟩ := dp_no (c := ⟨s, cs, fs, d⟩) (id := id) (by rw [hgd]; rfl)
    rw [x1, x2]
    rw [hgd] at HGD
    clear x1 x2 hgd HV HM HFF HTG
    go_enter Tryz.func39, Tryz.ntmps39
    go_wp2_with (go_at_call 77; refine (HGD.out _ (two_new _ _ _)).mono ?_; rintro e w1 ⟨rfl, b1⟩; have B1 := Lib.hid (two_below b1); have Z1 := Lib.hid (zer_new b1); clear b1; refine Hid.out ?_)
    refine Lib.hid ?_
    obtain ⟨⟨x0, x1, x2, x3, _⟩, x4⟩ := Z1.out
    have y0 := x4 0
    have y1 := x4 1
    have y2 := x4 2
    have y3 := x4 3
    clear x4
    go_wp2_with fail
    obtain ⟨r0, r1, r2, r3⟩ := read4 Z1.out.four (.string ⟨#[]⟩) (.slice none 0 0) (.slice none 0 0) (.int .i64 0) _ rfl
    exact bodyPost_ret (v := .tuple #[zV, .bool false]) (by simp [results, Tryz.results39, go_sem, r0, r1, r2, r3, zV]) rfl ⟨_, rfl, own_zV _ _, set4 B1.out _ (Nat.le_succ _) _ _ _ _⟩
  cases hl : leafB cs id
  · obtain ⟨x1, x2⟩ := dp_no (c := ⟨s, cs, fs, d⟩) (id := id) (by simp only; rw [hl]; simp)
    rw [x1, x2]
    rw [hgd] at HGD
    rw [hl] at HTG
    clear x1 x2 hgd HV HM HFF hl
    go_enter Tryz.func39, Tryz.ntmps39
    go_wp2_with (go_at_call 77; refine (HGD.out _ (two_new _ _ _)).mono ?_; rintro e w1 ⟨rfl, b1⟩; have B1 := Lib.hid (two_below b1); have Z1 := Lib.hid (zer_new b1); obtain ⟨e0, e1, e2, e3, _⟩ := copy_box b1; clear b1; refine Hid.out ?_)
    refine Lib.hid ?_
    go_wp2_with (go_at_call 96; refine (HTG.out _ (Lib.hid (HI.out.below B1.out))).mono ?_; rintro e w2 ⟨rfl, b2⟩; have B2 := Lib.hid (B1.out.trans (b2.mono B1.out.size)); have Z2 := Lib.hid (Z1.out.on b2); clear b2 e0 e1 e2 e3; refine Hid.out ?_)
    refine Lib.hid ?_
    obtain ⟨⟨x0, x1, x2, x3, _⟩, x4⟩ := Z2.out
    have y0 := x4 0
    have y1 := x4 1
    have y2 := x4 2
    have y3 := x4 3
    clear x4
    go_wp2_with fail
    obtain ⟨r0, r1, r2, r3⟩ := read4 Z2.out.four (.string ⟨#[]⟩) (.slice none 0 0) (.slice none 0 0) (.int .i64 0) _ rfl
    exact bodyPost_ret (v := .tuple #[zV, .bool false]) (by simp [results, Tryz.results39, go_sem, r0, r1, r2, r3, zV]) rfl ⟨_, rfl, own_zV _ _, set4 B2.out _ (Nat.le_succ _) _ _ _ _⟩
  · obtain ⟨k, hf⟩ : ∃ k, fnd cs id = Option.some k := by
      unfold leafB at hl
      exact Option.isSome_iff_exists.1 (Bool.and_eq_true_iff.1 hl).1
    obtain ⟨x1, x2⟩ := dp_yes (c := ⟨s, cs, fs, d⟩) (id := id) (by simp only; rw [hgd, hl]; rfl) hf
    have hfk := fnd_get cs id k hf
    have hk := hfk.1
    rw [x1, x2]
    have G := good_of hgd
    have hinc : IncC cs := okL_inc cs 0 G.ok
    have HINC := Lib.hid hinc
    have HCF := Lib.hid (cut_filter hinc hk hfk.2)
    have hcl := cut_length hk
    have HMS := Lib.hid (dropL_M (c := ⟨s, cs, fs, d⟩) hk HM.out)
    obtain ⟨b, hb⟩ : ∃ b, goodC (dropL ⟨s, cs, fs, d⟩ k) = b := ⟨_, rfl⟩
    rw [hb]
    obtain ⟨rc, hrc⟩ : ∃ rc, (if b = true then dropL ⟨s, cs, fs, d⟩ k else cfg0) = rc := ⟨_, rfl⟩
    rw [hrc]
    have HRC := Lib.hid hrc
    have HB := Lib.hid hb
    rw [hgd] at HGD
    rw [hl] at HTG
    rw [fndI_some hf] at HFF
    obtain ⟨gc, rfl, htc, hgc⟩ := HI.out (by omega)
    have HTC := Lib.hid htc
    obtain ⟨x, hx⟩ : ∃ x, cs.getD k cls0 = x := ⟨_, rfl⟩
    have HXX := Lib.hid hx
    obtain ⟨xi, xp, xr, xe, xb, xu, xo, xl⟩ := x
    have H8 : Hid (∀ w', Below w.heap.size w w' → Eight w' gc k ⟨xi, xp, xr, xe, xb, xu, xo, xl⟩) := Lib.hid (fun w' h => (htc.below h hgc).cls k hk _ hx)
    clear x1 x2 hgd hl HV HM hf hb hrc G hfk htc hx
    go_enter Tryz.func39, Tryz.ntmps39
    go_wp2_with (go_at_call 77; refine (HGD.out _ (two_new _ _ _)).mono ?_; rintro e w0 ⟨rfl, b1⟩; have B0 := Lib.hid (two_below b1); have Z0 := Lib.hid (zer_new b1); have X0 := Lib.hid (copy_box b1); obtain ⟨e0, e1, e2, e3, _⟩ := X0.out; clear b1; refine Hid.out ?_)
    refine Lib.hid ?_
    go_wp2_with (go_at_call 96; refine (HTG.out _ (Lib.hid (HI.out.below B0.out))).mono ?_; rintro e w1 ⟨rfl, b2⟩; have B1 := Lib.hid (B0.out.trans (b2.mono B0.out.size)); have Z1 := Lib.hid (Z0.out.on b2); have X1 := Lib.hid (X0.out.on b2); clear b2 e0 e1 e2 e3; refine Hid.out ?_)
    refine Lib.hid ?_
    have hz1 : w.heap.size + 1 < w1.heap.size := Z1.out.1.2.2.2.2
    have hgc1 : gc < w1.heap.size := by omega
    have HS3 : Hid (∀ w', Below w1.heap.size w1 w' → w'.cell? ⟨w.heap.size, 0, none⟩ = some (.string s) ∧ w'.cell? ⟨w.heap.size, 1, none⟩ = some (.slice (some ⟨gc, 0, none⟩) cs.length cc) ∧ w'.cell? ⟨w.heap.size, 2, none⟩ = some (.slice af fs.length cf) ∧ w'.cell? ⟨w.heap.size, 3, none⟩ = some (.int .i64 d) ∧ w'.cell? ⟨gc, k * 8, none⟩ = some (.int .i64 xi) ∧ w'.cell? ⟨gc, k * 8 + 1, none⟩ = some (.int .i64 xp) ∧ w'.cell? ⟨gc, k * 8 + 2, none⟩ = some (.int .i64 xr) ∧ w'.cell? ⟨gc, k * 8 + 3, none⟩ = some (.int .i64 xe) ∧ w'.cell? ⟨gc, k * 8 + 4, none⟩ = some (.int .i64 xb) ∧ w'.cell? ⟨gc, k * 8 + 5, none⟩ = some (.int .i64 xu) ∧ w'.cell? ⟨gc, k * 8 + 6, none⟩ = some (.int .i64 xo) ∧ w'.cell? ⟨gc, k * 8 + 7, none⟩ = some (.int .i64 xl) ∧ Below w1.heap.size w1 w') := Lib.hid (fun w' h => by
      obtain ⟨y0, y1, y2, y3, _⟩ := X1.out.on h
      obtain ⟨t0, t1, t2, t3, t4, t5, t6, t7⟩ := H8.out w' (B1.out.trans (h.mono B1.out.size))
      exact ⟨y0, y1, y2, y3, t0, t1, t2, t3, t4, t5, t6, t7, h⟩)
    go_upto_region 3 with fail
    go_cut [6] from 21 to 27 (fun x6 wx => DcR w1 ⟨xi, xp, xr, xe, xb, xu, xo, xl⟩ x6 wx)
    case first =>
      refine wp_region_held_drew (S := fun w' => w'.cell? ⟨w.heap.size, 0, none⟩ = some (.string s) ∧ w'.cell? ⟨w.heap.size, 1, none⟩ = some (.slice (some ⟨gc, 0, none⟩) cs.length cc) ∧ w'.cell? ⟨w.heap.size, 2, none⟩ = some (.slice af fs.length cf) ∧ w'.cell? ⟨w.heap.size, 3, none⟩ = some (.int .i64 d) ∧ w'.cell? ⟨gc, k * 8, none⟩ = some (.int .i64 xi) ∧ w'.cell? ⟨gc, k * 8 + 1, none⟩ = some (.int .i64 xp) ∧ w'.cell? ⟨gc, k * 8 + 2, none⟩ = some (.int .i64 xr) ∧ w'.cell? ⟨gc, k * 8 + 3, none⟩ = some (.int .i64 xe) ∧ w'.cell? ⟨gc, k * 8 + 4, none⟩ = some (.int .i64 xb) ∧ w'.cell? ⟨gc, k * 8 + 5, none⟩ = some (.int .i64 xu) ∧ w'.cell? ⟨gc, k * 8 + 6, none⟩ = some (.int .i64 xo) ∧ w'.cell? ⟨gc, k * 8 + 7, none⟩ = some (.int .i64 xl) ∧ Below w1.heap.size w1 w') (by kernel_rfl) ?_ (fun hHeld => ?_)
      · (try dsimp only)
        exact HS3.out _ (below_drewN (Below.refl _ _) 1)
      refine held_take (i := 0) (d := 21) (v := ?_) rfl rfl (by kernel_rfl) (by kernel_rfl) (by kernel_rfl) (fun _ _ _ h => h) (by rfl) ?_ (by assumption) ?_
      rotate_left
      · intro w hSw
        (try dsimp only at hSw)
        go_simp
        try with_reducible rfl
      try simp only [Act.put, List.setIfInBounds_toArray, List.set_cons_zero, List.set_cons_succ]
      refine held_take (i := 1) (d := 22) (v := ?_) rfl rfl (by kernel_rfl) (by kernel_rfl) (by kernel_rfl) (fun _ _ _ h => h) (by rfl) ?_ (by assumption) ?_
      rotate_left
      · intro w hSw
        (try dsimp only at hSw)
        go_simp
        try with_reducible rfl
      try simp only [Act.put, List.setIfInBounds_toArray, List.set_cons_zero, List.set_cons_succ]
      refine held_take (i := 2) (d := 23) (v := ?_) rfl rfl (by kernel_rfl) (by kernel_rfl) (by kernel_rfl) (fun _ _ _ h => h) (by rfl) ?_ (by assumption) ?_
      rotate_left
      · intro w hSw
        (try dsimp only at hSw)
        go_simp
        try with_reducible rfl
      try simp only [Act.put, List.setIfInBounds_toArray, List.set_cons_zero, List.set_cons_succ]
      refine held_take (i := 3) (d := 24) (v := ?_) rfl rfl (by kernel_rfl) (by kernel_rfl) (by kernel_rfl) (fun _ _ _ h => h) (by rfl) ?_ (by assumption) ?_
      rotate_left
      · intro w hSw
        (try dsimp only at hSw)
        go_simp
        try with_reducible rfl
      try simp only [Act.put, List.setIfInBounds_toArray, List.set_cons_zero, List.set_cons_succ]
      have BX0 : Hid (Below w1.heap.size w1 w1.drew) := Lib.hid (below_drewN (Below.refl _ _) 1)
      obtain ⟨u0, hu0⟩ : ∃ u0, w1.drew = u0 := ⟨_, rfl⟩
      rw [hu0] at hHeld BX0 ⊢
      clear hu0
      refine wpAnyH_ready (rs := [4, 7]) (by kernel_rfl) (by simp) ?_
      refine ((AllReadyH.cons rfl (fun K' hK => ?_) (AllReadyH.cons rfl (fun K' hK => ?_) AllReadyH.nil)))
      · go_simp
        go_at_call 78
        refine (HFF.out _ (Lib.hid (HI.out.below (B1.out.trans (BX0.out.mono B1.out.size))))).mono ?_
        rintro e u1 ⟨rfl, b4⟩
        have BX1 := Lib.hid (BX0.out.trans (b4.mono BX0.out.size))
        clear b4
        refine hK.out _ _ ?_ (fun hHeld => ?_)
        · (try dsimp only)
          exact HS3.out _ BX1.out
        clear hK K'
        try simp only [Act.put, List.setIfInBounds_toArray, List.set_cons_zero, List.set_cons_succ]
        refine held_take (i := 5) (d := 26) (v := ?_) rfl rfl (by kernel_rfl) (by kernel_rfl) (by kernel_rfl) (fun _ _ _ h => h) (by rfl) ?_ (by assumption) ?_
        rotate_left
        · intro w hSw
          (try dsimp only at hSw)
          go_simp
          try with_reducible rfl
        try simp only [Act.put, List.setIfInBounds_toArray, List.set_cons_zero, List.set_cons_succ]
        refine held_take (i := 6) (d := 27) (v := ?_) rfl rfl (by kernel_rfl) (by kernel_rfl) (by kernel_rfl) (fun _ _ _ h => h) (by rfl) ?_ (by assumption) ?_
        rotate_left
        · intro w hSw
          (try dsimp only at hSw)
          go_simp
          try with_reducible rfl
        try simp only [Act.put, List.setIfInBounds_toArray, List.set_cons_zero, List.set_cons_succ]
        refine wpAnyH_ready (rs := [7]) (by kernel_rfl) (by simp) ?_
        refine ((AllReadyH.cons rfl (fun K' hK => ?_) AllReadyH.nil))
        go_simp
        have BX2 := Lib.hid (BX1.out.alloc BX1.out.size (Obj.cells #[.int .i64 0, .int .i64 0, .int .i64 0, .int .i64 0, .int .i64 0, .int .i64 0, .int .i64 0, .int .i64 0] 63))
        refine hK.out _ _ ?_ (fun hHeld => ?_)
        · (try dsimp only)
          exact HS3.out _ BX2.out
        clear hK K'
        try simp only [Act.put, List.setIfInBounds_toArray, List.set_cons_zero, List.set_cons_succ]
        have E2 := Lib.hid (eight_new u1 ⟨0, 0, 0, 0, 0, 0, 0, 0⟩ 63)
        have F2 := Lib.hid (FroB.new u1 #[.int .i64 0, .int .i64 0, .int .i64 0, .int .i64 0, .int .i64 0, .int .i64 0, .int .i64 0, .int .i64 0] 63)
        have hlt2 : u1.heap.size < (u1.alloc (Obj.cells #[.int .i64 0, .int .i64 0, .int .i64 0, .int .i64 0, .int .i64 0, .int .i64 0, .int .i64 0, .int .i64 0] 63)).heap.size := by simp
        obtain ⟨u2, hu2⟩ : ∃ u2, u1.alloc (Obj.cells #[.int .i64 0, .int .i64 0, .int .i64 0, .int .i64 0, .int .i64 0, .int .i64 0, .int .i64 0, .int .i64 0] 63) = u2 := ⟨_, rfl⟩
        try simp only at E2
        rw [hu2] at hHeld BX2 E2 F2 hlt2 ⊢
        clear hu2
        obtain ⟨z0, z1, z2, z3, z4, z5, z6, z7⟩ := E2.out
        have y0 := F2.out 0
        have y1 := F2.out 1
        have y2 := F2.out 2
        have y3 := F2.out 3
        have y4 := F2.out 4
        have y5 := F2.out 5
        have y6 := F2.out 6
        have y7 := F2.out 7
        refine wpAnyH_ready (rs := [8]) (by kernel_rfl) (by simp) ?_
        refine ((AllReadyH.cons rfl (fun K' hK => ?_) AllReadyH.nil))
        go_simp
        refine hK.out _ _ ?_ (fun hHeld => ?_)
        · (try dsimp only)
          exact HS3.out _ (set8 BX2.out _ BX1.out.size _ _ _ _ _ _ _ _)
        clear hK K'
        refine wpAnyH_done (by kernel_rfl) ?_ _
        go_wp2_with fail
        go_meet
        exact ⟨_, rfl, set8 BX2.out _ BX1.out.size _ _ _ _ _ _ _ _, BX1.out.size, by simpa [Go.Deep.nblk_setCell] using hlt2, put8 E2.out.some ⟨xi, xp, xr, xe, xb, xu, xo, xl⟩⟩
      · go_simp
        have BX1 := Lib.hid (BX0.out.alloc BX0.out.size (Obj.cells #[.int .i64 0, .int .i64 0, .int .i64 0, .int .i64 0, .int .i64 0, .int .i64 0, .int .i64 0, .int .i64 0] 63))
        refine hK.out _ _ ?_ (fun hHeld => ?_)
        · (try dsimp only)
          exact HS3.out _ BX1.out
        clear hK K'
        try simp only [Act.put, List.setIfInBounds_toArray, List.set_cons_zero, List.set_cons_succ]
        have E1 := Lib.hid (eight_new u0 ⟨0, 0, 0, 0, 0, 0, 0, 0⟩ 63)
        have F1 := Lib.hid (FroB.new u0 #[.int .i64 0, .int .i64 0, .int .i64 0, .int .i64 0, .int .i64 0, .int .i64 0, .int .i64 0, .int .i64 0] 63)
        have hlt1 : u0.heap.size < (u0.alloc (Obj.cells #[.int .i64 0, .int .i64 0, .int .i64 0, .int .i64 0, .int .i64 0, .int .i64 0, .int .i64 0, .int .i64 0] 63)).heap.size := by simp
        obtain ⟨u1, hu1⟩ : ∃ u1, u0.alloc (Obj.cells #[.int .i64 0, .int .i64 0, .int .i64 0, .int .i64 0, .int .i64 0, .int .i64 0, .int .i64 0, .int .i64 0] 63) = u1 := ⟨_, rfl⟩
        try simp only at E1
        rw [hu1] at hHeld BX1 E1 F1 hlt1 ⊢
        clear hu1
        refine wpAnyH_ready (rs := [4]) (by kernel_rfl) (by simp) ?_
        refine ((AllReadyH.cons rfl (fun K' hK => ?_) AllReadyH.nil))
        go_simp
        go_at_call 78
        refine (HFF.out _ (Lib.hid (HI.out.below (B1.out.trans (BX1.out.mono B1.out.size))))).mono ?_
        rintro e u2 ⟨rfl, b4⟩
        have BX2 := Lib.hid (BX1.out.trans (b4.mono BX1.out.size))
        have E2 := Lib.hid (E1.out.on b4 hlt1)
        have F2 := Lib.hid (F1.out.on b4 hlt1)
        have hlt2 : u0.heap.size < u2.heap.size := Nat.lt_of_lt_of_le hlt1 b4.size
        clear b4
        refine hK.out _ _ ?_ (fun hHeld => ?_)
        · (try dsimp only)
          exact HS3.out _ BX2.out
        clear hK K'
        try simp only [Act.put, List.setIfInBounds_toArray, List.set_cons_zero, List.set_cons_succ]
        refine held_take (i := 5) (d := 26) (v := ?_) rfl rfl (by kernel_rfl) (by kernel_rfl) (by kernel_rfl) (fun _ _ _ h => h) (by rfl) ?_ (by assumption) ?_
        rotate_left
        · intro w hSw
          (try dsimp only at hSw)
          go_simp
          try with_reducible rfl
        try simp only [Act.put, List.setIfInBounds_toArray, List.set_cons_zero, List.set_cons_succ]
        refine held_take (i := 6) (d := 27) (v := ?_) rfl rfl (by kernel_rfl) (by kernel_rfl) (by kernel_rfl) (fun _ _ _ h => h) (by rfl) ?_ (by assumption) ?_
        rotate_left
        · intro w hSw
          (try dsimp only at hSw)
          go_simp
          try with_reducible rfl
        try simp only [Act.put, List.setIfInBounds_toArray, List.set_cons_zero, List.set_cons_succ]
        obtain ⟨z0, z1, z2, z3, z4, z5, z6, z7⟩ := E2.out
        have y0 := F2.out 0
        have y1 := F2.out 1
        have y2 := F2.out 2
        have y3 := F2.out 3
        have y4 := F2.out 4
        have y5 := F2.out 5
        have y6 := F2.out 6
        have y7 := F2.out 7
        refine wpAnyH_ready (rs := [8]) (by kernel_rfl) (by simp) ?_
        refine ((AllReadyH.cons rfl (fun K' hK => ?_) AllReadyH.nil))
        go_simp
        refine hK.out _ _ ?_ (fun hHeld => ?_)
        · (try dsimp only)
          exact HS3.out _ (set8 BX2.out _ BX0.out.size _ _ _ _ _ _ _ _)
        clear hK K'
        refine wpAnyH_done (by kernel_rfl) ?_ _
        go_wp2_with fail
        go_meet
        exact ⟨_, rfl, set8 BX2.out _ BX0.out.size _ _ _ _ _ _ _ _, BX0.out.size, by simpa [Go.Deep.nblk_setCell] using hlt2, put8 E2.out.some ⟨xi, xp, xr, xe, xb, xu, xo, xl⟩⟩
    case rest =>
      obtain ⟨bx, rfl, hbx, hbx1, hbx2, he8⟩ := hcut
      obtain ⟨w2, rfl⟩ : ∃ w2, w2 = wc := ⟨_, rfl⟩
      have HBX := Lib.hid hbx
      have HE8 := Lib.hid he8
      have BW2 := Lib.hid (B1.out.trans (hbx.mono B1.out.size))
      have hs12 := hbx.size
      clear hbx he8
      obtain ⟨j0, hj, hy0, hy1, hy2⟩ := info_parts infoFlt
      have HX2 : Hid (∀ w', Below w2.heap.size w2 w' → FourIs w' w.heap.size (.string s) (.slice (some ⟨gc, 0, none⟩) cs.length cc) (.slice af fs.length cf) (.int .i64 d)) := Lib.hid (fun w' h => X1.out.on (HBX.out.trans (h.mono hs12)))
      have HS4 : Hid (∀ w', Below w2.heap.size w2 w' → w'.cell? ⟨w.heap.size, 0, none⟩ = some (.string s) ∧ w'.cell? ⟨w.heap.size, 1, none⟩ = some (.slice (some ⟨gc, 0, none⟩) cs.length cc) ∧ w'.cell? ⟨w.heap.size, 2, none⟩ = some (.slice af fs.length cf) ∧ w'.cell? ⟨w.heap.size, 3, none⟩ = some (.int .i64 d) ∧ Below w2.heap.size w2 w') := Lib.hid (fun w' h => by
        obtain ⟨y0, y1, y2, y3, _⟩ := HX2.out w' h
        exact ⟨y0, y1, y2, y3, h⟩)
      go_upto_region 4 with fail
      go_cut [7] from 28 to 36 (fun x7 wx => DdR w2 s fs d x7 wx)
      case first =>
        refine wp_region_held_drew (S := fun w' => w'.cell? ⟨w.heap.size, 0, none⟩ = some (.string s) ∧ w'.cell? ⟨w.heap.size, 1, none⟩ = some (.slice (some ⟨gc, 0, none⟩) cs.length cc) ∧ w'.cell? ⟨w.heap.size, 2, none⟩ = some (.slice af fs.length cf) ∧ w'.cell? ⟨w.heap.size, 3, none⟩ = some (.int .i64 d) ∧ Below w2.heap.size w2 w') (by kernel_rfl) ?_ (fun hHeld => ?_)
        · (try dsimp only)
          exact HS4.out _ (below_drewN (Below.refl _ _) 1)
        refine held_take (i := 0) (d := 28) (v := ?_) rfl rfl (by kernel_rfl) (by kernel_rfl) (by kernel_rfl) (fun _ _ _ h => h) (by rfl) ?_ (by assumption) ?_
        rotate_left
        · intro w hSw
          (try dsimp only at hSw)
          go_simp
          try with_reducible rfl
        try simp only [Act.put, List.setIfInBounds_toArray, List.set_cons_zero, List.set_cons_succ]
        refine held_take (i := 1) (d := 29) (v := ?_) rfl rfl (by kernel_rfl) (by kernel_rfl) (by kernel_rfl) (fun _ _ _ h => h) (by rfl) ?_ (by assumption) ?_
        rotate_left
        · intro w hSw
          (try dsimp only at hSw)
          go_simp
          try with_reducible rfl
        try simp only [Act.put, List.setIfInBounds_toArray, List.set_cons_zero, List.set_cons_succ]
        refine held_take (i := 3) (d := 31) (v := ?_) rfl rfl (by kernel_rfl) (by kernel_rfl) (by kernel_rfl) (fun _ _ _ h => h) (by rfl) ?_ (by assumption) ?_
        rotate_left
        · intro w hSw
          (try dsimp only at hSw)
          go_simp
          try with_reducible rfl
        try simp only [Act.put, List.setIfInBounds_toArray, List.set_cons_zero, List.set_cons_succ]
        refine held_take (i := 4) (d := 32) (v := ?_) rfl rfl (by kernel_rfl) (by kernel_rfl) (by kernel_rfl) (fun _ _ _ h => h) (by rfl) ?_ (by assumption) ?_
        rotate_left
        · intro w hSw
          (try dsimp only at hSw)
          go_simp
          try with_reducible rfl
        try simp only [Act.put, List.setIfInBounds_toArray, List.set_cons_zero, List.set_cons_succ]
        refine held_take (i := 6) (d := 34) (v := ?_) rfl rfl (by kernel_rfl) (by kernel_rfl) (by kernel_rfl) (fun _ _ _ h => h) (by rfl) ?_ (by assumption) ?_
        rotate_left
        · intro w hSw
          (try dsimp only at hSw)
          go_simp
          try with_reducible rfl
        try simp only [Act.put, List.setIfInBounds_toArray, List.set_cons_zero, List.set_cons_succ]
        refine held_take (i := 7) (d := 35) (v := ?_) rfl rfl (by kernel_rfl) (by kernel_rfl) (by kernel_rfl) (fun _ _ _ h => h) (by rfl) ?_ (by assumption) ?_
        rotate_left
        · intro w hSw
          (try dsimp only at hSw)
          go_simp
          try with_reducible rfl
        try simp only [Act.put, List.setIfInBounds_toArray, List.set_cons_zero, List.set_cons_succ]
        have BX0 : Hid (Below w2.heap.size w2 w2.drew) := Lib.hid (below_drewN (Below.refl _ _) 1)
        obtain ⟨u0, hu0⟩ : ∃ u0, w2.drew = u0 := ⟨_, rfl⟩
        rw [hu0] at hHeld BX0 ⊢
        clear hu0
        refine wpAnyH_ready (rs := [2, 9]) (by kernel_rfl) (by simp) ?_
        refine ((AllReadyH.cons rfl (fun K' hK => ?_) (AllReadyH.cons rfl (fun K' hK => ?_) AllReadyH.nil)))
        · skip
          go_simp
          refine hK.out _ _ ?_ (fun hHeld => ?_)
          · (try dsimp only)
            exact HS4.out _ (BX0.out.alloc BX0.out.size _)
          clear hK K'
          try simp only [Act.put, List.setIfInBounds_toArray, List.set_cons_zero, List.set_cons_succ]
          have BX1 := Lib.hid (BX0.out.alloc BX0.out.size (Obj.cells #[] 113))
          have OF1 := Lib.hid (own_empty u0 w2.heap.size 113 5 BX0.out.size)
          have hr1 : u0.heap.size < (u0.alloc (Obj.cells #[] 113)).heap.size := by simp
          obtain ⟨u1, hu1⟩ : ∃ u, u0.alloc (Obj.cells #[] 113) = u := ⟨_, rfl⟩
          rw [hu1] at hHeld BX1 OF1 hr1 ⊢
          clear hu1
          refine wpAnyH_ready (rs := [5, 9]) (by kernel_rfl) (by simp) ?_
          refine ((AllReadyH.cons rfl (fun K' hK => ?_) (AllReadyH.cons rfl (fun K' hK => ?_) AllReadyH.nil)))
          · skip
            refine step_append_src _ rfl (.tmp 30) (.tmp 32) 52 rfl w2.heap.size 113 j0 (.agg #[.int .i64 0, .int .i64 0, .int .i64 0, .int .i64 0, .int .i64 0]) 5 40 Tryz.underlying52 hj hy0 hy1 hy2 rfl (by decide) (.slice (some ⟨u0.heap.size, 0, none⟩) 0 0) 0 [] (by rfl) OF1.out B (.slice af fs.length cf) fs.length (fltCs fs) (by rfl) (own_low OF.out (BW2.out.trans (BX1.out.mono (by have := B1.out.size; omega))) (Nat.le_refl _)) (fltCs_one fs) (by unfold maxLen; omega) (by omega) BX1.out.size ?_
            intro xF u2 hown hgrow hat
            rw [Nat.zero_add, List.nil_append] at hown
            obtain ⟨aF, kF, rfl, _⟩ := own_in hown
            have BX2 : Hid (Below w2.heap.size w2 u2) := Lib.hid (Below.grown BX1.out hgrow BX1.out.size (fun q hq => (World.ownsRow.lt OF1.out q hq).1))
            have OW2 := Lib.hid hown
            refine hK.out _ _ ?_ (fun hHeld => ?_)
            · (try dsimp only)
              exact HS4.out _ BX2.out
            clear hK K'
            try simp only [Act.put, List.setIfInBounds_toArray, List.set_cons_zero, List.set_cons_succ]
            refine held_take (i := 8) (d := 36) (v := ?_) rfl rfl (by kernel_rfl) (by kernel_rfl) (by kernel_rfl) (fun _ _ _ h => h) (by rfl) ?_ (by assumption) ?_
            rotate_left
            · intro w hSw
              (try dsimp only at hSw)
              go_simp
              try with_reducible rfl
            try simp only [Act.put, List.setIfInBounds_toArray, List.set_cons_zero, List.set_cons_succ]
            refine wpAnyH_ready (rs := [9]) (by kernel_rfl) (by simp) ?_
            refine ((AllReadyH.cons rfl (fun K' hK => ?_) AllReadyH.nil))
            go_simp
            refine hK.out _ _ ?_ (fun hHeld => ?_)
            · (try dsimp only)
              exact HS4.out _ (BX2.out.alloc BX2.out.size _)
            clear hK K'
            try simp only [Act.put, List.setIfInBounds_toArray, List.set_cons_zero, List.set_cons_succ]
            have BX3 := Lib.hid (BX2.out.alloc BX2.out.size (Obj.cells #[.string ⟨#[]⟩, .slice none 0 0, .slice none 0 0, .int .i64 0] 54))
            have FB3 : Hid (FourIs (u2.alloc (Obj.cells #[.string ⟨#[]⟩, .slice none 0 0, .slice none 0 0, .int .i64 0] 54)) u2.heap.size (.string ⟨#[]⟩) (.slice none 0 0) (.slice none 0 0) (.int .i64 0)) := Lib.hid (box_four (Below.refl _ _)).1
            have FR3 := Lib.hid (FroB.new u2 #[.string ⟨#[]⟩, .slice none 0 0, .slice none 0 0, .int .i64 0] 54)
            have hb3 : u2.heap.size < (u2.alloc (Obj.cells #[.string ⟨#[]⟩, .slice none 0 0, .slice none 0 0, .int .i64 0] 54)).heap.size := by simp
            have OW3 := Lib.hid (own_low OW2.out (one_new2 u2 (Obj.cells #[.string ⟨#[]⟩, .slice none 0 0, .slice none 0 0, .int .i64 0] 54)) (Nat.le_refl _))
            have hdis : ∀ g, (Value.slice aF fs.length kF).ownBlock = some g → g ≠ u2.heap.size := fun g hg => by have := (World.ownsRow.lt OW2.out g hg).2; omega
            obtain ⟨u3, hu3⟩ : ∃ u, u2.alloc (Obj.cells #[.string ⟨#[]⟩, .slice none 0 0, .slice none 0 0, .int .i64 0] 54) = u := ⟨_, rfl⟩
            rw [hu3] at hHeld BX3 FB3 FR3 hb3 OW3 ⊢
            clear hu3
            obtain ⟨z0, z1, z2, z3, zlt⟩ := FB3.out
            have y0 := FR3.out 0
            have y1 := FR3.out 1
            have y2 := FR3.out 2
            have y3 := FR3.out 3
            refine wpAnyH_ready (rs := [10]) (by kernel_rfl) (by simp) ?_
            refine ((AllReadyH.cons rfl (fun K' hK => ?_) AllReadyH.nil))
            go_simp
            refine hK.out _ _ ?_ (fun hHeld => ?_)
            · (try dsimp only)
              exact HS4.out _ (set4 BX3.out _ BX2.out.size _ _ _ _)
            clear hK K'
            refine wpAnyH_done (by kernel_rfl) ?_ _
            go_wp2_with fail
            go_meet
            obtain ⟨r0, r1, r2, r3⟩ := read4 (⟨by rw [z0]; rfl, by rw [z1]; rfl, by rw [z2]; rfl, by rw [z3]; rfl⟩ : Four u3 u2.heap.size) (.string s) (.slice none 0 0) (.slice aF fs.length kF) (.int .i64 d) _ rfl
            exact ⟨_, _, rfl, set4 BX3.out _ BX2.out.size _ _ _ _, BX2.out.size, by simpa [Go.Deep.nblk_setCell] using zlt, ⟨r0, r1, r2, r3, by simpa [Go.Deep.nblk_setCell] using zlt⟩, (((FR3.out.set _ _).set _ _).set _ _).set _ _, own_far4 OW3.out hdis _ _ _ _, hdis⟩
          · skip
            go_simp
            refine hK.out _ _ ?_ (fun hHeld => ?_)
            · (try dsimp only)
              exact HS4.out _ (BX1.out.alloc BX1.out.size _)
            clear hK K'
            try simp only [Act.put, List.setIfInBounds_toArray, List.set_cons_zero, List.set_cons_succ]
            have BX2 := Lib.hid (BX1.out.alloc BX1.out.size (Obj.cells #[.string ⟨#[]⟩, .slice none 0 0, .slice none 0 0, .int .i64 0] 54))
            have FB2 : Hid (FourIs (u1.alloc (Obj.cells #[.string ⟨#[]⟩, .slice none 0 0, .slice none 0 0, .int .i64 0] 54)) u1.heap.size (.string ⟨#[]⟩) (.slice none 0 0) (.slice none 0 0) (.int .i64 0)) := Lib.hid (box_four (Below.refl _ _)).1
            have FR2 := Lib.hid (FroB.new u1 #[.string ⟨#[]⟩, .slice none 0 0, .slice none 0 0, .int .i64 0] 54)
            have hb2 : u1.heap.size < (u1.alloc (Obj.cells #[.string ⟨#[]⟩, .slice none 0 0, .slice none 0 0, .int .i64 0] 54)).heap.size := by simp
            have OF2 := Lib.hid (own_low OF1.out (one_new2 u1 (Obj.cells #[.string ⟨#[]⟩, .slice none 0 0, .slice none 0 0, .int .i64 0] 54)) (Nat.le_refl _))
            obtain ⟨u2, hu2⟩ : ∃ u, u1.alloc (Obj.cells #[.string ⟨#[]⟩, .slice none 0 0, .slice none 0 0, .int .i64 0] 54) = u := ⟨_, rfl⟩
            rw [hu2] at hHeld BX2 FB2 FR2 hb2 OF2 ⊢
            clear hu2
            refine wpAnyH_ready (rs := [5]) (by kernel_rfl) (by simp) ?_
            refine ((AllReadyH.cons rfl (fun K' hK => ?_) AllReadyH.nil))
            refine step_append_src _ rfl (.tmp 30) (.tmp 32) 52 rfl w2.heap.size 113 j0 (.agg #[.int .i64 0, .int .i64 0, .int .i64 0, .int .i64 0, .int .i64 0]) 5 40 Tryz.underlying52 hj hy0 hy1 hy2 rfl (by decide) (.slice (some ⟨u0.heap.size, 0, none⟩) 0 0) 0 [] (by rfl) OF2.out B (.slice af fs.length cf) fs.length (fltCs fs) (by rfl) (own_low OF.out (BW2.out.trans (BX2.out.mono (by have := B1.out.size; omega))) (Nat.le_refl _)) (fltCs_one fs) (by unfold maxLen; omega) (by omega) BX2.out.size ?_
            intro xF u3 hown hgrow hat
            rw [Nat.zero_add, List.nil_append] at hown
            obtain ⟨aF, kF, rfl, _⟩ := own_in hown
            have BX3 : Hid (Below w2.heap.size w2 u3) := Lib.hid (Below.grown BX2.out hgrow BX2.out.size (fun q hq => (World.ownsRow.lt OF2.out q hq).1))
            have OW3 := Lib.hid hown
            refine hK.out _ _ ?_ (fun hHeld => ?_)
            · (try dsimp only)
              exact HS4.out _ BX3.out
            clear hK K'
            try simp only [Act.put, List.setIfInBounds_toArray, List.set_cons_zero, List.set_cons_succ]
            have hne : (Value.slice (some ⟨u0.heap.size, 0, none⟩) 0 0).ownBlock ≠ some u1.heap.size := fun q => (by have q2 : u0.heap.size = u1.heap.size := Option.some.inj q; omega)
            have hdis : ∀ g, (Value.slice aF fs.length kF).ownBlock = some g → g ≠ u1.heap.size := fun g hg q => by
              subst q
              rcases hat with q | q
              · rw [q] at hg; exact hne hg
              · rw [q] at hg
                have : u2.heap.size = u1.heap.size := by simpa using hg
                omega
            have hsm : u2.heap.size ≤ u3.heap.size := hgrow.size
            have hbk := hgrow.block u1.heap.size hb2 hne.symm
            have FB3 := Lib.hid (FB2.out.same hbk hsm)
            have FR3 := Lib.hid (FR2.out.same hbk)
            refine held_take (i := 8) (d := 36) (v := ?_) rfl rfl (by kernel_rfl) (by kernel_rfl) (by kernel_rfl) (fun _ _ _ h => h) (by rfl) ?_ (by assumption) ?_
            rotate_left
            · intro w hSw
              (try dsimp only at hSw)
              go_simp
              try with_reducible rfl
            try simp only [Act.put, List.setIfInBounds_toArray, List.set_cons_zero, List.set_cons_succ]
            obtain ⟨z0, z1, z2, z3, zlt⟩ := FB3.out
            have y0 := FR3.out 0
            have y1 := FR3.out 1
            have y2 := FR3.out 2
            have y3 := FR3.out 3
            refine wpAnyH_ready (rs := [10]) (by kernel_rfl) (by simp) ?_
            refine ((AllReadyH.cons rfl (fun K' hK => ?_) AllReadyH.nil))
            go_simp
            refine hK.out _ _ ?_ (fun hHeld => ?_)
            · (try dsimp only)
              exact HS4.out _ (set4 BX3.out _ BX1.out.size _ _ _ _)
            clear hK K'
            refine wpAnyH_done (by kernel_rfl) ?_ _
            go_wp2_with fail
            go_meet
            obtain ⟨r0, r1, r2, r3⟩ := read4 (⟨by rw [z0]; rfl, by rw [z1]; rfl, by rw [z2]; rfl, by rw [z3]; rfl⟩ : Four u3 u1.heap.size) (.string s) (.slice none 0 0) (.slice aF fs.length kF) (.int .i64 d) _ rfl
            exact ⟨_, _, rfl, set4 BX3.out _ BX1.out.size _ _ _ _, BX1.out.size, by simpa [Go.Deep.nblk_setCell] using zlt, ⟨r0, r1, r2, r3, by simpa [Go.Deep.nblk_setCell] using zlt⟩, (((FR3.out.set _ _).set _ _).set _ _).set _ _, own_far4 OW3.out hdis _ _ _ _, hdis⟩
        · skip
          go_simp
          refine hK.out _ _ ?_ (fun hHeld => ?_)
          · (try dsimp only)
            exact HS4.out _ (BX0.out.alloc BX0.out.size _)
          clear hK K'
          try simp only [Act.put, List.setIfInBounds_toArray, List.set_cons_zero, List.set_cons_succ]
          have BX1 := Lib.hid (BX0.out.alloc BX0.out.size (Obj.cells #[.string ⟨#[]⟩, .slice none 0 0, .slice none 0 0, .int .i64 0] 54))
          have FB1 : Hid (FourIs (u0.alloc (Obj.cells #[.string ⟨#[]⟩, .slice none 0 0, .slice none 0 0, .int .i64 0] 54)) u0.heap.size (.string ⟨#[]⟩) (.slice none 0 0) (.slice none 0 0) (.int .i64 0)) := Lib.hid (box_four (Below.refl _ _)).1
          have FR1 := Lib.hid (FroB.new u0 #[.string ⟨#[]⟩, .slice none 0 0, .slice none 0 0, .int .i64 0] 54)
          have hb1 : u0.heap.size < (u0.alloc (Obj.cells #[.string ⟨#[]⟩, .slice none 0 0, .slice none 0 0, .int .i64 0] 54)).heap.size := by simp
          obtain ⟨u1, hu1⟩ : ∃ u, u0.alloc (Obj.cells #[.string ⟨#[]⟩, .slice none 0 0, .slice none 0 0, .int .i64 0] 54) = u := ⟨_, rfl⟩
          rw [hu1] at hHeld BX1 FB1 FR1 hb1 ⊢
          clear hu1
          refine wpAnyH_ready (rs := [2]) (by kernel_rfl) (by simp) ?_
          refine ((AllReadyH.cons rfl (fun K' hK => ?_) AllReadyH.nil))
          go_simp
          refine hK.out _ _ ?_ (fun hHeld => ?_)
          · (try dsimp only)
            exact HS4.out _ (BX1.out.alloc BX1.out.size _)
          clear hK K'
          try simp only [Act.put, List.setIfInBounds_toArray, List.set_cons_zero, List.set_cons_succ]
          have BX2 := Lib.hid (BX1.out.alloc BX1.out.size (Obj.cells #[] 113))
          have OF2 := Lib.hid (own_empty u1 w2.heap.size 113 5 BX1.out.size)
          have hr2 : u1.heap.size < (u1.alloc (Obj.cells #[] 113)).heap.size := by simp
          have FB2 := Lib.hid (FB1.out.on (one_new2 u1 (Obj.cells #[] 113)))
          have FR2 := Lib.hid (FR1.out.on (one_new2 u1 (Obj.cells #[] 113)) hb1)
          obtain ⟨u2, hu2⟩ : ∃ u, u1.alloc (Obj.cells #[] 113) = u := ⟨_, rfl⟩
          rw [hu2] at hHeld BX2 OF2 hr2 FB2 FR2 ⊢
          clear hu2
          refine wpAnyH_ready (rs := [5]) (by kernel_rfl) (by simp) ?_
          refine ((AllReadyH.cons rfl (fun K' hK => ?_) AllReadyH.nil))
          refine step_append_src _ rfl (.tmp 30) (.tmp 32) 52 rfl w2.heap.size 113 j0 (.agg #[.int .i64 0, .int .i64 0, .int .i64 0, .int .i64 0, .int .i64 0]) 5 40 Tryz.underlying52 hj hy0 hy1 hy2 rfl (by decide) (.slice (some ⟨u1.heap.size, 0, none⟩) 0 0) 0 [] (by rfl) OF2.out B (.slice af fs.length cf) fs.length (fltCs fs) (by rfl) (own_low OF.out (BW2.out.trans (BX2.out.mono (by have := B1.out.size; omega))) (Nat.le_refl _)) (fltCs_one fs) (by unfold maxLen; omega) (by omega) BX2.out.size ?_
          intro xF u3 hown hgrow hat
          rw [Nat.zero_add, List.nil_append] at hown
          obtain ⟨aF, kF, rfl, _⟩ := own_in hown
          have BX3 : Hid (Below w2.heap.size w2 u3) := Lib.hid (Below.grown BX2.out hgrow BX2.out.size (fun q hq => (World.ownsRow.lt OF2.out q hq).1))
          have OW3 := Lib.hid hown
          refine hK.out _ _ ?_ (fun hHeld => ?_)
          · (try dsimp only)
            exact HS4.out _ BX3.out
          clear hK K'
          try simp only [Act.put, List.setIfInBounds_toArray, List.set_cons_zero, List.set_cons_succ]
          have hne : (Value.slice (some ⟨u1.heap.size, 0, none⟩) 0 0).ownBlock ≠ some u0.heap.size := fun q => (by have q2 : u1.heap.size = u0.heap.size := Option.some.inj q; omega)
          have hdis : ∀ g, (Value.slice aF fs.length kF).ownBlock = some g → g ≠ u0.heap.size := fun g hg q => by
            subst q
            rcases hat with q | q
            · rw [q] at hg; exact hne hg
            · rw [q] at hg
              have : u2.heap.size = u0.heap.size := by simpa using hg
              omega
          have hsm : u2.heap.size ≤ u3.heap.size := hgrow.size
          have hbk := hgrow.block u0.heap.size (by omega) hne.symm
          have FB3 := Lib.hid (FB2.out.same hbk hsm)
          have FR3 := Lib.hid (FR2.out.same hbk)
          refine held_take (i := 8) (d := 36) (v := ?_) rfl rfl (by kernel_rfl) (by kernel_rfl) (by kernel_rfl) (fun _ _ _ h => h) (by rfl) ?_ (by assumption) ?_
          rotate_left
          · intro w hSw
            (try dsimp only at hSw)
            go_simp
            try with_reducible rfl
          try simp only [Act.put, List.setIfInBounds_toArray, List.set_cons_zero, List.set_cons_succ]
          obtain ⟨z0, z1, z2, z3, zlt⟩ := FB3.out
          have y0 := FR3.out 0
          have y1 := FR3.out 1
          have y2 := FR3.out 2
          have y3 := FR3.out 3
          refine wpAnyH_ready (rs := [10]) (by kernel_rfl) (by simp) ?_
          refine ((AllReadyH.cons rfl (fun K' hK => ?_) AllReadyH.nil))
          go_simp
          refine hK.out _ _ ?_ (fun hHeld => ?_)
          · (try dsimp only)
            exact HS4.out _ (set4 BX3.out _ BX0.out.size _ _ _ _)
          clear hK K'
          refine wpAnyH_done (by kernel_rfl) ?_ _
          go_wp2_with fail
          go_meet
          obtain ⟨r0, r1, r2, r3⟩ := read4 (⟨by rw [z0]; rfl, by rw [z1]; rfl, by rw [z2]; rfl, by rw [z3]; rfl⟩ : Four u3 u0.heap.size) (.string s) (.slice none 0 0) (.slice aF fs.length kF) (.int .i64 d) _ rfl
          exact ⟨_, _, rfl, set4 BX3.out _ BX0.out.size _ _ _ _, BX0.out.size, by simpa [Go.Deep.nblk_setCell] using zlt, ⟨r0, r1, r2, r3, by simpa [Go.Deep.nblk_setCell] using zlt⟩, (((FR3.out.set _ _).set _ _).set _ _).set _ _, own_far4 OW3.out hdis _ _ _ _, hdis⟩
      case rest =>
        obtain ⟨bo, vF, rfl, hbo, hbo1, hbo2, hf4, hfro, hof, hdf⟩ := hcut
        obtain ⟨w3, rfl⟩ : ∃ w3, w3 = wc := ⟨_, rfl⟩
        obtain ⟨i0, hi, hw0, hw1, hw2⟩ := info_parts infoCls
        have hs23 := hbo.size
        have hv3 : ∀ g, vF.ownBlock = some g → g < w3.heap.size ∧ g ≠ bo := fun g hg => ⟨(World.ownsRow.lt hof g hg).2, hdf g hg⟩
        have HD0 : Hid (DlAt w2 w3.heap.size bo s fs d vF (.slice none 0 0) [] w3) := Lib.hid ⟨hbo, Nat.le_refl _, hf4, hfro, hof, World.ownsRow_nil _ _ _ _⟩
        have HV3 := Lib.hid hv3
        obtain ⟨x0, x1, x2, x3, _⟩ := HX2.out w3 hbo
        clear hf4 hfro hdf hbo hv3 HX2 HS4
        obtain ⟨af2, cf2, rfl, _⟩ := own_in hof
        clear hof
        go_wp2_with fail
        go_loopw [40] (fun i wr => DlRel w2 w3.heap.size bo s fs d (.slice af2 fs.length cf2) cs (cut cs k) id i wr) (fun i _ => cs.length - (intOf i).toNat)
        case atStart => exact ⟨0, [], .slice none 0 0, Nat.zero_le _, Nat.le_refl _, rfl, HD0.out, Lib.hid (by rw [List.drop_zero, List.nil_append]; exact HCF.out)⟩
        case round =>
          obtain ⟨j, L, v, hj, hjl, rfl, hd, HP⟩ := hrel
          have HD := Lib.hid hd
          have BR : Hid (Below w.heap.size w wr) := Lib.hid (BW2.out.trans (hd.1.mono (by have := BW2.out.size; omega)))
          clear hd x0 x1 x2 x3
          by_cases hlt : j < cs.length
          · obtain ⟨y, hy⟩ : ∃ y, cs.getD j cls0 = y := ⟨_, rfl⟩
            obtain ⟨a0, a1, a2, a3, a4, a5, a6, a7⟩ := (HTC.out.below BR.out hgc).cls j hlt y hy
            have HE := Lib.hid (filter_at cs j hlt y hy (fun y => !(y.i == id)))
            obtain ⟨yi, yp, yr, ye, yb, yu, yo, yl⟩ := y
            simp only at a0 a1 a2 a3 a4 a5 a6 a7 HE
            have hgr : gc < wr.heap.size := Nat.lt_of_lt_of_le hgc BR.out.size
            clear hy
            by_cases he : yi = id
            · have dq : (yi == id) = true := by simpa using he
              have HX : Hid (L ++ (cs.drop (j + 1)).filter (fun y => !(y.i == id)) = cut cs k) := Lib.hid (by rw [← HP.out, HE.out]; simp [dq])
              have HDn := Lib.hid (HD.out.on (one_new2 wr (Obj.cells #[.int .i64 yi, .int .i64 yp, .int .i64 yr, .int .i64 ye, .int .i64 yb, .int .i64 yu, .int .i64 yo, .int .i64 yl] 63)))
              clear HE
              go_wp2_with fail
              go_roundw
              case rel => exact ⟨j + 1, L, v, by omega, by omega, by go_num, (by have q := HDn.out; first | exact q | (rw [he] at q; exact q)), HX⟩
              case measure => simp [intOf]; omega
            · have dq : (yi == id) = false := by simpa using he
              have HX : Hid ((L ++ [⟨yi, yp, yr, ye, yb, yu, yo, yl⟩]) ++ (cs.drop (j + 1)).filter (fun y => !(y.i == id)) = cut cs k) := Lib.hid (by rw [← HP.out, HE.out]; simp [dq])
              have HDn := Lib.hid (HD.out.on (one_new2 wr (Obj.cells #[.int .i64 yi, .int .i64 yp, .int .i64 yr, .int .i64 ye, .int .i64 yb, .int .i64 yu, .int .i64 yo, .int .i64 yl] 63)))
              have HDm := Lib.hid (HDn.out.on (one_new2 (wr.alloc (Obj.cells #[.int .i64 yi, .int .i64 yp, .int .i64 yr, .int .i64 ye, .int .i64 yb, .int .i64 yu, .int .i64 yo, .int .i64 yl] 63)) (Obj.cells #[.int .i64 yi, .int .i64 yp, .int .i64 yr, .int .i64 ye, .int .i64 yb, .int .i64 yu, .int .i64 yo, .int .i64 yl] 63)))
              obtain ⟨av, cv, rfl, _⟩ := own_in HD.out.2.2.2.2.2
              obtain ⟨z0, z1, z2, z3, zl⟩ := HDn.out.2.2.1
              obtain ⟨t0, t1, t2, t3, tl⟩ := HDm.out.2.2.1
              have zf := HDn.out.2.2.2.1 1
              have tf := HDm.out.2.2.2.1 1
              have hfr := HD.out.1.size
              have ha2 := HD.out.2.1
              have hyb : (¬ wr.heap.size = bo) ∧ (¬ wr.heap.size + 1 = bo) := by omega
              clear HE he
              go_wp2_with (at_builtin; refine wpList_append_own _ rfl _ _ 51 rfl w3.heap.size 63 i0 (.agg #[.int .i64 0, .int .i64 0, .int .i64 0, .int .i64 0, .int .i64 0, .int .i64 0, .int .i64 0, .int .i64 0]) 8 64 Tryz.underlying51 hi hw0 hw1 hw2 rfl (by decide) (.slice av L.length cv) L.length (clsCs L) (by rfl) HDm.out.2.2.2.2.2 ⟨wr.heap.size + 1, 0, none⟩ 1 1 (clsC ⟨yi, yp, yr, ye, yb, yu, yo, yl⟩) (by rfl) rfl (by have := eight_cells (wr.alloc (Obj.cells #[.int .i64 yi, .int .i64 yp, .int .i64 yr, .int .i64 ye, .int .i64 yb, .int .i64 yu, .int .i64 yo, .int .i64 yl] 63)) ⟨yi, yp, yr, ye, yb, yu, yo, yl⟩ 63; simpa using this) (clsC_one _) (by unfold maxLen; omega) (by omega) (by simp; omega) ?_; intro v' w4 hown1 hgrow1 _; obtain ⟨av4, cv4, rfl, _⟩ := own_in hown1; have HD4 := Lib.hid (HDm.out.snoc hgrow1 hown1 hbo1 hbo2 hs23 HV3.out); have hbk := hgrow1.block bo tl (fun q => by have := (World.ownsRow.lt HDm.out.2.2.2.2.2 bo q.symm).1; omega); have s1 := (cell_heap hbk 1).trans t1; have sf := (World.frozen?_of_block (a := ⟨bo, 1, none⟩) hbk).trans tf; clear hown1 hgrow1 hbk t1 tf z1 zf)
              go_roundw
              case rel => exact ⟨j + 1, _, _, by omega, by simp; omega, by go_num, HD4.out, HX⟩
              case measure => simp [intOf]; omega
          · have HL : Hid (L = cut cs k) := Lib.hid (by rw [← HP.out, List.drop_eq_nil_of_le (by omega), List.filter_nil, List.append_nil])
            obtain rfl := HL.out
            obtain ⟨av, cv, rfl, hiv⟩ := own_in HD.out.2.2.2.2.2
            have HIV := Lib.hid hiv
            rw [hcl] at HIV
            obtain ⟨z0, z1, z2, z3, zl⟩ := HD.out.2.2.1
            have zf := HD.out.2.2.2.1 1
            rw [hcl] at z1
            have HE9 := Lib.hid (HE8.out.on (HD.out.1) hbx2)
            obtain ⟨a0, a1, a2, a3, a4, a5, a6, a7⟩ := HE9.out
            try simp only at a0 a1 a2 a3 a4 a5 a6 a7
            clear HL hiv HP
            have hszw := BW2.out.size
            have hn3 : fs.length = fs.length := rfl
            have HFP := Lib.hid (fun w' HI => cfFind_any s av af2 (cs.length - 1) cv fs.length cf2 d (cut cs k) xp w' HI (Lib.hid hcl) (by omega))
            have HLF := Lib.hid (fun q hq w' HI => cfLeaf_any s av af2 (cs.length - 1) cv fs.length cf2 d (cut cs k) q w' HI (Lib.hid hcl) (by omega) hq)
            have OR : Hid (OwnCfg wr w2.heap.size (.agg #[.string s, .slice av (cs.length - 1) cv, .slice af2 fs.length cf2, .int .i64 d]) (cutC (⟨s, cs, fs, d⟩ : Cfg) k)) := Lib.hid ⟨_, _, rfl, by
              have q := own_base HD.out.2.2.2.2.2 hs23
              rw [show (cutC (⟨s, cs, fs, d⟩ : Cfg) k).cs = cut cs k from rfl, hcl]
              rw [hcl] at q
              exact q, HD.out.2.2.2.2.1, fun g hg q => by
                have h1 := (World.ownsRow.lt HD.out.2.2.2.2.2 g (by rw [hcl]; exact hg)).1
                have h2 := (HV3.out g q).1
                omega⟩
            have XR : Hid (FourIs wr bo (.string s) (.slice av (cs.length - 1) cv) (.slice af2 fs.length cf2) (.int .i64 d)) := Lib.hid (by have q := HD.out.2.2.1; rw [hcl] at q; exact q)
            have ZR : Hid (Zer wr (w.heap.size + 1)) := Lib.hid (Z1.out.on (HBX.out.trans (HD.out.1.mono hs12)))
            have OC := Lib.hid (own_base HD.out.2.2.2.2.2 (Nat.le_refl _))
            rw [hcl] at OC
            have hxp : cs.getD k cls0 = ⟨xi, xp, xr, xe, xb, xu, xo, xl⟩ := HXX.out
            have hbxo : ¬ bx = bo ∧ ¬ bo = bx := by omega
            have hww : w.heap.size + 1 < w2.heap.size := by omega
            clear HD HD0 HFF HTG HGD HS3 H8 X0 Z0 B0
            cases hfn : fnd (cut cs k) xp with
            | none =>
              have hD := dropL_none (c := (⟨s, cs, fs, d⟩ : Cfg)) hxp hfn
              rw [fndI_none hfn] at HFP
              rw [hD] at HMS HB HRC
              clear hD hfn hxp
              go_wp2_with (go_at_call 78; refine (HFP.out _ HIV).mono ?_; rintro e wz ⟨rfl, bz⟩; have BZ := Lib.hid (BR.out.trans (bz.mono BR.out.size)); have OZ := Lib.hid (OR.out.on bz); have X8Z := Lib.hid (XR.out.on bz); have ZZ := Lib.hid (ZR.out.on bz); clear bz z0 z1 z2 z3 a0 a1 a2 a3 a4 a5 a6 a7 zf; obtain ⟨z0, z1, z2, z3, _⟩ := X8Z.out; refine Hid.out ?_)
              refine Lib.hid ?_
              have HIX := Lib.hid (cfIf_any _ _ _ (Lib.hid OZ.out.cfg) HMS)
              rw [HB.out] at HIX
              obtain ⟨z0, z1, z2, z3, _⟩ := X8Z.out
              cases b
              · obtain rfl : cfg0 = rc := HRC.out
                unfold SaysIf at HIX
                simp only [Bool.false_eq_true, if_false] at HIX
                unfold zV at HIX
                go_wp2_with (go_at_call 87; refine HIX.out.mono ?_; rintro e wv ⟨rfl, bv⟩; have BV := Lib.hid bv; clear bv; refine Hid.out ?_)
                refine Lib.hid ?_
                clear z0 z1 z2 z3
                obtain ⟨⟨x0, x1, x2, x3, _⟩, x4⟩ := ZZ.out.on BV.out
                have y0 := x4 0
                have y1 := x4 1
                have y2 := x4 2
                have y3 := x4 3
                clear x4
                go_wp2_with fail
                have F4 := (ZZ.out.on BV.out).four
                obtain ⟨r0, r1, r2, r3⟩ := read4 F4 (.string ⟨#[]⟩) (.slice none 0 0) (.slice none 0 0) (.int .i64 0) _ rfl
                exact bodyPost_ret (v := .tuple #[zV, .bool false]) (by simp [results, Tryz.results39, go_sem, r0, r1, r2, r3, zV]) rfl ⟨_, rfl, own_zV _ _, set4 (BZ.out.trans (BV.out.mono BZ.out.size)) _ (Nat.le_succ _) _ _ _ _⟩
              · obtain rfl : cutC (⟨s, cs, fs, d⟩ : Cfg) k = rc := HRC.out
                unfold SaysIf at HIX
                simp only [if_true] at HIX
                skip
                go_wp2_with (go_at_call 87; refine HIX.out.mono ?_; rintro e wv ⟨rfl, bv⟩; have BV := Lib.hid bv; clear bv; refine Hid.out ?_)
                refine Lib.hid ?_
                clear z0 z1 z2 z3
                obtain ⟨⟨x0, x1, x2, x3, _⟩, x4⟩ := ZZ.out.on BV.out
                have y0 := x4 0
                have y1 := x4 1
                have y2 := x4 2
                have y3 := x4 3
                clear x4
                go_wp2_with fail
                have F4 := (ZZ.out.on BV.out).four
                obtain ⟨r0, r1, r2, r3⟩ := read4 F4 (.string s) (.slice av (cs.length - 1) cv) (.slice af2 fs.length cf2) (.int .i64 d) _ rfl
                exact bodyPost_ret (v := .tuple #[(.agg #[.string s, .slice av (cs.length - 1) cv, .slice af2 fs.length cf2, .int .i64 d]), .bool true]) (by simp [results, Tryz.results39, go_sem, r0, r1, r2, r3]) rfl ⟨_, rfl, ((OZ.out.on BV.out).set4 hww _ _ _ _).base (by omega), set4 (BZ.out.trans (BV.out.mono BZ.out.size)) _ (Nat.le_succ _) _ _ _ _⟩
            | some i =>
              have hig := fnd_get _ _ _ hfn
              have hin : i < cs.length - 1 := by have := hig.1; omega
              rw [fndI_some hfn] at HFP
              have HLI := Lib.hid (HLF.out i hin)
              rw [hig.2] at HLI
              cases hh : hasK (cut cs k) xp
              · have hD := dropL_leaf (c := (⟨s, cs, fs, d⟩ : Cfg)) hxp hfn hh
                rw [hD] at HMS HB HRC
                rw [hh] at HLI
                clear hD hfn hxp hh hig
                obtain ⟨g, rfl, _, hgg⟩ := HIV.out (by omega)
                have hg3 := (World.ownsRow.lt OC.out g rfl).1
                go_wp2_with (go_at_call 78; refine (HFP.out _ HIV).mono ?_; rintro e u1 ⟨rfl, b1⟩; have B4 := Lib.hid (BR.out.trans (b1.mono BR.out.size)); have O4 := Lib.hid (OR.out.on b1); have X4 := Lib.hid (XR.out.on b1); have Z4 := Lib.hid (ZR.out.on b1); have E4 := Lib.hid (HE9.out.on2 b1 (by omega)); have I4 := Lib.hid (HIV.out.below b1); have C4 := Lib.hid (own_low OC.out b1 (Nat.le_refl _)); have hs1 := b1.size; clear b1 z0 z1 z2 z3 a0 a1 a2 a3 a4 a5 a6 a7 zf; obtain ⟨z0, z1, z2, z3, _⟩ := X4.out; refine Hid.out ?_)
                refine Lib.hid ?_
                go_wp2_with (go_at_call 97; refine (HLI.out _ I4).mono ?_; rintro e u2 ⟨rfl, b1⟩; have B5 := Lib.hid (B4.out.trans (b1.mono B4.out.size)); have O5 := Lib.hid (O4.out.on b1); have X5 := Lib.hid (X4.out.on b1); have Z5 := Lib.hid (Z4.out.on b1); have E5 := Lib.hid (E4.out.on2 b1 (by omega)); have C5 := Lib.hid (own_low C4.out b1 (Nat.le_refl _)); clear b1 z0 z1 z2 z3; obtain ⟨z0, z1, z2, z3, _⟩ := X5.out; obtain ⟨a0, a1, a2, a3, a4, a5, a6, a7⟩ := E5.out; refine Hid.out ?_)
                refine Lib.hid ?_
                try simp only at a0 a1 a2 a3 a4 a5 a6 a7
                obtain ⟨u7, c7⟩ := own_cell C5.out (i * 8 + 7) (by omega)
                have f7 := World.ownsRow.frozenAt C5.out (i * 8 + 7)
                have OZ : Hid (OwnCfg (u2.setCell ⟨g, i * 8 + 7, none⟩ (.int .i64 xl)) w2.heap.size (.agg #[.string s, .slice (some ⟨g, 0, none⟩) (cs.length - 1) cv, .slice af2 fs.length cf2, .int .i64 d]) (setL (cutC (⟨s, cs, fs, d⟩ : Cfg) k) i xl)) := Lib.hid (by
                  have q := O5.out
                  unfold cutC at q
                  rw [← hcl] at q
                  have r := q.lim i (by rw [hcl]; exact hin) xl
                  rw [hcl] at r
                  exact r)
                have hgw : w.heap.size ≤ g := by omega
                have BZ : Hid (Below w.heap.size w (u2.setCell ⟨g, i * 8 + 7, none⟩ (.int .i64 xl))) := Lib.hid (B5.out.setCell hgw _)
                have X8Z : Hid (FourIs (u2.setCell ⟨g, i * 8 + 7, none⟩ (.int .i64 xl)) bo (.string s) (.slice (some ⟨g, 0, none⟩) (cs.length - 1) cv) (.slice af2 fs.length cf2) (.int .i64 d)) := Lib.hid (X5.out.far (by omega) _)
                have ZZ : Hid (Zer (u2.setCell ⟨g, i * 8 + 7, none⟩ (.int .i64 xl)) (w.heap.size + 1)) := Lib.hid (Z5.out.set (by omega) _)
                have n5 : ¬ bo = g := by omega
                have n6 : ¬ g = bo := by omega
                have HIX := Lib.hid (cfIf_any _ _ _ (Lib.hid OZ.out.cfg) HMS)
                rw [HB.out] at HIX
                obtain ⟨z0, z1, z2, z3, _⟩ := X8Z.out
                cases b
                · obtain rfl : cfg0 = rc := HRC.out
                  unfold SaysIf at HIX
                  simp only [Bool.false_eq_true, if_false] at HIX
                  unfold zV at HIX
                  go_wp2_with (go_at_call 87; refine HIX.out.mono ?_; rintro e wv ⟨rfl, bv⟩; have BV := Lib.hid bv; clear bv; refine Hid.out ?_)
                  refine Lib.hid ?_
                  clear z0 z1 z2 z3
                  obtain ⟨⟨x0, x1, x2, x3, _⟩, x4⟩ := ZZ.out.on BV.out
                  have y0 := x4 0
                  have y1 := x4 1
                  have y2 := x4 2
                  have y3 := x4 3
                  clear x4
                  go_wp2_with fail
                  have F4 := (ZZ.out.on BV.out).four
                  obtain ⟨r0, r1, r2, r3⟩ := read4 F4 (.string ⟨#[]⟩) (.slice none 0 0) (.slice none 0 0) (.int .i64 0) _ rfl
                  exact bodyPost_ret (v := .tuple #[zV, .bool false]) (by simp [results, Tryz.results39, go_sem, r0, r1, r2, r3, zV]) rfl ⟨_, rfl, own_zV _ _, set4 (BZ.out.trans (BV.out.mono BZ.out.size)) _ (Nat.le_succ _) _ _ _ _⟩
                · obtain rfl : setL (cutC (⟨s, cs, fs, d⟩ : Cfg) k) i xl = rc := HRC.out
                  unfold SaysIf at HIX
                  simp only [if_true] at HIX
                  skip
                  go_wp2_with (go_at_call 87; refine HIX.out.mono ?_; rintro e wv ⟨rfl, bv⟩; have BV := Lib.hid bv; clear bv; refine Hid.out ?_)
                  refine Lib.hid ?_
                  clear z0 z1 z2 z3
                  obtain ⟨⟨x0, x1, x2, x3, _⟩, x4⟩ := ZZ.out.on BV.out
                  have y0 := x4 0
                  have y1 := x4 1
                  have y2 := x4 2
                  have y3 := x4 3
                  clear x4
                  go_wp2_with fail
                  have F4 := (ZZ.out.on BV.out).four
                  obtain ⟨r0, r1, r2, r3⟩ := read4 F4 (.string s) (.slice (some ⟨g, 0, none⟩) (cs.length - 1) cv) (.slice af2 fs.length cf2) (.int .i64 d) _ rfl
                  exact bodyPost_ret (v := .tuple #[(.agg #[.string s, .slice (some ⟨g, 0, none⟩) (cs.length - 1) cv, .slice af2 fs.length cf2, .int .i64 d]), .bool true]) (by simp [results, Tryz.results39, go_sem, r0, r1, r2, r3]) rfl ⟨_, rfl, ((OZ.out.on BV.out).set4 hww _ _ _ _).base (by omega), set4 (BZ.out.trans (BV.out.mono BZ.out.size)) _ (Nat.le_succ _) _ _ _ _⟩
              · have hD := dropL_kids (c := (⟨s, cs, fs, d⟩ : Cfg)) hxp hfn hh
                rw [hD] at HMS HB HRC
                rw [hh] at HLI
                clear hD hfn hxp hh hig
                go_wp2_with (go_at_call 78; refine (HFP.out _ HIV).mono ?_; rintro e u1 ⟨rfl, b1⟩; have B4 := Lib.hid (BR.out.trans (b1.mono BR.out.size)); have O4 := Lib.hid (OR.out.on b1); have X4 := Lib.hid (XR.out.on b1); have Z4 := Lib.hid (ZR.out.on b1); have I4 := Lib.hid (HIV.out.below b1); clear b1 z0 z1 z2 z3 a0 a1 a2 a3 a4 a5 a6 a7 zf; obtain ⟨z0, z1, z2, z3, _⟩ := X4.out; refine Hid.out ?_)
                refine Lib.hid ?_
                go_wp2_with (go_at_call 97; refine (HLI.out _ I4).mono ?_; rintro e u2 ⟨rfl, b1⟩; have BZ := Lib.hid (B4.out.trans (b1.mono B4.out.size)); have OZ := Lib.hid (O4.out.on b1); have X8Z := Lib.hid (X4.out.on b1); have ZZ := Lib.hid (Z4.out.on b1); clear b1 z0 z1 z2 z3; obtain ⟨z0, z1, z2, z3, _⟩ := X8Z.out; refine Hid.out ?_)
                refine Lib.hid ?_
                have HIX := Lib.hid (cfIf_any _ _ _ (Lib.hid OZ.out.cfg) HMS)
                rw [HB.out] at HIX
                obtain ⟨z0, z1, z2, z3, _⟩ := X8Z.out
                cases b
                · obtain rfl : cfg0 = rc := HRC.out
                  unfold SaysIf at HIX
                  simp only [Bool.false_eq_true, if_false] at HIX
                  unfold zV at HIX
                  go_wp2_with (go_at_call 87; refine HIX.out.mono ?_; rintro e wv ⟨rfl, bv⟩; have BV := Lib.hid bv; clear bv; refine Hid.out ?_)
                  refine Lib.hid ?_
                  clear z0 z1 z2 z3
                  obtain ⟨⟨x0, x1, x2, x3, _⟩, x4⟩ := ZZ.out.on BV.out
                  have y0 := x4 0
                  have y1 := x4 1
                  have y2 := x4 2
                  have y3 := x4 3
                  clear x4
                  go_wp2_with fail
                  have F4 := (ZZ.out.on BV.out).four
                  obtain ⟨r0, r1, r2, r3⟩ := read4 F4 (.string ⟨#[]⟩) (.slice none 0 0) (.slice none 0 0) (.int .i64 0) _ rfl
                  exact bodyPost_ret (v := .tuple #[zV, .bool false]) (by simp [results, Tryz.results39, go_sem, r0, r1, r2, r3, zV]) rfl ⟨_, rfl, own_zV _ _, set4 (BZ.out.trans (BV.out.mono BZ.out.size)) _ (Nat.le_succ _) _ _ _ _⟩
                · obtain rfl : cutC (⟨s, cs, fs, d⟩ : Cfg) k = rc := HRC.out
                  unfold SaysIf at HIX
                  simp only [if_true] at HIX
                  skip
                  go_wp2_with (go_at_call 87; refine HIX.out.mono ?_; rintro e wv ⟨rfl, bv⟩; have BV := Lib.hid bv; clear bv; refine Hid.out ?_)
                  refine Lib.hid ?_
                  clear z0 z1 z2 z3
                  obtain ⟨⟨x0, x1, x2, x3, _⟩, x4⟩ := ZZ.out.on BV.out
                  have y0 := x4 0
                  have y1 := x4 1
                  have y2 := x4 2
                  have y3 := x4 3
                  clear x4
                  go_wp2_with fail
                  have F4 := (ZZ.out.on BV.out).four
                  obtain ⟨r0, r1, r2, r3⟩ := read4 F4 (.string s) (.slice av (cs.length - 1) cv) (.slice af2 fs.length cf2) (.int .i64 d) _ rfl
                  exact bodyPost_ret (v := .tuple #[(.agg #[.string s, .slice av (cs.length - 1) cv, .slice af2 fs.length cf2, .int .i64 d]), .bool true]) (by simp [results, Tryz.results39, go_sem, r0, r1, r2, r3]) rfl ⟨_, rfl, ((OZ.out.on BV.out).set4 hww _ _ _ _).base (by omega), set4 (BZ.out.trans (BV.out.mono BZ.out.size)) _ (Nat.le_succ _) _ _ _ _⟩
end Go.Proofs.YtdmcgjohpnojkaaGreatDoor
