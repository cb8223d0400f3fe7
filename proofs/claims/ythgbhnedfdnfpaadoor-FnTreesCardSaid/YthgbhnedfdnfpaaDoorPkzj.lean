import Derived.Test.YthgbhnedfdnfpaaDoorPkzb
/- Chapter 4's ways up. -/
namespace Go.Proofs.YthgbhnedfdnfpaaDoor
set_option maxRecDepth 100000
open Go.RowKit
set_option linter.unusedVariables false

def resWayUp1 (c : Cfg) (a : Int) : List Nat := if hasI c a then up c.cs 9 a.toNat else []
def resWayUp2 (c : Cfg) (a : Int) : Bool := hasI c a
theorem lenWayUp (c : Cfg) (a : Int) : (resWayUp1 c a).length ≤ 24 := by
  unfold resWayUp1
  by_cases h : hasI c a = true
  · rw [if_pos h]; have := up_len c.cs 9 a.toNat; omega
  · rw [if_neg h]; simp
theorem wu_bad {c : Cfg} {a : Int} (h : hasI c a = false) : resWayUp1 c a = [] ∧ resWayUp2 c a = false := by unfold resWayUp1 resWayUp2; rw [h]; exact ⟨rfl, rfl⟩
theorem wu_good {c : Cfg} {q : Nat} (h : hasI c (q : Int) = true) : resWayUp1 c q = up c.cs 9 q ∧ resWayUp2 c q = true := by unfold resWayUp1 resWayUp2; rw [h]; exact ⟨rfl, rfl⟩
set_option maxHeartbeats 3200000 in
theorem specWayUp_any (v : Value) (c : Cfg) (a : Int) (w : World) (HV : Hid (CfgV w v c)) (HM : Hid (CfgM c)) :
    Calls Tryd.prog 6 #[v, .int .i64 a] w (SaysTS w (resWayUp1 c a) (resWayUp2 c a)) := by
  obtain ⟨ac, cc, af, cf, rfl, ic, if_⟩ := HV.out
  obtain ⟨s, cs, fs, d⟩ := c
  have hM := HM.out
  unfold CfgM at hM
  simp only at ic if_ hM HV ⊢
  obtain ⟨q0, q1, q2⟩ := hM
  have HI := Lib.hid ic
  have HJ := Lib.hid if_
  have HVB := Lib.hid (fun w' (b : Below w.heap.size w w') => Lib.hid (HV.out.below b))
  have A0 := Lib.hid (Aft.refl w (Obj.cells #[.string s, .slice ac cs.length cc, .slice af fs.length cf, .int .i64 d] 26))
  clear ic if_
  have HH := Lib.hid (fun w' (b : Below w.heap.size w w') => cfHas_any (.agg #[.string s, .slice ac cs.length cc, .slice af fs.length cf, .int .i64 d]) ⟨s, cs, fs, d⟩ a w' (HVB.out w' b) HM)
  cases hh : hasI ⟨s, cs, fs, d⟩ a
  · obtain ⟨x1, x2⟩ := wu_bad hh
    rw [x1, x2]
    rw [hh] at HH
    clear x1 x2 hh
    go_enter Tryd.func6, Tryd.ntmps6
    go_wp2_with (go_at_call 24; refine (HH.out _ A0.out.all.2).mono ?_; rintro e w1 ⟨rfl, b1⟩; have A1 := Lib.hid (A0.out.on b1); clear b1)
    go_ret2
    exact ⟨_, rfl, World.ownsRow_nil _ _ _ _, A1.out.all.2⟩
  · rw [hh] at HH
    obtain ⟨hg, q, rfl, hq⟩ := has_iff hh
    obtain ⟨x1, x2⟩ := wu_good hh
    have HKD := Lib.hid (fun w' HI => cfUp_any s ac af cs.length cc fs.length cf d cs q w' HI (Lib.hid rfl) q1 hq)
    rw [x1, x2]
    simp only
    generalize up cs 9 q = K at HKD ⊢
    clear x1 x2 hh hg
    go_enter Tryd.func6, Tryd.ntmps6
    go_wp2_with (go_at_call 24; refine (HH.out _ A0.out.all.2).mono ?_; rintro e w1 ⟨rfl, b1⟩; have A1 := Lib.hid (A0.out.on b1); obtain ⟨c0, c1, c2, c3, _⟩ := A1.out.all.1; clear b1)
    go_wp2_with (go_at_call 25; refine (HKD.out _ (Lib.hid (HI.out.below A1.out.all.2))).mono ?_; rintro e w2 ⟨v2, rfl, o2, b2⟩; have A2 := Lib.hid (A1.out.on b2); have O2 := Lib.hid (own_base o2 A1.out.all.2.size); clear b2 o2)
    go_ret2
    exact ⟨_, rfl, O2.out, A2.out.all.2⟩
def WyRel (w : World) (o : Obj) (n : Nat) (cs : List Cls) (U : List Nat) (i out : Value) (wr : World) : Prop :=
  ∃ (k : Nat) (pre : List Nat), i = .int .i64 k ∧ k < n ∧ pre.length ≤ 8 ∧ Aft w o wr ∧ wr.ownsRow (w.heap.size + 1) 3 1 out (pre.length + 1) (nv (pre ++ [k])) ∧ Hid (pre ++ up cs (9 - pre.length) k = U)
theorem own_snoc2 {w wx w1 : World} {B k L : Nat} {v v' : Value} {ks : List Nat} (hL : ks.length = L) {u : Value} (hu : u = .int .i64 (k : Int)) (hb : Below B w wx) (h' : w1.ownsRow B 3 1 v' (L + 1) (nv ks ++ [u])) (hB : B ≤ wx.heap.size) (hg : wx.grownBy w1 v.ownBlock) (hl : ∀ g, v.ownBlock = some g → B ≤ g) :
    w1.ownsRow B 3 1 v' (L + 1) (nv (ks ++ [k])) ∧ Below B w w1 := by
  subst hu
  refine ⟨?_, hb.grown hg hB hl⟩
  rw [nv_snoc]
  exact h'
theorem wy_top {cs : List Cls} {pre U : List Nat} {k : Nat} (hp : pre.length ≤ 8) (hz : (cs.getD k cls0).p = 0) (h0 : fnd cs 0 = Option.none) (h : pre ++ up cs (9 - pre.length) k = U) : pre ++ [k] = U := by
  rw [show 9 - pre.length = (8 - pre.length) + 1 by omega, up_step, hz, h0] at h
  exact h
theorem wy_next {cs : List Cls} {pre U : List Nat} {k j : Nat} (hp : pre.length ≤ 8) (hu : U.length ≤ 8) (hj : fnd cs (cs.getD k cls0).p = Option.some j) (h : pre ++ up cs (9 - pre.length) k = U) :
    (pre ++ [k]).length ≤ 8 ∧ (pre ++ [k]) ++ up cs (9 - (pre ++ [k]).length) j = U := by
  rw [show 9 - pre.length = (8 - pre.length) + 1 by omega, up_step, hj] at h
  have hl := congrArg List.length h
  simp only [List.length_append, List.length_cons] at hl
  have e : (pre ++ [k]).length = pre.length + 1 := by simp
  refine ⟨by omega, ?_⟩
  rw [e, show 9 - (pre.length + 1) = 8 - pre.length by omega, List.append_assoc]
  exact h
set_option maxHeartbeats 6400000 in
theorem implWayUp_any (v : Value) (c : Cfg) (a : Int) (w : World) (HK : Hid (Kwt w)) (HV : Hid (CfgV w v c)) (HM : Hid (CfgM c)) :
    Calls Tryd.prog 5 #[v, .int .i64 a] w (SaysTS w (resWayUp1 c a) (resWayUp2 c a)) := by
  obtain ⟨ac, cc, af, cf, rfl, ic, if_⟩ := HV.out
  obtain ⟨s, cs, fs, d⟩ := c
  have hM := HM.out
  unfold CfgM at hM
  simp only at ic if_ hM HV ⊢
  obtain ⟨q0, q1, q2⟩ := hM
  have HI := Lib.hid ic
  have HJ := Lib.hid if_
  have HVB := Lib.hid (fun w' (b : Below w.heap.size w w') => Lib.hid (HV.out.below b))
  have A0 := Lib.hid (Aft.refl w (Obj.cells #[.string s, .slice ac cs.length cc, .slice af fs.length cf, .int .i64 d] 26))
  clear ic if_
  have HH := Lib.hid (fun w' (b : Below w.heap.size w w') => hasIndex_any (.agg #[.string s, .slice ac cs.length cc, .slice af fs.length cf, .int .i64 d]) ⟨s, cs, fs, d⟩ a w' (Lib.hid (HK.out.below b)) (HVB.out w' b) HM)
  cases hh : hasI ⟨s, cs, fs, d⟩ a
  · obtain ⟨x1, x2⟩ := wu_bad hh
    rw [x1, x2]
    rw [hh] at HH
    clear x1 x2 hh
    go_enter Tryd.func5, Tryd.ntmps5
    go_wp2_with (go_at_call 21; refine (HH.out _ A0.out.all.2).mono ?_; rintro e w1 ⟨rfl, b1⟩; have A1 := Lib.hid (A0.out.on b1); clear b1)
    go_ret2
    exact ⟨_, rfl, World.ownsRow_nil _ _ _ _, A1.out.all.2⟩
  · rw [hh] at HH
    obtain ⟨hg, q, rfl, hq⟩ := has_iff hh
    obtain ⟨x1, x2⟩ := wu_good hh
    have G := good_of hg
    have HIN := Lib.hid (okL_inc cs 0 G.ok)
    have HNZ := Lib.hid (no_zero G.ok)
    have HPA : Hid (ParAll cs) := Lib.hid (fun k hk => way_par cs k (by have := G.node k hk; unfold nodeOk at this; rw [Bool.and_eq_true] at this; exact this.1))
    have hul : (up cs 9 q).length ≤ 8 := by
      have := G.node q hq
      unfold nodeOk wayOk at this
      simp only [Bool.and_eq_true, decide_eq_true_eq] at this
      exact this.1.1
    have HPL := Lib.hid (fun id w' HI => placeOf_any ac cs.length cc cs id w' HI (Lib.hid rfl) q1 HIN)
    obtain ⟨i0, hi, hz0, hz1, hz2⟩ := info_parts infoI
    rw [x1, x2]
    simp only at hq ⊢
    obtain ⟨U, hU⟩ : ∃ U, up cs 9 q = U := ⟨_, rfl⟩
    have H0 : Hid ([] ++ up cs (9 - 0) q = U) := Lib.hid hU
    rw [hU] at hul ⊢
    obtain ⟨n, hn⟩ : ∃ n, cs.length = n := ⟨_, rfl⟩
    have HN := Lib.hid hn
    have HIr := HI.out
    rw [hn] at HIr
    obtain ⟨g, rfl, hgt, hgl⟩ := HIr (by omega)
    have HG := Lib.hid hgt
    simp only [hn] at hq HH HI A0 HV HVB HPL q1 ⊢
    clear x1 x2 hh hg hU G hn HIr hgt
    go_enter Tryd.func5, Tryd.ntmps5
    go_wp2_with (go_at_call 21; refine (HH.out _ A0.out.all.2).mono ?_; rintro e w1 ⟨rfl, b1⟩; have A1 := Lib.hid (A0.out.on b1); clear b1)
    go_loopw [1, 6] (fun i out wr => WyRel w (Obj.cells #[.string s, .slice (some ⟨g, 0, none⟩) n cc, .slice af fs.length cf, .int .i64 d] 26) n cs U i out wr) (fun _ out _ => 10 - lenV out)
    case atStart => exact ⟨q, [], rfl, hq, Nat.zero_le _, A1.out.alloc _, (World.ownsRow_lit w1 #[.int .i64 (q : Int)] 1 (show w.heap.size + 1 ≤ w1.heap.size from A1.out.all.1.2.2.2.2) (by unfold maxLen; omega) rfl), H0⟩
    case round =>
      obtain ⟨k, pre, rfl, hkn, hp8, hb, ho, HP⟩ := hrel
      have HB := Lib.hid hb
      have HO := Lib.hid ho
      have HPR := HP
      obtain ⟨ad, cO, rfl, _⟩ := own_in ho
      have hkl : k < cs.length := by rw [HN.out]; exact hkn
      obtain ⟨x, hx⟩ : ∃ x, cs.getD k cls0 = x := ⟨_, rfl⟩
      have HX0 := Lib.hid hx
      obtain ⟨a0, a1, a2, a3, a4, a5, a6, a7⟩ := (HG.out.below hb.all.2 hgl).cls k hkl x hx
      obtain ⟨e0, e1, e2, e3, hgw⟩ := hb.all.1
      have HT := Lib.hid (fun w => isTop_any x w)
      by_cases hz : x.p = 0
      · have HX : Hid (pre ++ [k] = U) := Lib.hid (wy_top hp8 (by rw [hx]; exact hz) HNZ.out HP.out)
        rw [show (x.p == 0) = true by rw [hz]; rfl] at HT
        obtain ⟨xi, xp, xr, xe, xb, xu, xo, xl⟩ := x
        unfold clsV at HT
        simp only at a0 a1 a2 a3 a4 a5 a6 a7 HT
        clear hb ho hx hz
        go_wp2_with (go_at_call 22; refine (HT.out _).mono ?_; rintro e w2 ⟨rfl, b2⟩; have A2 := Lib.hid (HB.out.on b2); have O2 := Lib.hid (own_low HO.out b2 (Nat.le_refl _)); clear b2)
        go_ret2
        exact ⟨_, rfl, by rw [← HX.out, show (pre ++ [k]).length = pre.length + 1 by simp]; exact own_base O2.out (Nat.le_succ _), A2.out.all.2⟩
      · obtain ⟨j, hj⟩ := par_some (by rw [← hx]; exact HPA.out k hkl) hz
        have hjn : j < n := by rw [← HN.out]; exact (fnd_get cs _ j hj).1
        have HX := Lib.hid (wy_next hp8 hul (by rw [hx]; exact hj) HP.out)
        have HPx := Lib.hid (HPL.out x.p)
        rw [(plc_of_fnd HIN.out hj).1, (plc_of_fnd HIN.out hj).2] at HPx
        rw [show (x.p == 0) = false from beq_eq_false_iff_ne.2 hz] at HT
        have dk0 : (0 : Int) ≤ (k : Int) := by omega
        have dk1 : (k : Int) < (n : Int) := by omega
        obtain ⟨xi, xp, xr, xe, xb, xu, xo, xl⟩ := x
        unfold clsV at HT
        simp only at a0 a1 a2 a3 a4 a5 a6 a7 HT HPx
        clear hb ho hx hz hj
        go_wp2_with (go_at_call 22; refine (HT.out _).mono ?_; rintro e w2 ⟨rfl, b2⟩; have A2 := Lib.hid (HB.out.on b2); have O2 := Lib.hid (own_low HO.out b2 (Nat.le_refl _)); clear b2; refine Hid.out ?_)
        refine Lib.hid ?_
        have HAB : Hid (∀ w', BX w2 w' → Aft w (Obj.cells #[.string s, .slice (some ⟨g, 0, none⟩) n cc, .slice af fs.length cf, .int .i64 d] 26) w') := Lib.hid (fun w' h => A2.out.on h)
        have HQ : Hid (∀ w', BX w2 w' → w'.cell? ⟨w.heap.size, 1, none⟩ = some (.slice (some ⟨g, 0, none⟩) n cc) ∧ w'.cell? ⟨g, k * 8 + 1, none⟩ = some (.int .i64 xp) ∧ BX w2 w') := Lib.hid (fun w' h => by
          obtain ⟨_, q1, _, _, _⟩ := (HAB.out w' h).all.1
          obtain ⟨_, p1, _⟩ := (HG.out.below (HAB.out w' h).all.2 hgl).cls k hkl _ HX0.out
          exact ⟨q1, p1, h⟩)
        go_wp2_with fail
        refine wp_region_held_drew (S := fun w' => w'.cell? ⟨w.heap.size, 1, none⟩ = some (.slice (some ⟨g, 0, none⟩) n cc) ∧ w'.cell? ⟨g, k * 8 + 1, none⟩ = some (.int .i64 xp) ∧ BX w2 w') (by kernel_rfl) ?_ (fun hHeld => ?_)
        · (try dsimp only)
          (first | (go_split_ands; refine HQ.out _ ?_; repeat' (with_reducible first | exact BX.drew0 _ | exact BX.refl _ | assumption | refine BX.call' (by assumption) ?_ | refine BX.drew ?_)))
        refine held_take (i := 0) (d := 21) (v := ?_) rfl rfl (by kernel_rfl) (by kernel_rfl) (by kernel_rfl) (fun _ _ _ h => h) (by rfl) ?_ (by assumption) ?_
        rotate_left
        · intro w hSw
          (try dsimp only at hSw)
          go_simp
          try with_reducible rfl
        try simp only [Act.put, List.setIfInBounds_toArray, List.set_cons_zero, List.set_cons_succ]
        refine held_take (i := 1) (d := 22) (v := ?_) rfl rfl (by kernel_rfl) (by kernel_rfl) (by kernel_rfl) (fun _ _ _ h => h) (by rfl) ?_ (by assumption) ?_
        rotate_left
        · intro w hSw
          (try dsimp only at hSw)
          go_simp
          try with_reducible rfl
        try simp only [Act.put, List.setIfInBounds_toArray, List.set_cons_zero, List.set_cons_succ]
        refine held_take (i := 2) (d := 23) (v := ?_) rfl rfl (by kernel_rfl) (by kernel_rfl) (by kernel_rfl) (fun _ _ _ h => h) (by rfl) ?_ (by assumption) ?_
        rotate_left
        · intro w hSw
          (try dsimp only at hSw)
          go_simp
          try with_reducible rfl
        try simp only [Act.put, List.setIfInBounds_toArray, List.set_cons_zero, List.set_cons_succ]
        refine held_take (i := 3) (d := 24) (v := ?_) rfl rfl (by kernel_rfl) (by kernel_rfl) (by kernel_rfl) (fun _ _ _ h => h) (by rfl) ?_ (by assumption) ?_
        rotate_left
        · intro w hSw
          (try dsimp only at hSw)
          go_simp
          try with_reducible rfl
        try simp only [Act.put, List.setIfInBounds_toArray, List.set_cons_zero, List.set_cons_succ]
        refine held_take (i := 4) (d := 25) (v := ?_) rfl rfl (by kernel_rfl) (by kernel_rfl) (by kernel_rfl) (fun _ _ _ h => h) (by rfl) ?_ (by assumption) ?_
        rotate_left
        · intro w hSw
          (try dsimp only at hSw)
          go_simp
          try with_reducible rfl
        try simp only [Act.put, List.setIfInBounds_toArray, List.set_cons_zero, List.set_cons_succ]
        refine held_take (i := 5) (d := 26) (v := ?_) rfl rfl (by kernel_rfl) (by kernel_rfl) (by kernel_rfl) (fun _ _ _ h => h) (by rfl) ?_ (by assumption) ?_
        rotate_left
        · intro w hSw
          (try dsimp only at hSw)
          go_simp
          try with_reducible rfl
        try simp only [Act.put, List.setIfInBounds_toArray, List.set_cons_zero, List.set_cons_succ]
        refine held_take (i := 6) (d := 27) (v := ?_) rfl rfl (by kernel_rfl) (by kernel_rfl) (by kernel_rfl) (fun _ _ _ h => h) (by rfl) ?_ (by assumption) ?_
        rotate_left
        · intro w hSw
          (try dsimp only at hSw)
          go_simp
          try with_reducible rfl
        try simp only [Act.put, List.setIfInBounds_toArray, List.set_cons_zero, List.set_cons_succ]
        refine held_take (i := 7) (d := 28) (v := ?_) rfl rfl (by kernel_rfl) (by kernel_rfl) (by kernel_rfl) (fun _ _ _ h => h) (by rfl) ?_ (by assumption) ?_
        rotate_left
        · intro w hSw
          (try dsimp only at hSw)
          go_simp
          try with_reducible rfl
        try simp only [Act.put, List.setIfInBounds_toArray, List.set_cons_zero, List.set_cons_succ]
        refine wpAnyH_ready (rs := [8]) (by kernel_rfl) (by simp) ?_
        refine AllReadyH.cons rfl (fun K' hK => ?_) AllReadyH.nil
        go_simp
        (go_split_ands; (with_reducible refine (HPx.out _ (Lib.hid (HI.out.below (HAB.out _ (by assumption)).all.2))).mono ?_); rintro e w3 ⟨rfl, b3⟩)
        refine hK.out _ _ ?_ (fun hHeld => ?_)
        · (try dsimp only)
          (first | (go_split_ands; refine HQ.out _ ?_; repeat' (with_reducible first | exact BX.drew0 _ | exact BX.refl _ | assumption | refine BX.call' (by assumption) ?_ | refine BX.drew ?_)))
        clear hK K'
        try simp only [Act.put, List.setIfInBounds_toArray, List.set_cons_zero, List.set_cons_succ]
        refine held_take (i := 9) (d := 20) (v := ?_) rfl rfl (by kernel_rfl) (by kernel_rfl) (by kernel_rfl) (fun _ _ _ h => h) (by rfl) ?_ (by assumption) ?_
        rotate_left
        · intro w hSw
          (try dsimp only at hSw)
          go_simp
          try with_reducible rfl
        try simp only [Act.put, List.setIfInBounds_toArray, List.set_cons_zero, List.set_cons_succ]
        refine held_take (i := 10) (d := 30) (v := ?_) rfl rfl (by kernel_rfl) (by kernel_rfl) (by kernel_rfl) (fun _ _ _ h => h) (by rfl) ?_ (by assumption) ?_
        rotate_left
        · intro w hSw
          (try dsimp only at hSw)
          go_simp
          try with_reducible rfl
        try simp only [Act.put, List.setIfInBounds_toArray, List.set_cons_zero, List.set_cons_succ]
        refine held_take (i := 11) (d := 31) (v := ?_) rfl rfl (by kernel_rfl) (by kernel_rfl) (by kernel_rfl) (fun _ _ _ h => h) (by rfl) ?_ (by assumption) ?_
        rotate_left
        · intro w hSw
          (try dsimp only at hSw)
          go_simp
          try with_reducible rfl
        try simp only [Act.put, List.setIfInBounds_toArray, List.set_cons_zero, List.set_cons_succ]
        refine held_take (i := 12) (d := 1) (v := ?_) rfl rfl (by kernel_rfl) (by kernel_rfl) (by kernel_rfl) (fun _ _ _ h => h) (by rfl) ?_ (by assumption) ?_
        rotate_left
        · intro w hSw
          (try dsimp only at hSw)
          go_simp
          try with_reducible rfl
        try simp only [Act.put, List.setIfInBounds_toArray, List.set_cons_zero, List.set_cons_succ]
        refine wpAnyH_done (by kernel_rfl) ?_ _
        go_split_ands
        have h23 : BX w2 w3 := by assumption
        have A3 := Lib.hid (HAB.out w3 h23)
        have O3 := Lib.hid (own_low O2.out (show Below w2.heap.size w2 w3 from h23) (Nat.le_refl _))
        have hz9 : w.heap.size + 1 ≤ w3.heap.size := A3.out.all.1.2.2.2.2
        have HLE : Hid ((pre ++ [k]).length = pre.length + 1) := Lib.hid (by simp)
        have hlm : pre.length ≤ 7 := by have h1 := HX.out.1; have h2 := HLE.out; omega
        go_wp2_with (at_builtin; refine wpList_append_own _ rfl _ _ 29 rfl (w.heap.size + 1) 3 i0 (.int .i64 0) 1 8 Tryd.underlying29 hi hz0 hz1 hz2 rfl (by decide) _ _ _ rfl (World.ownsRow.alloc O3.out _) ⟨w3.heap.size, 0, none⟩ 1 1 [.int .i64 (j : Int)] rfl rfl (by have := one_int w3 (.int .i64 (j : Int)) 3; simpa using this) (by intro u hu; simp at hu; subst hu; rfl) (by unfold maxLen; omega) (by omega) (by simp; omega) ?_; intro v' w4 hown1 hgrow1 _; have F := Lib.hid (own_snoc2 HLE.out rfl ((Below.refl (w.heap.size + 1) w3).alloc hz9 (.cells #[.int .i64 (j : Int)] 3)) hown1 (by simp; omega) hgrow1 (fun g h => (World.ownsRow.lt O3.out g h).1)); obtain ⟨ad4, c4, hv4, _⟩ := own_in F.out.1; clear hown1 hgrow1; refine Hid.out ?_)
        refine Lib.hid ?_
        subst hv4
        go_wp2_with fail
        go_roundw
        case rel => exact ⟨j, pre ++ [k], rfl, hjn, HX.out.1, A3.out.up F.out.2, by rw [HLE.out]; exact F.out.1, HX.out.2⟩
        case measure => simp [lenV]; omega
end Go.Proofs.YthgbhnedfdnfpaaDoor
