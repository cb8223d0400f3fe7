/- Chapter 4's functions over a class's index: whether there is one, spare rates. -/
import Derived.Test.YthpejbdbbofaaaaDoorCfc
import Derived.Test.YthpejbdbbofaaaaDoorCfa
namespace Go.Proofs.YthpejbdbbofaaaaDoor
set_option maxRecDepth 100000
open Go.RowKit
set_option linter.unusedVariables false

def hasI (c : Cfg) (a : Int) : Bool := goodC c && (decide (0 ≤ a) && decide (a < (c.cs.length : Int)))
theorem has_iff {c : Cfg} {a : Int} (h : hasI c a = true) : goodC c = true ∧ ∃ q : Nat, a = (q : Int) ∧ q < c.cs.length := by
  unfold hasI at h
  simp only [Bool.and_eq_true, decide_eq_true_eq] at h
  exact ⟨h.1, a.toNat, by omega, by omega⟩
theorem in_idx (a : Int) (n : Nat) (h : 1 ≤ n) : inB a 0 ((n : Int) - 1) = (decide (0 ≤ a) && decide (a < (n : Int))) := by
  unfold inB
  congr 1
  apply Bool.eq_iff_iff.2
  rw [decide_eq_true_eq, decide_eq_true_eq]
  omega
set_option maxHeartbeats 3200000 in
theorem cfHas_any (v : Value) (c : Cfg) (a : Int) (w : World) (HV : Hid (CfgV w v c)) (HM : Hid (CfgM c)) :
    Calls Tryd.prog 72 #[v, .int .i64 a] w (SaysB w (hasI c a)) := by
  obtain ⟨ac, cc, af, cf, rfl, ic, if_⟩ := HV.out
  obtain ⟨s, cs, fs, d⟩ := c
  have hM := HM.out
  unfold CfgM at hM
  simp only at ic if_ hM HV ⊢
  obtain ⟨q0, q1, q2⟩ := hM
  have HI := Lib.hid ic
  have HJ := Lib.hid if_
  have HVB := Lib.hid (fun w' (b : Below w.heap.size w w') => Lib.hid (HV.out.below b))
  have A0 := Lib.hid (Aft.refl w (Obj.cells #[.string s, .slice ac cs.length cc, .slice af fs.length cf, .int .i64 d] 47))
  clear ic if_
  have HGD := Lib.hid (fun w' (b : Below w.heap.size w w') => cfGood_any (.agg #[.string s, .slice ac cs.length cc, .slice af fs.length cf, .int .i64 d]) ⟨s, cs, fs, d⟩ w' (HVB.out w' b) HM)
  have HX : Hid (hasI ⟨s, cs, fs, d⟩ a = (goodC ⟨s, cs, fs, d⟩ && (decide (0 ≤ a) && decide (a < (cs.length : Int))))) := Lib.hid rfl
  generalize hasI ⟨s, cs, fs, d⟩ a = R at HX ⊢
  cases hg : goodC ⟨s, cs, fs, d⟩
  · have HX2 : Hid (R = false) := Lib.hid (by rw [HX.out, hg]; rfl)
    rw [hg] at HGD
    clear hg HX
    go_enter Tryd.func72, Tryd.ntmps72
    go_wp2_with (go_at_call 79; refine (HGD.out _ A0.out.all.2).mono ?_; rintro e w1 ⟨rfl, b1⟩; have A1 := Lib.hid (A0.out.on b1); clear b1)
    go_ret
    exact ⟨ret_bool HX2.out.symm, A1.out.all.2⟩
  · have hn1 : 1 ≤ cs.length := (good_of hg).n1
    have HIN := Lib.hid (fun w => l1In_any a 0 ((cs.length : Int) - 1) w)
    rw [in_idx a cs.length hn1] at HIN
    have HX2 : Hid (R = (decide (0 ≤ a) && decide (a < (cs.length : Int)))) := Lib.hid (by rw [HX.out, hg, Bool.true_and])
    generalize (decide (0 ≤ a) && decide (a < (cs.length : Int))) = b at HX2 HIN
    rw [hg] at HGD
    clear hg HX
    go_enter Tryd.func72, Tryd.ntmps72
    go_wp2_with (go_at_call 79; refine (HGD.out _ A0.out.all.2).mono ?_; rintro e w1 ⟨rfl, b1⟩; have A1 := Lib.hid (A0.out.on b1); obtain ⟨c0, c1, c2, c3, _⟩ := A1.out.all.1; clear b1)
    go_wp2_with (go_at_call 109; refine (HIN.out _).mono ?_; rintro e w' ⟨rfl, rfl⟩)
    go_ret
    exact ⟨ret_bool HX2.out.symm, A1.out.all.2⟩
set_option maxHeartbeats 3200000 in
theorem hasIndex_any (v : Value) (c : Cfg) (a : Int) (w : World) (HK : Hid (Kwt w)) (HV : Hid (CfgV w v c)) (HM : Hid (CfgM c)) :
    Calls Tryd.prog 69 #[v, .int .i64 a] w (SaysB w (hasI c a)) := by
  obtain ⟨ac, cc, af, cf, rfl, ic, if_⟩ := HV.out
  obtain ⟨s, cs, fs, d⟩ := c
  have hM := HM.out
  unfold CfgM at hM
  simp only at ic if_ hM HV ⊢
  obtain ⟨q0, q1, q2⟩ := hM
  have HI := Lib.hid ic
  have HJ := Lib.hid if_
  have HVB := Lib.hid (fun w' (b : Below w.heap.size w w') => Lib.hid (HV.out.below b))
  have A0 := Lib.hid (Aft.refl w (Obj.cells #[.string s, .slice ac cs.length cc, .slice af fs.length cf, .int .i64 d] 47))
  clear ic if_
  have HGD := Lib.hid (fun w' (b : Below w.heap.size w w') => implIsConfig_any (.agg #[.string s, .slice ac cs.length cc, .slice af fs.length cf, .int .i64 d]) ⟨s, cs, fs, d⟩ w' (Lib.hid (HK.out.below b)) (HVB.out w' b) HM)
  have HX : Hid (hasI ⟨s, cs, fs, d⟩ a = (goodC ⟨s, cs, fs, d⟩ && (decide (0 ≤ a) && decide (a < (cs.length : Int))))) := Lib.hid rfl
  generalize hasI ⟨s, cs, fs, d⟩ a = R at HX ⊢
  cases hg : goodC ⟨s, cs, fs, d⟩
  · have HX2 : Hid (R = false) := Lib.hid (by rw [HX.out, hg]; rfl)
    rw [hg] at HGD
    clear hg HX
    go_enter Tryd.func69, Tryd.ntmps69
    go_wp2_with (go_at_call 77; refine (HGD.out _ A0.out.all.2).mono ?_; rintro e w1 ⟨rfl, b1⟩; have A1 := Lib.hid (A0.out.on b1); clear b1)
    go_ret
    exact ⟨ret_bool HX2.out.symm, A1.out.all.2⟩
  · rw [hg] at HGD
    by_cases h0 : a < 0
    · have d0 := not_le h0
      have HX2 : Hid (R = false) := Lib.hid (by rw [HX.out, hg, d0]; rfl)
      clear hg HX h0
      go_enter Tryd.func69, Tryd.ntmps69
      go_wp2_with (go_at_call 77; refine (HGD.out _ A0.out.all.2).mono ?_; rintro e w1 ⟨rfl, b1⟩; have A1 := Lib.hid (A0.out.on b1); obtain ⟨c0, c1, c2, c3, _⟩ := A1.out.all.1; clear b1)
      go_ret
      exact ⟨ret_bool HX2.out.symm, A1.out.all.2⟩
    · have d0 := is_le (show 0 ≤ a by omega)
      have HX2 : Hid (R = decide (a < (cs.length : Int))) := Lib.hid (by rw [HX.out, hg, d0]; rfl)
      clear hg HX h0
      go_enter Tryd.func69, Tryd.ntmps69
      go_wp2_with (go_at_call 77; refine (HGD.out _ A0.out.all.2).mono ?_; rintro e w1 ⟨rfl, b1⟩; have A1 := Lib.hid (A0.out.on b1); obtain ⟨c0, c1, c2, c3, _⟩ := A1.out.all.1; clear b1)
      go_ret
      exact ⟨ret_bool HX2.out.symm, A1.out.all.2⟩
def resSpareRate1 (c : Cfg) (a : Int) : Int := if hasI c a then spare c.cs (c.cs.getD a.toNat cls0) else 0
def resSpareRate2 (c : Cfg) (a : Int) : Bool := hasI c a
theorem sr_bad {c : Cfg} {a : Int} (h : hasI c a = false) : resSpareRate1 c a = 0 ∧ resSpareRate2 c a = false := by unfold resSpareRate1 resSpareRate2; rw [h]; exact ⟨rfl, rfl⟩
theorem sr_good {c : Cfg} {q : Nat} (h : hasI c (q : Int) = true) : resSpareRate1 c q = spare c.cs (c.cs.getD q cls0) ∧ resSpareRate2 c q = true := by unfold resSpareRate1 resSpareRate2; rw [h]; exact ⟨rfl, rfl⟩
set_option maxHeartbeats 3200000 in
theorem specSpareRate_any (v : Value) (c : Cfg) (a : Int) (w : World) (HV : Hid (CfgV w v c)) (HM : Hid (CfgM c)) :
    Calls Tryd.prog 27 #[v, .int .i64 a] w (SaysT2 w (.int .i64 (resSpareRate1 c a)) (.bool (resSpareRate2 c a))) := by
  obtain ⟨ac, cc, af, cf, rfl, ic, if_⟩ := HV.out
  obtain ⟨s, cs, fs, d⟩ := c
  have hM := HM.out
  unfold CfgM at hM
  simp only at ic if_ hM HV ⊢
  obtain ⟨q0, q1, q2⟩ := hM
  have HI := Lib.hid ic
  have HJ := Lib.hid if_
  have HVB := Lib.hid (fun w' (b : Below w.heap.size w w') => Lib.hid (HV.out.below b))
  have A0 := Lib.hid (Aft.refl w (Obj.cells #[.string s, .slice ac cs.length cc, .slice af fs.length cf, .int .i64 d] 47))
  clear ic if_
  have HH := Lib.hid (fun w' (b : Below w.heap.size w w') => cfHas_any (.agg #[.string s, .slice ac cs.length cc, .slice af fs.length cf, .int .i64 d]) ⟨s, cs, fs, d⟩ a w' (HVB.out w' b) HM)
  cases hh : hasI ⟨s, cs, fs, d⟩ a
  · obtain ⟨x1, x2⟩ := sr_bad hh
    generalize resSpareRate1 ⟨s, cs, fs, d⟩ a = R1 at x1 ⊢
    generalize resSpareRate2 ⟨s, cs, fs, d⟩ a = R2 at x2 ⊢
    have HX1 := Lib.hid x1
    have HX2 := Lib.hid x2
    rw [hh] at HH
    clear x1 x2 hh
    go_enter Tryd.func27, Tryd.ntmps27
    go_wp2_with (go_at_call 72; refine (HH.out _ A0.out.all.2).mono ?_; rintro e w1 ⟨rfl, b1⟩; have A1 := Lib.hid (A0.out.on b1); clear b1)
    go_ret2
    exact ⟨ret_ib HX1.out.symm HX2.out.symm, A1.out.all.2⟩
  · rw [hh] at HH
    obtain ⟨hg, q, rfl, hq⟩ := has_iff hh
    obtain ⟨x1, x2⟩ := sr_good hh
    have G := good_of hg
    have HRI := Lib.hid (okL_rates G.ok)
    have HSP := Lib.hid (fun w' HI => cfSpare_any s ac af cs.length cc fs.length cf d cs q w' HI (Lib.hid rfl) q1 hq G.n24 HRI)
    simp only at x1
    generalize spare cs (cs.getD q cls0) = S at HSP x1
    generalize resSpareRate1 ⟨s, cs, fs, d⟩ q = R1 at x1 ⊢
    generalize resSpareRate2 ⟨s, cs, fs, d⟩ q = R2 at x2 ⊢
    have HX1 := Lib.hid x1
    have HX2 := Lib.hid x2
    clear x1 x2 hh hg G
    go_enter Tryd.func27, Tryd.ntmps27
    go_wp2_with (go_at_call 72; refine (HH.out _ A0.out.all.2).mono ?_; rintro e w1 ⟨rfl, b1⟩; have A1 := Lib.hid (A0.out.on b1); obtain ⟨c0, c1, c2, c3, _⟩ := A1.out.all.1; clear b1)
    go_wp2_with (go_at_call 76; refine (HSP.out _ (Lib.hid (HI.out.below A1.out.all.2))).mono ?_; rintro e w2 ⟨rfl, b2⟩; have A2 := Lib.hid (A1.out.on b2); clear b2)
    go_ret2
    exact ⟨ret_ib HX1.out.symm HX2.out.symm, A2.out.all.2⟩
set_option maxHeartbeats 3200000 in
theorem implSpareRate_any (v : Value) (c : Cfg) (a : Int) (w : World) (HK : Hid (Kwt w)) (HV : Hid (CfgV w v c)) (HM : Hid (CfgM c)) :
    Calls Tryd.prog 26 #[v, .int .i64 a] w (SaysT2 w (.int .i64 (resSpareRate1 c a)) (.bool (resSpareRate2 c a))) := by
  obtain ⟨ac, cc, af, cf, rfl, ic, if_⟩ := HV.out
  obtain ⟨s, cs, fs, d⟩ := c
  have hM := HM.out
  unfold CfgM at hM
  simp only at ic if_ hM HV ⊢
  obtain ⟨q0, q1, q2⟩ := hM
  have HI := Lib.hid ic
  have HJ := Lib.hid if_
  have HVB := Lib.hid (fun w' (b : Below w.heap.size w w') => Lib.hid (HV.out.below b))
  have A0 := Lib.hid (Aft.refl w (Obj.cells #[.string s, .slice ac cs.length cc, .slice af fs.length cf, .int .i64 d] 47))
  clear ic if_
  have HH := Lib.hid (fun w' (b : Below w.heap.size w w') => hasIndex_any (.agg #[.string s, .slice ac cs.length cc, .slice af fs.length cf, .int .i64 d]) ⟨s, cs, fs, d⟩ a w' (Lib.hid (HK.out.below b)) (HVB.out w' b) HM)
  cases hh : hasI ⟨s, cs, fs, d⟩ a
  · obtain ⟨x1, x2⟩ := sr_bad hh
    generalize resSpareRate1 ⟨s, cs, fs, d⟩ a = R1 at x1 ⊢
    generalize resSpareRate2 ⟨s, cs, fs, d⟩ a = R2 at x2 ⊢
    have HX1 := Lib.hid x1
    have HX2 := Lib.hid x2
    rw [hh] at HH
    clear x1 x2 hh
    go_enter Tryd.func26, Tryd.ntmps26
    go_wp2_with (go_at_call 69; refine (HH.out _ A0.out.all.2).mono ?_; rintro e w1 ⟨rfl, b1⟩; have A1 := Lib.hid (A0.out.on b1); clear b1)
    go_ret2
    exact ⟨ret_ib HX1.out.symm HX2.out.symm, A1.out.all.2⟩
  · rw [hh] at HH
    obtain ⟨hg, q, rfl, hq⟩ := has_iff hh
    obtain ⟨x1, x2⟩ := sr_good hh
    have G := good_of hg
    have HRI := Lib.hid (okL_rates G.ok)
    simp only at hq x1
    obtain ⟨g, rfl, hgt, hgl⟩ := HI.out (by omega)
    have HG := Lib.hid hgt
    obtain ⟨x, hx⟩ : ∃ x, cs.getD q cls0 = x := ⟨_, rfl⟩
    have hxr : 1 ≤ x.r ∧ x.r ≤ 100000 := by rw [← hx]; exact HRI.out q hq
    have HSP := Lib.hid (fun w' HI => spareRate_any (some ⟨g, 0, none⟩) cs.length cc cs x w' HI (Lib.hid rfl) q1 G.n24 HRI hxr)
    have HX := Lib.hid hx
    rw [hx] at x1
    generalize spare cs x = S at HSP x1
    generalize resSpareRate1 ⟨s, cs, fs, d⟩ q = R1 at x1 ⊢
    generalize resSpareRate2 ⟨s, cs, fs, d⟩ q = R2 at x2 ⊢
    have HX1 := Lib.hid x1
    have HX2 := Lib.hid x2
    have dq0 : (0 : Int) ≤ (q : Int) := by omega
    have dq1 : (q : Int) < (cs.length : Int) := by omega
    obtain ⟨xi, xp, xr, xe, xb, xu, xo, xl⟩ := x
    unfold clsV at HSP
    simp only at HSP
    clear x1 x2 hh hg G hx hgt hxr
    go_enter Tryd.func26, Tryd.ntmps26
    go_wp2_with (go_at_call 69; refine (HH.out _ A0.out.all.2).mono ?_; rintro e w1 ⟨rfl, b1⟩; have A1 := Lib.hid (A0.out.on b1); clear b1; refine Hid.out ?_)
    refine Lib.hid ?_
    have HAB : Hid (∀ w', BX w1 w' → Aft w (Obj.cells #[.string s, .slice (some ⟨g, 0, none⟩) cs.length cc, .slice af fs.length cf, .int .i64 d] 47) w') := Lib.hid (fun w' h => A1.out.on h)
    have HQ : Hid (∀ w', BX w1 w' → w'.cell? ⟨w.heap.size, 1, none⟩ = some (.slice (some ⟨g, 0, none⟩) cs.length cc) ∧ w'.cell? ⟨g, q * 8, none⟩ = some (.int .i64 xi) ∧ w'.cell? ⟨g, q * 8 + 1, none⟩ = some (.int .i64 xp) ∧ w'.cell? ⟨g, q * 8 + 2, none⟩ = some (.int .i64 xr) ∧ w'.cell? ⟨g, q * 8 + 3, none⟩ = some (.int .i64 xe) ∧ w'.cell? ⟨g, q * 8 + 4, none⟩ = some (.int .i64 xb) ∧ w'.cell? ⟨g, q * 8 + 5, none⟩ = some (.int .i64 xu) ∧ w'.cell? ⟨g, q * 8 + 6, none⟩ = some (.int .i64 xo) ∧ w'.cell? ⟨g, q * 8 + 7, none⟩ = some (.int .i64 xl) ∧ BX w1 w') := Lib.hid (fun w' h => by
      obtain ⟨e0, e1, e2, e3, _⟩ := (HAB.out w' h).all.1
      obtain ⟨t0, t1, t2, t3, t4, t5, t6, t7⟩ := (HG.out.below (HAB.out w' h).all.2 hgl).cls q hq _ HX.out
      exact ⟨e1, t0, t1, t2, t3, t4, t5, t6, t7, h⟩)
    go_wp2_with fail
    refine wp_region_held_drew (S := fun w' => w'.cell? ⟨w.heap.size, 1, none⟩ = some (.slice (some ⟨g, 0, none⟩) cs.length cc) ∧ w'.cell? ⟨g, q * 8, none⟩ = some (.int .i64 xi) ∧ w'.cell? ⟨g, q * 8 + 1, none⟩ = some (.int .i64 xp) ∧ w'.cell? ⟨g, q * 8 + 2, none⟩ = some (.int .i64 xr) ∧ w'.cell? ⟨g, q * 8 + 3, none⟩ = some (.int .i64 xe) ∧ w'.cell? ⟨g, q * 8 + 4, none⟩ = some (.int .i64 xb) ∧ w'.cell? ⟨g, q * 8 + 5, none⟩ = some (.int .i64 xu) ∧ w'.cell? ⟨g, q * 8 + 6, none⟩ = some (.int .i64 xo) ∧ w'.cell? ⟨g, q * 8 + 7, none⟩ = some (.int .i64 xl) ∧ BX w1 w') (by kernel_rfl) ?_ (fun hHeld => ?_)
    · (try dsimp only)
      (first | (go_split_ands; refine HQ.out _ ?_; repeat' (with_reducible first | exact BX.drew0 _ | exact BX.refl _ | assumption | refine BX.call' (by assumption) ?_ | refine BX.drew ?_)))
    refine held_take (i := 0) (d := 10) (v := ?_) rfl rfl (by kernel_rfl) (by kernel_rfl) (by kernel_rfl) (fun _ _ _ h => h) (by rfl) ?_ (by assumption) ?_
    rotate_left
    · intro w hSw
      (try dsimp only at hSw)
      go_simp
      try with_reducible rfl
    try simp only [Act.put, List.setIfInBounds_toArray, List.set_cons_zero, List.set_cons_succ]
    refine held_take (i := 1) (d := 11) (v := ?_) rfl rfl (by kernel_rfl) (by kernel_rfl) (by kernel_rfl) (fun _ _ _ h => h) (by rfl) ?_ (by assumption) ?_
    rotate_left
    · intro w hSw
      (try dsimp only at hSw)
      go_simp
      try with_reducible rfl
    try simp only [Act.put, List.setIfInBounds_toArray, List.set_cons_zero, List.set_cons_succ]
    refine held_take (i := 2) (d := 12) (v := ?_) rfl rfl (by kernel_rfl) (by kernel_rfl) (by kernel_rfl) (fun _ _ _ h => h) (by rfl) ?_ (by assumption) ?_
    rotate_left
    · intro w hSw
      (try dsimp only at hSw)
      go_simp
      try with_reducible rfl
    try simp only [Act.put, List.setIfInBounds_toArray, List.set_cons_zero, List.set_cons_succ]
    refine held_take (i := 3) (d := 13) (v := ?_) rfl rfl (by kernel_rfl) (by kernel_rfl) (by kernel_rfl) (fun _ _ _ h => h) (by rfl) ?_ (by assumption) ?_
    rotate_left
    · intro w hSw
      (try dsimp only at hSw)
      go_simp
      try with_reducible rfl
    try simp only [Act.put, List.setIfInBounds_toArray, List.set_cons_zero, List.set_cons_succ]
    refine held_take (i := 4) (d := 14) (v := ?_) rfl rfl (by kernel_rfl) (by kernel_rfl) (by kernel_rfl) (fun _ _ _ h => h) (by rfl) ?_ (by assumption) ?_
    rotate_left
    · intro w hSw
      (try dsimp only at hSw)
      go_simp
      try with_reducible rfl
    try simp only [Act.put, List.setIfInBounds_toArray, List.set_cons_zero, List.set_cons_succ]
    refine held_take (i := 5) (d := 15) (v := ?_) rfl rfl (by kernel_rfl) (by kernel_rfl) (by kernel_rfl) (fun _ _ _ h => h) (by rfl) ?_ (by assumption) ?_
    rotate_left
    · intro w hSw
      (try dsimp only at hSw)
      go_simp
      try with_reducible rfl
    try simp only [Act.put, List.setIfInBounds_toArray, List.set_cons_zero, List.set_cons_succ]
    refine held_take (i := 6) (d := 16) (v := ?_) rfl rfl (by kernel_rfl) (by kernel_rfl) (by kernel_rfl) (fun _ _ _ h => h) (by rfl) ?_ (by assumption) ?_
    rotate_left
    · intro w hSw
      (try dsimp only at hSw)
      go_simp
      try with_reducible rfl
    try simp only [Act.put, List.setIfInBounds_toArray, List.set_cons_zero, List.set_cons_succ]
    refine wpAnyH_ready (rs := [7]) (by kernel_rfl) (by simp) ?_
    refine AllReadyH.cons rfl (fun K' hK => ?_) AllReadyH.nil
    go_simp
    (go_split_ands; (with_reducible refine (HSP.out _ (Lib.hid (HI.out.below (HAB.out _ (by assumption)).all.2))).mono ?_); rintro e w3 ⟨rfl, b3⟩)
    refine hK.out _ _ ?_ (fun hHeld => ?_)
    · (try dsimp only)
      (first | (go_split_ands; refine HQ.out _ ?_; repeat' (with_reducible first | exact BX.drew0 _ | exact BX.refl _ | assumption | refine BX.call' (by assumption) ?_ | refine BX.drew ?_)))
    clear hK K'
    try simp only [Act.put, List.setIfInBounds_toArray, List.set_cons_zero, List.set_cons_succ]
    refine held_take (i := 8) (d := 4) (v := ?_) rfl rfl (by kernel_rfl) (by kernel_rfl) (by kernel_rfl) (fun _ _ _ h => h) (by rfl) ?_ (by assumption) ?_
    rotate_left
    · intro w hSw
      (try dsimp only at hSw)
      go_simp
      try with_reducible rfl
    try simp only [Act.put, List.setIfInBounds_toArray, List.set_cons_zero, List.set_cons_succ]
    refine held_take (i := 9) (d := 5) (v := ?_) rfl rfl (by kernel_rfl) (by kernel_rfl) (by kernel_rfl) (fun _ _ _ h => h) (by rfl) ?_ (by assumption) ?_
    rotate_left
    · intro w hSw
      (try dsimp only at hSw)
      go_simp
      try with_reducible rfl
    try simp only [Act.put, List.setIfInBounds_toArray, List.set_cons_zero, List.set_cons_succ]
    refine wpAnyH_done (by kernel_rfl) ?_ _
    go_split_ands
    go_wp2_with fail
    go_ret2
    exact ⟨ret_ib HX1.out.symm HX2.out.symm, (HAB.out _ (by assumption)).all.2⟩
end Go.Proofs.YthpejbdbbofaaaaDoor
