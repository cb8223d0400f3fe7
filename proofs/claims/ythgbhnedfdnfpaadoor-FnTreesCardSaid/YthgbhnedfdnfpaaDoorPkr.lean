import Derived.Test.YthgbhnedfdnfpaaDoorPkq
import Derived.Test.YthgbhnedfdnfpaaDoorPki
import Derived.Laws.AppendOwnNone
import Derived.WalkSmall
import Derived.Deep.RegionWith
import Derived.Deep.QuietTactic
import Derived.BigQuiet
import Derived.Test.YthgbhnedfdnfpaaDoorPkg
/- Chapter 4's functions over a class's index: whether there is one, spare rates. -/
namespace Go.Proofs.YthgbhnedfdnfpaaDoor
set_option maxRecDepth 100000
open Go.RowKit
set_option linter.unusedVariables false

def hasI (c : Cfg) (a : Int) : Bool := goodC c && (decide (0 ≤ a) && decide (a < (c.cs.length : Int)))
theorem has_iff {c : Cfg} {a : Int} (h : hasI c a = true) : goodC c = true ∧ ∃ q : Nat, a = (q : Int) ∧ q < c.cs.length := by
  unfold hasI at h
  simp only [Bool.and_eq_true, decide_eq_true_eq] at h
  exact ⟨h.1, a.toNat, by omega, by omega⟩
theorem in_idx (a : Int) (n : Nat) (h : 1 ≤ n) : inB a 0 ((n : Int) - 1) = (decide (0 ≤ a) && decide (a < (n : Int))) := by
  unfold inB
  congr 1
  apply Bool.eq_iff_iff.2
  rw [decide_eq_true_eq, decide_eq_true_eq]
  omega
set_option maxHeartbeats 3200000 in
theorem cfHas_any (v : Value) (c : Cfg) (a : Int) (w : World) (HV : Hid (CfgV w v c)) (HM : Hid (CfgM c)) :
    Calls Tryd.prog 24 #[v, .int .i64 a] w (SaysB w (hasI c a)) := by
  obtain ⟨ac, cc, af, cf, rfl, ic, if_⟩ := HV.out
  obtain ⟨s, cs, fs, d⟩ := c
  have hM := HM.out
  unfold CfgM at hM
  simp only at ic if_ hM HV ⊢
  obtain ⟨q0, q1, q2⟩ := hM
  have HI := Lib.hid ic
  have HJ := Lib.hid if_
  have HVB := Lib.hid (fun w' (b : Below w.heap.size w w') => Lib.hid (HV.out.below b))
  have A0 := Lib.hid (Aft.refl w (Obj.cells #[.string s, .slice ac cs.length cc, .slice af fs.length cf, .int .i64 d] 26))
  clear ic if_
  have HGD := Lib.hid (fun w' (b : Below w.heap.size w w') => cfGood_any (.agg #[.string s, .slice ac cs.length cc, .slice af fs.length cf, .int .i64 d]) ⟨s, cs, fs, d⟩ w' (HVB.out w' b) HM)
  have HX : Hid (hasI ⟨s, cs, fs, d⟩ a = (goodC ⟨s, cs, fs, d⟩ && (decide (0 ≤ a) && decide (a < (cs.length : Int))))) := Lib.hid rfl
  generalize hasI ⟨s, cs, fs, d⟩ a = R at HX ⊢
  cases hg : goodC ⟨s, cs, fs, d⟩
  · have HX2 : Hid (R = false) := Lib.hid (by rw [HX.out, hg]; rfl)
    rw [hg] at HGD
    clear hg HX
    go_enter Tryd.func24, Tryd.ntmps24
    go_wp2_with (go_at_call 31; refine (HGD.out _ A0.out.all.2).mono ?_; rintro e w1 ⟨rfl, b1⟩; have A1 := Lib.hid (A0.out.on b1); clear b1)
    go_ret
    exact ⟨ret_bool HX2.out.symm, A1.out.all.2⟩
  · have hn1 : 1 ≤ cs.length := (good_of hg).n1
    have HIN := Lib.hid (fun w => l1In_any a 0 ((cs.length : Int) - 1) w)
    rw [in_idx a cs.length hn1] at HIN
    have HX2 : Hid (R = (decide (0 ≤ a) && decide (a < (cs.length : Int)))) := Lib.hid (by rw [HX.out, hg, Bool.true_and])
    generalize (decide (0 ≤ a) && decide (a < (cs.length : Int))) = b at HX2 HIN
    rw [hg] at HGD
    clear hg HX
    go_enter Tryd.func24, Tryd.ntmps24
    go_wp2_with (go_at_call 31; refine (HGD.out _ A0.out.all.2).mono ?_; rintro e w1 ⟨rfl, b1⟩; have A1 := Lib.hid (A0.out.on b1); obtain ⟨c0, c1, c2, c3, _⟩ := A1.out.all.1; clear b1)
    go_wp2_with (go_at_call 42; refine (HIN.out _).mono ?_; rintro e w' ⟨rfl, rfl⟩)
    go_ret
    exact ⟨ret_bool HX2.out.symm, A1.out.all.2⟩
set_option maxHeartbeats 3200000 in
theorem hasIndex_any (v : Value) (c : Cfg) (a : Int) (w : World) (HK : Hid (Kwt w)) (HV : Hid (CfgV w v c)) (HM : Hid (CfgM c)) :
    Calls Tryd.prog 21 #[v, .int .i64 a] w (SaysB w (hasI c a)) := by
  obtain ⟨ac, cc, af, cf, rfl, ic, if_⟩ := HV.out
  obtain ⟨s, cs, fs, d⟩ := c
  have hM := HM.out
  unfold CfgM at hM
  simp only at ic if_ hM HV ⊢
  obtain ⟨q0, q1, q2⟩ := hM
  have HI := Lib.hid ic
  have HJ := Lib.hid if_
  have HVB := Lib.hid (fun w' (b : Below w.heap.size w w') => Lib.hid (HV.out.below b))
  have A0 := Lib.hid (Aft.refl w (Obj.cells #[.string s, .slice ac cs.length cc, .slice af fs.length cf, .int .i64 d] 26))
  clear ic if_
  have HGD := Lib.hid (fun w' (b : Below w.heap.size w w') => implIsConfig_any (.agg #[.string s, .slice ac cs.length cc, .slice af fs.length cf, .int .i64 d]) ⟨s, cs, fs, d⟩ w' (Lib.hid (HK.out.below b)) (HVB.out w' b) HM)
  have HX : Hid (hasI ⟨s, cs, fs, d⟩ a = (goodC ⟨s, cs, fs, d⟩ && (decide (0 ≤ a) && decide (a < (cs.length : Int))))) := Lib.hid rfl
  generalize hasI ⟨s, cs, fs, d⟩ a = R at HX ⊢
  cases hg : goodC ⟨s, cs, fs, d⟩
  · have HX2 : Hid (R = false) := Lib.hid (by rw [HX.out, hg]; rfl)
    rw [hg] at HGD
    clear hg HX
    go_enter Tryd.func21, Tryd.ntmps21
    go_wp2_with (go_at_call 29; refine (HGD.out _ A0.out.all.2).mono ?_; rintro e w1 ⟨rfl, b1⟩; have A1 := Lib.hid (A0.out.on b1); clear b1)
    go_ret
    exact ⟨ret_bool HX2.out.symm, A1.out.all.2⟩
  · rw [hg] at HGD
    by_cases h0 : a < 0
    · have d0 := not_le h0
      have HX2 : Hid (R = false) := Lib.hid (by rw [HX.out, hg, d0]; rfl)
      clear hg HX h0
      go_enter Tryd.func21, Tryd.ntmps21
      go_wp2_with (go_at_call 29; refine (HGD.out _ A0.out.all.2).mono ?_; rintro e w1 ⟨rfl, b1⟩; have A1 := Lib.hid (A0.out.on b1); obtain ⟨c0, c1, c2, c3, _⟩ := A1.out.all.1; clear b1)
      go_ret
      exact ⟨ret_bool HX2.out.symm, A1.out.all.2⟩
    · have d0 := is_le (show 0 ≤ a by omega)
      have HX2 : Hid (R = decide (a < (cs.length : Int))) := Lib.hid (by rw [HX.out, hg, d0]; rfl)
      clear hg HX h0
      go_enter Tryd.func21, Tryd.ntmps21
      go_wp2_with (go_at_call 29; refine (HGD.out _ A0.out.all.2).mono ?_; rintro e w1 ⟨rfl, b1⟩; have A1 := Lib.hid (A0.out.on b1); obtain ⟨c0, c1, c2, c3, _⟩ := A1.out.all.1; clear b1)
      go_ret
      exact ⟨ret_bool HX2.out.symm, A1.out.all.2⟩
def resSpareRate1 (c : Cfg) (a : Int) : Int := if hasI c a then spare c.cs (c.cs.getD a.toNat cls0) else 0
def resSpareRate2 (c : Cfg) (a : Int) : Bool := hasI c a
theorem sr_bad {c : Cfg} {a : Int} (h : hasI c a = false) : resSpareRate1 c a = 0 ∧ resSpareRate2 c a = false := by unfold resSpareRate1 resSpareRate2; rw [h]; exact ⟨rfl, rfl⟩
theorem sr_good {c : Cfg} {q : Nat} (h : hasI c (q : Int) = true) : resSpareRate1 c q = spare c.cs (c.cs.getD q cls0) ∧ resSpareRate2 c q = true := by unfold resSpareRate1 resSpareRate2; rw [h]; exact ⟨rfl, rfl⟩
set_option maxHeartbeats 3200000 in
theorem specSpareRate_any (v : Value) (c : Cfg) (a : Int) (w : World) (HV : Hid (CfgV w v c)) (HM : Hid (CfgM c)) :
    Calls Tryd.prog 10 #[v, .int .i64 a] w (SaysT2 w (.int .i64 (resSpareRate1 c a)) (.bool (resSpareRate2 c a))) := by
  obtain ⟨ac, cc, af, cf, rfl, ic, if_⟩ := HV.out
  obtain ⟨s, cs, fs, d⟩ := c
  have hM := HM.out
  unfold CfgM at hM
  simp only at ic if_ hM HV ⊢
  obtain ⟨q0, q1, q2⟩ := hM
  have HI := Lib.hid ic
  have HJ := Lib.hid if_
  have HVB := Lib.hid (fun w' (b : Below w.heap.size w w') => Lib.hid (HV.out.below b))
  have A0 := Lib.hid (Aft.refl w (Obj.cells #[.string s, .slice ac cs.length cc, .slice af fs.length cf, .int .i64 d] 26))
  clear ic if_
  have HH := Lib.hid (fun w' (b : Below w.heap.size w w') => cfHas_any (.agg #[.string s, .slice ac cs.length cc, .slice af fs.length cf, .int .i64 d]) ⟨s, cs, fs, d⟩ a w' (HVB.out w' b) HM)
  cases hh : hasI ⟨s, cs, fs, d⟩ a
  · obtain ⟨x1, x2⟩ := sr_bad hh
    generalize resSpareRate1 ⟨s, cs, fs, d⟩ a = R1 at x1 ⊢
    generalize resSpareRate2 ⟨s, cs, fs, d⟩ a = R2 at x2 ⊢
    have HX1 := Lib.hid x1
    have HX2 := Lib.hid x2
    rw [hh] at HH
    clear x1 x2 hh
    go_enter Tryd.func10, Tryd.ntmps10
    go_wp2_with (go_at_call 24; refine (HH.out _ A0.out.all.2).mono ?_; rintro e w1 ⟨rfl, b1⟩; have A1 := Lib.hid (A0.out.on b1); clear b1)
    go_ret2
    exact ⟨ret_ib HX1.out.symm HX2.out.symm, A1.out.all.2⟩
  · rw [hh] at HH
    obtain ⟨hg, q, rfl, hq⟩ := has_iff hh
    obtain ⟨x1, x2⟩ := sr_good hh
    have G := good_of hg
    have HRI := Lib.hid (okL_rates G.ok)
    have HSP := Lib.hid (fun w' HI => cfSpare_any s ac af cs.length cc fs.length cf d cs q w' HI (Lib.hid rfl) q1 hq G.n24 HRI)
    simp only at x1
    generalize spare cs (cs.getD q cls0) = S at HSP x1
    generalize resSpareRate1 ⟨s, cs, fs, d⟩ q = R1 at x1 ⊢
    generalize resSpareRate2 ⟨s, cs, fs, d⟩ q = R2 at x2 ⊢
    have HX1 := Lib.hid x1
    have HX2 := Lib.hid x2
    clear x1 x2 hh hg G
    go_enter Tryd.func10, Tryd.ntmps10
    go_wp2_with (go_at_call 24; refine (HH.out _ A0.out.all.2).mono ?_; rintro e w1 ⟨rfl, b1⟩; have A1 := Lib.hid (A0.out.on b1); obtain ⟨c0, c1, c2, c3, _⟩ := A1.out.all.1; clear b1)
    go_wp2_with (go_at_call 28; refine (HSP.out _ (Lib.hid (HI.out.below A1.out.all.2))).mono ?_; rintro e w2 ⟨rfl, b2⟩; have A2 := Lib.hid (A1.out.on b2); clear b2)
    go_ret2
    exact ⟨ret_ib HX1.out.symm HX2.out.symm, A2.out.all.2⟩
set_option maxHeartbeats 3200000 in
theorem implSpareRate_any (v : Value) (c : Cfg) (a : Int) (w : World) (HK : Hid (Kwt w)) (HV : Hid (CfgV w v c)) (HM : Hid (CfgM c)) :
    Calls Tryd.prog 9 #[v, .int .i64 a] w (SaysT2 w (.int .i64 (resSpareRate1 c a)) (.bool (resSpareRate2 c a))) := by
  obtain ⟨ac, cc, af, cf, rfl, ic, if_⟩ := HV.out
  obtain ⟨s, cs, fs, d⟩ := c
  have hM := HM.out
  unfold CfgM at hM
  simp only at ic if_ hM HV ⊢
  obtain ⟨q0, q1, q2⟩ := hM
  have HI := Lib.hid ic
  have HJ := Lib.hid if_
  have HVB := Lib.hid (fun w' (b : Below w.heap.size w w') => Lib.hid (HV.out.below b))
  have A0 := Lib.hid (Aft.refl w (Obj.cells #[.string s, .slice ac cs.length cc, .slice af fs.length cf, .int .i64 d] 26))
  clear ic if_
  have HH := Lib.hid (fun w' (b : Below w.heap.size w w') => hasIndex_any (.agg #[.string s, .slice ac cs.length cc, .slice af fs.length cf, .int .i64 d]) ⟨s, cs, fs, d⟩ a w' (Lib.hid (HK.out.below b)) (HVB.out w' b) HM)
  cases hh : hasI ⟨s, cs, fs, d⟩ a
  · obtain ⟨x1, x2⟩ := sr_bad hh
    generalize resSpareRate1 ⟨s, cs, fs, d⟩ a = R1 at x1 ⊢
    generalize resSpareRate2 ⟨s, cs, fs, d⟩ a = R2 at x2 ⊢
    have HX1 := Lib.hid x1
    have HX2 := Lib.hid x2
    rw [hh] at HH
    clear x1 x2 hh
    go_enter Tryd.func9, Tryd.ntmps9
    go_wp2_with (go_at_call 21; refine (HH.out _ A0.out.all.2).mono ?_; rintro e w1 ⟨rfl, b1⟩; have A1 := Lib.hid (A0.out.on b1); clear b1)
    go_ret2
    exact ⟨ret_ib HX1.out.symm HX2.out.symm, A1.out.all.2⟩
  · rw [hh] at HH
    obtain ⟨hg, q, rfl, hq⟩ := has_iff hh
    obtain ⟨x1, x2⟩ := sr_good hh
    have G := good_of hg
    have HRI := Lib.hid (okL_rates G.ok)
    simp only at hq x1
    obtain ⟨g, rfl, hgt, hgl⟩ := HI.out (by omega)
    have HG := Lib.hid hgt
    obtain ⟨x, hx⟩ : ∃ x, cs.getD q cls0 = x := ⟨_, rfl⟩
    have hxr : 1 ≤ x.r ∧ x.r ≤ 100000 := by rw [← hx]; exact HRI.out q hq
    have HSP := Lib.hid (fun w' HI => spareRate_any (some ⟨g, 0, none⟩) cs.length cc cs x w' HI (Lib.hid rfl) q1 G.n24 HRI hxr)
    have HX := Lib.hid hx
    rw [hx] at x1
    generalize spare cs x = S at HSP x1
    generalize resSpareRate1 ⟨s, cs, fs, d⟩ q = R1 at x1 ⊢
    generalize resSpareRate2 ⟨s, cs, fs, d⟩ q = R2 at x2 ⊢
    have HX1 := Lib.hid x1
    have HX2 := Lib.hid x2
    have dq0 : (0 : Int) ≤ (q : Int) := by omega
    have dq1 : (q : Int) < (cs.length : Int) := by omega
    obtain ⟨xi, xp, xr, xe, xb, xu, xo, xl⟩ := x
    unfold clsV at HSP
    simp only at HSP
    clear x1 x2 hh hg G hx hgt hxr
    go_enter Tryd.func9, Tryd.ntmps9
    go_wp2_with (go_at_call 21; refine (HH.out _ A0.out.all.2).mono ?_; rintro e w1 ⟨rfl, b1⟩; have A1 := Lib.hid (A0.out.on b1); clear b1; refine Hid.out ?_)
    refine Lib.hid ?_
    have HAB : Hid (∀ w', BX w1 w' → Aft w (Obj.cells #[.string s, .slice (some ⟨g, 0, none⟩) cs.length cc, .slice af fs.length cf, .int .i64 d] 26) w') := Lib.hid (fun w' h => A1.out.on h)
    have HQ : Hid (∀ w', BX w1 w' → w'.cell? ⟨w.heap.size, 1, none⟩ = some (.slice (some ⟨g, 0, none⟩) cs.length cc) ∧ w'.cell? ⟨g, q * 8, none⟩ = some (.int .i64 xi) ∧ w'.cell? ⟨g, q * 8 + 1, none⟩ = some (.int .i64 xp) ∧ w'.cell? ⟨g, q * 8 + 2, none⟩ = some (.int .i64 xr) ∧ w'.cell? ⟨g, q * 8 + 3, none⟩ = some (.int .i64 xe) ∧ w'.cell? ⟨g, q * 8 + 4, none⟩ = some (.int .i64 xb) ∧ w'.cell? ⟨g, q * 8 + 5, none⟩ = some (.int .i64 xu) ∧ w'.cell? ⟨g, q * 8 + 6, none⟩ = some (.int .i64 xo) ∧ w'.cell? ⟨g, q * 8 + 7, none⟩ = some (.int .i64 xl) ∧ BX w1 w') := Lib.hid (fun w' h => by
      obtain ⟨e0, e1, e2, e3, _⟩ := (HAB.out w' h).all.1
      obtain ⟨t0, t1, t2, t3, t4, t5, t6, t7⟩ := (HG.out.below (HAB.out w' h).all.2 hgl).cls q hq _ HX.out
      exact ⟨e1, t0, t1, t2, t3, t4, t5, t6, t7, h⟩)
    go_wp2_with fail
    refine wp_region_held_drew (S := fun w' => w'.cell? ⟨w.heap.size, 1, none⟩ = some (.slice (some ⟨g, 0, none⟩) cs.length cc) ∧ w'.cell? ⟨g, q * 8, none⟩ = some (.int .i64 xi) ∧ w'.cell? ⟨g, q * 8 + 1, none⟩ = some (.int .i64 xp) ∧ w'.cell? ⟨g, q * 8 + 2, none⟩ = some (.int .i64 xr) ∧ w'.cell? ⟨g, q * 8 + 3, none⟩ = some (.int .i64 xe) ∧ w'.cell? ⟨g, q * 8 + 4, none⟩ = some (.int .i64 xb) ∧ w'.cell? ⟨g, q * 8 + 5, none⟩ = some (.int .i64 xu) ∧ w'.cell? ⟨g, q * 8 + 6, none⟩ = some (.int .i64 xo) ∧ w'.cell? ⟨g, q * 8 + 7, none⟩ = some (.int .i64 xl) ∧ BX w1 w') (by kernel_rfl) ?_ (fun hHeld => ?_)
    · (try dsimp only)
      (first | (go_split_ands; refine HQ.out _ ?_; repeat' (with_reducible first | exact BX.drew0 _ | exact BX.refl _ | assumption | refine BX.call' (by assumption) ?_ | refine BX.drew ?_)))
    refine held_take (i := 0) (d := 10) (v := ?_) rfl rfl (by kernel_rfl) (by kernel_rfl) (by kernel_rfl) (fun _ _ _ h => h) (by rfl) ?_ (by assumption) ?_
    rotate_left
    · intro w hSw
      (try dsimp only at hSw)
      go_simp
      try with_reducible rfl
    try simp only [Act.put, List.setIfInBounds_toArray, List.set_cons_zero, List.set_cons_succ]
    refine held_take (i := 1) (d := 11) (v := ?_) rfl rfl (by kernel_rfl) (by kernel_rfl) (by kernel_rfl) (fun _ _ _ h => h) (by rfl) ?_ (by assumption) ?_
    rotate_left
    · intro w hSw
      (try dsimp only at hSw)
      go_simp
      try with_reducible rfl
    try simp only [Act.put, List.setIfInBounds_toArray, List.set_cons_zero, List.set_cons_succ]
    refine held_take (i := 2) (d := 12) (v := ?_) rfl rfl (by kernel_rfl) (by kernel_rfl) (by kernel_rfl) (fun _ _ _ h => h) (by rfl) ?_ (by assumption) ?_
    rotate_left
    · intro w hSw
      (try dsimp only at hSw)
      go_simp
      try with_reducible rfl
    try simp only [Act.put, List.setIfInBounds_toArray, List.set_cons_zero, List.set_cons_succ]
    refine held_take (i := 3) (d := 13) (v := ?_) rfl rfl (by kernel_rfl) (by kernel_rfl) (by kernel_rfl) (fun _ _ _ h => h) (by rfl) ?_ (by assumption) ?_
    rotate_left
    · intro w hSw
      (try dsimp only at hSw)
      go_simp
      try with_reducible rfl
    try simp only [Act.put, List.setIfInBounds_toArray, List.set_cons_zero, List.set_cons_succ]
    refine held_take (i := 4) (d := 14) (v := ?_) rfl rfl (by kernel_rfl) (by kernel_rfl) (by kernel_rfl) (fun _ _ _ h => h) (by rfl) ?_ (by assumption) ?_
    rotate_left
    · intro w hSw
      (try dsimp only at hSw)
      go_simp
      try with_reducible rfl
    try simp only [Act.put, List.setIfInBounds_toArray, List.set_cons_zero, List.set_cons_succ]
    refine held_take (i := 5) (d := 15) (v := ?_) rfl rfl (by kernel_rfl) (by kernel_rfl) (by kernel_rfl) (fun _ _ _ h => h) (by rfl) ?_ (by assumption) ?_
    rotate_left
    · intro w hSw
      (try dsimp only at hSw)
      go_simp
      try with_reducible rfl
    try simp only [Act.put, List.setIfInBounds_toArray, List.set_cons_zero, List.set_cons_succ]
    refine held_take (i := 6) (d := 16) (v := ?_) rfl rfl (by kernel_rfl) (by kernel_rfl) (by kernel_rfl) (fun _ _ _ h => h) (by rfl) ?_ (by assumption) ?_
    rotate_left
    · intro w hSw
      (try dsimp only at hSw)
      go_simp
      try with_reducible rfl
    try simp only [Act.put, List.setIfInBounds_toArray, List.set_cons_zero, List.set_cons_succ]
    refine wpAnyH_ready (rs := [7]) (by kernel_rfl) (by simp) ?_
    refine AllReadyH.cons rfl (fun K' hK => ?_) AllReadyH.nil
    go_simp
    (go_split_ands; (with_reducible refine (HSP.out _ (Lib.hid (HI.out.below (HAB.out _ (by assumption)).all.2))).mono ?_); rintro e w3 ⟨rfl, b3⟩)
    refine hK.out _ _ ?_ (fun hHeld => ?_)
    · (try dsimp only)
      (first | (go_split_ands; refine HQ.out _ ?_; repeat' (with_reducible first | exact BX.drew0 _ | exact BX.refl _ | assumption | refine BX.call' (by assumption) ?_ | refine BX.drew ?_)))
    clear hK K'
    try simp only [Act.put, List.setIfInBounds_toArray, List.set_cons_zero, List.set_cons_succ]
    refine held_take (i := 8) (d := 4) (v := ?_) rfl rfl (by kernel_rfl) (by kernel_rfl) (by kernel_rfl) (fun _ _ _ h => h) (by rfl) ?_ (by assumption) ?_
    rotate_left
    · intro w hSw
      (try dsimp only at hSw)
      go_simp
      try with_reducible rfl
    try simp only [Act.put, List.setIfInBounds_toArray, List.set_cons_zero, List.set_cons_succ]
    refine held_take (i := 9) (d := 5) (v := ?_) rfl rfl (by kernel_rfl) (by kernel_rfl) (by kernel_rfl) (fun _ _ _ h => h) (by rfl) ?_ (by assumption) ?_
    rotate_left
    · intro w hSw
      (try dsimp only at hSw)
      go_simp
      try with_reducible rfl
    try simp only [Act.put, List.setIfInBounds_toArray, List.set_cons_zero, List.set_cons_succ]
    refine wpAnyH_done (by kernel_rfl) ?_ _
    go_split_ands
    go_wp2_with fail
    go_ret2
    exact ⟨ret_ib HX1.out.symm HX2.out.symm, (HAB.out _ (by assumption)).all.2⟩
end Go.Proofs.YthgbhnedfdnfpaaDoor

/- Chapter 4's functions that return configurations: valid ones, leaves found, copies. -/
namespace Go.Proofs.YthgbhnedfdnfpaaDoor
set_option maxRecDepth 100000
open Go.RowKit
set_option linter.unusedVariables false

/-- no configuration -/
def zV : Value := .agg #[.string ⟨#[]⟩, .slice none 0 0, .slice none 0 0, .int .i64 0]
def SaysIf (w : World) (v : Value) (b : Bool) (e : Ending) (w' : World) : Prop := e = .returned (.tuple #[if b then v else zV, .bool b]) ∧ Below w.heap.size w w'
/-! Leaves found. -/
def fL1 (c : Cfg) (id : Int) : Int := if goodC c && leafB c.cs id then (match fnd c.cs id with | .none => 0 | .some k => (k : Int)) else 0
def fL2 (c : Cfg) (id : Int) : Bool := goodC c && leafB c.cs id
theorem fL_no {c : Cfg} {id : Int} (h : (goodC c && leafB c.cs id) = false) : fL1 c id = 0 ∧ fL2 c id = false := by unfold fL1 fL2; rw [h]; exact ⟨rfl, rfl⟩
theorem fL_yes {c : Cfg} {id : Int} {k : Nat} (h : (goodC c && leafB c.cs id) = true) (hf : fnd c.cs id = Option.some k) : fL1 c id = k ∧ fL2 c id = true := by unfold fL1 fL2; rw [h, hf]; exact ⟨rfl, rfl⟩
theorem run_index_marks (w : World) (cs : List Cls) (n k : Nat) (hk : k < 24) : (Instr.index 52 (.agg (mkX cs n).toArray) (.int .i64 (k : Int))).run Tryd.prog w = .ok (.bool (mkP cs n k)) w := by
  have h1 : (0 : Int) ≤ (k : Int) ∧ (k : Int) < ((24 : Nat) : Int) := by omega
  have h2 := mkX_get cs n k hk
  simp [Instr.index, run_underlying Tryd.underlying52, asIntOf, h1, go_sem, h2]
  intro h; omega
end Go.Proofs.YthgbhnedfdnfpaaDoor

/- Copies of configurations, the program's. -/
namespace Go.Proofs.YthgbhnedfdnfpaaDoor
set_option maxRecDepth 100000
open Go.RowKit
set_option linter.unusedVariables false

/-- a configuration of a call's own: for contracts that copy -/
theorem own_news {w : World} {B n z : Nat} {T : TypeId} {g c : Nat} {xs : List Value} (h : w.ownsRow B T z (.slice (some ⟨g, 0, none⟩) n c) n xs) : ∀ j u, xs[j]? = some u → w.cell? ((⟨g, 0, none⟩ : Addr).add j) = some u := by
  intro j u hu
  have hj : j < n * z := by have := (List.getElem?_eq_some_iff.1 hu).1; rw [h.1] at this; exact this
  have hadd : (⟨g, 0, none⟩ : Addr).add j = ⟨g, j, none⟩ := by unfold Addr.add; split <;> simp_all
  rw [hadd, World.ownsRow.cellAt h j hj, hu]
theorem clsCs_one (l : List Cls) : ∀ u ∈ clsCs l, u.oneCell' = true := by
  intro u hu
  unfold clsCs at hu
  obtain ⟨x, _, hx⟩ := List.mem_flatMap.1 hu
  simp only [clsC, List.mem_cons, List.not_mem_nil, or_false] at hx
  rcases hx with rfl | rfl | rfl | rfl | rfl | rfl | rfl | rfl <;> rfl
theorem fltCs_one (l : List Flt) : ∀ u ∈ fltCs l, u.oneCell' = true := by
  intro u hu
  unfold fltCs at hu
  obtain ⟨x, _, hx⟩ := List.mem_flatMap.1 hu
  simp only [fltC, List.mem_cons, List.not_mem_nil, or_false] at hx
  rcases hx with rfl | rfl | rfl | rfl | rfl <;> rfl
theorem copy_facts {W w1 : World} {B n z : Nat} {T : TypeId} {v1 : Value} {xs : List Value} (hB : B ≤ W.heap.size) (h : w1.ownsRow B T z v1 (0 + n) ([] ++ xs)) (hg : W.grownBy w1 (Value.slice none 0 0).ownBlock) : Hid (w1.ownsRow B T z v1 n xs) ∧ Hid (Below W.heap.size W w1) := by
  refine ⟨?_, (Below.refl _ _).grown hg (Nat.le_refl _) (by intro k h; cases h)⟩
  rw [Nat.zero_add, List.nil_append] at h
  exact h
theorem copy_size {w w1 : World} {o o' : Obj} (b : Below ((w.alloc o).alloc o').heap.size ((w.alloc o).alloc o') w1) : w.heap.size + 1 < w1.heap.size := two_size b
theorem copy_box {w w1 : World} {a0 a1 a2 a3 : Value} {t : TypeId} {o' : Obj} (b : Below ((w.alloc (.cells #[a0, a1, a2, a3] t)).alloc o').heap.size ((w.alloc (.cells #[a0, a1, a2, a3] t)).alloc o') w1) : FourIs w1 w.heap.size a0 a1 a2 a3 :=
  ((box_four (Below.refl _ (w.alloc (.cells #[a0, a1, a2, a3] t)))).1.on (one_new2 _ _)).on b
theorem FourIs.set1 {w : World} {b : Nat} {a0 a1 a2 a3 : Value} (h : FourIs w b a0 a1 a2 a3) (v : Value) : FourIs (w.setCell ⟨b, 1, none⟩ v) b a0 v a2 a3 := by
  obtain ⟨h0, h1, h2, h3, hg⟩ := h
  refine ⟨?_, ?_, ?_, ?_, by simpa using hg⟩
  · rw [World.cell?_setCell_other _ _ _ _ (by simp)]; exact h0
  · exact World.cell?_setCell_same' _ _ _ (by rw [h1]; rfl)
  · rw [World.cell?_setCell_other _ _ _ _ (by simp)]; exact h2
  · rw [World.cell?_setCell_other _ _ _ _ (by simp)]; exact h3
end Go.Proofs.YthgbhnedfdnfpaaDoor

/- Configurations made of arguments; configurations compared. -/
namespace Go.Proofs.YthgbhnedfdnfpaaDoor
set_option maxRecDepth 100000
open Go.RowKit
set_option linter.unusedVariables false

theorem three_old (w : World) (o o' o'' : Obj) : Below w.heap.size w (((w.alloc o).alloc o').alloc o'') :=
  (((Below.refl _ _).alloc (Nat.le_refl _) _).alloc (by simp) _).alloc (by simp; omega) _
theorem three_new {w w1 : World} {o o' o'' : Obj} (b : Below (((w.alloc o).alloc o').alloc o'').heap.size (((w.alloc o).alloc o').alloc o'') w1) : Below w.heap.size w w1 ∧ w.heap.size < w1.heap.size ∧ w.heap.size + 1 < w1.heap.size ∧ w.heap.size + 1 + 1 < w1.heap.size := by
  have hs := b.size
  simp at hs
  exact ⟨(three_old w o o' o'').trans (b.mono (by simp; omega)), by omega, by omega, by omega⟩
def EqClassRel (w : World) (n : Nat) (i : Value) (wr : World) : Prop := ∃ k : Nat, k ≤ n ∧ i = .int .i64 k ∧ Below w.heap.size w wr
def EqFilterRel (w : World) (n : Nat) (i : Value) (wr : World) : Prop := ∃ k : Nat, k ≤ n ∧ i = .int .i64 k ∧ Below w.heap.size w wr
end Go.Proofs.YthgbhnedfdnfpaaDoor

/- Marks in lists of classes, of filters, of integers; lists of integers compared. -/
namespace Go.Proofs.YthgbhnedfdnfpaaDoor
set_option maxRecDepth 100000
open Go.RowKit
set_option linter.unusedVariables false

end Go.Proofs.YthgbhnedfdnfpaaDoor

/- Marks in lists of classes and of filters that are known afterwards; marks held; both for configurations. -/
namespace Go.Proofs.YthgbhnedfdnfpaaDoor
set_option maxRecDepth 100000
open Go.RowKit
set_option linter.unusedVariables false

def mkG (k : Int) (n : Nat) : List Value := (List.range n).map (fun j : Nat => Value.int .i64 (k + (j : Int)))
theorem mkG_length (k : Int) (n : Nat) : (mkG k n).length = n := by simp [mkG]
theorem mkG_val {k x : Int} {n j : Nat} (h : j < n) (hx : x = k + (j : Int)) : (mkG k n)[j]? = some (Value.int .i64 x) := by subst hx; simp [mkG, h]
theorem got_set {ys xs : List Value} {m : Nat} {v : Value} (h : GotX ys xs m) (hm : m < xs.length) (hv : ys[m]? = some v) : GotX ys (xs.set m v) (m + 1) := fun j hj => by
  rcases Nat.lt_succ_iff_lt_or_eq.1 hj with q | q
  · rw [List.getElem?_set_ne (by omega)]; exact h j q
  · subst q; rw [List.getElem?_set_self (by omega), hv]
def SaysMx (w : World) (B : Nat) (T : TypeId) (z : Nat) (v : Value) (n : Nat) (k : Int) (e : Ending) (w' : World) : Prop := e = .returned (.int .i64 (k + (z : Int) * (n : Int))) ∧ w'.ownsRow B T z v n (mkG k (n * z)) ∧ Below B w w' ∧ Onl w w' v.ownBlock
end Go.Proofs.YthgbhnedfdnfpaaDoor
