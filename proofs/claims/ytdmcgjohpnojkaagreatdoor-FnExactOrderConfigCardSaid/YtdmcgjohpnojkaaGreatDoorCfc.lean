/- Chapter 4's functions that return numbers: classes found, tops, spare rates. -/
import Derived.Test.YtdmcgjohpnojkaaGreatDoorCfi
import Derived.Test.YtdmcgjohpnojkaaGreatDoorCfy
namespace Go.Proofs.YtdmcgjohpnojkaaGreatDoor
set_option maxRecDepth 100000
open Go.RowKit
set_option linter.unusedVariables false

def resFindClass1 (c : Cfg) (id : Int) : Int := if goodC c then (match fnd c.cs id with | .none => 0 | .some k => (k : Int)) else 0
def resFindClass2 (c : Cfg) (id : Int) : Bool := goodC c && (fnd c.cs id).isSome
theorem fc_bad {c : Cfg} (id : Int) (h : goodC c = false) : resFindClass1 c id = 0 ∧ resFindClass2 c id = false := by unfold resFindClass1 resFindClass2; rw [h]; exact ⟨rfl, rfl⟩
theorem fc_none {c : Cfg} (id : Int) (h : goodC c = true) (hf : fnd c.cs id = Option.none) : resFindClass1 c id = 0 ∧ resFindClass2 c id = false := by unfold resFindClass1 resFindClass2; rw [h, hf]; exact ⟨rfl, rfl⟩
theorem fc_some {c : Cfg} (id : Int) {k : Nat} (h : goodC c = true) (hf : fnd c.cs id = Option.some k) : resFindClass1 c id = k ∧ resFindClass2 c id = true := by unfold resFindClass1 resFindClass2; rw [h, hf]; exact ⟨rfl, rfl⟩
set_option maxHeartbeats 3200000 in
theorem specFindClass_any (v : Value) (c : Cfg) (id : Int) (w : World) (HV : Hid (CfgV w v c)) (HM : Hid (CfgM c)) :
    Calls Tryz.prog 30 #[v, .int .i64 id] w (SaysT2 w (.int .i64 (resFindClass1 c id)) (.bool (resFindClass2 c id))) := by
  obtain ⟨ac, cc, af, cf, rfl, ic, if_⟩ := HV.out
  obtain ⟨s, cs, fs, d⟩ := c
  have hM := HM.out
  unfold CfgM at hM
  simp only at ic if_ hM HV ⊢
  obtain ⟨q0, q1, q2⟩ := hM
  have HI := Lib.hid ic
  have HJ := Lib.hid if_
  have HVB := Lib.hid (fun w' (b : Below w.heap.size w w') => Lib.hid (HV.out.below b))
  have A0 := Lib.hid (Aft.refl w (Obj.cells #[.string s, .slice ac cs.length cc, .slice af fs.length cf, .int .i64 d] 54))
  clear ic if_
  have HGD := Lib.hid (fun w' (b : Below w.heap.size w w') => cfGood_any (.agg #[.string s, .slice ac cs.length cc, .slice af fs.length cf, .int .i64 d]) ⟨s, cs, fs, d⟩ w' (HVB.out w' b) HM)
  have HFD := Lib.hid (fun w' HI => cfFind_any s ac af cs.length cc fs.length cf d cs id w' HI (Lib.hid rfl) q1)
  cases hg : goodC ⟨s, cs, fs, d⟩
  · obtain ⟨x1, x2⟩ := fc_bad id hg
    generalize resFindClass1 ⟨s, cs, fs, d⟩ id = R1 at x1 ⊢
    generalize resFindClass2 ⟨s, cs, fs, d⟩ id = R2 at x2 ⊢
    have HX1 := Lib.hid x1
    have HX2 := Lib.hid x2
    rw [hg] at HGD
    clear x1 x2 hg
    go_enter Tryz.func30, Tryz.ntmps30
    go_wp2_with (go_at_call 77; refine (HGD.out _ A0.out.all.2).mono ?_; rintro e w1 ⟨rfl, b1⟩; have A1 := Lib.hid (A0.out.on b1); clear b1)
    go_ret2
    exact ⟨ret_ib HX1.out.symm HX2.out.symm, A1.out.all.2⟩
  · rw [hg] at HGD
    cases hf : fnd cs id with
    | none =>
      obtain ⟨x1, x2⟩ := fc_none id hg hf
      generalize resFindClass1 ⟨s, cs, fs, d⟩ id = R1 at x1 ⊢
      generalize resFindClass2 ⟨s, cs, fs, d⟩ id = R2 at x2 ⊢
      have HX1 := Lib.hid x1
      have HX2 := Lib.hid x2
      rw [fndI_none hf] at HFD
      clear x1 x2 hg hf
      go_enter Tryz.func30, Tryz.ntmps30
      go_wp2_with (go_at_call 77; refine (HGD.out _ A0.out.all.2).mono ?_; rintro e w1 ⟨rfl, b1⟩; have A1 := Lib.hid (A0.out.on b1); obtain ⟨c0, c1, c2, c3, _⟩ := A1.out.all.1; clear b1)
      go_wp2_with (go_at_call 78; refine (HFD.out _ (Lib.hid (HI.out.below A1.out.all.2))).mono ?_; rintro e w2 ⟨rfl, b2⟩; have A2 := Lib.hid (A1.out.on b2); clear b2)
      go_ret2
      exact ⟨ret_ib HX1.out.symm HX2.out.symm, A2.out.all.2⟩
    | some k =>
      obtain ⟨x1, x2⟩ := fc_some id hg hf
      generalize resFindClass1 ⟨s, cs, fs, d⟩ id = R1 at x1 ⊢
      generalize resFindClass2 ⟨s, cs, fs, d⟩ id = R2 at x2 ⊢
      have HX1 := Lib.hid x1
      have HX2 := Lib.hid x2
      rw [fndI_some hf] at HFD
      have dk := not_lt (show (0 : Int) ≤ (k : Int) by omega)
      clear x1 x2 hg hf
      go_enter Tryz.func30, Tryz.ntmps30
      go_wp2_with (go_at_call 77; refine (HGD.out _ A0.out.all.2).mono ?_; rintro e w1 ⟨rfl, b1⟩; have A1 := Lib.hid (A0.out.on b1); obtain ⟨c0, c1, c2, c3, _⟩ := A1.out.all.1; clear b1)
      go_wp2_with (go_at_call 78; refine (HFD.out _ (Lib.hid (HI.out.below A1.out.all.2))).mono ?_; rintro e w2 ⟨rfl, b2⟩; have A2 := Lib.hid (A1.out.on b2); obtain ⟨c0, c1, c2, c3, _⟩ := A2.out.all.1; clear b2; refine Hid.out ?_)
      refine Lib.hid ?_
      go_wp2_with (go_at_call 78; refine (HFD.out _ (Lib.hid (HI.out.below A2.out.all.2))).mono ?_; rintro e w3 ⟨rfl, b3⟩; have A3 := Lib.hid (A2.out.on b3); clear b3)
      go_ret2
      exact ⟨ret_ib HX1.out.symm HX2.out.symm, A3.out.all.2⟩
set_option maxHeartbeats 3200000 in
theorem implFindClass_any (v : Value) (c : Cfg) (id : Int) (w : World) (HK : Hid (Kwt w)) (HV : Hid (CfgV w v c)) (HM : Hid (CfgM c)) :
    Calls Tryz.prog 29 #[v, .int .i64 id] w (SaysT2 w (.int .i64 (resFindClass1 c id)) (.bool (resFindClass2 c id))) := by
  obtain ⟨ac, cc, af, cf, rfl, ic, if_⟩ := HV.out
  obtain ⟨s, cs, fs, d⟩ := c
  have hM := HM.out
  unfold CfgM at hM
  simp only at ic if_ hM HV ⊢
  obtain ⟨q0, q1, q2⟩ := hM
  have HI := Lib.hid ic
  have HJ := Lib.hid if_
  have HVB := Lib.hid (fun w' (b : Below w.heap.size w w') => Lib.hid (HV.out.below b))
  have A0 := Lib.hid (Aft.refl w (Obj.cells #[.string s, .slice ac cs.length cc, .slice af fs.length cf, .int .i64 d] 54))
  clear ic if_
  have HGD := Lib.hid (fun w' (b : Below w.heap.size w w') => implIsConfig_any (.agg #[.string s, .slice ac cs.length cc, .slice af fs.length cf, .int .i64 d]) ⟨s, cs, fs, d⟩ w' (Lib.hid (HK.out.below b)) (HVB.out w' b) HM)
  cases hg : goodC ⟨s, cs, fs, d⟩
  · obtain ⟨x1, x2⟩ := fc_bad id hg
    generalize resFindClass1 ⟨s, cs, fs, d⟩ id = R1 at x1 ⊢
    generalize resFindClass2 ⟨s, cs, fs, d⟩ id = R2 at x2 ⊢
    have HX1 := Lib.hid x1
    have HX2 := Lib.hid x2
    rw [hg] at HGD
    clear x1 x2 hg
    go_enter Tryz.func29, Tryz.ntmps29
    go_wp2_with (go_at_call 44; refine (HGD.out _ A0.out.all.2).mono ?_; rintro e w1 ⟨rfl, b1⟩; have A1 := Lib.hid (A0.out.on b1); clear b1)
    go_ret2
    exact ⟨ret_ib HX1.out.symm HX2.out.symm, A1.out.all.2⟩
  · have hi := okL_inc cs 0 (good_of hg).ok
    have HPL := Lib.hid (fun w' HI => placeOf_any ac cs.length cc cs id w' HI (Lib.hid rfl) q1 (Lib.hid hi))
    rw [hg] at HGD
    cases hf : fnd cs id with
    | none =>
      obtain ⟨x1, x2⟩ := fc_none id hg hf
      generalize resFindClass1 ⟨s, cs, fs, d⟩ id = R1 at x1 ⊢
      generalize resFindClass2 ⟨s, cs, fs, d⟩ id = R2 at x2 ⊢
      have HX1 := Lib.hid x1
      have HX2 := Lib.hid x2
      rw [plc_of_none hi hf] at HPL
      generalize plc cs id = pl at HPL
      clear x1 x2 hg hf hi
      go_enter Tryz.func29, Tryz.ntmps29
      go_wp2_with (go_at_call 44; refine (HGD.out _ A0.out.all.2).mono ?_; rintro e w1 ⟨rfl, b1⟩; have A1 := Lib.hid (A0.out.on b1); obtain ⟨c0, c1, c2, c3, _⟩ := A1.out.all.1; clear b1)
      go_wp2_with (go_at_call 76; refine (HPL.out _ (Lib.hid (HI.out.below A1.out.all.2))).mono ?_; rintro e w2 ⟨rfl, b2⟩; have A2 := Lib.hid (A1.out.on b2); clear b2)
      go_ret2
      exact ⟨ret_ib HX1.out.symm HX2.out.symm, A2.out.all.2⟩
    | some k =>
      obtain ⟨x1, x2⟩ := fc_some id hg hf
      generalize resFindClass1 ⟨s, cs, fs, d⟩ id = R1 at x1 ⊢
      generalize resFindClass2 ⟨s, cs, fs, d⟩ id = R2 at x2 ⊢
      have HX1 := Lib.hid x1
      have HX2 := Lib.hid x2
      rw [(plc_of_fnd hi hf).1, (plc_of_fnd hi hf).2] at HPL
      clear x1 x2 hg hf hi
      go_enter Tryz.func29, Tryz.ntmps29
      go_wp2_with (go_at_call 44; refine (HGD.out _ A0.out.all.2).mono ?_; rintro e w1 ⟨rfl, b1⟩; have A1 := Lib.hid (A0.out.on b1); obtain ⟨c0, c1, c2, c3, _⟩ := A1.out.all.1; clear b1)
      go_wp2_with (go_at_call 76; refine (HPL.out _ (Lib.hid (HI.out.below A1.out.all.2))).mono ?_; rintro e w2 ⟨rfl, b2⟩; have A2 := Lib.hid (A1.out.on b2); clear b2)
      go_ret2
      exact ⟨ret_ib HX1.out.symm HX2.out.symm, A2.out.all.2⟩
/-! Tops. -/
def topF : List Cls → Nat
  | [] => 0
  | x :: r => if x.p = 0 then 0 else topF r + 1
theorem topF_not : ∀ (cs : List Cls) (j : Nat), j < topF cs → (cs.getD j cls0).p ≠ 0
  | [], j, h => by unfold topF at h; omega
  | x :: r, j, h => by
    unfold topF at h
    by_cases hx : x.p = 0
    · rw [if_pos hx] at h; omega
    · rw [if_neg hx] at h
      match j, h with
      | 0, _ => simpa using hx
      | j + 1, h => simpa using topF_not r j (by omega)
theorem topF_at : ∀ (cs : List Cls), 1 ≤ cT cs → topF cs < cs.length ∧ (cs.getD (topF cs) cls0).p = 0
  | [], h => by simp [cT] at h
  | x :: r, h => by
    by_cases hx : x.p = 0
    · have e : topF (x :: r) = 0 := by conv => lhs; unfold topF; rw [if_pos hx]
      rw [e]; simp [hx]
    · have e : topF (x :: r) = topF r + 1 := by conv => lhs; unfold topF; rw [if_neg hx]
      have := topF_at r (by simpa [cT, hx] using h)
      rw [e]; simpa using this
def resTopOf1 (c : Cfg) : Int := if goodC c then (topF c.cs : Int) else 0
def resTopOf2 (c : Cfg) : Bool := goodC c
def TfRel (w : World) (o : Obj) (T : Nat) (i : Value) (wr : World) : Prop := ∃ k : Nat, k ≤ T ∧ i = .int .i64 k ∧ Aft w o wr
def IxRel (w : World) (T : Nat) (i : Value) (wr : World) : Prop := ∃ k : Nat, k ≤ T ∧ i = .int .i64 k ∧ Below w.heap.size w wr
end Go.Proofs.YtdmcgjohpnojkaaGreatDoor
