import Derived.Test.YthgbhnedfdnfpaaDoorPkp
import Derived.Test.YthgbhnedfdnfpaaDoorPki
import Derived.Test.YthgbhnedfdnfpaaDoorPkn
/- The model's check of a whole configuration. -/
namespace Go.Proofs.YthgbhnedfdnfpaaDoor
set_option maxRecDepth 100000
open Go.RowKit
set_option linter.unusedVariables false

set_option maxHeartbeats 6400000 in
theorem cfGood_any (v : Value) (c : Cfg) (w : World) (HV : Hid (CfgV w v c)) (HM : Hid (CfgM c)) :
    Calls Tryd.prog 31 #[v] w (SaysB w (goodC c)) := by
  obtain ⟨ac, cc, af, cf, rfl, ic, if_⟩ := HV.out
  have HG : Hid (goodC c = (nmG c.s && ((decide (1 ≤ c.cs.length) && decide (c.cs.length ≤ 24)) && (treeG c.cs && (fltG c.cs c.fs && dfG c.cs c.d))))) := Lib.hid rfl
  obtain ⟨B, hB⟩ : ∃ B, goodC c = B := ⟨_, rfl⟩
  rw [hB] at HG ⊢
  clear hB HV
  obtain ⟨s, cs, fs, d⟩ := c
  obtain ⟨n, hn⟩ : ∃ n, cs.length = n := ⟨_, rfl⟩
  obtain ⟨m, hm⟩ : ∃ m, fs.length = m := ⟨_, rfl⟩
  have HNN := Lib.hid hn
  have HMM := Lib.hid hm
  have hM := HM.out
  unfold CfgM at hM
  simp only [hn, hm] at ic if_ hM HG ⊢
  obtain ⟨q0, q1, q2⟩ := hM
  have HI := Lib.hid ic
  have HJ := Lib.hid if_
  clear hn hm ic if_ HM
  have A0 := Lib.hid (Aft.refl w (Obj.cells #[.string s, .slice ac n cc, .slice af m cf, .int .i64 d] 26))
  have HN := Lib.hid (fun w => cfName_any s w q0)
  have HIN := Lib.hid (fun w => l1In_any (n : Int) 1 24 w)
  cases h1 : nmG s
  · have HX : Hid (B = false) := Lib.hid (by rw [HG.out, h1]; rfl)
    rw [h1] at HN
    clear h1
    go_enter Tryd.func31, Tryd.ntmps31
    go_wp2_with (go_at_call 51; refine (HN.out _).mono ?_; rintro e w1 ⟨rfl, b1⟩; have A1 := Lib.hid (A0.out.on b1);  clear b1)
    go_ret
    exact ⟨ret_bool HX.out.symm, A1.out.all.2⟩
  rw [h1] at HN
  have e2 : inB (n : Int) 1 24 = (decide (1 ≤ n) && decide (n ≤ 24)) := by
    unfold inB
    congr 1
    · apply Bool.eq_iff_iff.2; simp; omega
    · apply Bool.eq_iff_iff.2; simp; omega
  rw [e2] at HIN
  clear e2
  cases h2 : (decide (1 ≤ n) && decide (n ≤ 24))
  · have HX : Hid (B = false) := Lib.hid (by rw [HG.out, h1, h2]; rfl)
    rw [h2] at HIN
    clear h1 h2
    go_enter Tryd.func31, Tryd.ntmps31
    go_wp2_with (go_at_call 51; refine (HN.out _).mono ?_; rintro e w1 ⟨rfl, b1⟩; have A1 := Lib.hid (A0.out.on b1); obtain ⟨c0, c1, c2, c3, _⟩ := A1.out.all.1; clear b1)
    go_wp2_with (go_at_call 42; refine (HIN.out _).mono ?_; rintro e w' ⟨rfl, rfl⟩)
    go_ret
    exact ⟨ret_bool HX.out.symm, A1.out.all.2⟩
  have h2' := h2
  rw [h2] at HIN
  simp only [Bool.and_eq_true, decide_eq_true_eq] at h2'
  have HT := Lib.hid (fun w HI => cfTree_any s ac af n cc m cf d cs w HI HNN q1 h2'.2 h2'.1)
  have HF := Lib.hid (fun w HI HJ => cfFilters_any s ac af n cc m cf d cs fs w HI HNN q1 HJ HMM q2)
  have HTG := Lib.hid (fun w HI => cfTarget_any s ac af n cc m cf d cs d w HI HNN q1)
  cases h3 : treeG cs
  · have HX : Hid (B = false) := Lib.hid (by rw [HG.out, h1, h2, h3]; rfl)
    rw [h3] at HT
    clear h1 h2 h2' h3
    go_enter Tryd.func31, Tryd.ntmps31
    go_wp2_with (go_at_call 51; refine (HN.out _).mono ?_; rintro e w1 ⟨rfl, b1⟩; have A1 := Lib.hid (A0.out.on b1); obtain ⟨c0, c1, c2, c3, _⟩ := A1.out.all.1; clear b1)
    go_wp2_with (go_at_call 42; refine (HIN.out _).mono ?_; rintro e w' ⟨rfl, rfl⟩)
    go_wp2_with (go_at_call 52; refine (HT.out _ (Lib.hid (HI.out.below A1.out.all.2))).mono ?_; rintro e w2 ⟨rfl, b2⟩; have A2 := Lib.hid (A1.out.on b2);  clear b2)
    go_ret
    exact ⟨ret_bool HX.out.symm, A2.out.all.2⟩
  rw [h3] at HT
  cases h4 : fltG cs fs
  · have HX : Hid (B = false) := Lib.hid (by rw [HG.out, h1, h2, h3, h4]; rfl)
    rw [h4] at HF
    clear h1 h2 h2' h3 h4
    go_enter Tryd.func31, Tryd.ntmps31
    go_wp2_with (go_at_call 51; refine (HN.out _).mono ?_; rintro e w1 ⟨rfl, b1⟩; have A1 := Lib.hid (A0.out.on b1); obtain ⟨c0, c1, c2, c3, _⟩ := A1.out.all.1; clear b1)
    go_wp2_with (go_at_call 42; refine (HIN.out _).mono ?_; rintro e w' ⟨rfl, rfl⟩)
    go_wp2_with (go_at_call 52; refine (HT.out _ (Lib.hid (HI.out.below A1.out.all.2))).mono ?_; rintro e w2 ⟨rfl, b2⟩; have A2 := Lib.hid (A1.out.on b2); obtain ⟨c0, c1, c2, c3, _⟩ := A2.out.all.1; clear b2)
    go_wp2_with (go_at_call 53; refine (HF.out _ (Lib.hid (HI.out.below A2.out.all.2)) (Lib.hid (HJ.out.below A2.out.all.2))).mono ?_; rintro e w3 ⟨rfl, b3⟩; have A3 := Lib.hid (A2.out.on b3);  clear b3)
    go_ret
    exact ⟨ret_bool HX.out.symm, A3.out.all.2⟩
  rw [h4] at HF
  have HD : Hid (B = dfG cs d) := Lib.hid (by rw [HG.out, h1, h2, h3, h4]; rfl)
  clear h1 h2 h2' h3 h4
  by_cases hd : d = 0
  · have d0 : (d == 0) = true := by simpa using hd
    have HX : Hid (B = true) := Lib.hid (by rw [HD.out]; unfold dfG; rw [d0]; rfl)
    clear hd
    go_enter Tryd.func31, Tryd.ntmps31
    go_wp2_with (go_at_call 51; refine (HN.out _).mono ?_; rintro e w1 ⟨rfl, b1⟩; have A1 := Lib.hid (A0.out.on b1); obtain ⟨c0, c1, c2, c3, _⟩ := A1.out.all.1; clear b1)
    go_wp2_with (go_at_call 42; refine (HIN.out _).mono ?_; rintro e w' ⟨rfl, rfl⟩)
    go_wp2_with (go_at_call 52; refine (HT.out _ (Lib.hid (HI.out.below A1.out.all.2))).mono ?_; rintro e w2 ⟨rfl, b2⟩; have A2 := Lib.hid (A1.out.on b2); obtain ⟨c0, c1, c2, c3, _⟩ := A2.out.all.1; clear b2)
    go_wp2_with (go_at_call 53; refine (HF.out _ (Lib.hid (HI.out.below A2.out.all.2)) (Lib.hid (HJ.out.below A2.out.all.2))).mono ?_; rintro e w3 ⟨rfl, b3⟩; have A3 := Lib.hid (A2.out.on b3); obtain ⟨c0, c1, c2, c3, _⟩ := A3.out.all.1; clear b3)
    go_ret
    exact ⟨ret_bool HX.out.symm, A3.out.all.2⟩
  · have d0 : (d == 0) = false := by simpa using hd
    have HX : Hid (B = leafB cs d) := Lib.hid (by rw [HD.out]; unfold dfG; rw [d0]; rfl)
    generalize leafB cs d = q at HX HTG
    clear hd HD
    go_enter Tryd.func31, Tryd.ntmps31
    go_wp2_with (go_at_call 51; refine (HN.out _).mono ?_; rintro e w1 ⟨rfl, b1⟩; have A1 := Lib.hid (A0.out.on b1); obtain ⟨c0, c1, c2, c3, _⟩ := A1.out.all.1; clear b1)
    go_wp2_with (go_at_call 42; refine (HIN.out _).mono ?_; rintro e w' ⟨rfl, rfl⟩)
    go_wp2_with (go_at_call 52; refine (HT.out _ (Lib.hid (HI.out.below A1.out.all.2))).mono ?_; rintro e w2 ⟨rfl, b2⟩; have A2 := Lib.hid (A1.out.on b2); obtain ⟨c0, c1, c2, c3, _⟩ := A2.out.all.1; clear b2)
    go_wp2_with (go_at_call 53; refine (HF.out _ (Lib.hid (HI.out.below A2.out.all.2)) (Lib.hid (HJ.out.below A2.out.all.2))).mono ?_; rintro e w3 ⟨rfl, b3⟩; have A3 := Lib.hid (A2.out.on b3); obtain ⟨c0, c1, c2, c3, _⟩ := A3.out.all.1; clear b3)
    go_wp2_with (go_at_call 54; refine (HTG.out _ (Lib.hid (HI.out.below A3.out.all.2))).mono ?_; rintro e w4 ⟨rfl, b4⟩; have A4 := Lib.hid (A3.out.on b4); clear b4)
    go_ret
    exact ⟨ret_bool HX.out.symm, A4.out.all.2⟩
end Go.Proofs.YthgbhnedfdnfpaaDoor

/- Chapter 4's functions that return numbers: classes found, tops, spare rates. -/
namespace Go.Proofs.YthgbhnedfdnfpaaDoor
set_option maxRecDepth 100000
open Go.RowKit
set_option linter.unusedVariables false

def resFindClass1 (c : Cfg) (id : Int) : Int := if goodC c then (match fnd c.cs id with | .none => 0 | .some k => (k : Int)) else 0
def resFindClass2 (c : Cfg) (id : Int) : Bool := goodC c && (fnd c.cs id).isSome
theorem fc_bad {c : Cfg} (id : Int) (h : goodC c = false) : resFindClass1 c id = 0 ∧ resFindClass2 c id = false := by unfold resFindClass1 resFindClass2; rw [h]; exact ⟨rfl, rfl⟩
theorem fc_none {c : Cfg} (id : Int) (h : goodC c = true) (hf : fnd c.cs id = Option.none) : resFindClass1 c id = 0 ∧ resFindClass2 c id = false := by unfold resFindClass1 resFindClass2; rw [h, hf]; exact ⟨rfl, rfl⟩
theorem fc_some {c : Cfg} (id : Int) {k : Nat} (h : goodC c = true) (hf : fnd c.cs id = Option.some k) : resFindClass1 c id = k ∧ resFindClass2 c id = true := by unfold resFindClass1 resFindClass2; rw [h, hf]; exact ⟨rfl, rfl⟩
/-! Tops. -/
def topF : List Cls → Nat
  | [] => 0
  | x :: r => if x.p = 0 then 0 else topF r + 1
theorem topF_not : ∀ (cs : List Cls) (j : Nat), j < topF cs → (cs.getD j cls0).p ≠ 0
  | [], j, h => by unfold topF at h; omega
  | x :: r, j, h => by
    unfold topF at h
    by_cases hx : x.p = 0
    · rw [if_pos hx] at h; omega
    · rw [if_neg hx] at h
      match j, h with
      | 0, _ => simpa using hx
      | j + 1, h => simpa using topF_not r j (by omega)
theorem topF_at : ∀ (cs : List Cls), 1 ≤ cT cs → topF cs < cs.length ∧ (cs.getD (topF cs) cls0).p = 0
  | [], h => by simp [cT] at h
  | x :: r, h => by
    by_cases hx : x.p = 0
    · have e : topF (x :: r) = 0 := by conv => lhs; unfold topF; rw [if_pos hx]
      rw [e]; simp [hx]
    · have e : topF (x :: r) = topF r + 1 := by conv => lhs; unfold topF; rw [if_neg hx]
      have := topF_at r (by simpa [cT, hx] using h)
      rw [e]; simpa using this
def resTopOf1 (c : Cfg) : Int := if goodC c then (topF c.cs : Int) else 0
def resTopOf2 (c : Cfg) : Bool := goodC c
def TfRel (w : World) (o : Obj) (T : Nat) (i : Value) (wr : World) : Prop := ∃ k : Nat, k ≤ T ∧ i = .int .i64 k ∧ Aft w o wr
set_option maxHeartbeats 3200000 in
theorem cfTop_any (s : ByteArray) (ac af : Option Addr) (n cc m cf : Nat) (d : Int) (cs : List Cls) (w : World) (HI : Hid (InX w ac n (clsCs cs))) (hn : Hid (cs.length = n)) (hm : n ≤ 1048576) (h1 : 1 ≤ cT cs) :
    Calls Tryd.prog 34 #[(.agg #[.string s, .slice ac n cc, .slice af m cf, .int .i64 d])] w (SaysI w (topF cs)) := by
  have ht := topF_at cs h1
  have HNT := Lib.hid (topF_not cs)
  have htl := ht.1
  have HT0 := Lib.hid ht.2
  obtain ⟨T, hT⟩ : ∃ T, topF cs = T := ⟨_, rfl⟩
  rw [hT] at HNT htl HT0 ⊢
  obtain ⟨g, rfl, hgt, hg⟩ := HI.out (by have := hn.out; omega)
  have HG := Lib.hid hgt
  have htn : T < n := by have := hn.out; omega
  clear ht hT hgt h1
  go_enter Tryd.func34, Tryd.ntmps34
  go_wp2_with fail
  go_loopw [3] (fun i wr => TfRel w (Obj.cells #[.string s, .slice (some ⟨g, 0, none⟩) n cc, .slice af m cf, .int .i64 d] 26) T i wr) (fun i _ => T - (intOf i).toNat)
  case atStart => exact ⟨0, Nat.zero_le _, rfl, Aft.refl _ _⟩
  case round =>
    obtain ⟨k, hk, rfl, hb⟩ := hrel
    have HB := Lib.hid hb
    obtain ⟨x, hx⟩ : ∃ x, cs.getD k cls0 = x := ⟨_, rfl⟩
    obtain ⟨_, a1, _⟩ := (HG.out.below hb.all.2 hg).cls k (by omega) x hx
    obtain ⟨e0, e1, e2, e3, _⟩ := hb.all.1
    by_cases hlt : k < T
    · have hz : x.p ≠ 0 := by rw [← hx]; exact HNT.out k hlt
      have dz : (x.p == 0) = false := by simpa using hz
      have dzn : (x.p != 0) = true := by simp [hz]
      obtain ⟨xi, xp, xr, xe, xb, xu, xo, xl⟩ := x
      simp only at a1 dz dzn
      clear hb hx hz
      go_wp2_with fail
      go_roundw
      case rel => exact ⟨k + 1, by omega, by go_num, HB.out⟩
      case measure => simp [intOf]; omega
    · have hkT : k = T := by omega
      subst hkT
      have hz : x.p = 0 := by rw [← hx]; exact HT0.out
      have dz : (x.p == 0) = true := by simpa using hz
      have dzn : (x.p != 0) = false := by simp [hz]
      obtain ⟨xi, xp, xr, xe, xb, xu, xo, xl⟩ := x
      simp only at a1 dz dzn
      clear hb hx hz
      go_wp2_with fail
      go_ret
      exact ⟨rfl, HB.out.all.2⟩
set_option maxHeartbeats 3200000 in
theorem specTopOf_any (v : Value) (c : Cfg) (w : World) (HV : Hid (CfgV w v c)) (HM : Hid (CfgM c)) :
    Calls Tryd.prog 14 #[v] w (SaysT2 w (.int .i64 (resTopOf1 c)) (.bool (resTopOf2 c))) := by
  obtain ⟨ac, cc, af, cf, rfl, ic, if_⟩ := HV.out
  obtain ⟨s, cs, fs, d⟩ := c
  have hM := HM.out
  unfold CfgM at hM
  simp only at ic if_ hM HV ⊢
  obtain ⟨q0, q1, q2⟩ := hM
  have HI := Lib.hid ic
  have HJ := Lib.hid if_
  have HVB := Lib.hid (fun w' (b : Below w.heap.size w w') => Lib.hid (HV.out.below b))
  have A0 := Lib.hid (Aft.refl w (Obj.cells #[.string s, .slice ac cs.length cc, .slice af fs.length cf, .int .i64 d] 26))
  clear ic if_
  have HGD := Lib.hid (fun w' (b : Below w.heap.size w w') => cfGood_any (.agg #[.string s, .slice ac cs.length cc, .slice af fs.length cf, .int .i64 d]) ⟨s, cs, fs, d⟩ w' (HVB.out w' b) HM)
  have HX2 : Hid (resTopOf2 ⟨s, cs, fs, d⟩ = goodC ⟨s, cs, fs, d⟩) := Lib.hid rfl
  have HX1 : Hid (resTopOf1 ⟨s, cs, fs, d⟩ = if goodC ⟨s, cs, fs, d⟩ then (topF cs : Int) else 0) := Lib.hid rfl
  generalize resTopOf1 ⟨s, cs, fs, d⟩ = R1 at HX1 ⊢
  generalize resTopOf2 ⟨s, cs, fs, d⟩ = R2 at HX2 ⊢
  cases hg : goodC ⟨s, cs, fs, d⟩
  · rw [hg] at HGD HX1 HX2
    clear hg
    go_enter Tryd.func14, Tryd.ntmps14
    go_wp2_with (go_at_call 31; refine (HGD.out _ A0.out.all.2).mono ?_; rintro e w1 ⟨rfl, b1⟩; have A1 := Lib.hid (A0.out.on b1); clear b1)
    go_ret2
    exact ⟨ret_ib (by rw [HX1.out]; rfl) HX2.out.symm, A1.out.all.2⟩
  · have h1 : 1 ≤ cT cs := by have := (good_of hg).top; simp only at this; omega
    have HTP := Lib.hid (fun w' HI => cfTop_any s ac af cs.length cc fs.length cf d cs w' HI (Lib.hid rfl) q1 h1)
    rw [hg] at HGD HX1 HX2
    generalize topF cs = T at HTP HX1
    clear hg h1
    go_enter Tryd.func14, Tryd.ntmps14
    go_wp2_with (go_at_call 31; refine (HGD.out _ A0.out.all.2).mono ?_; rintro e w1 ⟨rfl, b1⟩; have A1 := Lib.hid (A0.out.on b1); obtain ⟨c0, c1, c2, c3, _⟩ := A1.out.all.1; clear b1)
    go_wp2_with (go_at_call 34; refine (HTP.out _ (Lib.hid (HI.out.below A1.out.all.2))).mono ?_; rintro e w2 ⟨rfl, b2⟩; have A2 := Lib.hid (A1.out.on b2); clear b2)
    go_ret2
    exact ⟨ret_ib (by rw [HX1.out]; rfl) HX2.out.symm, A2.out.all.2⟩
def IxRel (w : World) (T : Nat) (i : Value) (wr : World) : Prop := ∃ k : Nat, k ≤ T ∧ i = .int .i64 k ∧ Below w.heap.size w wr
set_option maxHeartbeats 3200000 in
theorem indexTop_any (ac : Option Addr) (n cc : Nat) (cs : List Cls) (w : World) (HI : Hid (InX w ac n (clsCs cs))) (hn : Hid (cs.length = n)) (hm : n ≤ 1048576) (h1 : 1 ≤ cT cs) :
    Calls Tryd.prog 33 #[(.slice ac n cc), .func (Fn.func 22) #[] #[]] w (SaysI w (topF cs)) := by
  have ht := topF_at cs h1
  have HNT := Lib.hid (topF_not cs)
  have htl := ht.1
  have HT0 := Lib.hid ht.2
  obtain ⟨T, hT⟩ : ∃ T, topF cs = T := ⟨_, rfl⟩
  rw [hT] at HNT htl HT0 ⊢
  obtain ⟨g, rfl, hgt, hg⟩ := HI.out (by have := hn.out; omega)
  have HG := Lib.hid hgt
  have htn : T < n := by have := hn.out; omega
  clear ht hT hgt h1
  go_enter Tryd.func33, Tryd.ntmps33
  go_wp2_with fail
  go_loopw [8] (fun i wr => IxRel w T i wr) (fun i _ => T - (intOf i).toNat)
  case atStart => exact ⟨0, Nat.zero_le _, rfl, Below.refl _ _⟩
  case round =>
    obtain ⟨k, hk, rfl, hb⟩ := hrel
    have HB := Lib.hid hb
    have hkn : k < n := by omega
    obtain ⟨x, hx⟩ : ∃ x, cs.getD k cls0 = x := ⟨_, rfl⟩
    obtain ⟨a0, a1, a2, a3, a4, a5, a6, a7⟩ := (HG.out.below hb hg).cls k (by omega) x hx
    have HTP := Lib.hid (fun w => isTop_any x w)
    by_cases hlt : k < T
    · have hz : x.p ≠ 0 := by rw [← hx]; exact HNT.out k hlt
      rw [show (x.p == 0) = false by simpa using hz] at HTP
      obtain ⟨xi, xp, xr, xe, xb, xu, xo, xl⟩ := x
      unfold clsV at HTP
      simp only at a0 a1 a2 a3 a4 a5 a6 a7 HTP
      clear hb hx hz
      go_wp2_with (go_at_call 22; refine (HTP.out _).mono ?_; rintro e w1 ⟨rfl, b1⟩; have B1 := Lib.hid (HB.out.trans (b1.mono HB.out.size)); clear b1)
      go_roundw
      case rel => exact ⟨k + 1, by omega, by go_num, B1.out⟩
      case measure => simp [intOf]; omega
    · have hkT : k = T := by omega
      subst hkT
      have hz : x.p = 0 := by rw [← hx]; exact HT0.out
      rw [show (x.p == 0) = true by simpa using hz] at HTP
      obtain ⟨xi, xp, xr, xe, xb, xu, xo, xl⟩ := x
      unfold clsV at HTP
      simp only at a0 a1 a2 a3 a4 a5 a6 a7 HTP
      clear hb hx hz
      go_wp2_with (go_at_call 22; refine (HTP.out _).mono ?_; rintro e w1 ⟨rfl, b1⟩; have B1 := Lib.hid (HB.out.trans (b1.mono HB.out.size)); clear b1)
      go_ret
      exact ⟨rfl, B1.out⟩
set_option maxHeartbeats 3200000 in
theorem implTopOf_any (v : Value) (c : Cfg) (w : World) (HK : Hid (Kwt w)) (HV : Hid (CfgV w v c)) (HM : Hid (CfgM c)) :
    Calls Tryd.prog 13 #[v] w (SaysT2 w (.int .i64 (resTopOf1 c)) (.bool (resTopOf2 c))) := by
  obtain ⟨ac, cc, af, cf, rfl, ic, if_⟩ := HV.out
  obtain ⟨s, cs, fs, d⟩ := c
  have hM := HM.out
  unfold CfgM at hM
  simp only at ic if_ hM HV ⊢
  obtain ⟨q0, q1, q2⟩ := hM
  have HI := Lib.hid ic
  have HJ := Lib.hid if_
  have HVB := Lib.hid (fun w' (b : Below w.heap.size w w') => Lib.hid (HV.out.below b))
  have A0 := Lib.hid (Aft.refl w (Obj.cells #[.string s, .slice ac cs.length cc, .slice af fs.length cf, .int .i64 d] 26))
  clear ic if_
  have HGD := Lib.hid (fun w' (b : Below w.heap.size w w') => implIsConfig_any (.agg #[.string s, .slice ac cs.length cc, .slice af fs.length cf, .int .i64 d]) ⟨s, cs, fs, d⟩ w' (Lib.hid (HK.out.below b)) (HVB.out w' b) HM)
  have HX2 : Hid (resTopOf2 ⟨s, cs, fs, d⟩ = goodC ⟨s, cs, fs, d⟩) := Lib.hid rfl
  have HX1 : Hid (resTopOf1 ⟨s, cs, fs, d⟩ = if goodC ⟨s, cs, fs, d⟩ then (topF cs : Int) else 0) := Lib.hid rfl
  generalize resTopOf1 ⟨s, cs, fs, d⟩ = R1 at HX1 ⊢
  generalize resTopOf2 ⟨s, cs, fs, d⟩ = R2 at HX2 ⊢
  cases hg : goodC ⟨s, cs, fs, d⟩
  · rw [hg] at HGD HX1 HX2
    clear hg
    go_enter Tryd.func13, Tryd.ntmps13
    go_wp2_with (go_at_call 29; refine (HGD.out _ A0.out.all.2).mono ?_; rintro e w1 ⟨rfl, b1⟩; have A1 := Lib.hid (A0.out.on b1); clear b1)
    go_ret2
    exact ⟨ret_ib (by rw [HX1.out]; rfl) HX2.out.symm, A1.out.all.2⟩
  · have h1 : 1 ≤ cT cs := by have := (good_of hg).top; simp only at this; omega
    have HTP := Lib.hid (fun w' HI => indexTop_any ac cs.length cc cs w' HI (Lib.hid rfl) q1 h1)
    rw [hg] at HGD HX1 HX2
    generalize topF cs = T at HTP HX1
    clear hg h1
    go_enter Tryd.func13, Tryd.ntmps13
    go_wp2_with (go_at_call 29; refine (HGD.out _ A0.out.all.2).mono ?_; rintro e w1 ⟨rfl, b1⟩; have A1 := Lib.hid (A0.out.on b1); obtain ⟨c0, c1, c2, c3, _⟩ := A1.out.all.1; clear b1)
    go_wp2_with (go_at_call 33; refine (HTP.out _ (Lib.hid (HI.out.below A1.out.all.2))).mono ?_; rintro e w2 ⟨rfl, b2⟩; have A2 := Lib.hid (A1.out.on b2); clear b2)
    go_ret2
    exact ⟨ret_ib (by rw [HX1.out]; rfl) HX2.out.symm, A2.out.all.2⟩
end Go.Proofs.YthgbhnedfdnfpaaDoor
