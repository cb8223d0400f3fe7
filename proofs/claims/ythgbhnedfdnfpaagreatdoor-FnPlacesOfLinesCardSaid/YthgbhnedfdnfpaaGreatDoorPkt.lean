import Derived.Test.YthgbhnedfdnfpaaGreatDoorPks
import Derived.Test.YthgbhnedfdnfpaaGreatDoorPkn
import Derived.Test.YthgbhnedfdnfpaaGreatDoorPkq
import Derived.Laws.AppendOwnNone
import Derived.WalkSmall
import Derived.Deep.RegionWith
import Derived.Deep.QuietTactic
import Derived.BigQuiet
import Derived.Test.YthgbhnedfdnfpaaGreatDoorPkj
import Derived.Deep.AppendLies
import Derived.Deep.RegionHeld3
/- The model's check of a whole configuration. -/
namespace Go.Proofs.YthgbhnedfdnfpaaGreatDoor
set_option maxRecDepth 100000
open Go.RowKit
set_option linter.unusedVariables false

set_option maxHeartbeats 6400000 in
theorem cfGood_any (v : Value) (c : Cfg) (w : World) (HV : Hid (CfgV w v c)) (HM : Hid (CfgM c)) :
    Calls Tryz.prog 24 #[v] w (SaysB w (goodC c)) := by
  obtain ⟨ac, cc, af, cf, rfl, ic, if_⟩ := HV.out
  have HG : Hid (goodC c = (nmG c.s && ((decide (1 ≤ c.cs.length) && decide (c.cs.length ≤ 24)) && (treeG c.cs && (fltG c.cs c.fs && dfG c.cs c.d))))) := Lib.hid rfl
  obtain ⟨B, hB⟩ : ∃ B, goodC c = B := ⟨_, rfl⟩
  rw [hB] at HG ⊢
  clear hB HV
  obtain ⟨s, cs, fs, d⟩ := c
  obtain ⟨n, hn⟩ : ∃ n, cs.length = n := ⟨_, rfl⟩
  obtain ⟨m, hm⟩ : ∃ m, fs.length = m := ⟨_, rfl⟩
  have HNN := Lib.hid hn
  have HMM := Lib.hid hm
  have hM := HM.out
  unfold CfgM at hM
  simp only [hn, hm] at ic if_ hM HG ⊢
  obtain ⟨q0, q1, q2⟩ := hM
  have HI := Lib.hid ic
  have HJ := Lib.hid if_
  clear hn hm ic if_ HM
  have A0 := Lib.hid (Aft.refl w (Obj.cells #[.string s, .slice ac n cc, .slice af m cf, .int .i64 d] 26))
  have HN := Lib.hid (fun w => cfName_any s w q0)
  have HIN := Lib.hid (fun w => l1In_any (n : Int) 1 24 w)
  cases h1 : nmG s
  · have HX : Hid (B = false) := Lib.hid (by rw [HG.out, h1]; rfl)
    rw [h1] at HN
    clear h1
    go_enter Tryz.func24, Tryz.ntmps24
    go_wp2_with (go_at_call 52; refine (HN.out _).mono ?_; rintro e w1 ⟨rfl, b1⟩; have A1 := Lib.hid (A0.out.on b1);  clear b1)
    go_ret
    exact ⟨ret_bool HX.out.symm, A1.out.all.2⟩
  rw [h1] at HN
  have e2 : inB (n : Int) 1 24 = (decide (1 ≤ n) && decide (n ≤ 24)) := by
    unfold inB
    congr 1
    · apply Bool.eq_iff_iff.2; simp; omega
    · apply Bool.eq_iff_iff.2; simp; omega
  rw [e2] at HIN
  clear e2
  cases h2 : (decide (1 ≤ n) && decide (n ≤ 24))
  · have HX : Hid (B = false) := Lib.hid (by rw [HG.out, h1, h2]; rfl)
    rw [h2] at HIN
    clear h1 h2
    go_enter Tryz.func24, Tryz.ntmps24
    go_wp2_with (go_at_call 52; refine (HN.out _).mono ?_; rintro e w1 ⟨rfl, b1⟩; have A1 := Lib.hid (A0.out.on b1); obtain ⟨c0, c1, c2, c3, _⟩ := A1.out.all.1; clear b1)
    go_wp2_with (go_at_call 48; refine (HIN.out _).mono ?_; rintro e w' ⟨rfl, rfl⟩)
    go_ret
    exact ⟨ret_bool HX.out.symm, A1.out.all.2⟩
  have h2' := h2
  rw [h2] at HIN
  simp only [Bool.and_eq_true, decide_eq_true_eq] at h2'
  have HT := Lib.hid (fun w HI => cfTree_any s ac af n cc m cf d cs w HI HNN q1 h2'.2 h2'.1)
  have HF := Lib.hid (fun w HI HJ => cfFilters_any s ac af n cc m cf d cs fs w HI HNN q1 HJ HMM q2)
  have HTG := Lib.hid (fun w HI => cfTarget_any s ac af n cc m cf d cs d w HI HNN q1)
  cases h3 : treeG cs
  · have HX : Hid (B = false) := Lib.hid (by rw [HG.out, h1, h2, h3]; rfl)
    rw [h3] at HT
    clear h1 h2 h2' h3
    go_enter Tryz.func24, Tryz.ntmps24
    go_wp2_with (go_at_call 52; refine (HN.out _).mono ?_; rintro e w1 ⟨rfl, b1⟩; have A1 := Lib.hid (A0.out.on b1); obtain ⟨c0, c1, c2, c3, _⟩ := A1.out.all.1; clear b1)
    go_wp2_with (go_at_call 48; refine (HIN.out _).mono ?_; rintro e w' ⟨rfl, rfl⟩)
    go_wp2_with (go_at_call 53; refine (HT.out _ (Lib.hid (HI.out.below A1.out.all.2))).mono ?_; rintro e w2 ⟨rfl, b2⟩; have A2 := Lib.hid (A1.out.on b2);  clear b2)
    go_ret
    exact ⟨ret_bool HX.out.symm, A2.out.all.2⟩
  rw [h3] at HT
  cases h4 : fltG cs fs
  · have HX : Hid (B = false) := Lib.hid (by rw [HG.out, h1, h2, h3, h4]; rfl)
    rw [h4] at HF
    clear h1 h2 h2' h3 h4
    go_enter Tryz.func24, Tryz.ntmps24
    go_wp2_with (go_at_call 52; refine (HN.out _).mono ?_; rintro e w1 ⟨rfl, b1⟩; have A1 := Lib.hid (A0.out.on b1); obtain ⟨c0, c1, c2, c3, _⟩ := A1.out.all.1; clear b1)
    go_wp2_with (go_at_call 48; refine (HIN.out _).mono ?_; rintro e w' ⟨rfl, rfl⟩)
    go_wp2_with (go_at_call 53; refine (HT.out _ (Lib.hid (HI.out.below A1.out.all.2))).mono ?_; rintro e w2 ⟨rfl, b2⟩; have A2 := Lib.hid (A1.out.on b2); obtain ⟨c0, c1, c2, c3, _⟩ := A2.out.all.1; clear b2)
    go_wp2_with (go_at_call 54; refine (HF.out _ (Lib.hid (HI.out.below A2.out.all.2)) (Lib.hid (HJ.out.below A2.out.all.2))).mono ?_; rintro e w3 ⟨rfl, b3⟩; have A3 := Lib.hid (A2.out.on b3);  clear b3)
    go_ret
    exact ⟨ret_bool HX.out.symm, A3.out.all.2⟩
  rw [h4] at HF
  have HD : Hid (B = dfG cs d) := Lib.hid (by rw [HG.out, h1, h2, h3, h4]; rfl)
  clear h1 h2 h2' h3 h4
  by_cases hd : d = 0
  · have d0 : (d == 0) = true := by simpa using hd
    have HX : Hid (B = true) := Lib.hid (by rw [HD.out]; unfold dfG; rw [d0]; rfl)
    clear hd
    go_enter Tryz.func24, Tryz.ntmps24
    go_wp2_with (go_at_call 52; refine (HN.out _).mono ?_; rintro e w1 ⟨rfl, b1⟩; have A1 := Lib.hid (A0.out.on b1); obtain ⟨c0, c1, c2, c3, _⟩ := A1.out.all.1; clear b1)
    go_wp2_with (go_at_call 48; refine (HIN.out _).mono ?_; rintro e w' ⟨rfl, rfl⟩)
    go_wp2_with (go_at_call 53; refine (HT.out _ (Lib.hid (HI.out.below A1.out.all.2))).mono ?_; rintro e w2 ⟨rfl, b2⟩; have A2 := Lib.hid (A1.out.on b2); obtain ⟨c0, c1, c2, c3, _⟩ := A2.out.all.1; clear b2)
    go_wp2_with (go_at_call 54; refine (HF.out _ (Lib.hid (HI.out.below A2.out.all.2)) (Lib.hid (HJ.out.below A2.out.all.2))).mono ?_; rintro e w3 ⟨rfl, b3⟩; have A3 := Lib.hid (A2.out.on b3); obtain ⟨c0, c1, c2, c3, _⟩ := A3.out.all.1; clear b3)
    go_ret
    exact ⟨ret_bool HX.out.symm, A3.out.all.2⟩
  · have d0 : (d == 0) = false := by simpa using hd
    have HX : Hid (B = leafB cs d) := Lib.hid (by rw [HD.out]; unfold dfG; rw [d0]; rfl)
    generalize leafB cs d = q at HX HTG
    clear hd HD
    go_enter Tryz.func24, Tryz.ntmps24
    go_wp2_with (go_at_call 52; refine (HN.out _).mono ?_; rintro e w1 ⟨rfl, b1⟩; have A1 := Lib.hid (A0.out.on b1); obtain ⟨c0, c1, c2, c3, _⟩ := A1.out.all.1; clear b1)
    go_wp2_with (go_at_call 48; refine (HIN.out _).mono ?_; rintro e w' ⟨rfl, rfl⟩)
    go_wp2_with (go_at_call 53; refine (HT.out _ (Lib.hid (HI.out.below A1.out.all.2))).mono ?_; rintro e w2 ⟨rfl, b2⟩; have A2 := Lib.hid (A1.out.on b2); obtain ⟨c0, c1, c2, c3, _⟩ := A2.out.all.1; clear b2)
    go_wp2_with (go_at_call 54; refine (HF.out _ (Lib.hid (HI.out.below A2.out.all.2)) (Lib.hid (HJ.out.below A2.out.all.2))).mono ?_; rintro e w3 ⟨rfl, b3⟩; have A3 := Lib.hid (A2.out.on b3); obtain ⟨c0, c1, c2, c3, _⟩ := A3.out.all.1; clear b3)
    go_wp2_with (go_at_call 55; refine (HTG.out _ (Lib.hid (HI.out.below A3.out.all.2))).mono ?_; rintro e w4 ⟨rfl, b4⟩; have A4 := Lib.hid (A3.out.on b4); clear b4)
    go_ret
    exact ⟨ret_bool HX.out.symm, A4.out.all.2⟩
end Go.Proofs.YthgbhnedfdnfpaaGreatDoor

/- Chapter 4's functions that return numbers: classes found, tops, spare rates. -/
namespace Go.Proofs.YthgbhnedfdnfpaaGreatDoor
set_option maxRecDepth 100000
open Go.RowKit
set_option linter.unusedVariables false

def resFindClass1 (c : Cfg) (id : Int) : Int := if goodC c then (match fnd c.cs id with | .none => 0 | .some k => (k : Int)) else 0
def resFindClass2 (c : Cfg) (id : Int) : Bool := goodC c && (fnd c.cs id).isSome
theorem fc_bad {c : Cfg} (id : Int) (h : goodC c = false) : resFindClass1 c id = 0 ∧ resFindClass2 c id = false := by unfold resFindClass1 resFindClass2; rw [h]; exact ⟨rfl, rfl⟩
theorem fc_none {c : Cfg} (id : Int) (h : goodC c = true) (hf : fnd c.cs id = Option.none) : resFindClass1 c id = 0 ∧ resFindClass2 c id = false := by unfold resFindClass1 resFindClass2; rw [h, hf]; exact ⟨rfl, rfl⟩
theorem fc_some {c : Cfg} (id : Int) {k : Nat} (h : goodC c = true) (hf : fnd c.cs id = Option.some k) : resFindClass1 c id = k ∧ resFindClass2 c id = true := by unfold resFindClass1 resFindClass2; rw [h, hf]; exact ⟨rfl, rfl⟩
set_option maxHeartbeats 3200000 in
theorem implFindClass_any (v : Value) (c : Cfg) (id : Int) (w : World) (HK : Hid (Kwt w)) (HV : Hid (CfgV w v c)) (HM : Hid (CfgM c)) :
    Calls Tryz.prog 17 #[v, .int .i64 id] w (SaysT2 w (.int .i64 (resFindClass1 c id)) (.bool (resFindClass2 c id))) := by
  obtain ⟨ac, cc, af, cf, rfl, ic, if_⟩ := HV.out
  obtain ⟨s, cs, fs, d⟩ := c
  have hM := HM.out
  unfold CfgM at hM
  simp only at ic if_ hM HV ⊢
  obtain ⟨q0, q1, q2⟩ := hM
  have HI := Lib.hid ic
  have HJ := Lib.hid if_
  have HVB := Lib.hid (fun w' (b : Below w.heap.size w w') => Lib.hid (HV.out.below b))
  have A0 := Lib.hid (Aft.refl w (Obj.cells #[.string s, .slice ac cs.length cc, .slice af fs.length cf, .int .i64 d] 26))
  clear ic if_
  have HGD := Lib.hid (fun w' (b : Below w.heap.size w w') => implIsConfig_any (.agg #[.string s, .slice ac cs.length cc, .slice af fs.length cf, .int .i64 d]) ⟨s, cs, fs, d⟩ w' (Lib.hid (HK.out.below b)) (HVB.out w' b) HM)
  cases hg : goodC ⟨s, cs, fs, d⟩
  · obtain ⟨x1, x2⟩ := fc_bad id hg
    generalize resFindClass1 ⟨s, cs, fs, d⟩ id = R1 at x1 ⊢
    generalize resFindClass2 ⟨s, cs, fs, d⟩ id = R2 at x2 ⊢
    have HX1 := Lib.hid x1
    have HX2 := Lib.hid x2
    rw [hg] at HGD
    clear x1 x2 hg
    go_enter Tryz.func17, Tryz.ntmps17
    go_wp2_with (go_at_call 27; refine (HGD.out _ A0.out.all.2).mono ?_; rintro e w1 ⟨rfl, b1⟩; have A1 := Lib.hid (A0.out.on b1); clear b1)
    go_ret2
    exact ⟨ret_ib HX1.out.symm HX2.out.symm, A1.out.all.2⟩
  · have hi := okL_inc cs 0 (good_of hg).ok
    have HPL := Lib.hid (fun w' HI => placeOf_any ac cs.length cc cs id w' HI (Lib.hid rfl) q1 (Lib.hid hi))
    rw [hg] at HGD
    cases hf : fnd cs id with
    | none =>
      obtain ⟨x1, x2⟩ := fc_none id hg hf
      generalize resFindClass1 ⟨s, cs, fs, d⟩ id = R1 at x1 ⊢
      generalize resFindClass2 ⟨s, cs, fs, d⟩ id = R2 at x2 ⊢
      have HX1 := Lib.hid x1
      have HX2 := Lib.hid x2
      rw [plc_of_none hi hf] at HPL
      generalize plc cs id = pl at HPL
      clear x1 x2 hg hf hi
      go_enter Tryz.func17, Tryz.ntmps17
      go_wp2_with (go_at_call 27; refine (HGD.out _ A0.out.all.2).mono ?_; rintro e w1 ⟨rfl, b1⟩; have A1 := Lib.hid (A0.out.on b1); obtain ⟨c0, c1, c2, c3, _⟩ := A1.out.all.1; clear b1)
      go_wp2_with (go_at_call 41; refine (HPL.out _ (Lib.hid (HI.out.below A1.out.all.2))).mono ?_; rintro e w2 ⟨rfl, b2⟩; have A2 := Lib.hid (A1.out.on b2); clear b2)
      go_ret2
      exact ⟨ret_ib HX1.out.symm HX2.out.symm, A2.out.all.2⟩
    | some k =>
      obtain ⟨x1, x2⟩ := fc_some id hg hf
      generalize resFindClass1 ⟨s, cs, fs, d⟩ id = R1 at x1 ⊢
      generalize resFindClass2 ⟨s, cs, fs, d⟩ id = R2 at x2 ⊢
      have HX1 := Lib.hid x1
      have HX2 := Lib.hid x2
      rw [(plc_of_fnd hi hf).1, (plc_of_fnd hi hf).2] at HPL
      clear x1 x2 hg hf hi
      go_enter Tryz.func17, Tryz.ntmps17
      go_wp2_with (go_at_call 27; refine (HGD.out _ A0.out.all.2).mono ?_; rintro e w1 ⟨rfl, b1⟩; have A1 := Lib.hid (A0.out.on b1); obtain ⟨c0, c1, c2, c3, _⟩ := A1.out.all.1; clear b1)
      go_wp2_with (go_at_call 41; refine (HPL.out _ (Lib.hid (HI.out.below A1.out.all.2))).mono ?_; rintro e w2 ⟨rfl, b2⟩; have A2 := Lib.hid (A1.out.on b2); clear b2)
      go_ret2
      exact ⟨ret_ib HX1.out.symm HX2.out.symm, A2.out.all.2⟩
def topF : List Cls → Nat
  | [] => 0
  | x :: r => if x.p = 0 then 0 else topF r + 1
theorem topF_not : ∀ (cs : List Cls) (j : Nat), j < topF cs → (cs.getD j cls0).p ≠ 0
  | [], j, h => by unfold topF at h; omega
  | x :: r, j, h => by
    unfold topF at h
    by_cases hx : x.p = 0
    · rw [if_pos hx] at h; omega
    · rw [if_neg hx] at h
      match j, h with
      | 0, _ => simpa using hx
      | j + 1, h => simpa using topF_not r j (by omega)
theorem topF_at : ∀ (cs : List Cls), 1 ≤ cT cs → topF cs < cs.length ∧ (cs.getD (topF cs) cls0).p = 0
  | [], h => by simp [cT] at h
  | x :: r, h => by
    by_cases hx : x.p = 0
    · have e : topF (x :: r) = 0 := by conv => lhs; unfold topF; rw [if_pos hx]
      rw [e]; simp [hx]
    · have e : topF (x :: r) = topF r + 1 := by conv => lhs; unfold topF; rw [if_neg hx]
      have := topF_at r (by simpa [cT, hx] using h)
      rw [e]; simpa using this
def TfRel (w : World) (o : Obj) (T : Nat) (i : Value) (wr : World) : Prop := ∃ k : Nat, k ≤ T ∧ i = .int .i64 k ∧ Aft w o wr
set_option maxHeartbeats 3200000 in
theorem cfTop_any (s : ByteArray) (ac af : Option Addr) (n cc m cf : Nat) (d : Int) (cs : List Cls) (w : World) (HI : Hid (InX w ac n (clsCs cs))) (hn : Hid (cs.length = n)) (hm : n ≤ 1048576) (h1 : 1 ≤ cT cs) :
    Calls Tryz.prog 26 #[(.agg #[.string s, .slice ac n cc, .slice af m cf, .int .i64 d])] w (SaysI w (topF cs)) := by
  have ht := topF_at cs h1
  have HNT := Lib.hid (topF_not cs)
  have htl := ht.1
  have HT0 := Lib.hid ht.2
  obtain ⟨T, hT⟩ : ∃ T, topF cs = T := ⟨_, rfl⟩
  rw [hT] at HNT htl HT0 ⊢
  obtain ⟨g, rfl, hgt, hg⟩ := HI.out (by have := hn.out; omega)
  have HG := Lib.hid hgt
  have htn : T < n := by have := hn.out; omega
  clear ht hT hgt h1
  go_enter Tryz.func26, Tryz.ntmps26
  go_wp2_with fail
  go_loopw [3] (fun i wr => TfRel w (Obj.cells #[.string s, .slice (some ⟨g, 0, none⟩) n cc, .slice af m cf, .int .i64 d] 26) T i wr) (fun i _ => T - (intOf i).toNat)
  case atStart => exact ⟨0, Nat.zero_le _, rfl, Aft.refl _ _⟩
  case round =>
    obtain ⟨k, hk, rfl, hb⟩ := hrel
    have HB := Lib.hid hb
    obtain ⟨x, hx⟩ : ∃ x, cs.getD k cls0 = x := ⟨_, rfl⟩
    obtain ⟨_, a1, _⟩ := (HG.out.below hb.all.2 hg).cls k (by omega) x hx
    obtain ⟨e0, e1, e2, e3, _⟩ := hb.all.1
    by_cases hlt : k < T
    · have hz : x.p ≠ 0 := by rw [← hx]; exact HNT.out k hlt
      have dz : (x.p == 0) = false := by simpa using hz
      have dzn : (x.p != 0) = true := by simp [hz]
      obtain ⟨xi, xp, xr, xe, xb, xu, xo, xl⟩ := x
      simp only at a1 dz dzn
      clear hb hx hz
      go_wp2_with fail
      go_roundw
      case rel => exact ⟨k + 1, by omega, by go_num, HB.out⟩
      case measure => simp [intOf]; omega
    · have hkT : k = T := by omega
      subst hkT
      have hz : x.p = 0 := by rw [← hx]; exact HT0.out
      have dz : (x.p == 0) = true := by simpa using hz
      have dzn : (x.p != 0) = false := by simp [hz]
      obtain ⟨xi, xp, xr, xe, xb, xu, xo, xl⟩ := x
      simp only at a1 dz dzn
      clear hb hx hz
      go_wp2_with fail
      go_ret
      exact ⟨rfl, HB.out.all.2⟩
end Go.Proofs.YthgbhnedfdnfpaaGreatDoor

/- Chapter 4's functions over a class's index: whether there is one, spare rates. -/
namespace Go.Proofs.YthgbhnedfdnfpaaGreatDoor
set_option maxRecDepth 100000
open Go.RowKit
set_option linter.unusedVariables false

def hasI (c : Cfg) (a : Int) : Bool := goodC c && (decide (0 ≤ a) && decide (a < (c.cs.length : Int)))
theorem has_iff {c : Cfg} {a : Int} (h : hasI c a = true) : goodC c = true ∧ ∃ q : Nat, a = (q : Int) ∧ q < c.cs.length := by
  unfold hasI at h
  simp only [Bool.and_eq_true, decide_eq_true_eq] at h
  exact ⟨h.1, a.toNat, by omega, by omega⟩
theorem in_idx (a : Int) (n : Nat) (h : 1 ≤ n) : inB a 0 ((n : Int) - 1) = (decide (0 ≤ a) && decide (a < (n : Int))) := by
  unfold inB
  congr 1
  apply Bool.eq_iff_iff.2
  rw [decide_eq_true_eq, decide_eq_true_eq]
  omega
set_option maxHeartbeats 3200000 in
theorem cfHas_any (v : Value) (c : Cfg) (a : Int) (w : World) (HV : Hid (CfgV w v c)) (HM : Hid (CfgM c)) :
    Calls Tryz.prog 21 #[v, .int .i64 a] w (SaysB w (hasI c a)) := by
  obtain ⟨ac, cc, af, cf, rfl, ic, if_⟩ := HV.out
  obtain ⟨s, cs, fs, d⟩ := c
  have hM := HM.out
  unfold CfgM at hM
  simp only at ic if_ hM HV ⊢
  obtain ⟨q0, q1, q2⟩ := hM
  have HI := Lib.hid ic
  have HJ := Lib.hid if_
  have HVB := Lib.hid (fun w' (b : Below w.heap.size w w') => Lib.hid (HV.out.below b))
  have A0 := Lib.hid (Aft.refl w (Obj.cells #[.string s, .slice ac cs.length cc, .slice af fs.length cf, .int .i64 d] 26))
  clear ic if_
  have HGD := Lib.hid (fun w' (b : Below w.heap.size w w') => cfGood_any (.agg #[.string s, .slice ac cs.length cc, .slice af fs.length cf, .int .i64 d]) ⟨s, cs, fs, d⟩ w' (HVB.out w' b) HM)
  have HX : Hid (hasI ⟨s, cs, fs, d⟩ a = (goodC ⟨s, cs, fs, d⟩ && (decide (0 ≤ a) && decide (a < (cs.length : Int))))) := Lib.hid rfl
  generalize hasI ⟨s, cs, fs, d⟩ a = R at HX ⊢
  cases hg : goodC ⟨s, cs, fs, d⟩
  · have HX2 : Hid (R = false) := Lib.hid (by rw [HX.out, hg]; rfl)
    rw [hg] at HGD
    clear hg HX
    go_enter Tryz.func21, Tryz.ntmps21
    go_wp2_with (go_at_call 24; refine (HGD.out _ A0.out.all.2).mono ?_; rintro e w1 ⟨rfl, b1⟩; have A1 := Lib.hid (A0.out.on b1); clear b1)
    go_ret
    exact ⟨ret_bool HX2.out.symm, A1.out.all.2⟩
  · have hn1 : 1 ≤ cs.length := (good_of hg).n1
    have HIN := Lib.hid (fun w => l1In_any a 0 ((cs.length : Int) - 1) w)
    rw [in_idx a cs.length hn1] at HIN
    have HX2 : Hid (R = (decide (0 ≤ a) && decide (a < (cs.length : Int)))) := Lib.hid (by rw [HX.out, hg, Bool.true_and])
    generalize (decide (0 ≤ a) && decide (a < (cs.length : Int))) = b at HX2 HIN
    rw [hg] at HGD
    clear hg HX
    go_enter Tryz.func21, Tryz.ntmps21
    go_wp2_with (go_at_call 24; refine (HGD.out _ A0.out.all.2).mono ?_; rintro e w1 ⟨rfl, b1⟩; have A1 := Lib.hid (A0.out.on b1); obtain ⟨c0, c1, c2, c3, _⟩ := A1.out.all.1; clear b1)
    go_wp2_with (go_at_call 48; refine (HIN.out _).mono ?_; rintro e w' ⟨rfl, rfl⟩)
    go_ret
    exact ⟨ret_bool HX2.out.symm, A1.out.all.2⟩
set_option maxHeartbeats 3200000 in
theorem hasIndex_any (v : Value) (c : Cfg) (a : Int) (w : World) (HK : Hid (Kwt w)) (HV : Hid (CfgV w v c)) (HM : Hid (CfgM c)) :
    Calls Tryz.prog 19 #[v, .int .i64 a] w (SaysB w (hasI c a)) := by
  obtain ⟨ac, cc, af, cf, rfl, ic, if_⟩ := HV.out
  obtain ⟨s, cs, fs, d⟩ := c
  have hM := HM.out
  unfold CfgM at hM
  simp only at ic if_ hM HV ⊢
  obtain ⟨q0, q1, q2⟩ := hM
  have HI := Lib.hid ic
  have HJ := Lib.hid if_
  have HVB := Lib.hid (fun w' (b : Below w.heap.size w w') => Lib.hid (HV.out.below b))
  have A0 := Lib.hid (Aft.refl w (Obj.cells #[.string s, .slice ac cs.length cc, .slice af fs.length cf, .int .i64 d] 26))
  clear ic if_
  have HGD := Lib.hid (fun w' (b : Below w.heap.size w w') => implIsConfig_any (.agg #[.string s, .slice ac cs.length cc, .slice af fs.length cf, .int .i64 d]) ⟨s, cs, fs, d⟩ w' (Lib.hid (HK.out.below b)) (HVB.out w' b) HM)
  have HX : Hid (hasI ⟨s, cs, fs, d⟩ a = (goodC ⟨s, cs, fs, d⟩ && (decide (0 ≤ a) && decide (a < (cs.length : Int))))) := Lib.hid rfl
  generalize hasI ⟨s, cs, fs, d⟩ a = R at HX ⊢
  cases hg : goodC ⟨s, cs, fs, d⟩
  · have HX2 : Hid (R = false) := Lib.hid (by rw [HX.out, hg]; rfl)
    rw [hg] at HGD
    clear hg HX
    go_enter Tryz.func19, Tryz.ntmps19
    go_wp2_with (go_at_call 27; refine (HGD.out _ A0.out.all.2).mono ?_; rintro e w1 ⟨rfl, b1⟩; have A1 := Lib.hid (A0.out.on b1); clear b1)
    go_ret
    exact ⟨ret_bool HX2.out.symm, A1.out.all.2⟩
  · rw [hg] at HGD
    by_cases h0 : a < 0
    · have d0 := not_le h0
      have HX2 : Hid (R = false) := Lib.hid (by rw [HX.out, hg, d0]; rfl)
      clear hg HX h0
      go_enter Tryz.func19, Tryz.ntmps19
      go_wp2_with (go_at_call 27; refine (HGD.out _ A0.out.all.2).mono ?_; rintro e w1 ⟨rfl, b1⟩; have A1 := Lib.hid (A0.out.on b1); obtain ⟨c0, c1, c2, c3, _⟩ := A1.out.all.1; clear b1)
      go_ret
      exact ⟨ret_bool HX2.out.symm, A1.out.all.2⟩
    · have d0 := is_le (show 0 ≤ a by omega)
      have HX2 : Hid (R = decide (a < (cs.length : Int))) := Lib.hid (by rw [HX.out, hg, d0]; rfl)
      clear hg HX h0
      go_enter Tryz.func19, Tryz.ntmps19
      go_wp2_with (go_at_call 27; refine (HGD.out _ A0.out.all.2).mono ?_; rintro e w1 ⟨rfl, b1⟩; have A1 := Lib.hid (A0.out.on b1); obtain ⟨c0, c1, c2, c3, _⟩ := A1.out.all.1; clear b1)
      go_ret
      exact ⟨ret_bool HX2.out.symm, A1.out.all.2⟩
end Go.Proofs.YthgbhnedfdnfpaaGreatDoor

/- Chapter 4's functions that return configurations: valid ones, leaves found, copies. -/
namespace Go.Proofs.YthgbhnedfdnfpaaGreatDoor
set_option maxRecDepth 100000
open Go.RowKit
set_option linter.unusedVariables false

end Go.Proofs.YthgbhnedfdnfpaaGreatDoor

/- Copies of configurations, the program's. -/
namespace Go.Proofs.YthgbhnedfdnfpaaGreatDoor
set_option maxRecDepth 100000
open Go.RowKit
set_option linter.unusedVariables false

theorem own_news {w : World} {B n z : Nat} {T : TypeId} {g c : Nat} {xs : List Value} (h : w.ownsRow B T z (.slice (some ⟨g, 0, none⟩) n c) n xs) : ∀ j u, xs[j]? = some u → w.cell? ((⟨g, 0, none⟩ : Addr).add j) = some u := by
  intro j u hu
  have hj : j < n * z := by have := (List.getElem?_eq_some_iff.1 hu).1; rw [h.1] at this; exact this
  have hadd : (⟨g, 0, none⟩ : Addr).add j = ⟨g, j, none⟩ := by unfold Addr.add; split <;> simp_all
  rw [hadd, World.ownsRow.cellAt h j hj, hu]
theorem clsCs_one (l : List Cls) : ∀ u ∈ clsCs l, u.oneCell' = true := by
  intro u hu
  unfold clsCs at hu
  obtain ⟨x, _, hx⟩ := List.mem_flatMap.1 hu
  simp only [clsC, List.mem_cons, List.not_mem_nil, or_false] at hx
  rcases hx with rfl | rfl | rfl | rfl | rfl | rfl | rfl | rfl <;> rfl
theorem FourIs.set1 {w : World} {b : Nat} {a0 a1 a2 a3 : Value} (h : FourIs w b a0 a1 a2 a3) (v : Value) : FourIs (w.setCell ⟨b, 1, none⟩ v) b a0 v a2 a3 := by
  obtain ⟨h0, h1, h2, h3, hg⟩ := h
  refine ⟨?_, ?_, ?_, ?_, by simpa using hg⟩
  · rw [World.cell?_setCell_other _ _ _ _ (by simp)]; exact h0
  · exact World.cell?_setCell_same' _ _ _ (by rw [h1]; rfl)
  · rw [World.cell?_setCell_other _ _ _ _ (by simp)]; exact h2
  · rw [World.cell?_setCell_other _ _ _ _ (by simp)]; exact h3
end Go.Proofs.YthgbhnedfdnfpaaGreatDoor

/- Configurations made of arguments; configurations compared. -/
namespace Go.Proofs.YthgbhnedfdnfpaaGreatDoor
set_option maxRecDepth 100000
open Go.RowKit
set_option linter.unusedVariables false

end Go.Proofs.YthgbhnedfdnfpaaGreatDoor

/- Marks in lists of classes, of filters, of integers; lists of integers compared. -/
namespace Go.Proofs.YthgbhnedfdnfpaaGreatDoor
set_option maxRecDepth 100000
open Go.RowKit
set_option linter.unusedVariables false

end Go.Proofs.YthgbhnedfdnfpaaGreatDoor

/- Marks in lists of classes and of filters that are known afterwards; marks held; both for configurations. -/
namespace Go.Proofs.YthgbhnedfdnfpaaGreatDoor
set_option maxRecDepth 100000
open Go.RowKit
set_option linter.unusedVariables false

end Go.Proofs.YthgbhnedfdnfpaaGreatDoor

/- SetLimit, the program's: a copy with one limit changed. -/
namespace Go.Proofs.YthgbhnedfdnfpaaGreatDoor
set_option maxRecDepth 100000
open Go.RowKit
set_option linter.unusedVariables false

def setL (c : Cfg) (k : Nat) (lim : Int) : Cfg := ⟨c.s, c.cs.set k { c.cs.getD k cls0 with l := lim }, c.fs, c.d⟩
theorem OwnCfg.st {w : World} {B : Nat} {v : Value} {c : Cfg} (h : OwnCfg w B v c) {p : Addr} (hp : p.block < B) (u : Value) : OwnCfg (w.setCell p u) B v c := by
  obtain ⟨vc, vf, hv, a, b, d⟩ := h
  exact ⟨vc, vf, hv, own_set a hp u, own_set b hp u, d⟩
theorem OwnCfg.base {w : World} {B B' : Nat} {v : Value} {c : Cfg} (h : OwnCfg w B v c) (hB : B' ≤ B) : OwnCfg w B' v c := by
  obtain ⟨vc, vf, hv, a, b, d⟩ := h
  exact ⟨vc, vf, hv, own_base a hB, own_base b hB, d⟩
theorem OwnCfg.on {w w' : World} {B : Nat} {v : Value} {c : Cfg} (h : OwnCfg w B v c) (hb : Below w.heap.size w w') : OwnCfg w' B v c := by
  obtain ⟨vc, vf, hv, a, b, d⟩ := h
  exact ⟨vc, vf, hv, own_low a hb (Nat.le_refl _), own_low b hb (Nat.le_refl _), d⟩
theorem OwnCfg.set4 {w : World} {B g : Nat} {v : Value} {c : Cfg} (h : OwnCfg w B v c) (hg : g < B) (v0 v1 v2 v3 : Value) : OwnCfg ((((w.setCell ⟨g, 0, none⟩ v0).setCell ⟨g, 1, none⟩ v1).setCell ⟨g, 2, none⟩ v2).setCell ⟨g, 3, none⟩ v3) B v c :=
  (((h.st (p := ⟨g, 0, none⟩) hg v0).st (p := ⟨g, 1, none⟩) hg v1).st (p := ⟨g, 2, none⟩) hg v2).st (p := ⟨g, 3, none⟩) hg v3
theorem clsCs_set : ∀ (cs : List Cls) (k : Nat) (lim : Int), k < cs.length → (clsCs cs).set (k * 8 + 7) (.int .i64 lim) = clsCs (cs.set k { cs.getD k cls0 with l := lim })
  | [], k, lim, h => absurd h (by simp)
  | x :: r, 0, lim, _ => by simp [clsCs_cons, clsC]
  | x :: r, k + 1, lim, h => by
    have ih := clsCs_set r k lim (by simpa using h)
    rw [show (k + 1) * 8 + 7 = (k * 8 + 7) + 8 by omega]
    simp only [List.getD_cons_succ, List.set_cons_succ, clsCs_cons, clsC, List.cons_append, List.nil_append]
    rw [ih]
theorem OwnCfg.lim {w : World} {B g cc : Nat} {s : ByteArray} {cs : List Cls} {fs : List Flt} {vf : Value} {d : Int} (h : OwnCfg w B (.agg #[.string s, .slice (some ⟨g, 0, none⟩) cs.length cc, vf, .int .i64 d]) ⟨s, cs, fs, d⟩) (k : Nat) (hk : k < cs.length) (lim : Int) :
    OwnCfg (w.setCell ⟨g, k * 8 + 7, none⟩ (.int .i64 lim)) B (.agg #[.string s, .slice (some ⟨g, 0, none⟩) cs.length cc, vf, .int .i64 d]) (setL ⟨s, cs, fs, d⟩ k lim) := by
  obtain ⟨vc', vf', hv, a, b, dd⟩ := h
  simp only [Value.agg.injEq, Array.mk.injEq, List.cons.injEq, and_true, true_and] at hv
  obtain ⟨rfl, rfl⟩ := hv
  simp only at a b
  refine ⟨_, _, rfl, ?_, ?_, dd⟩
  · show World.ownsRow _ _ _ _ _ (cs.set k { cs.getD k cls0 with l := lim }).length (clsCs (cs.set k { cs.getD k cls0 with l := lim }))
    rw [List.length_set, ← clsCs_set cs k lim hk]
    exact own_store a _ _
  · exact own_onl b (onl_set (fun _ _ => rfl) _ _) (fun g' h' q => dd g' (by rw [← q]; rfl) h')
theorem Four.on {w w1 : World} {b : Nat} (h : Four w b) (hb : b < w.heap.size) (bb : Below w.heap.size w w1) : Four w1 b := by
  obtain ⟨h0, h1, h2, h3⟩ := h
  refine ⟨?_, ?_, ?_, ?_⟩ <;> rw [(bcell bb).1 _ _ hb] <;> assumption
def Zer (w : World) (b : Nat) : Prop := FourIs w b (.string ⟨#[]⟩) (.slice none 0 0) (.slice none 0 0) (.int .i64 0) ∧ FroB w b
theorem Zer.on {w w1 : World} {b : Nat} (h : Zer w b) (bb : Below w.heap.size w w1) : Zer w1 b := ⟨h.1.on bb, h.2.on bb h.1.2.2.2.2⟩
theorem Zer.set {w : World} {b : Nat} (h : Zer w b) {g j : Nat} (hg : b ≠ g) (v : Value) : Zer (w.setCell ⟨g, j, none⟩ v) b := by
  obtain ⟨⟨h0, h1, h2, h3, hb⟩, hf⟩ := h
  refine ⟨⟨?_, ?_, ?_, ?_, by rw [Go.Deep.nblk_setCell]; exact hb⟩, hf.set _ _⟩ <;> rw [World.cell?_setCell_other _ _ _ _ (by simp)] <;> assumption
theorem Zer.four {w : World} {b : Nat} (h : Zer w b) : Four w b := by
  obtain ⟨⟨h0, h1, h2, h3, hb⟩, hf⟩ := h
  refine ⟨?_, ?_, ?_, ?_⟩ <;> simp only [h0, h1, h2, h3, Option.isSome]
end Go.Proofs.YthgbhnedfdnfpaaGreatDoor

/- SetLimit, the model's. -/
namespace Go.Proofs.YthgbhnedfdnfpaaGreatDoor
set_option maxRecDepth 100000
open Go.RowKit
set_option linter.unusedVariables false

theorem own_empty (w : World) (B : Nat) (T : TypeId) (z : Nat) (hB : B ≤ w.heap.size) : (w.alloc (Obj.cells #[] T)).ownsRow B T z (.slice (some ⟨w.heap.size, 0, none⟩) 0 0) 0 [] :=
  ⟨by simp, .inr ⟨w.heap.size, 0, #[], rfl, hB, heap_alloc_new w _, Nat.le_refl _, Nat.zero_le _, by simp, by simp⟩⟩
theorem dis_symm {u v : Value} (h : ∀ k, v.ownBlock = some k → u.ownBlock ≠ some k) : ∀ k, u.ownBlock = some k → v.ownBlock ≠ some k := fun k hk q => h k q hk
theorem dis_app {w : World} {B n z : Nat} {T : TypeId} {u u' v : Value} {xs : List Value} (D : ∀ k, v.ownBlock = some k → u.ownBlock ≠ some k) (hat : u'.ownBlock = u.ownBlock ∨ u'.ownBlock = some w.heap.size) (h : w.ownsRow B T z v n xs) : ∀ k, v.ownBlock = some k → u'.ownBlock ≠ some k := fun k hk q => by
  rcases hat with e | e
  · exact D k hk (by rw [← e]; exact q)
  · have h1 := (World.ownsRow.lt h k hk).2
    rw [e] at q
    have h2 : w.heap.size = k := by simpa using q
    omega
theorem own_kept {w w1 : World} {B n z : Nat} {T : TypeId} {u v : Value} {xs : List Value} (h : w.ownsRow B T z v n xs) (hg : w.grownBy w1 u.ownBlock) (D : ∀ k, v.ownBlock = some k → u.ownBlock ≠ some k) : w1.ownsRow B T z v n xs :=
  h.kept hg (by
    cases hv : v.ownBlock with
    | none => exact .inl rfl
    | some k => exact .inr (fun e => D k hv e.symm))
theorem step_append_src {P : Program} (w : World) {ops : Array Oper} {o : Oper} {a : Act} {K : Act → World → Prop} {Q : Exit → Act → World → Prop} {E : Prop} (hgd : o.guard = none) (s x : Operand) (t : TypeId)
    (ho : o.op = .call { callee := .builtin .append, args := #[s, x], argTypes := #[t, t] })
    (base : Nat) (e : TypeId) (i : TypeInfo) (z : Value) (size bytes : Nat) (ht : P.underlying t = some (.slice e)) (hi : P.info? e = some i) (hz : i.zero = some z)
    (hsize : i.size = size) (hby : i.bytes = bytes) (hzs : z.cells.size = size) (hsz : 0 < size)
    (v : Value) (n : Nat) (xs : List Value) (hs : a.eval s = v) (hown : w.ownsRow base e size v n xs)
    (B2 : Nat) (src : Value) (m : Nat) (news : List Value) (hx : a.eval x = src) (hsrc : w.ownsRow B2 e size src m news) (h1 : ∀ u ∈ news, u.oneCell' = true)
    (h63 : n + m ≤ maxLen) (hbytes : (n + m) * bytes ≤ 140737488355328) (hbase : base ≤ w.heap.size)
    (h : ∀ v' w', w'.ownsRow base e size v' (n + m) (xs ++ news) → w.grownBy w' v.ownBlock → (v'.ownBlock = v.ownBlock ∨ v'.ownBlock = some w.heap.size) → K (a.put o.dst v') w') :
    if Region.wanted o (yielded ops a.tmps) = true then Oper.wp P o a w K Q else E := by
  have hw : Region.wanted o (yielded ops a.tmps) = true := by simp [Region.wanted, hgd]
  rw [if_pos hw]
  obtain ⟨v', w', hr, h2, h3, h5⟩ : ∃ v' w', (Builtin.append_ #[t, t] o.type #[v, src]).run P w = .ok v' w' ∧ w'.ownsRow base e size v' (n + m) (xs ++ news) ∧ w.grownBy w' v.ownBlock ∧ (v'.ownBlock = v.ownBlock ∨ v'.ownBlock = some w.heap.size) := by
    rcases hsrc.2 with ⟨rfl, rfl⟩ | ⟨g, cap, cur, rfl, _⟩
    · obtain rfl : news = [] := List.eq_nil_of_length_eq_zero (by have := hsrc.1; omega)
      exact ⟨v, w, run_append_owned_none w base t o.type e i size ht hi v n xs hown, by simpa using hown, ⟨rfl, rfl, rfl, Nat.le_refl _, fun _ _ _ => rfl⟩, .inl rfl⟩
    · obtain ⟨v', w', hr, h2, h3, _, h5⟩ := run_append_own_at (P := P) w base t o.type e i z size bytes ht hi hz hsize hby hzs hsz v n xs hown ⟨g, 0, none⟩ m cap news hsrc.1 (own_news hsrc) h1 h63 hbytes hbase
      exact ⟨v', w', hr, h2, h3, h5⟩
  unfold Oper.wp execOp
  simp only [ho, resolve, invoke, builtin, Sem.run_bind, Sem.run_pure, Result.andThen_ok, List.map_toArray, List.map_cons, List.map_nil, hs, hx, hr]
  exact h v' w' h2 h3 h5
end Go.Proofs.YthgbhnedfdnfpaaGreatDoor

/- SetLimit, the model's. -/
namespace Go.Proofs.YthgbhnedfdnfpaaGreatDoor
set_option maxRecDepth 100000
open Go.RowKit
set_option linter.unusedVariables false

theorem FourIs.far {w : World} {b g j : Nat} {a0 a1 a2 a3 : Value} (h : FourIs w b a0 a1 a2 a3) (hg : b ≠ g) (v : Value) : FourIs (w.setCell ⟨g, j, none⟩ v) b a0 a1 a2 a3 := by
  obtain ⟨h0, h1, h2, h3, hb⟩ := h
  refine ⟨?_, ?_, ?_, ?_, by rw [Go.Deep.nblk_setCell]; exact hb⟩ <;> rw [World.cell?_setCell_other _ _ _ _ (by simp)] <;> assumption
end Go.Proofs.YthgbhnedfdnfpaaGreatDoor
