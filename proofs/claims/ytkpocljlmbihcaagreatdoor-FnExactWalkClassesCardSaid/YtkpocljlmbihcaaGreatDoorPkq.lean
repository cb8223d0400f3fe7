import Derived.Test.YtkpocljlmbihcaaGreatDoorPkp
import Derived.Test.YtkpocljlmbihcaaGreatDoorPkl
import Derived.Test.YtkpocljlmbihcaaGreatDoorPkn
import Derived.Test.YtkpocljlmbihcaaGreatDoorPki
import Derived.Deep.CutRange
/- The model's check of a whole configuration. -/
namespace Go.Proofs.YtkpocljlmbihcaaGreatDoor
set_option maxRecDepth 100000
open Go.RowKit
set_option linter.unusedVariables false

set_option maxHeartbeats 6400000 in
theorem cfGood_any (v : Value) (c : Cfg) (w : World) (HV : Hid (CfgV w v c)) (HM : Hid (CfgM c)) :
    Calls Tryz.prog 24 #[v] w (SaysB w (goodC c)) := by
  obtain ⟨ac, cc, af, cf, rfl, ic, if_⟩ := HV.out
  have HG : Hid (goodC c = (nmG c.s && ((decide (1 ≤ c.cs.length) && decide (c.cs.length ≤ 24)) && (treeG c.cs && (fltG c.cs c.fs && dfG c.cs c.d))))) := Lib.hid rfl
  obtain ⟨B, hB⟩ : ∃ B, goodC c = B := ⟨_, rfl⟩
  rw [hB] at HG ⊢
  clear hB HV
  obtain ⟨s, cs, fs, d⟩ := c
  obtain ⟨n, hn⟩ : ∃ n, cs.length = n := ⟨_, rfl⟩
  obtain ⟨m, hm⟩ : ∃ m, fs.length = m := ⟨_, rfl⟩
  have HNN := Lib.hid hn
  have HMM := Lib.hid hm
  have hM := HM.out
  unfold CfgM at hM
  simp only [hn, hm] at ic if_ hM HG ⊢
  obtain ⟨q0, q1, q2⟩ := hM
  have HI := Lib.hid ic
  have HJ := Lib.hid if_
  clear hn hm ic if_ HM
  have A0 := Lib.hid (Aft.refl w (Obj.cells #[.string s, .slice ac n cc, .slice af m cf, .int .i64 d] 32))
  have HN := Lib.hid (fun w => cfName_any s w q0)
  have HIN := Lib.hid (fun w => l1In_any (n : Int) 1 24 w)
  cases h1 : nmG s
  · have HX : Hid (B = false) := Lib.hid (by rw [HG.out, h1]; rfl)
    rw [h1] at HN
    clear h1
    go_enter Tryz.func24, Tryz.ntmps24
    go_wp2_with (go_at_call 40; refine (HN.out _).mono ?_; rintro e w1 ⟨rfl, b1⟩; have A1 := Lib.hid (A0.out.on b1);  clear b1)
    go_ret
    exact ⟨ret_bool HX.out.symm, A1.out.all.2⟩
  rw [h1] at HN
  have e2 : inB (n : Int) 1 24 = (decide (1 ≤ n) && decide (n ≤ 24)) := by
    unfold inB
    congr 1
    · apply Bool.eq_iff_iff.2; simp; omega
    · apply Bool.eq_iff_iff.2; simp; omega
  rw [e2] at HIN
  clear e2
  cases h2 : (decide (1 ≤ n) && decide (n ≤ 24))
  · have HX : Hid (B = false) := Lib.hid (by rw [HG.out, h1, h2]; rfl)
    rw [h2] at HIN
    clear h1 h2
    go_enter Tryz.func24, Tryz.ntmps24
    go_wp2_with (go_at_call 40; refine (HN.out _).mono ?_; rintro e w1 ⟨rfl, b1⟩; have A1 := Lib.hid (A0.out.on b1); obtain ⟨c0, c1, c2, c3, _⟩ := A1.out.all.1; clear b1)
    go_wp2_with (go_at_call 41; refine (HIN.out _).mono ?_; rintro e w' ⟨rfl, rfl⟩)
    go_ret
    exact ⟨ret_bool HX.out.symm, A1.out.all.2⟩
  have h2' := h2
  rw [h2] at HIN
  simp only [Bool.and_eq_true, decide_eq_true_eq] at h2'
  have HT := Lib.hid (fun w HI => cfTree_any s ac af n cc m cf d cs w HI HNN q1 h2'.2 h2'.1)
  have HF := Lib.hid (fun w HI HJ => cfFilters_any s ac af n cc m cf d cs fs w HI HNN q1 HJ HMM q2)
  have HTG := Lib.hid (fun w HI => cfTarget_any s ac af n cc m cf d cs d w HI HNN q1)
  cases h3 : treeG cs
  · have HX : Hid (B = false) := Lib.hid (by rw [HG.out, h1, h2, h3]; rfl)
    rw [h3] at HT
    clear h1 h2 h2' h3
    go_enter Tryz.func24, Tryz.ntmps24
    go_wp2_with (go_at_call 40; refine (HN.out _).mono ?_; rintro e w1 ⟨rfl, b1⟩; have A1 := Lib.hid (A0.out.on b1); obtain ⟨c0, c1, c2, c3, _⟩ := A1.out.all.1; clear b1)
    go_wp2_with (go_at_call 41; refine (HIN.out _).mono ?_; rintro e w' ⟨rfl, rfl⟩)
    go_wp2_with (go_at_call 42; refine (HT.out _ (Lib.hid (HI.out.below A1.out.all.2))).mono ?_; rintro e w2 ⟨rfl, b2⟩; have A2 := Lib.hid (A1.out.on b2);  clear b2)
    go_ret
    exact ⟨ret_bool HX.out.symm, A2.out.all.2⟩
  rw [h3] at HT
  cases h4 : fltG cs fs
  · have HX : Hid (B = false) := Lib.hid (by rw [HG.out, h1, h2, h3, h4]; rfl)
    rw [h4] at HF
    clear h1 h2 h2' h3 h4
    go_enter Tryz.func24, Tryz.ntmps24
    go_wp2_with (go_at_call 40; refine (HN.out _).mono ?_; rintro e w1 ⟨rfl, b1⟩; have A1 := Lib.hid (A0.out.on b1); obtain ⟨c0, c1, c2, c3, _⟩ := A1.out.all.1; clear b1)
    go_wp2_with (go_at_call 41; refine (HIN.out _).mono ?_; rintro e w' ⟨rfl, rfl⟩)
    go_wp2_with (go_at_call 42; refine (HT.out _ (Lib.hid (HI.out.below A1.out.all.2))).mono ?_; rintro e w2 ⟨rfl, b2⟩; have A2 := Lib.hid (A1.out.on b2); obtain ⟨c0, c1, c2, c3, _⟩ := A2.out.all.1; clear b2)
    go_wp2_with (go_at_call 43; refine (HF.out _ (Lib.hid (HI.out.below A2.out.all.2)) (Lib.hid (HJ.out.below A2.out.all.2))).mono ?_; rintro e w3 ⟨rfl, b3⟩; have A3 := Lib.hid (A2.out.on b3);  clear b3)
    go_ret
    exact ⟨ret_bool HX.out.symm, A3.out.all.2⟩
  rw [h4] at HF
  have HD : Hid (B = dfG cs d) := Lib.hid (by rw [HG.out, h1, h2, h3, h4]; rfl)
  clear h1 h2 h2' h3 h4
  by_cases hd : d = 0
  · have d0 : (d == 0) = true := by simpa using hd
    have HX : Hid (B = true) := Lib.hid (by rw [HD.out]; unfold dfG; rw [d0]; rfl)
    clear hd
    go_enter Tryz.func24, Tryz.ntmps24
    go_wp2_with (go_at_call 40; refine (HN.out _).mono ?_; rintro e w1 ⟨rfl, b1⟩; have A1 := Lib.hid (A0.out.on b1); obtain ⟨c0, c1, c2, c3, _⟩ := A1.out.all.1; clear b1)
    go_wp2_with (go_at_call 41; refine (HIN.out _).mono ?_; rintro e w' ⟨rfl, rfl⟩)
    go_wp2_with (go_at_call 42; refine (HT.out _ (Lib.hid (HI.out.below A1.out.all.2))).mono ?_; rintro e w2 ⟨rfl, b2⟩; have A2 := Lib.hid (A1.out.on b2); obtain ⟨c0, c1, c2, c3, _⟩ := A2.out.all.1; clear b2)
    go_wp2_with (go_at_call 43; refine (HF.out _ (Lib.hid (HI.out.below A2.out.all.2)) (Lib.hid (HJ.out.below A2.out.all.2))).mono ?_; rintro e w3 ⟨rfl, b3⟩; have A3 := Lib.hid (A2.out.on b3); obtain ⟨c0, c1, c2, c3, _⟩ := A3.out.all.1; clear b3)
    go_ret
    exact ⟨ret_bool HX.out.symm, A3.out.all.2⟩
  · have d0 : (d == 0) = false := by simpa using hd
    have HX : Hid (B = leafB cs d) := Lib.hid (by rw [HD.out]; unfold dfG; rw [d0]; rfl)
    generalize leafB cs d = q at HX HTG
    clear hd HD
    go_enter Tryz.func24, Tryz.ntmps24
    go_wp2_with (go_at_call 40; refine (HN.out _).mono ?_; rintro e w1 ⟨rfl, b1⟩; have A1 := Lib.hid (A0.out.on b1); obtain ⟨c0, c1, c2, c3, _⟩ := A1.out.all.1; clear b1)
    go_wp2_with (go_at_call 41; refine (HIN.out _).mono ?_; rintro e w' ⟨rfl, rfl⟩)
    go_wp2_with (go_at_call 42; refine (HT.out _ (Lib.hid (HI.out.below A1.out.all.2))).mono ?_; rintro e w2 ⟨rfl, b2⟩; have A2 := Lib.hid (A1.out.on b2); obtain ⟨c0, c1, c2, c3, _⟩ := A2.out.all.1; clear b2)
    go_wp2_with (go_at_call 43; refine (HF.out _ (Lib.hid (HI.out.below A2.out.all.2)) (Lib.hid (HJ.out.below A2.out.all.2))).mono ?_; rintro e w3 ⟨rfl, b3⟩; have A3 := Lib.hid (A2.out.on b3); obtain ⟨c0, c1, c2, c3, _⟩ := A3.out.all.1; clear b3)
    go_wp2_with (go_at_call 44; refine (HTG.out _ (Lib.hid (HI.out.below A3.out.all.2))).mono ?_; rintro e w4 ⟨rfl, b4⟩; have A4 := Lib.hid (A3.out.on b4); clear b4)
    go_ret
    exact ⟨ret_bool HX.out.symm, A4.out.all.2⟩
end Go.Proofs.YtkpocljlmbihcaaGreatDoor

/- Chapter 4's functions that return numbers: classes found, tops, spare rates. -/
namespace Go.Proofs.YtkpocljlmbihcaaGreatDoor
set_option maxRecDepth 100000
open Go.RowKit
set_option linter.unusedVariables false

def resFindClass1 (c : Cfg) (id : Int) : Int := if goodC c then (match fnd c.cs id with | .none => 0 | .some k => (k : Int)) else 0
def resFindClass2 (c : Cfg) (id : Int) : Bool := goodC c && (fnd c.cs id).isSome
theorem fc_bad {c : Cfg} (id : Int) (h : goodC c = false) : resFindClass1 c id = 0 ∧ resFindClass2 c id = false := by unfold resFindClass1 resFindClass2; rw [h]; exact ⟨rfl, rfl⟩
theorem fc_none {c : Cfg} (id : Int) (h : goodC c = true) (hf : fnd c.cs id = Option.none) : resFindClass1 c id = 0 ∧ resFindClass2 c id = false := by unfold resFindClass1 resFindClass2; rw [h, hf]; exact ⟨rfl, rfl⟩
theorem fc_some {c : Cfg} (id : Int) {k : Nat} (h : goodC c = true) (hf : fnd c.cs id = Option.some k) : resFindClass1 c id = k ∧ resFindClass2 c id = true := by unfold resFindClass1 resFindClass2; rw [h, hf]; exact ⟨rfl, rfl⟩
/-! Tops. -/
def topF : List Cls → Nat
  | [] => 0
  | x :: r => if x.p = 0 then 0 else topF r + 1
theorem topF_not : ∀ (cs : List Cls) (j : Nat), j < topF cs → (cs.getD j cls0).p ≠ 0
  | [], j, h => by unfold topF at h; omega
  | x :: r, j, h => by
    unfold topF at h
    by_cases hx : x.p = 0
    · rw [if_pos hx] at h; omega
    · rw [if_neg hx] at h
      match j, h with
      | 0, _ => simpa using hx
      | j + 1, h => simpa using topF_not r j (by omega)
theorem topF_at : ∀ (cs : List Cls), 1 ≤ cT cs → topF cs < cs.length ∧ (cs.getD (topF cs) cls0).p = 0
  | [], h => by simp [cT] at h
  | x :: r, h => by
    by_cases hx : x.p = 0
    · have e : topF (x :: r) = 0 := by conv => lhs; unfold topF; rw [if_pos hx]
      rw [e]; simp [hx]
    · have e : topF (x :: r) = topF r + 1 := by conv => lhs; unfold topF; rw [if_neg hx]
      have := topF_at r (by simpa [cT, hx] using h)
      rw [e]; simpa using this
def resTopOf1 (c : Cfg) : Int := if goodC c then (topF c.cs : Int) else 0
def resTopOf2 (c : Cfg) : Bool := goodC c
def TfRel (w : World) (o : Obj) (T : Nat) (i : Value) (wr : World) : Prop := ∃ k : Nat, k ≤ T ∧ i = .int .i64 k ∧ Aft w o wr
set_option maxHeartbeats 3200000 in
theorem cfTop_any (s : ByteArray) (ac af : Option Addr) (n cc m cf : Nat) (d : Int) (cs : List Cls) (w : World) (HI : Hid (InX w ac n (clsCs cs))) (hn : Hid (cs.length = n)) (hm : n ≤ 1048576) (h1 : 1 ≤ cT cs) :
    Calls Tryz.prog 37 #[(.agg #[.string s, .slice ac n cc, .slice af m cf, .int .i64 d])] w (SaysI w (topF cs)) := by
  have ht := topF_at cs h1
  have HNT := Lib.hid (topF_not cs)
  have htl := ht.1
  have HT0 := Lib.hid ht.2
  obtain ⟨T, hT⟩ : ∃ T, topF cs = T := ⟨_, rfl⟩
  rw [hT] at HNT htl HT0 ⊢
  obtain ⟨g, rfl, hgt, hg⟩ := HI.out (by have := hn.out; omega)
  have HG := Lib.hid hgt
  have htn : T < n := by have := hn.out; omega
  clear ht hT hgt h1
  go_enter Tryz.func37, Tryz.ntmps37
  go_wp2_with fail
  go_loopw [3] (fun i wr => TfRel w (Obj.cells #[.string s, .slice (some ⟨g, 0, none⟩) n cc, .slice af m cf, .int .i64 d] 32) T i wr) (fun i _ => T - (intOf i).toNat)
  case atStart => exact ⟨0, Nat.zero_le _, rfl, Aft.refl _ _⟩
  case round =>
    obtain ⟨k, hk, rfl, hb⟩ := hrel
    have HB := Lib.hid hb
    obtain ⟨x, hx⟩ : ∃ x, cs.getD k cls0 = x := ⟨_, rfl⟩
    obtain ⟨_, a1, _⟩ := (HG.out.below hb.all.2 hg).cls k (by omega) x hx
    obtain ⟨e0, e1, e2, e3, _⟩ := hb.all.1
    by_cases hlt : k < T
    · have hz : x.p ≠ 0 := by rw [← hx]; exact HNT.out k hlt
      have dz : (x.p == 0) = false := by simpa using hz
      have dzn : (x.p != 0) = true := by simp [hz]
      obtain ⟨xi, xp, xr, xe, xb, xu, xo, xl⟩ := x
      simp only at a1 dz dzn
      clear hb hx hz
      go_wp2_with fail
      go_roundw
      case rel => exact ⟨k + 1, by omega, by go_num, HB.out⟩
      case measure => simp [intOf]; omega
    · have hkT : k = T := by omega
      subst hkT
      have hz : x.p = 0 := by rw [← hx]; exact HT0.out
      have dz : (x.p == 0) = true := by simpa using hz
      have dzn : (x.p != 0) = false := by simp [hz]
      obtain ⟨xi, xp, xr, xe, xb, xu, xo, xl⟩ := x
      simp only at a1 dz dzn
      clear hb hx hz
      go_wp2_with fail
      go_ret
      exact ⟨rfl, HB.out.all.2⟩
def IxRel (w : World) (T : Nat) (i : Value) (wr : World) : Prop := ∃ k : Nat, k ≤ T ∧ i = .int .i64 k ∧ Below w.heap.size w wr
end Go.Proofs.YtkpocljlmbihcaaGreatDoor

/- Chapter 4's functions over a class's index: whether there is one, spare rates. -/
namespace Go.Proofs.YtkpocljlmbihcaaGreatDoor
set_option maxRecDepth 100000
open Go.RowKit
set_option linter.unusedVariables false

def hasI (c : Cfg) (a : Int) : Bool := goodC c && (decide (0 ≤ a) && decide (a < (c.cs.length : Int)))
theorem has_iff {c : Cfg} {a : Int} (h : hasI c a = true) : goodC c = true ∧ ∃ q : Nat, a = (q : Int) ∧ q < c.cs.length := by
  unfold hasI at h
  simp only [Bool.and_eq_true, decide_eq_true_eq] at h
  exact ⟨h.1, a.toNat, by omega, by omega⟩
theorem in_idx (a : Int) (n : Nat) (h : 1 ≤ n) : inB a 0 ((n : Int) - 1) = (decide (0 ≤ a) && decide (a < (n : Int))) := by
  unfold inB
  congr 1
  apply Bool.eq_iff_iff.2
  rw [decide_eq_true_eq, decide_eq_true_eq]
  omega
set_option maxHeartbeats 3200000 in
theorem cfHas_any (v : Value) (c : Cfg) (a : Int) (w : World) (HV : Hid (CfgV w v c)) (HM : Hid (CfgM c)) :
    Calls Tryz.prog 32 #[v, .int .i64 a] w (SaysB w (hasI c a)) := by
  obtain ⟨ac, cc, af, cf, rfl, ic, if_⟩ := HV.out
  obtain ⟨s, cs, fs, d⟩ := c
  have hM := HM.out
  unfold CfgM at hM
  simp only at ic if_ hM HV ⊢
  obtain ⟨q0, q1, q2⟩ := hM
  have HI := Lib.hid ic
  have HJ := Lib.hid if_
  have HVB := Lib.hid (fun w' (b : Below w.heap.size w w') => Lib.hid (HV.out.below b))
  have A0 := Lib.hid (Aft.refl w (Obj.cells #[.string s, .slice ac cs.length cc, .slice af fs.length cf, .int .i64 d] 32))
  clear ic if_
  have HGD := Lib.hid (fun w' (b : Below w.heap.size w w') => cfGood_any (.agg #[.string s, .slice ac cs.length cc, .slice af fs.length cf, .int .i64 d]) ⟨s, cs, fs, d⟩ w' (HVB.out w' b) HM)
  have HX : Hid (hasI ⟨s, cs, fs, d⟩ a = (goodC ⟨s, cs, fs, d⟩ && (decide (0 ≤ a) && decide (a < (cs.length : Int))))) := Lib.hid rfl
  generalize hasI ⟨s, cs, fs, d⟩ a = R at HX ⊢
  cases hg : goodC ⟨s, cs, fs, d⟩
  · have HX2 : Hid (R = false) := Lib.hid (by rw [HX.out, hg]; rfl)
    rw [hg] at HGD
    clear hg HX
    go_enter Tryz.func32, Tryz.ntmps32
    go_wp2_with (go_at_call 24; refine (HGD.out _ A0.out.all.2).mono ?_; rintro e w1 ⟨rfl, b1⟩; have A1 := Lib.hid (A0.out.on b1); clear b1)
    go_ret
    exact ⟨ret_bool HX2.out.symm, A1.out.all.2⟩
  · have hn1 : 1 ≤ cs.length := (good_of hg).n1
    have HIN := Lib.hid (fun w => l1In_any a 0 ((cs.length : Int) - 1) w)
    rw [in_idx a cs.length hn1] at HIN
    have HX2 : Hid (R = (decide (0 ≤ a) && decide (a < (cs.length : Int)))) := Lib.hid (by rw [HX.out, hg, Bool.true_and])
    generalize (decide (0 ≤ a) && decide (a < (cs.length : Int))) = b at HX2 HIN
    rw [hg] at HGD
    clear hg HX
    go_enter Tryz.func32, Tryz.ntmps32
    go_wp2_with (go_at_call 24; refine (HGD.out _ A0.out.all.2).mono ?_; rintro e w1 ⟨rfl, b1⟩; have A1 := Lib.hid (A0.out.on b1); obtain ⟨c0, c1, c2, c3, _⟩ := A1.out.all.1; clear b1)
    go_wp2_with (go_at_call 41; refine (HIN.out _).mono ?_; rintro e w' ⟨rfl, rfl⟩)
    go_ret
    exact ⟨ret_bool HX2.out.symm, A1.out.all.2⟩
set_option maxHeartbeats 3200000 in
theorem hasIndex_any (v : Value) (c : Cfg) (a : Int) (w : World) (HK : Hid (Kwt w)) (HV : Hid (CfgV w v c)) (HM : Hid (CfgM c)) :
    Calls Tryz.prog 35 #[v, .int .i64 a] w (SaysB w (hasI c a)) := by
  obtain ⟨ac, cc, af, cf, rfl, ic, if_⟩ := HV.out
  obtain ⟨s, cs, fs, d⟩ := c
  have hM := HM.out
  unfold CfgM at hM
  simp only at ic if_ hM HV ⊢
  obtain ⟨q0, q1, q2⟩ := hM
  have HI := Lib.hid ic
  have HJ := Lib.hid if_
  have HVB := Lib.hid (fun w' (b : Below w.heap.size w w') => Lib.hid (HV.out.below b))
  have A0 := Lib.hid (Aft.refl w (Obj.cells #[.string s, .slice ac cs.length cc, .slice af fs.length cf, .int .i64 d] 32))
  clear ic if_
  have HGD := Lib.hid (fun w' (b : Below w.heap.size w w') => implIsConfig_any (.agg #[.string s, .slice ac cs.length cc, .slice af fs.length cf, .int .i64 d]) ⟨s, cs, fs, d⟩ w' (Lib.hid (HK.out.below b)) (HVB.out w' b) HM)
  have HX : Hid (hasI ⟨s, cs, fs, d⟩ a = (goodC ⟨s, cs, fs, d⟩ && (decide (0 ≤ a) && decide (a < (cs.length : Int))))) := Lib.hid rfl
  generalize hasI ⟨s, cs, fs, d⟩ a = R at HX ⊢
  cases hg : goodC ⟨s, cs, fs, d⟩
  · have HX2 : Hid (R = false) := Lib.hid (by rw [HX.out, hg]; rfl)
    rw [hg] at HGD
    clear hg HX
    go_enter Tryz.func35, Tryz.ntmps35
    go_wp2_with (go_at_call 51; refine (HGD.out _ A0.out.all.2).mono ?_; rintro e w1 ⟨rfl, b1⟩; have A1 := Lib.hid (A0.out.on b1); clear b1)
    go_ret
    exact ⟨ret_bool HX2.out.symm, A1.out.all.2⟩
  · rw [hg] at HGD
    by_cases h0 : a < 0
    · have d0 := not_le h0
      have HX2 : Hid (R = false) := Lib.hid (by rw [HX.out, hg, d0]; rfl)
      clear hg HX h0
      go_enter Tryz.func35, Tryz.ntmps35
      go_wp2_with (go_at_call 51; refine (HGD.out _ A0.out.all.2).mono ?_; rintro e w1 ⟨rfl, b1⟩; have A1 := Lib.hid (A0.out.on b1); obtain ⟨c0, c1, c2, c3, _⟩ := A1.out.all.1; clear b1)
      go_ret
      exact ⟨ret_bool HX2.out.symm, A1.out.all.2⟩
    · have d0 := is_le (show 0 ≤ a by omega)
      have HX2 : Hid (R = decide (a < (cs.length : Int))) := Lib.hid (by rw [HX.out, hg, d0]; rfl)
      clear hg HX h0
      go_enter Tryz.func35, Tryz.ntmps35
      go_wp2_with (go_at_call 51; refine (HGD.out _ A0.out.all.2).mono ?_; rintro e w1 ⟨rfl, b1⟩; have A1 := Lib.hid (A0.out.on b1); obtain ⟨c0, c1, c2, c3, _⟩ := A1.out.all.1; clear b1)
      go_ret
      exact ⟨ret_bool HX2.out.symm, A1.out.all.2⟩
def resSpareRate1 (c : Cfg) (a : Int) : Int := if hasI c a then spare c.cs (c.cs.getD a.toNat cls0) else 0
def resSpareRate2 (c : Cfg) (a : Int) : Bool := hasI c a
theorem sr_bad {c : Cfg} {a : Int} (h : hasI c a = false) : resSpareRate1 c a = 0 ∧ resSpareRate2 c a = false := by unfold resSpareRate1 resSpareRate2; rw [h]; exact ⟨rfl, rfl⟩
theorem sr_good {c : Cfg} {q : Nat} (h : hasI c (q : Int) = true) : resSpareRate1 c q = spare c.cs (c.cs.getD q cls0) ∧ resSpareRate2 c q = true := by unfold resSpareRate1 resSpareRate2; rw [h]; exact ⟨rfl, rfl⟩
end Go.Proofs.YtkpocljlmbihcaaGreatDoor

/- Canonical texts, the model's: indents, sizes and lines of parts. -/
namespace Go.Proofs.YtkpocljlmbihcaaGreatDoor
set_option maxRecDepth 100000
open Go.RowKit
set_option linter.unusedVariables false
set_option linter.unusedSimpArgs false

def InRel (l : Nat) (a s : Value) : Prop := ∃ k r : Nat, k + r = l ∧ a = .int .i64 (r : Int) ∧ s = .string (indS k)
set_option maxHeartbeats 1600000 in
theorem prIndent_any (l : Nat) (hl : l ≤ 100) (w : World) : Calls Tryz.prog 47 #[.int .i64 (l : Int)] w fun e w' => e = .returned (.string (indS l)) ∧ w = w' := by
  go_enter Tryz.func47, Tryz.ntmps47
  go_wp2_with fail
  go_loop [0, 3] (fun a s => InRel l a s) (fun a s => (intOf a).toNat)
  case atStart => exact ⟨0, l, Nat.zero_add l, rfl, rfl⟩
  case round =>
    obtain ⟨k, r, hkr, rfl, rfl⟩ := hrel
    have hs := indS_size k
    have HS := Lib.hid (indS_succ k)
    obtain ⟨u, hu⟩ : ∃ u, indS k = u := ⟨_, rfl⟩
    rw [hu] at hs HS
    by_cases h0 : 0 < r
    · obtain ⟨q, rfl⟩ : ∃ q, r = q + 1 := ⟨r - 1, by omega⟩
      have d1 : decide ((0 : Int) < ((q + 1 : Nat) : Int)) = true := is_lt (by omega)
      have k1 : ¬ (9223372036854775807 < u.size + (⟨#[32, 32]⟩ : ByteArray).size) := by rw [show (⟨#[32, 32]⟩ : ByteArray).size = 2 from rfl]; omega
      have k2 : ¬ (9223372036854775807 < u.size + 2) := by omega
      have e1 : ((q + 1 : Nat) : Int) - 1 = (q : Int) := by omega
      rw [hu]
      clear hu
      go_wp2_with fail
      go_round
      case rel => exact ⟨k + 1, q, by omega, by simp, by rw [← HS.out]⟩
      case measure => simp [intOf]
    · obtain rfl : r = 0 := by omega
      obtain rfl : k = l := by omega
      rw [hu]
      have HU := Lib.hid hu
      clear hu
      go_wp2_with fail
      go_ret
      exact ⟨str_ret HU.out.symm, rfl⟩
/-- what a part's size is at most -/
theorem sizeP_le {cs : List Cls} (T : TreeF cs) (f i : Nat) (hf : f ≤ 9) (hi : i < cs.length) : sizeP cs f i ≤ 2000000 := by
  have h1 := size_walk cs f i
  have h2 := walk_few T f i hi
  have h3 := (rateOk_r (okL_ids cs 0 T.ok i hi).2.2).2
  have h0 := (rateOk_r (okL_ids cs 0 T.ok i hi).2.2).1
  have h4 : (f : Int) * (cs.getD i cls0).r ≤ 9 * (cs.getD i cls0).r := Int.mul_le_mul_of_nonneg_right (by omega) (by omega)
  omega
theorem sum_drop (f : Nat → Nat) (K : List Nat) (k : Nat) (h : k < K.length) : ((K.drop k).map f).sum = f (K.getD k 0) + ((K.drop (k + 1)).map f).sum := by
  rw [List.drop_eq_getElem_cons h, List.map_cons, List.sum_cons]
  simp [List.getD_eq_getElem?_getD, h]
theorem kids_at_lt (cs : List Cls) (id : Int) (k : Nat) (h : k < (kids cs id).length) : (kids cs id).getD k 0 ∈ kids cs id := by
  simp [List.getD_eq_getElem?_getD, h]
def SzRel (w : World) (o : Obj) (B : Nat) (K : List Nat) (S : Nat) (g : Nat → Nat) (a i : Value) (wr : World) : Prop :=
  ∃ (k z : Nat) , k ≤ K.length ∧ i = .int .i64 k ∧ a = .int .i64 z ∧ Aft w o wr ∧ B ≤ wr.heap.size ∧ Hid (z + ((K.drop k).map g).sum = S)
set_option maxHeartbeats 6400000 in
theorem prSize_any (s : ByteArray) (ac af : Option Addr) (n cc m cf : Nat) (d : Int) (cs : List Cls) (T : TreeF cs) : ∀ (f q : Nat) (w : World) (HI : Hid (InX w ac n (clsCs cs))) (hn : Hid (cs.length = n)) (hq : q < n) (hf : f ≤ 9) (hd : 9 ≤ f + depP cs q),
    Calls Tryz.prog 34 #[(.agg #[.string s, .slice ac n cc, .slice af m cf, .int .i64 d]), .int .i64 q] w (SaysI w (sizeP cs f q))
  | 0, q, w, HI, hn, hq, hf, hd => absurd hd (by have := (way_len T (k := q) (by have := hn.out; omega)).2; omega)
  | f + 1, q, w, HI, hn, hq, hf, hd => by
    have hql : q < cs.length := by have := hn.out; omega
    have hm : n ≤ 1048576 := by have := hn.out; have := T.n24; omega
    have HLF := Lib.hid (fun w HI => cfLeaf_any s ac af n cc m cf d cs q w HI hn hm hq)
    have HKD := Lib.hid (fun w HI => cfKids_any s ac af n cc m cf d cs q w HI hn hm hq)
    have A0 := Lib.hid (Aft.refl w (Obj.cells #[.string s, .slice ac n cc, .slice af m cf, .int .i64 d] 32))
    have hle := sizeP_le T (f + 1) q hf hql
    have HSZ : Hid (sizeP cs (f + 1) q = if hasK cs (cs.getD q cls0).i then 2 + ((kids cs (cs.getD q cls0).i).map (sizeP cs f)).sum else 1) := Lib.hid rfl
    obtain ⟨Z, hZ⟩ : ∃ Z, sizeP cs (f + 1) q = Z := ⟨_, rfl⟩
    rw [hZ] at HSZ hle ⊢
    cases hk : hasK cs (cs.getD q cls0).i
    · have HX : Hid (Z = 1) := Lib.hid (by rw [HSZ.out, hk]; rfl)
      rw [hk] at HLF
      clear hk hZ hle
      go_enter Tryz.func34, Tryz.ntmps34
      go_wp2_with (go_at_call 61; refine (HLF.out _ (Lib.hid (HI.out.below A0.out.all.2))).mono ?_; rintro e w1 ⟨rfl, b1⟩; have A1 := Lib.hid (A0.out.on b1); clear b1)
      go_ret
      exact ⟨by rw [HX.out]; rfl, A1.out.all.2⟩
    · have HX : Hid (2 + ((kids cs (cs.getD q cls0).i).map (sizeP cs f)).sum = Z) := Lib.hid (by rw [HSZ.out, hk]; rfl)
      rw [hk] at HLF
      have HKM := Lib.hid (fun k (h : k < (kids cs (cs.getD q cls0).i).length) => kids_at_lt cs (cs.getD q cls0).i k h)
      have HREC : Hid (∀ j ∈ kids cs (cs.getD q cls0).i, j < n ∧ ∀ w, Hid (InX w ac n (clsCs cs)) → Calls Tryz.prog 34 #[(.agg #[.string s, .slice ac n cc, .slice af m cf, .int .i64 d]), .int .i64 j] w (SaysI w (sizeP cs f j))) := Lib.hid (fun j hj => by
        have hj1 := (kids_mem hj).1
        have hj2 := dep_kid T hql hj
        have hjn : j < n := by have := hn.out; omega
        exact ⟨hjn, fun w HI => prSize_any s ac af n cc m cf d cs T f j w HI hn hjn (by omega) (by omega)⟩)
      have hKl := kidsF_len (cs.getD q cls0).i cs 0
      have hKn : (kids cs (cs.getD q cls0).i).length ≤ 24 := by unfold kids; have := T.n24; omega
      generalize kids cs (cs.getD q cls0).i = K at HKD HX HKM HREC hKn
      clear hk hZ hKl
      go_enter Tryz.func34, Tryz.ntmps34
      go_wp2_with (go_at_call 61; refine (HLF.out _ (Lib.hid (HI.out.below A0.out.all.2))).mono ?_; rintro e w1 ⟨rfl, b1⟩; have A1 := Lib.hid (A0.out.on b1); obtain ⟨c0, c1, c2, c3, _⟩ := A1.out.all.1; clear b1)
      go_wp2_with (go_at_call 60; refine (HKD.out _ (Lib.hid (HI.out.below A1.out.all.2))).mono ?_; rintro e w2 ⟨v, rfl, o2, b2⟩; have A2 := Lib.hid (A1.out.on b2); obtain ⟨ad, cK, rfl, iK⟩ := own_in o2; have HIK := Lib.hid iK; clear b2 o2 iK)
      go_loopw [5, 15] (fun a i wr => SzRel w (Obj.cells #[.string s, .slice ac n cc, .slice af m cf, .int .i64 d] 32) w2.heap.size K Z (sizeP cs f) a i wr ∧ Below w2.heap.size w2 wr) (fun _ i _ => K.length - (intOf i).toNat)
      case atStart => exact ⟨⟨0, 2, Nat.zero_le _, rfl, rfl, A2.out, Nat.le_refl _, by rw [List.drop_zero]; exact HX⟩, Below.refl _ _⟩
      case round =>
        obtain ⟨⟨k, z, hk, rfl, rfl, hb, hB, HP⟩, h2⟩ := hrel
        have HB := Lib.hid hb
        have H2 := Lib.hid h2
        have hIKr := HIK.out.below h2
        clear h2
        by_cases hlt : k < K.length
        · obtain ⟨gk, rfl, hkt, hkg⟩ := hIKr (by omega)
          obtain ⟨j, hj⟩ : ∃ j, K.getD k 0 = j := ⟨_, rfl⟩
          have e0 := hkt.nat k hlt j hj
          have hjm := HKM.out k hlt
          rw [hj] at hjm
          have HRJ := Lib.hid (HREC.out j hjm).2
          have hjn := (HREC.out j hjm).1
          have HE := Lib.hid (sum_drop (sizeP cs f) K k hlt)
          rw [hj] at HE
          generalize sizeP cs f j = zj at HRJ HE
          have HX2 : Hid (z + zj + ((K.drop (k + 1)).map (sizeP cs f)).sum = Z) := Lib.hid (by have := HP.out; have := HE.out; omega)
          have hzz : z + zj ≤ 2000000 := by have := HX2.out; omega
          obtain ⟨q0, q1, q2, q3, _⟩ := hb.all.1
          have HIr := Lib.hid (HI.out.below hb.all.2)
          clear hkt hj hjm hb
          go_wp2_with (go_at_call 34; refine (HRJ.out _ HIr).mono ?_; rintro e w3 ⟨rfl, b3⟩; have B3 := Lib.hid b3; clear b3)
          go_roundw
          case rel => exact ⟨⟨k + 1, z + zj, by omega, by go_num, by go_num, HB.out.on B3.out, Nat.le_trans hB B3.out.size, HX2⟩, H2.out.trans (B3.out.mono hB)⟩
          case measure => simp [intOf]; omega
        · have HX2 : Hid (z = Z) := Lib.hid (by have := HP.out; rw [List.drop_eq_nil_of_le (by omega)] at this; simpa using this)
          clear hb
          go_wp2_with fail
          go_ret
          exact ⟨ret_int (by rw [HX2.out]), HB.out.all.2⟩
end Go.Proofs.YtkpocljlmbihcaaGreatDoor

/- Canonical texts, the model's: numbers of lines, walks, parts. -/
namespace Go.Proofs.YtkpocljlmbihcaaGreatDoor
set_option maxRecDepth 100000
open Go.RowKit
set_option linter.unusedVariables false
set_option linter.unusedSimpArgs false

theorem sum_le (g : Nat → Nat) (M : Nat) : ∀ l : List Nat, (∀ x ∈ l, g x ≤ M) → (l.map g).sum ≤ l.length * M
  | [], _ => by simp
  | a :: r, h => by
    have h1 := h a (by simp)
    have h2 := sum_le g M r (fun x hx => h x (by simp [hx]))
    rw [List.map_cons, List.sum_cons, List.length_cons, Nat.add_mul]
    omega
theorem take_mem (p : Nat → Bool) : ∀ (l : List Nat) (x : Nat), x ∈ l.takeWhile p → x ∈ l
  | [], x, h => by simp at h
  | a :: r, x, h => by
    rw [List.takeWhile_cons] at h
    split at h
    · rcases List.mem_cons.1 h with h | h
      · simp [h]
      · simp [take_mem p r x h]
    · simp at h
theorem take_len (p : Nat → Bool) : ∀ l : List Nat, (l.takeWhile p).length ≤ l.length
  | [] => by simp
  | a :: r => by
    rw [List.takeWhile_cons]
    split
    · have := take_len p r; simp; omega
    · simp
theorem kids_len24 {cs : List Cls} (T : TreeF cs) (id : Int) : (kids cs id).length ≤ 24 := by
  have := kidsF_len id cs 0
  have := T.n24
  unfold kids
  omega
theorem lineP_le {cs : List Cls} (T : TreeF cs) : ∀ (f q : Nat), q < cs.length → lineP cs f q ≤ 2 + f * 50000000
  | 0, q, hq => by simp [lineP]
  | f + 1, q, hq => by
    unfold lineP
    cases hf : fnd cs (cs.getD q cls0).p with
    | none => show 2 ≤ _; omega
    | some p =>
      have hp := (fnd_get cs _ p hf).1
      have ih := lineP_le T f p hp
      have h1 := sum_le (sizeP cs 9) 2000000 ((kids cs (cs.getD p cls0).i).takeWhile (fun k => k != q)) (fun x hx => sizeP_le T 9 x (Nat.le_refl _) (kids_mem (take_mem _ _ x hx)).1)
      have h2 := take_len (fun k => k != q) (kids cs (cs.getD p cls0).i)
      have h3 := kids_len24 T (cs.getD p cls0).i
      show lineP cs f p + 1 + _ ≤ _
      omega
theorem take_drop_go (q : Nat) (g : Nat → Nat) (K : List Nat) (k : Nat) (h : k < K.length) (hn : K.getD k 0 ≠ q) : (((K.drop k).takeWhile (fun j => j != q)).map g).sum = g (K.getD k 0) + (((K.drop (k + 1)).takeWhile (fun j => j != q)).map g).sum := by
  have e : K[k] = K.getD k 0 := by simp [List.getD_eq_getElem?_getD, h]
  rw [List.drop_eq_getElem_cons h, e, List.takeWhile_cons, if_pos (by simpa using hn), List.map_cons, List.sum_cons]
theorem take_drop_end (q : Nat) (g : Nat → Nat) (K : List Nat) (k : Nat) (h : k < K.length) (hn : K.getD k 0 = q) : (((K.drop k).takeWhile (fun j => j != q)).map g).sum = 0 := by
  have e : K[k] = K.getD k 0 := by simp [List.getD_eq_getElem?_getD, h]
  rw [List.drop_eq_getElem_cons h, e, List.takeWhile_cons, if_neg (by simpa using hn)]
  rfl
set_option maxHeartbeats 12800000 in
theorem prLine_any (s : ByteArray) (ac af : Option Addr) (n cc m cf : Nat) (d : Int) (cs : List Cls) (T : TreeF cs) : ∀ (f q : Nat) (w : World) (HI : Hid (InX w ac n (clsCs cs))) (hn : Hid (cs.length = n)) (hq : q < n) (hf : f ≤ 9) (hd : depP cs q ≤ f),
    Calls Tryz.prog 33 #[(.agg #[.string s, .slice ac n cc, .slice af m cf, .int .i64 d]), .int .i64 q] w (SaysI w (lineP cs f q))
  | 0, q, w, HI, hn, hq, hf, hd => absurd hd (by have := (way_len T (k := q) (by have := hn.out; omega)).1; omega)
  | f + 1, q, w, HI, hn, hq, hf, hd => by
    have hql : q < cs.length := by have := hn.out; omega
    have hm : n ≤ 1048576 := by have := hn.out; have := T.n24; omega
    obtain ⟨x, hx⟩ : ∃ x, cs.getD q cls0 = x := ⟨_, rfl⟩
    have HFD := Lib.hid (fun w HI => cfFind_any s ac af n cc m cf d cs x.p w HI hn hm)
    obtain ⟨gb, rfl, hgt, hgl⟩ := HI.out (by omega)
    have HGT := Lib.hid hgt
    have HAB : Hid (∀ w', BX (w.alloc (Obj.cells #[.string s, .slice (some ⟨gb, 0, none⟩) n cc, .slice af m cf, .int .i64 d] 32)) w' → Aft w (Obj.cells #[.string s, .slice (some ⟨gb, 0, none⟩) n cc, .slice af m cf, .int .i64 d] 32) w') := Lib.hid (fun w' h => h)
    have HIB : Hid (∀ w', BX (w.alloc (Obj.cells #[.string s, .slice (some ⟨gb, 0, none⟩) n cc, .slice af m cf, .int .i64 d] 32)) w' → Hid (InX w' (some ⟨gb, 0, none⟩) n (clsCs cs))) := Lib.hid (fun w' h => Lib.hid (HI.out.below (HAB.out w' h).all.2))
    have hle := lineP_le T (f + 1) q hql
    have HLN : Hid (lineP cs (f + 1) q = match fnd cs x.p with | .none => 2 | .some p => lineP cs f p + 1 + (((kids cs (cs.getD p cls0).i).takeWhile (fun k => k != q)).map (sizeP cs 9)).sum) := Lib.hid (by rw [← hx]; rfl)
    obtain ⟨Z, hZ⟩ : ∃ Z, lineP cs (f + 1) q = Z := ⟨_, rfl⟩
    rw [hZ] at HLN hle ⊢
    have hd2 : ∀ p, fnd cs x.p = Option.some p → p < n ∧ depP cs p ≤ f := fun p hp => by
      rw [← hx] at hp
      have h1 := (fnd_get cs _ p hp).1
      have h2 := dep_some T hql hp
      have := hn.out
      exact ⟨by omega, by omega⟩
    have HQ : Hid (∀ w', BX (w.alloc (Obj.cells #[.string s, .slice (some ⟨gb, 0, none⟩) n cc, .slice af m cf, .int .i64 d] 32)) w' → w'.cell? ⟨w.heap.size, 0, none⟩ = some (.string s) ∧ w'.cell? ⟨w.heap.size, 1, none⟩ = some (.slice (some ⟨gb, 0, none⟩) n cc) ∧ w'.cell? ⟨w.heap.size, 2, none⟩ = some (.slice af m cf) ∧ w'.cell? ⟨w.heap.size, 3, none⟩ = some (.int .i64 d) ∧ w'.cell? ⟨gb, q * 8 + 1, none⟩ = some (.int .i64 x.p) ∧ BX (w.alloc (Obj.cells #[.string s, .slice (some ⟨gb, 0, none⟩) n cc, .slice af m cf, .int .i64 d] 32)) w') := Lib.hid (fun w' h => by
      obtain ⟨e0, e1, e2, e3, _⟩ := (HAB.out w' h).all.1
      obtain ⟨_, a1, _⟩ := (HGT.out.below (HAB.out w' h).all.2 hgl).cls q hql x hx
      exact ⟨e0, e1, e2, e3, a1, h⟩)
    cases hfn : fnd cs x.p with
    | none =>
      have HX : Hid (Z = 2) := Lib.hid (by rw [HLN.out, hfn])
      rw [fndI_none hfn] at HFD
      obtain ⟨xi, xp, xr, xe, xb, xu, xo, xl⟩ := x
      simp only at HFD HQ
      clear hfn hZ hx hle hgt hd2
      go_enter Tryz.func33, Tryz.ntmps33
      go_wp2_with fail
      refine wp_region_held_drew (S := fun w' => w'.cell? ⟨w.heap.size, 0, none⟩ = some (.string s) ∧ w'.cell? ⟨w.heap.size, 1, none⟩ = some (.slice (some ⟨gb, 0, none⟩) n cc) ∧ w'.cell? ⟨w.heap.size, 2, none⟩ = some (.slice af m cf) ∧ w'.cell? ⟨w.heap.size, 3, none⟩ = some (.int .i64 d) ∧ w'.cell? ⟨gb, q * 8 + 1, none⟩ = some (.int .i64 xp) ∧ BX (w.alloc (Obj.cells #[.string s, .slice (some ⟨gb, 0, none⟩) n cc, .slice af m cf, .int .i64 d] 32)) w') (by kernel_rfl) ?_ (fun hHeld => ?_)
      · (try dsimp only)
        (first | (go_split_ands; refine HQ.out _ ?_; repeat' (with_reducible first | exact BX.drew0 _ | exact BX.refl _ | assumption | refine BX.call' (by assumption) ?_ | refine BX.drew ?_)))
      refine held_take (i := 0) (d := 9) (v := ?_) rfl rfl (by kernel_rfl) (by kernel_rfl) (by kernel_rfl) (fun _ _ _ h => h) (by rfl) ?_ (by assumption) ?_
      rotate_left
      · intro w hSw
        (try dsimp only at hSw)
        go_simp
        try with_reducible rfl
      try simp only [Act.put, List.setIfInBounds_toArray, List.set_cons_zero, List.set_cons_succ]
      refine held_take (i := 1) (d := 10) (v := ?_) rfl rfl (by kernel_rfl) (by kernel_rfl) (by kernel_rfl) (fun _ _ _ h => h) (by rfl) ?_ (by assumption) ?_
      rotate_left
      · intro w hSw
        (try dsimp only at hSw)
        go_simp
        try with_reducible rfl
      try simp only [Act.put, List.setIfInBounds_toArray, List.set_cons_zero, List.set_cons_succ]
      refine held_take (i := 2) (d := 11) (v := ?_) rfl rfl (by kernel_rfl) (by kernel_rfl) (by kernel_rfl) (fun _ _ _ h => h) (by rfl) ?_ (by assumption) ?_
      rotate_left
      · intro w hSw
        (try dsimp only at hSw)
        go_simp
        try with_reducible rfl
      try simp only [Act.put, List.setIfInBounds_toArray, List.set_cons_zero, List.set_cons_succ]
      refine held_take (i := 3) (d := 12) (v := ?_) rfl rfl (by kernel_rfl) (by kernel_rfl) (by kernel_rfl) (fun _ _ _ h => h) (by rfl) ?_ (by assumption) ?_
      rotate_left
      · intro w hSw
        (try dsimp only at hSw)
        go_simp
        try with_reducible rfl
      try simp only [Act.put, List.setIfInBounds_toArray, List.set_cons_zero, List.set_cons_succ]
      refine held_take (i := 4) (d := 13) (v := ?_) rfl rfl (by kernel_rfl) (by kernel_rfl) (by kernel_rfl) (fun _ _ _ h => h) (by rfl) ?_ (by assumption) ?_
      rotate_left
      · intro w hSw
        (try dsimp only at hSw)
        go_simp
        try with_reducible rfl
      try simp only [Act.put, List.setIfInBounds_toArray, List.set_cons_zero, List.set_cons_succ]
      refine held_take (i := 5) (d := 14) (v := ?_) rfl rfl (by kernel_rfl) (by kernel_rfl) (by kernel_rfl) (fun _ _ _ h => h) (by rfl) ?_ (by assumption) ?_
      rotate_left
      · intro w hSw
        (try dsimp only at hSw)
        go_simp
        try with_reducible rfl
      try simp only [Act.put, List.setIfInBounds_toArray, List.set_cons_zero, List.set_cons_succ]
      refine held_take (i := 6) (d := 15) (v := ?_) rfl rfl (by kernel_rfl) (by kernel_rfl) (by kernel_rfl) (fun _ _ _ h => h) (by rfl) ?_ (by assumption) ?_
      rotate_left
      · intro w hSw
        (try dsimp only at hSw)
        go_simp
        try with_reducible rfl
      try simp only [Act.put, List.setIfInBounds_toArray, List.set_cons_zero, List.set_cons_succ]
      refine wpAnyH_ready (rs := [7]) (by kernel_rfl) (by simp) ?_
      refine AllReadyH.cons rfl (fun K' hK => ?_) AllReadyH.nil
      go_simp
      (go_split_ands; (with_reducible refine (HFD.out _ (HIB.out _ (by assumption))).mono ?_); rintro e w4 ⟨rfl, b4⟩)
      refine hK.out _ _ ?_ (fun hHeld => ?_)
      · (try dsimp only)
        (first | (go_split_ands; refine HQ.out _ ?_; repeat' (with_reducible first | exact BX.drew0 _ | exact BX.refl _ | assumption | refine BX.call' (by assumption) ?_ | refine BX.drew ?_)))
      clear hK K'
      try simp only [Act.put, List.setIfInBounds_toArray, List.set_cons_zero, List.set_cons_succ]
      refine held_take (i := 8) (d := 5) (v := ?_) rfl rfl (by kernel_rfl) (by kernel_rfl) (by kernel_rfl) (fun _ _ _ h => h) (by rfl) ?_ (by assumption) ?_
      rotate_left
      · intro w hSw
        (try dsimp only at hSw)
        go_simp
        try with_reducible rfl
      try simp only [Act.put, List.setIfInBounds_toArray, List.set_cons_zero, List.set_cons_succ]
      refine wpAnyH_done (by kernel_rfl) ?_ _
      go_split_ands
      go_wp2_with fail
      go_ret
      exact ⟨ret_int (by rw [HX.out]; rfl), (HAB.out _ (by assumption)).all.2⟩
    | some p =>
      have hp := hd2 p hfn
      have hpn := hp.1
      have HX : Hid (Z = lineP cs f p + 1 + (((kids cs (cs.getD p cls0).i).takeWhile (fun k => k != q)).map (sizeP cs 9)).sum) := Lib.hid (by rw [HLN.out, hfn])
      have HRC := Lib.hid (fun w HI => prLine_any s (some ⟨gb, 0, none⟩) af n cc m cf d cs T f p w HI hn hpn (by omega) hp.2)
      have HKD := Lib.hid (fun w HI => cfKids_any s (some ⟨gb, 0, none⟩) af n cc m cf d cs p w HI hn hm hpn)
      have HKM := Lib.hid (fun k (h : k < (kids cs (cs.getD p cls0).i).length) => kids_at_lt cs (cs.getD p cls0).i k h)
      have HSZ : Hid (∀ j ∈ kids cs (cs.getD p cls0).i, j < n ∧ ∀ w, Hid (InX w (some ⟨gb, 0, none⟩) n (clsCs cs)) → Calls Tryz.prog 34 #[.agg #[.string s, .slice (some ⟨gb, 0, none⟩) n cc, .slice af m cf, .int .i64 d], .int .i64 j] w (SaysI w (sizeP cs 9 j))) := Lib.hid (fun j hj => by
        have hj1 := (kids_mem hj).1
        have hjn : j < n := by have := hn.out; omega
        exact ⟨hjn, fun w HI => prSize_any s (some ⟨gb, 0, none⟩) af n cc m cf d cs T 9 j w HI hn hjn (Nat.le_refl _) (by omega)⟩)
      have hKn := kids_len24 T (cs.getD p cls0).i
      rw [fndI_some hfn] at HFD
      have hl2 := lineP_le T f p (by have := hn.out; omega)
      generalize lineP cs f p = lp at HX HRC hl2
      generalize kids cs (cs.getD p cls0).i = K at HKD HX HKM HSZ hKn
      have hlp : lp ≤ 500000000 := by omega
      have hzb : Z ≤ 550000000 := by omega
      have d0 : decide ((p : Int) < 0) = false := not_lt (by omega)
      obtain ⟨xi, xp, xr, xe, xb, xu, xo, xl⟩ := x
      simp only at HFD HQ
      clear hfn hZ hx hle hgt hd2 hl2 hp
      go_enter Tryz.func33, Tryz.ntmps33
      go_wp2_with fail
      refine wp_region_held_drew (S := fun w' => w'.cell? ⟨w.heap.size, 0, none⟩ = some (.string s) ∧ w'.cell? ⟨w.heap.size, 1, none⟩ = some (.slice (some ⟨gb, 0, none⟩) n cc) ∧ w'.cell? ⟨w.heap.size, 2, none⟩ = some (.slice af m cf) ∧ w'.cell? ⟨w.heap.size, 3, none⟩ = some (.int .i64 d) ∧ w'.cell? ⟨gb, q * 8 + 1, none⟩ = some (.int .i64 xp) ∧ BX (w.alloc (Obj.cells #[.string s, .slice (some ⟨gb, 0, none⟩) n cc, .slice af m cf, .int .i64 d] 32)) w') (by kernel_rfl) ?_ (fun hHeld => ?_)
      · (try dsimp only)
        (first | (go_split_ands; refine HQ.out _ ?_; repeat' (with_reducible first | exact BX.drew0 _ | exact BX.refl _ | assumption | refine BX.call' (by assumption) ?_ | refine BX.drew ?_)))
      refine held_take (i := 0) (d := 9) (v := ?_) rfl rfl (by kernel_rfl) (by kernel_rfl) (by kernel_rfl) (fun _ _ _ h => h) (by rfl) ?_ (by assumption) ?_
      rotate_left
      · intro w hSw
        (try dsimp only at hSw)
        go_simp
        try with_reducible rfl
      try simp only [Act.put, List.setIfInBounds_toArray, List.set_cons_zero, List.set_cons_succ]
      refine held_take (i := 1) (d := 10) (v := ?_) rfl rfl (by kernel_rfl) (by kernel_rfl) (by kernel_rfl) (fun _ _ _ h => h) (by rfl) ?_ (by assumption) ?_
      rotate_left
      · intro w hSw
        (try dsimp only at hSw)
        go_simp
        try with_reducible rfl
      try simp only [Act.put, List.setIfInBounds_toArray, List.set_cons_zero, List.set_cons_succ]
      refine held_take (i := 2) (d := 11) (v := ?_) rfl rfl (by kernel_rfl) (by kernel_rfl) (by kernel_rfl) (fun _ _ _ h => h) (by rfl) ?_ (by assumption) ?_
      rotate_left
      · intro w hSw
        (try dsimp only at hSw)
        go_simp
        try with_reducible rfl
      try simp only [Act.put, List.setIfInBounds_toArray, List.set_cons_zero, List.set_cons_succ]
      refine held_take (i := 3) (d := 12) (v := ?_) rfl rfl (by kernel_rfl) (by kernel_rfl) (by kernel_rfl) (fun _ _ _ h => h) (by rfl) ?_ (by assumption) ?_
      rotate_left
      · intro w hSw
        (try dsimp only at hSw)
        go_simp
        try with_reducible rfl
      try simp only [Act.put, List.setIfInBounds_toArray, List.set_cons_zero, List.set_cons_succ]
      refine held_take (i := 4) (d := 13) (v := ?_) rfl rfl (by kernel_rfl) (by kernel_rfl) (by kernel_rfl) (fun _ _ _ h => h) (by rfl) ?_ (by assumption) ?_
      rotate_left
      · intro w hSw
        (try dsimp only at hSw)
        go_simp
        try with_reducible rfl
      try simp only [Act.put, List.setIfInBounds_toArray, List.set_cons_zero, List.set_cons_succ]
      refine held_take (i := 5) (d := 14) (v := ?_) rfl rfl (by kernel_rfl) (by kernel_rfl) (by kernel_rfl) (fun _ _ _ h => h) (by rfl) ?_ (by assumption) ?_
      rotate_left
      · intro w hSw
        (try dsimp only at hSw)
        go_simp
        try with_reducible rfl
      try simp only [Act.put, List.setIfInBounds_toArray, List.set_cons_zero, List.set_cons_succ]
      refine held_take (i := 6) (d := 15) (v := ?_) rfl rfl (by kernel_rfl) (by kernel_rfl) (by kernel_rfl) (fun _ _ _ h => h) (by rfl) ?_ (by assumption) ?_
      rotate_left
      · intro w hSw
        (try dsimp only at hSw)
        go_simp
        try with_reducible rfl
      try simp only [Act.put, List.setIfInBounds_toArray, List.set_cons_zero, List.set_cons_succ]
      refine wpAnyH_ready (rs := [7]) (by kernel_rfl) (by simp) ?_
      refine AllReadyH.cons rfl (fun K' hK => ?_) AllReadyH.nil
      go_simp
      (go_split_ands; (with_reducible refine (HFD.out _ (HIB.out _ (by assumption))).mono ?_); rintro e w4 ⟨rfl, b4⟩)
      refine hK.out _ _ ?_ (fun hHeld => ?_)
      · (try dsimp only)
        (first | (go_split_ands; refine HQ.out _ ?_; repeat' (with_reducible first | exact BX.drew0 _ | exact BX.refl _ | assumption | refine BX.call' (by assumption) ?_ | refine BX.drew ?_)))
      clear hK K'
      try simp only [Act.put, List.setIfInBounds_toArray, List.set_cons_zero, List.set_cons_succ]
      refine held_take (i := 8) (d := 5) (v := ?_) rfl rfl (by kernel_rfl) (by kernel_rfl) (by kernel_rfl) (fun _ _ _ h => h) (by rfl) ?_ (by assumption) ?_
      rotate_left
      · intro w hSw
        (try dsimp only at hSw)
        go_simp
        try with_reducible rfl
      try simp only [Act.put, List.setIfInBounds_toArray, List.set_cons_zero, List.set_cons_succ]
      refine wpAnyH_done (by kernel_rfl) ?_ _
      go_split_ands
      have A4 := Lib.hid (HAB.out w4 (by assumption))
      go_wp2_with (go_at_call 33; refine (HRC.out _ (HIB.out _ A4.out)).mono ?_; rintro e w1 ⟨rfl, b1⟩; have A1 := Lib.hid (A4.out.on b1); obtain ⟨c0, c1, c2, c3, _⟩ := A1.out.all.1; clear b1; refine Hid.out ?_)
      refine Lib.hid ?_
      go_wp2_with (go_at_call 60; refine (HKD.out _ (HIB.out _ A1.out)).mono ?_; rintro e w2 ⟨v, rfl, o2, b2⟩; have A2 := Lib.hid (A1.out.on b2); obtain ⟨ad, cK, rfl, iK⟩ := own_in o2; have HIK := Lib.hid iK; clear b2 o2 iK)
      go_loopw [6, 27] (fun a i wr => (∃ (k z : Nat), k ≤ K.length ∧ i = .int .i64 k ∧ a = .int .i64 z ∧ Hid (z + (((K.drop k).takeWhile (fun j => j != q)).map (sizeP cs 9)).sum = Z)) ∧ Aft w (Obj.cells #[.string s, .slice (some ⟨gb, 0, none⟩) n cc, .slice af m cf, .int .i64 d] 32) wr ∧ Below w2.heap.size w2 wr) (fun _ i _ => K.length - (intOf i).toNat)
      case atStart => exact ⟨⟨0, lp + 1, Nat.zero_le _, rfl, by go_num, by rw [List.drop_zero]; exact Lib.hid HX.out.symm⟩, A2.out, Below.refl _ _⟩
      case round =>
        obtain ⟨⟨k, z, hk, rfl, rfl, HP⟩, hb, h2⟩ := hrel
        have HB := Lib.hid hb
        have H2 := Lib.hid h2
        have hIKr := HIK.out.below h2
        clear h2
        by_cases hlt : k < K.length
        · obtain ⟨gk, rfl, hkt, hkg⟩ := hIKr (by omega)
          obtain ⟨j, hj⟩ : ∃ j, K.getD k 0 = j := ⟨_, rfl⟩
          have e0 := hkt.nat k hlt j hj
          have hjm := HKM.out k hlt
          rw [hj] at hjm
          have HSJ := Lib.hid (HSZ.out j hjm).2
          have hjn := (HSZ.out j hjm).1
          by_cases hjq : j = q
          · have HE : Hid (z = Z) := Lib.hid (by have := HP.out; rw [take_drop_end q (sizeP cs 9) K k hlt (by rw [hj, hjq])] at this; omega)
            have dq : ((j : Int) == (q : Int)) = true := by simp [hjq]
            clear hkt hj hjm hb hjq HSJ
            go_wp2_with fail
            go_ret
            exact ⟨ret_int (by rw [HE.out]), HB.out.all.2⟩
          · have HE := Lib.hid (take_drop_go q (sizeP cs 9) K k hlt (by rw [hj]; exact hjq))
            rw [hj] at HE
            generalize sizeP cs 9 j = zj at HSJ HE
            have HX2 : Hid (z + zj + (((K.drop (k + 1)).takeWhile (fun j => j != q)).map (sizeP cs 9)).sum = Z) := Lib.hid (by have := HP.out; have := HE.out; omega)
            have hzz : z + zj ≤ 550000000 := by have := HX2.out; omega
            have dq : ((j : Int) == (q : Int)) = false := by simp; omega
            obtain ⟨q0, q1, q2, q3, _⟩ := hb.all.1
            have HIr := HIB.out _ hb
            clear hkt hj hjm hb hjq
            go_wp2_with (go_at_call 34; refine (HSJ.out _ HIr).mono ?_; rintro e w3 ⟨rfl, b3⟩; have B3 := Lib.hid b3; clear b3)
            go_roundw
            case rel => exact ⟨⟨k + 1, z + zj, by omega, by go_num, by go_num, HX2⟩, HB.out.on B3.out, H2.out.trans (B3.out.mono H2.out.size)⟩
            case measure => simp [intOf]; omega
        · have HX2 : Hid (z = Z) := Lib.hid (by have := HP.out; rw [List.drop_eq_nil_of_le (by omega)] at this; simpa using this)
          clear hb
          go_wp2_with fail
          go_ret
          exact ⟨ret_int (by rw [HX2.out]), HB.out.all.2⟩
end Go.Proofs.YtkpocljlmbihcaaGreatDoor

/- Canonical texts, the program's: the children of a class; the text of all lines (written by tools/gen_prw.py). -/
namespace Go.Proofs.YtkpocljlmbihcaaGreatDoor
set_option maxRecDepth 100000
open Go.RowKit
set_option linter.unusedVariables false
set_option linter.unusedSimpArgs false

/-- what stays in its place while the printer writes -/
def Env (g : Nat) (gb : Nat) (cs : List Cls) (U : World → Prop) (w : World) : Prop := ∀ w', Below g w w' → AtC w' gb (clsCs cs) ∧ U w'
theorem Env.on {g gb : Nat} {cs : List Cls} {U : World → Prop} {w w1 : World} (h : Env g gb cs U w) (b : Below g w w1) : Env g gb cs U w1 := fun w' b' => h w' (b.trans b')
theorem Env.now {g gb : Nat} {cs : List Cls} {U : World → Prop} {w : World} (h : Env g gb cs U w) : AtC w gb (clsCs cs) := (h w (Below.refl _ _)).1
theorem Env.tab {g gb : Nat} {cs : List Cls} {U : World → Prop} {w : World} (h : Env g gb cs U w) : U w := (h w (Below.refl _ _)).2
/-- what a printing method says -/
def SaysPr (w : World) (g : Nat) (v0 v1 v2 v3 : Value) (I : List ByteArray → List Nat → (Nat → Nat × Nat) → Prop) (e : Ending) (w' : World) : Prop :=
  e = .returned (.tuple #[]) ∧ (∃ L W Sp lv wv, I L W Sp ∧ PrS w' g v0 v1 v2 v3 lv wv L W Sp) ∧ Below g w w'
theorem catS_join : ∀ l : List ByteArray, (⟨(Lib.join (l.map (·.data.toList)) (⟨#[]⟩ : ByteArray).data.toList).toArray⟩ : ByteArray) = catS l
  | [] => by apply bytes_exP; simp [Lib.join, List.intercalate, List.intersperse, catS]
  | [a] => by apply bytes_exP; simp [Lib.join, List.intercalate, List.intersperse, catS]
  | a :: b :: r => by
    have ih := catS_join (b :: r)
    rw [catS_cons, ← ih]
    apply bytes_exP
    simp [Lib.join, List.intercalate, List.intersperse, ByteArray.data_append]
set_option maxHeartbeats 1600000 in
theorem text_any (g B : Nat) (lv : Value) (L : List ByteArray) (w : World) (c4 : w.cell? ⟨g, 4, none⟩ = some lv) (HO : Hid (w.ownsRow B 9 1 lv L.length (sv L))) (hL : L.length ≤ 3000000) (hz : (catS L).size ≤ 100000000000000) :
    Calls Tryz.prog 29 #[.pointer (some ⟨g, 0, none⟩)] w (SaysV w (.string (catS L))) := by
  have HJ : Hid (Calls Tryz.prog 56 #[lv, .string ⟨#[]⟩] w (SaysV w (.string (catS L)))) := Lib.hid (by
    have hE := catS_join L
    rcases HO.out.2 with ⟨hv, hn⟩ | ⟨k, cap, cur, hv, hk1, hk2, hk3, _⟩
    · rw [hv, List.eq_nil_of_length_eq_zero hn]
      refine (Tryz.strings_Join_none _ _ _ _).mono ?_
      rintro e w' ⟨rfl, rfl⟩
      exact ⟨rfl, Below.refl _ _⟩
    · rw [hv]
      have hcell : ∀ (j : Nat) x, L[j]? = some x → w.cell? ⟨k, 0 + j, none⟩ = some (.string x) := fun j x hj => by
        have hjl := (List.getElem?_eq_some_iff.1 hj).1
        have ho := HO.out
        rw [hv] at ho
        rw [Nat.zero_add, World.ownsRow.cellAt ho j (by omega)]
        simp [sv, hj]
      have hln : (Lib.join (L.map (·.data.toList)) (⟨#[]⟩ : ByteArray).data.toList).length = (catS L).size := by
        rw [← hE]; exact (List.size_toArray).symm
      refine (Tryz.strings_Join k 0 cap L ⟨#[]⟩ w hcell (World.ownsRow.lt HO.out k (by rw [hv]; rfl)).2 (by omega) (by omega) (by omega)).mono ?_
      rintro e w' ⟨rfl, b⟩
      exact ⟨by rw [hE], b⟩)
  obtain ⟨al, cl, rfl, _⟩ := own_in HO.out
  generalize catS L = R at HJ ⊢
  go_enter Tryz.func29, Tryz.ntmps29
  go_wp2_with (go_at_call 56; refine (HJ.out).mono ?_; rintro e w5 ⟨rfl, b⟩; have B := Lib.hid b; clear b)
  go_ret
  exact ⟨rfl, B.out⟩
def EcRelP (w : World) (g : Nat) (v0 v1 v2 v3 : Value) (n : Nat) (I : Nat → List ByteArray → List Nat → (Nat → Nat × Nat) → Prop) (i : Value) (wr : World) : Prop :=
  ∃ (k : Nat) (L : List ByteArray) (W : List Nat) (Sp : Nat → Nat × Nat) (lv wv : Value), k ≤ n ∧ i = .int .i64 k ∧ I k L W Sp ∧ PrS wr g v0 v1 v2 v3 lv wv L W Sp ∧ Below g w wr
set_option maxHeartbeats 6400000 in
theorem eachP_any (g gb n cc : Nat) (v0 v2 v3 : Value) (cs : List Cls) (U : World → Prop) (pid lev : Int) (I : Nat → List ByteArray → List Nat → (Nat → Nat × Nat) → Prop) (hn : Hid (cs.length = n)) (hm : n ≤ 1048576)
    (HC : Hid (∀ k, k < n → (cs.getD k cls0).p = pid → ∀ L W Sp w lv wv, I k L W Sp → PrS w g v0 (.slice (some ⟨gb, 0, none⟩) n cc) v2 v3 lv wv L W Sp → Env g gb cs U w → Calls Tryz.prog 82 #[.pointer (some ⟨g, 0, none⟩), .int .i64 (k : Int), .int .i64 lev] w (SaysPr w g v0 (.slice (some ⟨gb, 0, none⟩) n cc) v2 v3 (I (k + 1)))))
    (HN : Hid (∀ k, k < n → (cs.getD k cls0).p ≠ pid → ∀ L W Sp, I k L W Sp → I (k + 1) L W Sp))
    (L : List ByteArray) (W : List Nat) (Sp : Nat → Nat × Nat) (lv wv : Value) (w : World) (H0 : Hid (I 0 L W Sp)) (HP : Hid (PrS w g v0 (.slice (some ⟨gb, 0, none⟩) n cc) v2 v3 lv wv L W Sp)) (HE : Hid (Env g gb cs U w)) :
    Calls Tryz.prog 81 #[.pointer (some ⟨g, 0, none⟩), .int .i64 pid, .int .i64 lev, .func (Fn.func 82) #[.pointer (some ⟨g, 0, none⟩)] #[]] w (SaysPr w g v0 (.slice (some ⟨gb, 0, none⟩) n cc) v2 v3 (I n)) := by
  obtain ⟨c0, c1, c2, c3, c4, c5, fz⟩ := HP.out.1.cells
  go_enter Tryz.func81, Tryz.ntmps81
  go_wp2_with fail
  go_loopw [16] (fun i wr => EcRelP w g v0 (.slice (some ⟨gb, 0, none⟩) n cc) v2 v3 n I i wr) (fun i _ => n - (intOf i).toNat)
  case atStart => exact ⟨0, L, W, Sp, lv, wv, Nat.zero_le _, rfl, H0.out, HP.out, Below.refl _ _⟩
  case round =>
    obtain ⟨k, L1, W1, Sp1, lv1, wv1, hk, rfl, hI, hPr, hb⟩ := hrel
    have HI := Lib.hid hI
    have HPr := Lib.hid hPr
    have HB := Lib.hid hb
    clear hI
    by_cases hlt : k < n
    · have hl1 : k < cs.length := by rw [hn.out]; exact hlt
      obtain ⟨x, hx⟩ : ∃ x, cs.getD k cls0 = x := ⟨_, rfl⟩
      obtain ⟨a0, a1, a2, a3, a4, a5, a6, a7⟩ := ((HE.out.on hb).now).cls k hl1 x hx
      have HCk := Lib.hid (HC.out k hlt)
      have HNk := Lib.hid (HN.out k hlt)
      rw [hx] at HCk HNk
      by_cases he : x.p = pid
      · have HCC := Lib.hid (HCk.out he)
        obtain ⟨xi, xp, xr, xe, xb, xu, xo, xl⟩ := x
        simp only at a0 a1 a2 a3 a4 a5 a6 a7 he
        have dq : (xp == pid) = true := by simpa using he
        have BA := one_new2 wr (Obj.cells #[.int .i64 xi, .int .i64 xp, .int .i64 xr, .int .i64 xe, .int .i64 xb, .int .i64 xu, .int .i64 xo, .int .i64 xl] 77)
        have PA := Lib.hid (HPr.out.below BA)
        have BG := Lib.hid (HB.out.trans (BA.mono (Nat.le_of_lt HPr.out.lt)))
        have EA := Lib.hid (HE.out.on BG.out)
        clear hx hl1 he hPr hb BA
        go_wp2_with (go_at_call 82; refine (HCC.out _ _ _ _ _ _ HI.out PA.out EA.out).mono ?_; rintro e w1 ⟨rfl, ⟨L2, W2, Sp2, lv2, wv2, hI2, hP2⟩, b⟩; have HI2 := Lib.hid hI2; have HP2 := Lib.hid hP2; have B2 := Lib.hid (BG.out.trans b); clear hI2 hP2 b)
        go_roundw
        case rel => exact ⟨k + 1, L2, W2, Sp2, lv2, wv2, by omega, by go_num, HI2.out, HP2.out, B2.out⟩
        case measure => simp [intOf]; omega
      · have HI2 := Lib.hid (HNk.out he _ _ _ HI.out)
        obtain ⟨xi, xp, xr, xe, xb, xu, xo, xl⟩ := x
        simp only at a0 a1 a2 a3 a4 a5 a6 a7 he
        have dq : (xp == pid) = false := by simpa using he
        have BA := one_new2 wr (Obj.cells #[.int .i64 xi, .int .i64 xp, .int .i64 xr, .int .i64 xe, .int .i64 xb, .int .i64 xu, .int .i64 xo, .int .i64 xl] 77)
        have PA := Lib.hid (HPr.out.below BA)
        have BG := Lib.hid (HB.out.trans (BA.mono (Nat.le_of_lt HPr.out.lt)))
        clear hx hl1 he hPr hb BA
        go_wp2_with fail
        go_roundw
        case rel => exact ⟨k + 1, L1, W1, Sp1, lv1, wv1, by omega, by go_num, HI2.out, PA.out, BG.out⟩
        case measure => simp [intOf]; omega
    · have hkn : k = n := by omega
      subst hkn
      clear hPr hb
      go_wp2_with fail
      exact bodyPost_ret (v := .tuple #[]) (by simp [results, Tryz.results81, go_sem]) rfl ⟨rfl, ⟨L1, W1, Sp1, lv1, wv1, HI.out, HPr.out⟩, HB.out⟩
end Go.Proofs.YtkpocljlmbihcaaGreatDoor
