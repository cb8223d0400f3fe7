import Derived.Test.YtkpocljlmbihcaaDoorPkp
import Derived.Test.YtkpocljlmbihcaaDoorPkl
import Derived.Test.YtkpocljlmbihcaaDoorPkn
import Derived.Test.YtkpocljlmbihcaaDoorPkk
import Derived.Deep.CutRange
/- The model's check of a whole configuration. -/
namespace Go.Proofs.YtkpocljlmbihcaaDoor
set_option maxRecDepth 100000
open Go.RowKit
set_option linter.unusedVariables false

set_option maxHeartbeats 6400000 in
theorem cfGood_any (v : Value) (c : Cfg) (w : World) (HV : Hid (CfgV w v c)) (HM : Hid (CfgM c)) :
    Calls Tryd.prog 32 #[v] w (SaysB w (goodC c)) := by
  obtain ⟨ac, cc, af, cf, rfl, ic, if_⟩ := HV.out
  have HG : Hid (goodC c = (nmG c.s && ((decide (1 ≤ c.cs.length) && decide (c.cs.length ≤ 24)) && (treeG c.cs && (fltG c.cs c.fs && dfG c.cs c.d))))) := Lib.hid rfl
  obtain ⟨B, hB⟩ : ∃ B, goodC c = B := ⟨_, rfl⟩
  rw [hB] at HG ⊢
  clear hB HV
  obtain ⟨s, cs, fs, d⟩ := c
  obtain ⟨n, hn⟩ : ∃ n, cs.length = n := ⟨_, rfl⟩
  obtain ⟨m, hm⟩ : ∃ m, fs.length = m := ⟨_, rfl⟩
  have HNN := Lib.hid hn
  have HMM := Lib.hid hm
  have hM := HM.out
  unfold CfgM at hM
  simp only [hn, hm] at ic if_ hM HG ⊢
  obtain ⟨q0, q1, q2⟩ := hM
  have HI := Lib.hid ic
  have HJ := Lib.hid if_
  clear hn hm ic if_ HM
  have A0 := Lib.hid (Aft.refl w (Obj.cells #[.string s, .slice ac n cc, .slice af m cf, .int .i64 d] 44))
  have HN := Lib.hid (fun w => cfName_any s w q0)
  have HIN := Lib.hid (fun w => l1In_any (n : Int) 1 24 w)
  cases h1 : nmG s
  · have HX : Hid (B = false) := Lib.hid (by rw [HG.out, h1]; rfl)
    rw [h1] at HN
    clear h1
    go_enter Tryd.func32, Tryd.ntmps32
    go_wp2_with (go_at_call 53; refine (HN.out _).mono ?_; rintro e w1 ⟨rfl, b1⟩; have A1 := Lib.hid (A0.out.on b1);  clear b1)
    go_ret
    exact ⟨ret_bool HX.out.symm, A1.out.all.2⟩
  rw [h1] at HN
  have e2 : inB (n : Int) 1 24 = (decide (1 ≤ n) && decide (n ≤ 24)) := by
    unfold inB
    congr 1
    · apply Bool.eq_iff_iff.2; simp; omega
    · apply Bool.eq_iff_iff.2; simp; omega
  rw [e2] at HIN
  clear e2
  cases h2 : (decide (1 ≤ n) && decide (n ≤ 24))
  · have HX : Hid (B = false) := Lib.hid (by rw [HG.out, h1, h2]; rfl)
    rw [h2] at HIN
    clear h1 h2
    go_enter Tryd.func32, Tryd.ntmps32
    go_wp2_with (go_at_call 53; refine (HN.out _).mono ?_; rintro e w1 ⟨rfl, b1⟩; have A1 := Lib.hid (A0.out.on b1); obtain ⟨c0, c1, c2, c3, _⟩ := A1.out.all.1; clear b1)
    go_wp2_with (go_at_call 26; refine (HIN.out _).mono ?_; rintro e w' ⟨rfl, rfl⟩)
    go_ret
    exact ⟨ret_bool HX.out.symm, A1.out.all.2⟩
  have h2' := h2
  rw [h2] at HIN
  simp only [Bool.and_eq_true, decide_eq_true_eq] at h2'
  have HT := Lib.hid (fun w HI => cfTree_any s ac af n cc m cf d cs w HI HNN q1 h2'.2 h2'.1)
  have HF := Lib.hid (fun w HI HJ => cfFilters_any s ac af n cc m cf d cs fs w HI HNN q1 HJ HMM q2)
  have HTG := Lib.hid (fun w HI => cfTarget_any s ac af n cc m cf d cs d w HI HNN q1)
  cases h3 : treeG cs
  · have HX : Hid (B = false) := Lib.hid (by rw [HG.out, h1, h2, h3]; rfl)
    rw [h3] at HT
    clear h1 h2 h2' h3
    go_enter Tryd.func32, Tryd.ntmps32
    go_wp2_with (go_at_call 53; refine (HN.out _).mono ?_; rintro e w1 ⟨rfl, b1⟩; have A1 := Lib.hid (A0.out.on b1); obtain ⟨c0, c1, c2, c3, _⟩ := A1.out.all.1; clear b1)
    go_wp2_with (go_at_call 26; refine (HIN.out _).mono ?_; rintro e w' ⟨rfl, rfl⟩)
    go_wp2_with (go_at_call 54; refine (HT.out _ (Lib.hid (HI.out.below A1.out.all.2))).mono ?_; rintro e w2 ⟨rfl, b2⟩; have A2 := Lib.hid (A1.out.on b2);  clear b2)
    go_ret
    exact ⟨ret_bool HX.out.symm, A2.out.all.2⟩
  rw [h3] at HT
  cases h4 : fltG cs fs
  · have HX : Hid (B = false) := Lib.hid (by rw [HG.out, h1, h2, h3, h4]; rfl)
    rw [h4] at HF
    clear h1 h2 h2' h3 h4
    go_enter Tryd.func32, Tryd.ntmps32
    go_wp2_with (go_at_call 53; refine (HN.out _).mono ?_; rintro e w1 ⟨rfl, b1⟩; have A1 := Lib.hid (A0.out.on b1); obtain ⟨c0, c1, c2, c3, _⟩ := A1.out.all.1; clear b1)
    go_wp2_with (go_at_call 26; refine (HIN.out _).mono ?_; rintro e w' ⟨rfl, rfl⟩)
    go_wp2_with (go_at_call 54; refine (HT.out _ (Lib.hid (HI.out.below A1.out.all.2))).mono ?_; rintro e w2 ⟨rfl, b2⟩; have A2 := Lib.hid (A1.out.on b2); obtain ⟨c0, c1, c2, c3, _⟩ := A2.out.all.1; clear b2)
    go_wp2_with (go_at_call 55; refine (HF.out _ (Lib.hid (HI.out.below A2.out.all.2)) (Lib.hid (HJ.out.below A2.out.all.2))).mono ?_; rintro e w3 ⟨rfl, b3⟩; have A3 := Lib.hid (A2.out.on b3);  clear b3)
    go_ret
    exact ⟨ret_bool HX.out.symm, A3.out.all.2⟩
  rw [h4] at HF
  have HD : Hid (B = dfG cs d) := Lib.hid (by rw [HG.out, h1, h2, h3, h4]; rfl)
  clear h1 h2 h2' h3 h4
  by_cases hd : d = 0
  · have d0 : (d == 0) = true := by simpa using hd
    have HX : Hid (B = true) := Lib.hid (by rw [HD.out]; unfold dfG; rw [d0]; rfl)
    clear hd
    go_enter Tryd.func32, Tryd.ntmps32
    go_wp2_with (go_at_call 53; refine (HN.out _).mono ?_; rintro e w1 ⟨rfl, b1⟩; have A1 := Lib.hid (A0.out.on b1); obtain ⟨c0, c1, c2, c3, _⟩ := A1.out.all.1; clear b1)
    go_wp2_with (go_at_call 26; refine (HIN.out _).mono ?_; rintro e w' ⟨rfl, rfl⟩)
    go_wp2_with (go_at_call 54; refine (HT.out _ (Lib.hid (HI.out.below A1.out.all.2))).mono ?_; rintro e w2 ⟨rfl, b2⟩; have A2 := Lib.hid (A1.out.on b2); obtain ⟨c0, c1, c2, c3, _⟩ := A2.out.all.1; clear b2)
    go_wp2_with (go_at_call 55; refine (HF.out _ (Lib.hid (HI.out.below A2.out.all.2)) (Lib.hid (HJ.out.below A2.out.all.2))).mono ?_; rintro e w3 ⟨rfl, b3⟩; have A3 := Lib.hid (A2.out.on b3); obtain ⟨c0, c1, c2, c3, _⟩ := A3.out.all.1; clear b3)
    go_ret
    exact ⟨ret_bool HX.out.symm, A3.out.all.2⟩
  · have d0 : (d == 0) = false := by simpa using hd
    have HX : Hid (B = leafB cs d) := Lib.hid (by rw [HD.out]; unfold dfG; rw [d0]; rfl)
    generalize leafB cs d = q at HX HTG
    clear hd HD
    go_enter Tryd.func32, Tryd.ntmps32
    go_wp2_with (go_at_call 53; refine (HN.out _).mono ?_; rintro e w1 ⟨rfl, b1⟩; have A1 := Lib.hid (A0.out.on b1); obtain ⟨c0, c1, c2, c3, _⟩ := A1.out.all.1; clear b1)
    go_wp2_with (go_at_call 26; refine (HIN.out _).mono ?_; rintro e w' ⟨rfl, rfl⟩)
    go_wp2_with (go_at_call 54; refine (HT.out _ (Lib.hid (HI.out.below A1.out.all.2))).mono ?_; rintro e w2 ⟨rfl, b2⟩; have A2 := Lib.hid (A1.out.on b2); obtain ⟨c0, c1, c2, c3, _⟩ := A2.out.all.1; clear b2)
    go_wp2_with (go_at_call 55; refine (HF.out _ (Lib.hid (HI.out.below A2.out.all.2)) (Lib.hid (HJ.out.below A2.out.all.2))).mono ?_; rintro e w3 ⟨rfl, b3⟩; have A3 := Lib.hid (A2.out.on b3); obtain ⟨c0, c1, c2, c3, _⟩ := A3.out.all.1; clear b3)
    go_wp2_with (go_at_call 56; refine (HTG.out _ (Lib.hid (HI.out.below A3.out.all.2))).mono ?_; rintro e w4 ⟨rfl, b4⟩; have A4 := Lib.hid (A3.out.on b4); clear b4)
    go_ret
    exact ⟨ret_bool HX.out.symm, A4.out.all.2⟩
end Go.Proofs.YtkpocljlmbihcaaDoor

/- Chapter 4's functions that return numbers: classes found, tops, spare rates. -/
namespace Go.Proofs.YtkpocljlmbihcaaDoor
set_option maxRecDepth 100000
open Go.RowKit
set_option linter.unusedVariables false

def resFindClass1 (c : Cfg) (id : Int) : Int := if goodC c then (match fnd c.cs id with | .none => 0 | .some k => (k : Int)) else 0
def resFindClass2 (c : Cfg) (id : Int) : Bool := goodC c && (fnd c.cs id).isSome
theorem fc_bad {c : Cfg} (id : Int) (h : goodC c = false) : resFindClass1 c id = 0 ∧ resFindClass2 c id = false := by unfold resFindClass1 resFindClass2; rw [h]; exact ⟨rfl, rfl⟩
theorem fc_none {c : Cfg} (id : Int) (h : goodC c = true) (hf : fnd c.cs id = Option.none) : resFindClass1 c id = 0 ∧ resFindClass2 c id = false := by unfold resFindClass1 resFindClass2; rw [h, hf]; exact ⟨rfl, rfl⟩
theorem fc_some {c : Cfg} (id : Int) {k : Nat} (h : goodC c = true) (hf : fnd c.cs id = Option.some k) : resFindClass1 c id = k ∧ resFindClass2 c id = true := by unfold resFindClass1 resFindClass2; rw [h, hf]; exact ⟨rfl, rfl⟩
/-! Tops. -/
def topF : List Cls → Nat
  | [] => 0
  | x :: r => if x.p = 0 then 0 else topF r + 1
theorem topF_not : ∀ (cs : List Cls) (j : Nat), j < topF cs → (cs.getD j cls0).p ≠ 0
  | [], j, h => by unfold topF at h; omega
  | x :: r, j, h => by
    unfold topF at h
    by_cases hx : x.p = 0
    · rw [if_pos hx] at h; omega
    · rw [if_neg hx] at h
      match j, h with
      | 0, _ => simpa using hx
      | j + 1, h => simpa using topF_not r j (by omega)
theorem topF_at : ∀ (cs : List Cls), 1 ≤ cT cs → topF cs < cs.length ∧ (cs.getD (topF cs) cls0).p = 0
  | [], h => by simp [cT] at h
  | x :: r, h => by
    by_cases hx : x.p = 0
    · have e : topF (x :: r) = 0 := by conv => lhs; unfold topF; rw [if_pos hx]
      rw [e]; simp [hx]
    · have e : topF (x :: r) = topF r + 1 := by conv => lhs; unfold topF; rw [if_neg hx]
      have := topF_at r (by simpa [cT, hx] using h)
      rw [e]; simpa using this
def resTopOf1 (c : Cfg) : Int := if goodC c then (topF c.cs : Int) else 0
def resTopOf2 (c : Cfg) : Bool := goodC c
def TfRel (w : World) (o : Obj) (T : Nat) (i : Value) (wr : World) : Prop := ∃ k : Nat, k ≤ T ∧ i = .int .i64 k ∧ Aft w o wr
set_option maxHeartbeats 3200000 in
theorem cfTop_any (s : ByteArray) (ac af : Option Addr) (n cc m cf : Nat) (d : Int) (cs : List Cls) (w : World) (HI : Hid (InX w ac n (clsCs cs))) (hn : Hid (cs.length = n)) (hm : n ≤ 1048576) (h1 : 1 ≤ cT cs) :
    Calls Tryd.prog 34 #[(.agg #[.string s, .slice ac n cc, .slice af m cf, .int .i64 d])] w (SaysI w (topF cs)) := by
  have ht := topF_at cs h1
  have HNT := Lib.hid (topF_not cs)
  have htl := ht.1
  have HT0 := Lib.hid ht.2
  obtain ⟨T, hT⟩ : ∃ T, topF cs = T := ⟨_, rfl⟩
  rw [hT] at HNT htl HT0 ⊢
  obtain ⟨g, rfl, hgt, hg⟩ := HI.out (by have := hn.out; omega)
  have HG := Lib.hid hgt
  have htn : T < n := by have := hn.out; omega
  clear ht hT hgt h1
  go_enter Tryd.func34, Tryd.ntmps34
  go_wp2_with fail
  go_loopw [3] (fun i wr => TfRel w (Obj.cells #[.string s, .slice (some ⟨g, 0, none⟩) n cc, .slice af m cf, .int .i64 d] 44) T i wr) (fun i _ => T - (intOf i).toNat)
  case atStart => exact ⟨0, Nat.zero_le _, rfl, Aft.refl _ _⟩
  case round =>
    obtain ⟨k, hk, rfl, hb⟩ := hrel
    have HB := Lib.hid hb
    obtain ⟨x, hx⟩ : ∃ x, cs.getD k cls0 = x := ⟨_, rfl⟩
    obtain ⟨_, a1, _⟩ := (HG.out.below hb.all.2 hg).cls k (by omega) x hx
    obtain ⟨e0, e1, e2, e3, _⟩ := hb.all.1
    by_cases hlt : k < T
    · have hz : x.p ≠ 0 := by rw [← hx]; exact HNT.out k hlt
      have dz : (x.p == 0) = false := by simpa using hz
      have dzn : (x.p != 0) = true := by simp [hz]
      obtain ⟨xi, xp, xr, xe, xb, xu, xo, xl⟩ := x
      simp only at a1 dz dzn
      clear hb hx hz
      go_wp2_with fail
      go_roundw
      case rel => exact ⟨k + 1, by omega, by go_num, HB.out⟩
      case measure => simp [intOf]; omega
    · have hkT : k = T := by omega
      subst hkT
      have hz : x.p = 0 := by rw [← hx]; exact HT0.out
      have dz : (x.p == 0) = true := by simpa using hz
      have dzn : (x.p != 0) = false := by simp [hz]
      obtain ⟨xi, xp, xr, xe, xb, xu, xo, xl⟩ := x
      simp only at a1 dz dzn
      clear hb hx hz
      go_wp2_with fail
      go_ret
      exact ⟨rfl, HB.out.all.2⟩
def IxRel (w : World) (T : Nat) (i : Value) (wr : World) : Prop := ∃ k : Nat, k ≤ T ∧ i = .int .i64 k ∧ Below w.heap.size w wr
end Go.Proofs.YtkpocljlmbihcaaDoor

/- Chapter 4's functions over a class's index: whether there is one, spare rates. -/
namespace Go.Proofs.YtkpocljlmbihcaaDoor
set_option maxRecDepth 100000
open Go.RowKit
set_option linter.unusedVariables false

def hasI (c : Cfg) (a : Int) : Bool := goodC c && (decide (0 ≤ a) && decide (a < (c.cs.length : Int)))
theorem has_iff {c : Cfg} {a : Int} (h : hasI c a = true) : goodC c = true ∧ ∃ q : Nat, a = (q : Int) ∧ q < c.cs.length := by
  unfold hasI at h
  simp only [Bool.and_eq_true, decide_eq_true_eq] at h
  exact ⟨h.1, a.toNat, by omega, by omega⟩
theorem in_idx (a : Int) (n : Nat) (h : 1 ≤ n) : inB a 0 ((n : Int) - 1) = (decide (0 ≤ a) && decide (a < (n : Int))) := by
  unfold inB
  congr 1
  apply Bool.eq_iff_iff.2
  rw [decide_eq_true_eq, decide_eq_true_eq]
  omega
def resSpareRate1 (c : Cfg) (a : Int) : Int := if hasI c a then spare c.cs (c.cs.getD a.toNat cls0) else 0
def resSpareRate2 (c : Cfg) (a : Int) : Bool := hasI c a
theorem sr_bad {c : Cfg} {a : Int} (h : hasI c a = false) : resSpareRate1 c a = 0 ∧ resSpareRate2 c a = false := by unfold resSpareRate1 resSpareRate2; rw [h]; exact ⟨rfl, rfl⟩
theorem sr_good {c : Cfg} {q : Nat} (h : hasI c (q : Int) = true) : resSpareRate1 c q = spare c.cs (c.cs.getD q cls0) ∧ resSpareRate2 c q = true := by unfold resSpareRate1 resSpareRate2; rw [h]; exact ⟨rfl, rfl⟩
end Go.Proofs.YtkpocljlmbihcaaDoor

/- Canonical texts, the model's: indents, sizes and lines of parts. -/
namespace Go.Proofs.YtkpocljlmbihcaaDoor
set_option maxRecDepth 100000
open Go.RowKit
set_option linter.unusedVariables false
set_option linter.unusedSimpArgs false

def InRel (l : Nat) (a s : Value) : Prop := ∃ k r : Nat, k + r = l ∧ a = .int .i64 (r : Int) ∧ s = .string (indS k)
set_option maxHeartbeats 1600000 in
theorem prIndent_any (l : Nat) (hl : l ≤ 100) (w : World) : Calls Tryd.prog 35 #[.int .i64 (l : Int)] w fun e w' => e = .returned (.string (indS l)) ∧ w = w' := by
  go_enter Tryd.func35, Tryd.ntmps35
  go_wp2_with fail
  go_loop [0, 3] (fun a s => InRel l a s) (fun a s => (intOf a).toNat)
  case atStart => exact ⟨0, l, Nat.zero_add l, rfl, rfl⟩
  case round =>
    obtain ⟨k, r, hkr, rfl, rfl⟩ := hrel
    have hs := indS_size k
    have HS := Lib.hid (indS_succ k)
    obtain ⟨u, hu⟩ : ∃ u, indS k = u := ⟨_, rfl⟩
    rw [hu] at hs HS
    by_cases h0 : 0 < r
    · obtain ⟨q, rfl⟩ : ∃ q, r = q + 1 := ⟨r - 1, by omega⟩
      have d1 : decide ((0 : Int) < ((q + 1 : Nat) : Int)) = true := is_lt (by omega)
      have k1 : ¬ (9223372036854775807 < u.size + (⟨#[32, 32]⟩ : ByteArray).size) := by rw [show (⟨#[32, 32]⟩ : ByteArray).size = 2 from rfl]; omega
      have k2 : ¬ (9223372036854775807 < u.size + 2) := by omega
      have e1 : ((q + 1 : Nat) : Int) - 1 = (q : Int) := by omega
      rw [hu]
      clear hu
      go_wp2_with fail
      go_round
      case rel => exact ⟨k + 1, q, by omega, by simp, by rw [← HS.out]⟩
      case measure => simp [intOf]
    · obtain rfl : r = 0 := by omega
      obtain rfl : k = l := by omega
      rw [hu]
      have HU := Lib.hid hu
      clear hu
      go_wp2_with fail
      go_ret
      exact ⟨str_ret HU.out.symm, rfl⟩
/-- what a part's size is at most -/
theorem sizeP_le {cs : List Cls} (T : TreeF cs) (f i : Nat) (hf : f ≤ 9) (hi : i < cs.length) : sizeP cs f i ≤ 2000000 := by
  have h1 := size_walk cs f i
  have h2 := walk_few T f i hi
  have h3 := (rateOk_r (okL_ids cs 0 T.ok i hi).2.2).2
  have h0 := (rateOk_r (okL_ids cs 0 T.ok i hi).2.2).1
  have h4 : (f : Int) * (cs.getD i cls0).r ≤ 9 * (cs.getD i cls0).r := Int.mul_le_mul_of_nonneg_right (by omega) (by omega)
  omega
theorem sum_drop (f : Nat → Nat) (K : List Nat) (k : Nat) (h : k < K.length) : ((K.drop k).map f).sum = f (K.getD k 0) + ((K.drop (k + 1)).map f).sum := by
  rw [List.drop_eq_getElem_cons h, List.map_cons, List.sum_cons]
  simp [List.getD_eq_getElem?_getD, h]
theorem kids_at_lt (cs : List Cls) (id : Int) (k : Nat) (h : k < (kids cs id).length) : (kids cs id).getD k 0 ∈ kids cs id := by
  simp [List.getD_eq_getElem?_getD, h]
def SzRel (w : World) (o : Obj) (B : Nat) (K : List Nat) (S : Nat) (g : Nat → Nat) (a i : Value) (wr : World) : Prop :=
  ∃ (k z : Nat) , k ≤ K.length ∧ i = .int .i64 k ∧ a = .int .i64 z ∧ Aft w o wr ∧ B ≤ wr.heap.size ∧ Hid (z + ((K.drop k).map g).sum = S)
end Go.Proofs.YtkpocljlmbihcaaDoor

/- Canonical texts, the model's: numbers of lines, walks, parts. -/
namespace Go.Proofs.YtkpocljlmbihcaaDoor
set_option maxRecDepth 100000
open Go.RowKit
set_option linter.unusedVariables false
set_option linter.unusedSimpArgs false

theorem sum_le (g : Nat → Nat) (M : Nat) : ∀ l : List Nat, (∀ x ∈ l, g x ≤ M) → (l.map g).sum ≤ l.length * M
  | [], _ => by simp
  | a :: r, h => by
    have h1 := h a (by simp)
    have h2 := sum_le g M r (fun x hx => h x (by simp [hx]))
    rw [List.map_cons, List.sum_cons, List.length_cons, Nat.add_mul]
    omega
theorem take_mem (p : Nat → Bool) : ∀ (l : List Nat) (x : Nat), x ∈ l.takeWhile p → x ∈ l
  | [], x, h => by simp at h
  | a :: r, x, h => by
    rw [List.takeWhile_cons] at h
    split at h
    · rcases List.mem_cons.1 h with h | h
      · simp [h]
      · simp [take_mem p r x h]
    · simp at h
theorem take_len (p : Nat → Bool) : ∀ l : List Nat, (l.takeWhile p).length ≤ l.length
  | [] => by simp
  | a :: r => by
    rw [List.takeWhile_cons]
    split
    · have := take_len p r; simp; omega
    · simp
theorem kids_len24 {cs : List Cls} (T : TreeF cs) (id : Int) : (kids cs id).length ≤ 24 := by
  have := kidsF_len id cs 0
  have := T.n24
  unfold kids
  omega
theorem lineP_le {cs : List Cls} (T : TreeF cs) : ∀ (f q : Nat), q < cs.length → lineP cs f q ≤ 2 + f * 50000000
  | 0, q, hq => by simp [lineP]
  | f + 1, q, hq => by
    unfold lineP
    cases hf : fnd cs (cs.getD q cls0).p with
    | none => show 2 ≤ _; omega
    | some p =>
      have hp := (fnd_get cs _ p hf).1
      have ih := lineP_le T f p hp
      have h1 := sum_le (sizeP cs 9) 2000000 ((kids cs (cs.getD p cls0).i).takeWhile (fun k => k != q)) (fun x hx => sizeP_le T 9 x (Nat.le_refl _) (kids_mem (take_mem _ _ x hx)).1)
      have h2 := take_len (fun k => k != q) (kids cs (cs.getD p cls0).i)
      have h3 := kids_len24 T (cs.getD p cls0).i
      show lineP cs f p + 1 + _ ≤ _
      omega
theorem take_drop_go (q : Nat) (g : Nat → Nat) (K : List Nat) (k : Nat) (h : k < K.length) (hn : K.getD k 0 ≠ q) : (((K.drop k).takeWhile (fun j => j != q)).map g).sum = g (K.getD k 0) + (((K.drop (k + 1)).takeWhile (fun j => j != q)).map g).sum := by
  have e : K[k] = K.getD k 0 := by simp [List.getD_eq_getElem?_getD, h]
  rw [List.drop_eq_getElem_cons h, e, List.takeWhile_cons, if_pos (by simpa using hn), List.map_cons, List.sum_cons]
theorem take_drop_end (q : Nat) (g : Nat → Nat) (K : List Nat) (k : Nat) (h : k < K.length) (hn : K.getD k 0 = q) : (((K.drop k).takeWhile (fun j => j != q)).map g).sum = 0 := by
  have e : K[k] = K.getD k 0 := by simp [List.getD_eq_getElem?_getD, h]
  rw [List.drop_eq_getElem_cons h, e, List.takeWhile_cons, if_neg (by simpa using hn)]
  rfl
end Go.Proofs.YtkpocljlmbihcaaDoor
