/- Chapter 8: ConditionHolds and BrokenConditions, both sides. -/
import Derived.Test.YtfijhgggljaomaaDoorVai
import Derived.Laws.EntriesVeiled
namespace Go.Proofs.YtfijhgggljaomaaDoor
set_option maxRecDepth 100000
open Go.RowKit
set_option linter.unusedVariables false

def resConditionHolds1 (c : Cfg) (a : Int) : Bool := (rawC c && inB a 1 10) && holdP c a.toNat
def resConditionHolds2 (c : Cfg) (a : Int) : Bool := rawC c && inB a 1 10
def resBrokenConditions1 (c : Cfg) : List Nat := if rawC c then selF (fun k => !holdP c k) 11 1 else []
def resBrokenConditions2 (c : Cfg) : Bool := rawC c
theorem lenBrokenConditions (c : Cfg) : (resBrokenConditions1 c).length ≤ 40 := by
  unfold resBrokenConditions1
  by_cases h : rawC c = true
  · rw [if_pos h]; have := selF_len (fun k => !holdP c k) 11 1; omega
  · rw [if_neg h]; simp
theorem ret_bb2 {p q p' q' : Bool} (h : p = p') (h' : q = q') : Ending.returned (.tuple #[.bool p, .bool q]) = .returned (.tuple #[.bool p', .bool q']) := by rw [h, h']
set_option maxHeartbeats 3200000 in
theorem specConditionHolds_any (v : Value) (c : Cfg) (a : Int) (w : World) (HV : Hid (CfgV w v c)) (HM : Hid (CfgM c)) :
    Calls Tryd.prog 6 #[v, .int .i64 a] w (SaysT2 w (.bool (resConditionHolds1 c a)) (.bool (resConditionHolds2 c a))) := by
  obtain ⟨ac, cc, af, cf, rfl, ic, if_⟩ := HV.out
  obtain ⟨s, cs, fs, d⟩ := c
  have hM := HM.out
  unfold CfgM at hM
  simp only at ic if_ hM HV ⊢
  obtain ⟨q0, q1, q2⟩ := hM
  have HI := Lib.hid ic
  have HJ := Lib.hid if_
  have HVB := Lib.hid (fun w' (b : Below w.heap.size w w') => Lib.hid (HV.out.below b))
  have A0 := Lib.hid (Aft.refl w (Obj.cells #[.string s, .slice ac cs.length cc, .slice af fs.length cf, .int .i64 d] 32))
  clear ic if_
  have HAS := Lib.hid (fun w' (b : Below w.heap.size w w') => vaAsked_any (.agg #[.string s, .slice ac cs.length cc, .slice af fs.length cf, .int .i64 d]) ⟨s, cs, fs, d⟩ w' (HVB.out w' b) HM)
  have HIN := Lib.hid (fun w' => l1In_any a 1 10 w')
  have HR1 : Hid (resConditionHolds1 ⟨s, cs, fs, d⟩ a = ((rawC ⟨s, cs, fs, d⟩ && inB a 1 10) && holdP ⟨s, cs, fs, d⟩ a.toNat)) := Lib.hid rfl
  have HR2 : Hid (resConditionHolds2 ⟨s, cs, fs, d⟩ a = (rawC ⟨s, cs, fs, d⟩ && inB a 1 10)) := Lib.hid rfl
  cases hh : rawC ⟨s, cs, fs, d⟩
  · rw [hh] at HAS HR1 HR2
    generalize resConditionHolds1 ⟨s, cs, fs, d⟩ a = R1 at HR1 ⊢
    generalize resConditionHolds2 ⟨s, cs, fs, d⟩ a = R2 at HR2 ⊢
    clear hh
    go_enter Tryd.func6, Tryd.ntmps6
    go_wp2_with (go_at_call 18; refine (HAS.out _ A0.out.all.2).mono ?_; rintro e w1 ⟨rfl, b1⟩; have A1 := Lib.hid (A0.out.on b1); clear b1)
    go_ret2
    exact ⟨ret_bb2 (by rw [HR1.out]; rfl) (by rw [HR2.out]; rfl), A1.out.all.2⟩
  rcases Bool.eq_false_or_eq_true (inB a 1 10) with hi | hi
  · have hb := inBR_iff.1 hi
    have HHO := Lib.hid (fun w' (b : Below w.heap.size w w') => vaHolds_any (.agg #[.string s, .slice ac cs.length cc, .slice af fs.length cf, .int .i64 d]) ⟨s, cs, fs, d⟩ a.toNat w' (HVB.out w' b) HM hh (by omega) (by omega))
    rw [Int.toNat_of_nonneg (by omega)] at HHO
    rw [hh] at HAS HR1 HR2
    rw [hi] at HIN HR1 HR2
    generalize resConditionHolds1 ⟨s, cs, fs, d⟩ a = R1 at HR1 ⊢
    generalize resConditionHolds2 ⟨s, cs, fs, d⟩ a = R2 at HR2 ⊢
    generalize holdP ⟨s, cs, fs, d⟩ a.toNat = h at HHO HR1
    clear hh hi hb
    go_enter Tryd.func6, Tryd.ntmps6
    go_wp2_with (go_at_call 18; refine (HAS.out _ A0.out.all.2).mono ?_; rintro e w1 ⟨rfl, b1⟩; have A1 := Lib.hid (A0.out.on b1); obtain ⟨c0, c1, c2, c3, _⟩ := A1.out.all.1; clear b1)
    go_wp2_with (go_at_call 19; refine (HIN.out _).mono ?_; rintro e w9 ⟨rfl, rfl⟩)
    go_wp2_with (go_at_call 20; refine (HHO.out _ A1.out.all.2).mono ?_; rintro e w2 ⟨rfl, b2⟩; have A2 := Lib.hid (A1.out.on b2); clear b2)
    go_ret2
    exact ⟨ret_bb2 (by rw [HR1.out]; rfl) (by rw [HR2.out]; rfl), A2.out.all.2⟩
  · rw [hh] at HAS HR1 HR2
    rw [hi] at HIN HR1 HR2
    generalize resConditionHolds1 ⟨s, cs, fs, d⟩ a = R1 at HR1 ⊢
    generalize resConditionHolds2 ⟨s, cs, fs, d⟩ a = R2 at HR2 ⊢
    clear hh hi
    go_enter Tryd.func6, Tryd.ntmps6
    go_wp2_with (go_at_call 18; refine (HAS.out _ A0.out.all.2).mono ?_; rintro e w1 ⟨rfl, b1⟩; have A1 := Lib.hid (A0.out.on b1); clear b1)
    go_wp2_with (go_at_call 19; refine (HIN.out _).mono ?_; rintro e w9 ⟨rfl, rfl⟩)
    go_ret2
    exact ⟨ret_bb2 (by rw [HR1.out]; rfl) (by rw [HR2.out]; rfl), A1.out.all.2⟩
def BkRel (w : World) (o : Obj) (P : Nat → Bool) (K : List Nat) (out i : Value) (wr : World) : Prop :=
  ∃ (k : Nat) (ks : List Nat), 1 ≤ k ∧ k ≤ 11 ∧ ks.length ≤ 10 ∧ ks.length < k ∧ i = .int .i64 k ∧ Aft w o wr ∧ wr.ownsRow (w.heap.size + 1) 3 1 out ks.length (nv ks) ∧ Hid (ks ++ selF P 11 k = K)
set_option maxHeartbeats 6400000 in
theorem specBrokenConditions_any (v : Value) (c : Cfg) (w : World) (HV : Hid (CfgV w v c)) (HM : Hid (CfgM c)) :
    Calls Tryd.prog 10 #[v] w (SaysVS w (resBrokenConditions1 c) (resBrokenConditions2 c)) := by
  obtain ⟨ac, cc, af, cf, rfl, ic, if_⟩ := HV.out
  obtain ⟨s, cs, fs, d⟩ := c
  have hM := HM.out
  unfold CfgM at hM
  simp only at ic if_ hM HV ⊢
  obtain ⟨q0, q1, q2⟩ := hM
  have HI := Lib.hid ic
  have HJ := Lib.hid if_
  have HVB := Lib.hid (fun w' (b : Below w.heap.size w w') => Lib.hid (HV.out.below b))
  have A0 := Lib.hid (Aft.refl w (Obj.cells #[.string s, .slice ac cs.length cc, .slice af fs.length cf, .int .i64 d] 32))
  clear ic if_
  have HAS := Lib.hid (fun w' (b : Below w.heap.size w w') => vaAsked_any (.agg #[.string s, .slice ac cs.length cc, .slice af fs.length cf, .int .i64 d]) ⟨s, cs, fs, d⟩ w' (HVB.out w' b) HM)
  show Calls _ _ _ _ (SaysVS w (if rawC ⟨s, cs, fs, d⟩ then selF (fun k => !holdP ⟨s, cs, fs, d⟩ k) 11 1 else []) (rawC ⟨s, cs, fs, d⟩))
  cases hh : rawC ⟨s, cs, fs, d⟩
  · rw [hh] at HAS
    clear hh
    go_enter Tryd.func10, Tryd.ntmps10
    go_wp2_with (go_at_call 18; refine (HAS.out _ A0.out.all.2).mono ?_; rintro e w1 ⟨rfl, b1⟩; have A1 := Lib.hid (A0.out.on b1); clear b1)
    go_ret2
    exact ⟨_, rfl, World.ownsRow_nil _ _ _ _, A1.out.all.2⟩
  · have HHO := Lib.hid (fun k (h1 : 1 ≤ k) (h10 : k ≤ 10) w' (b : Below w.heap.size w w') => vaHolds_any (.agg #[.string s, .slice ac cs.length cc, .slice af fs.length cf, .int .i64 d]) ⟨s, cs, fs, d⟩ k w' (HVB.out w' b) HM hh h1 h10)
    rw [hh] at HAS
    rw [if_pos rfl]
    obtain ⟨i0, hi, hz0, hz1, hz2⟩ := info_parts infoI
    obtain ⟨K, hK⟩ : ∃ K, selF (fun k => !holdP ⟨s, cs, fs, d⟩ k) 11 1 = K := ⟨_, rfl⟩
    have H0 : Hid ([] ++ selF (fun k => !holdP ⟨s, cs, fs, d⟩ k) 11 1 = K) := Lib.hid hK
    rw [hK]
    generalize holdP ⟨s, cs, fs, d⟩ = h at HHO H0
    clear hK hh
    go_enter Tryd.func10, Tryd.ntmps10
    go_wp2_with (go_at_call 18; refine (HAS.out _ A0.out.all.2).mono ?_; rintro e w1 ⟨rfl, b1⟩; have A1 := Lib.hid (A0.out.on b1); clear b1)
    go_loopw [4, 5] (fun out i wr => BkRel w (Obj.cells #[.string s, .slice ac cs.length cc, .slice af fs.length cf, .int .i64 d] 32) (fun k => !h k) K out i wr) (fun _ i _ => 11 - (intOf i).toNat)
    case atStart => exact ⟨1, [], Nat.le_refl _, by omega, Nat.zero_le _, by simp, rfl, A1.out, World.ownsRow_nil _ _ _ _, H0⟩
    case round =>
      obtain ⟨k, ks, hk1, hk, hkl10, hkl, rfl, hb, ho, HP⟩ := hrel
      have HB := Lib.hid hb
      have HO := Lib.hid ho
      obtain ⟨ad, cO, rfl, _⟩ := own_in ho
      obtain ⟨e0, e1, e2, e3, hgw⟩ := hb.all.1
      by_cases hlt : k ≤ 10
      · have dk := is_le (show (k : Int) ≤ 10 by omega)
        have HCk := Lib.hid (fun w' b => HHO.out k hk1 hlt w' b)
        cases hq : h k
        · have HX : Hid ((ks ++ [k]) ++ selF (fun k => !h k) 11 (k + 1) = K) := Lib.hid (by rw [← HP.out, selF_yes (P := fun k => !h k) (n := 11) (k := k) (by omega) (by simp [hq])]; simp)
          rw [hq] at HCk
          clear hb ho hq
          go_wp2_with (go_at_call 20; refine (HCk.out _ HB.out.all.2).mono ?_; rintro e w2 ⟨rfl, b2⟩; have A2 := Lib.hid (HB.out.on b2); have O2 := Lib.hid (own_low HO.out b2 (Nat.le_refl _)); clear b2; refine Hid.out ?_)
          refine Lib.hid ?_
          have hB2 : w.heap.size + 1 ≤ w2.heap.size := A2.out.all.1.2.2.2.2
          go_wp2_with (at_builtin; refine wpList_append_own _ rfl _ _ 36 rfl (w.heap.size + 1) 3 i0 (.int .i64 0) 1 8 Tryd.underlying36 hi hz0 hz1 hz2 rfl (by decide) _ _ _ rfl (World.ownsRow.alloc O2.out _) ⟨w2.heap.size, 0, none⟩ 1 1 [.int .i64 (k : Int)] rfl rfl (by have := one_int w2 (.int .i64 (k : Int)) 3; simpa using this) (by intro u hu; simp at hu; subst hu; rfl) (by unfold maxLen; omega) (by omega) (by simp; omega) ?_; intro v' wA hown1 hgrow1 _; have F := Lib.hid (own_snoc rfl ((Below.refl (w.heap.size + 1) w2).alloc hB2 (.cells #[.int .i64 (k : Int)] 3)) hown1 (by simp; omega) hgrow1 (fun g h => (World.ownsRow.lt O2.out g h).1)); clear hown1 hgrow1)
          go_roundw
          case rel => exact ⟨k + 1, ks ++ [k], by omega, by omega, by simp; omega, by simp; omega, by go_num, A2.out.up F.out.2, F.out.1, HX⟩
          case measure => simp [intOf]; omega
        · have HX : Hid (ks ++ selF (fun k => !h k) 11 (k + 1) = K) := Lib.hid (by rw [← HP.out, selF_no (P := fun k => !h k) (n := 11) (k := k) (by omega) (by simp [hq])])
          rw [hq] at HCk
          clear hb ho hq
          go_wp2_with (go_at_call 20; refine (HCk.out _ HB.out.all.2).mono ?_; rintro e w2 ⟨rfl, b2⟩; have A2 := Lib.hid (HB.out.on b2); have O2 := Lib.hid (own_low HO.out b2 (Nat.le_refl _)); clear b2; refine Hid.out ?_)
          refine Lib.hid ?_
          go_wp2_with fail
          go_roundw
          case rel => exact ⟨k + 1, ks, by omega, by omega, by omega, by omega, by go_num, A2.out, O2.out, HX⟩
          case measure => simp [intOf]; omega
      · have HX : Hid (ks = K) := Lib.hid (by rw [← HP.out, selF_end _ (by omega), List.append_nil])
        have dk := not_le (show (10 : Int) < (k : Int) by omega)
        clear hb ho
        go_wp2_with fail
        go_ret2
        exact ⟨_, rfl, by rw [← HX.out]; exact own_base HO.out (Nat.le_succ _), HB.out.all.2⟩
def ChRel (w : World) (o : Obj) (g c0 : Nat) (a0 a1 a2 a3 : Value) (X : List Value) (a : Int) (i : Value) (wr : World) : Prop :=
  ∃ k : Nat, k ≤ 10 ∧ i = .int .i64 k ∧ Aft w o wr ∧ AtC wr g X ∧ g < wr.heap.size ∧ FourIs wr c0 a0 a1 a2 a3 ∧ ∀ j : Nat, j < k → ((j : Int) + 1) ≠ a
set_option maxRecDepth 100000 in
set_option maxHeartbeats 12800000 in
theorem implConditionHolds_any (v : Value) (c : Cfg) (a : Int) (w : World) (HK : Hid (Kwt w)) (HV : Hid (CfgV w v c)) (HM : Hid (CfgM c)) :
    Calls Tryd.prog 8 #[v, .int .i64 a] w (SaysT2 w (.bool (resConditionHolds1 c a)) (.bool (resConditionHolds2 c a))) := by
  obtain ⟨ac, cc, af, cf, rfl, ic, if_⟩ := HV.out
  obtain ⟨s, cs, fs, d⟩ := c
  have hM := HM.out
  unfold CfgM at hM
  simp only at ic if_ hM HV ⊢
  obtain ⟨q0, q1, q2⟩ := hM
  have HI := Lib.hid ic
  have HJ := Lib.hid if_
  have HVB := Lib.hid (fun w' (b : Below w.heap.size w w') => Lib.hid (HV.out.below b))
  have A0 := Lib.hid (Aft.refl w (Obj.cells #[.string s, .slice ac cs.length cc, .slice af fs.length cf, .int .i64 d] 32))
  clear ic if_
  have HAS := Lib.hid (fun w' (b : Below w.heap.size w w') => isRaw_any (.agg #[.string s, .slice ac cs.length cc, .slice af fs.length cf, .int .i64 d]) ⟨s, cs, fs, d⟩ w' (HVB.out w' b) HM)
  have HCO := Lib.hid (fun w' => conditionsOf_any s ac af cs.length cc fs.length cf d w')
  have HR1 : Hid (resConditionHolds1 ⟨s, cs, fs, d⟩ a = ((rawC ⟨s, cs, fs, d⟩ && inB a 1 10) && holdP ⟨s, cs, fs, d⟩ a.toNat)) := Lib.hid rfl
  have HR2 : Hid (resConditionHolds2 ⟨s, cs, fs, d⟩ a = (rawC ⟨s, cs, fs, d⟩ && inB a 1 10)) := Lib.hid rfl
  generalize resConditionHolds1 ⟨s, cs, fs, d⟩ a = R1 at HR1 ⊢
  generalize resConditionHolds2 ⟨s, cs, fs, d⟩ a = R2 at HR2 ⊢
  cases hh : rawC ⟨s, cs, fs, d⟩
  · rw [hh] at HAS HR1 HR2
    clear hh
    go_enter Tryd.func8, Tryd.ntmps8
    go_wp2_with (go_at_call 23; refine (HAS.out _ A0.out.all.2).mono ?_; rintro e w1 ⟨rfl, b1⟩; have A1 := Lib.hid (A0.out.on b1); clear b1)
    go_ret2
    exact ⟨ret_bb2 (by rw [HR1.out]; rfl) (by rw [HR2.out]; rfl), A1.out.all.2⟩
  have HR := Lib.hid hh
  rw [hh] at HAS HR1 HR2
  rw [Bool.true_and] at HR1 HR2
  clear hh
  go_enter Tryd.func8, Tryd.ntmps8
  go_wp2_with (go_at_call 23; refine (HAS.out _ A0.out.all.2).mono ?_; rintro e w1 ⟨rfl, b1⟩; have A1 := Lib.hid (A0.out.on b1); obtain ⟨c0, c1, c2, c3, _⟩ := A1.out.all.1; clear b1)
  go_wp2_with (go_at_call 24; refine (HCO.out _).mono ?_; rintro e w2 ⟨rfl, b2, t2, l2, f2⟩; have A2 := Lib.hid (A1.out.on b2); have T2 := Lib.hid t2; have F2 := Lib.hid f2; clear b2 t2 f2)
  go_loopw [14] (fun i wr => ChRel w (Obj.cells #[.string s, .slice ac cs.length cc, .slice af fs.length cf, .int .i64 d] 32) (w1.heap.size + 1) w1.heap.size (.string s) (.slice ac cs.length cc) (.slice af fs.length cf) (.int .i64 d) (condX w1.heap.size) a i wr) (fun i _ => 10 - (intOf i).toNat)
  case atStart => exact ⟨0, Nat.zero_le _, rfl, A2.out, T2.out, l2, F2.out, fun j hj => absurd hj (Nat.not_lt_zero j)⟩
  case round =>
    obtain ⟨k, hk, rfl, hb, hat, hl2, hfo, hno⟩ := hrel
    have HB := Lib.hid hb
    have HFO := Lib.hid hfo
    by_cases hlt : k < 10
    · have hcase : k = 0 ∨ k = 1 ∨ k = 2 ∨ k = 3 ∨ k = 4 ∨ k = 5 ∨ k = 6 ∨ k = 7 ∨ k = 8 ∨ k = 9 := by omega
      clear hk hlt c0 c1 c2 c3
      rcases hcase with rfl | rfl | rfl | rfl | rfl | rfl | rfl | rfl | rfl | rfl
      · have g0 := hat.at 0 (u := .int .i64 1) rfl
        have g1 := hat.at 1 rfl
        by_cases ha : (1 : Int) = a
        · have da : ((1 : Int) == a) = true := by simpa using ha
          have HC := Lib.hid (fun w' (A : Below w.heap.size w w') HFo => cond1_cl s ac af cc cf d cs fs w1.heap.size w' (Lib.hid (HK.out.below A)) (Lib.hid (HI.out.below A)) (Lib.hid (HJ.out.below A)) HM HR HFo)
          have HX : Hid (R1 = holdP ⟨s, cs, fs, d⟩ 1 ∧ R2 = true) := Lib.hid (by subst ha; exact ⟨HR1.out.trans rfl, HR2.out.trans rfl⟩)
          generalize holdP ⟨s, cs, fs, d⟩ 1 = h at HC HX
          clear hb ha hno hat hfo HR1 HR2
          go_wp2_with (go_at_call 38; refine (HC.out _ (HB.out.alloc _).all.2 (Lib.hid (HFO.out.on (one_new2 _ _)))).mono ?_; rintro e w3 ⟨rfl, b3⟩; have A3 := Lib.hid ((HB.out.alloc (Obj.cells #[.int .i64 1, .func (Fn.func 38) #[] #[.pointer (some ⟨w1.heap.size, 0, none⟩)]] 54)).on b3); clear b3)
          go_ret2
          exact ⟨ret_bb2 HX.out.1.symm HX.out.2.symm, A3.out.all.2⟩
        · have da : ((1 : Int) == a) = false := by simpa using ha
          have HNO : Hid (∀ j : Nat, j < 1 → ((j : Int) + 1) ≠ a) := Lib.hid (fun j hj => by
            rcases Nat.lt_succ_iff_lt_or_eq.1 hj with q | q
            · exact hno j q
            · subst q; exact ha)
          have HBA := Lib.hid (HB.out.alloc (Obj.cells #[.int .i64 1, .func (Fn.func 38) #[] #[.pointer (some ⟨w1.heap.size, 0, none⟩)]] 54))
          have HTA := Lib.hid (AtC.below hat (one_new2 wr (Obj.cells #[.int .i64 1, .func (Fn.func 38) #[] #[.pointer (some ⟨w1.heap.size, 0, none⟩)]] 54)) hl2)
          have HFA := Lib.hid (HFO.out.on (one_new2 wr (Obj.cells #[.int .i64 1, .func (Fn.func 38) #[] #[.pointer (some ⟨w1.heap.size, 0, none⟩)]] 54)))
          clear hb ha hno hat hfo
          go_wp2_with fail
          go_roundw
          case rel => exact ⟨1, by omega, by go_num, HBA.out, HTA.out, by simp; omega, HFA.out, HNO.out⟩
          case measure => simp [intOf]
      · have g0 := hat.at 2 (u := .int .i64 2) rfl
        have g1 := hat.at 3 rfl
        by_cases ha : (2 : Int) = a
        · have da : ((2 : Int) == a) = true := by simpa using ha
          have HC := Lib.hid (fun w' (A : Below w.heap.size w w') HFo => cond2_cl s ac af cc cf d cs fs w1.heap.size w' (Lib.hid (HK.out.below A)) (Lib.hid (HI.out.below A)) (Lib.hid (HJ.out.below A)) HM HR HFo)
          have HX : Hid (R1 = holdP ⟨s, cs, fs, d⟩ 2 ∧ R2 = true) := Lib.hid (by subst ha; exact ⟨HR1.out.trans rfl, HR2.out.trans rfl⟩)
          generalize holdP ⟨s, cs, fs, d⟩ 2 = h at HC HX
          clear hb ha hno hat hfo HR1 HR2
          go_wp2_with (go_at_call 40; refine (HC.out _ (HB.out.alloc _).all.2 (Lib.hid (HFO.out.on (one_new2 _ _)))).mono ?_; rintro e w3 ⟨rfl, b3⟩; have A3 := Lib.hid ((HB.out.alloc (Obj.cells #[.int .i64 2, .func (Fn.func 40) #[] #[.pointer (some ⟨w1.heap.size, 0, none⟩)]] 54)).on b3); clear b3)
          go_ret2
          exact ⟨ret_bb2 HX.out.1.symm HX.out.2.symm, A3.out.all.2⟩
        · have da : ((2 : Int) == a) = false := by simpa using ha
          have HNO : Hid (∀ j : Nat, j < 2 → ((j : Int) + 1) ≠ a) := Lib.hid (fun j hj => by
            rcases Nat.lt_succ_iff_lt_or_eq.1 hj with q | q
            · exact hno j q
            · subst q; exact ha)
          have HBA := Lib.hid (HB.out.alloc (Obj.cells #[.int .i64 2, .func (Fn.func 40) #[] #[.pointer (some ⟨w1.heap.size, 0, none⟩)]] 54))
          have HTA := Lib.hid (AtC.below hat (one_new2 wr (Obj.cells #[.int .i64 2, .func (Fn.func 40) #[] #[.pointer (some ⟨w1.heap.size, 0, none⟩)]] 54)) hl2)
          have HFA := Lib.hid (HFO.out.on (one_new2 wr (Obj.cells #[.int .i64 2, .func (Fn.func 40) #[] #[.pointer (some ⟨w1.heap.size, 0, none⟩)]] 54)))
          clear hb ha hno hat hfo
          go_wp2_with fail
          go_roundw
          case rel => exact ⟨2, by omega, by go_num, HBA.out, HTA.out, by simp; omega, HFA.out, HNO.out⟩
          case measure => simp [intOf]
      · have g0 := hat.at 4 (u := .int .i64 3) rfl
        have g1 := hat.at 5 rfl
        by_cases ha : (3 : Int) = a
        · have da : ((3 : Int) == a) = true := by simpa using ha
          have HC := Lib.hid (fun w' (A : Below w.heap.size w w') HFo => cond3_cl s ac af cc cf d cs fs w1.heap.size w' (Lib.hid (HK.out.below A)) (Lib.hid (HI.out.below A)) (Lib.hid (HJ.out.below A)) HM HR HFo)
          have HX : Hid (R1 = holdP ⟨s, cs, fs, d⟩ 3 ∧ R2 = true) := Lib.hid (by subst ha; exact ⟨HR1.out.trans rfl, HR2.out.trans rfl⟩)
          generalize holdP ⟨s, cs, fs, d⟩ 3 = h at HC HX
          clear hb ha hno hat hfo HR1 HR2
          go_wp2_with (go_at_call 42; refine (HC.out _ (HB.out.alloc _).all.2 (Lib.hid (HFO.out.on (one_new2 _ _)))).mono ?_; rintro e w3 ⟨rfl, b3⟩; have A3 := Lib.hid ((HB.out.alloc (Obj.cells #[.int .i64 3, .func (Fn.func 42) #[] #[.pointer (some ⟨w1.heap.size, 0, none⟩)]] 54)).on b3); clear b3)
          go_ret2
          exact ⟨ret_bb2 HX.out.1.symm HX.out.2.symm, A3.out.all.2⟩
        · have da : ((3 : Int) == a) = false := by simpa using ha
          have HNO : Hid (∀ j : Nat, j < 3 → ((j : Int) + 1) ≠ a) := Lib.hid (fun j hj => by
            rcases Nat.lt_succ_iff_lt_or_eq.1 hj with q | q
            · exact hno j q
            · subst q; exact ha)
          have HBA := Lib.hid (HB.out.alloc (Obj.cells #[.int .i64 3, .func (Fn.func 42) #[] #[.pointer (some ⟨w1.heap.size, 0, none⟩)]] 54))
          have HTA := Lib.hid (AtC.below hat (one_new2 wr (Obj.cells #[.int .i64 3, .func (Fn.func 42) #[] #[.pointer (some ⟨w1.heap.size, 0, none⟩)]] 54)) hl2)
          have HFA := Lib.hid (HFO.out.on (one_new2 wr (Obj.cells #[.int .i64 3, .func (Fn.func 42) #[] #[.pointer (some ⟨w1.heap.size, 0, none⟩)]] 54)))
          clear hb ha hno hat hfo
          go_wp2_with fail
          go_roundw
          case rel => exact ⟨3, by omega, by go_num, HBA.out, HTA.out, by simp; omega, HFA.out, HNO.out⟩
          case measure => simp [intOf]
      · have g0 := hat.at 6 (u := .int .i64 4) rfl
        have g1 := hat.at 7 rfl
        by_cases ha : (4 : Int) = a
        · have da : ((4 : Int) == a) = true := by simpa using ha
          have HC := Lib.hid (fun w' (A : Below w.heap.size w w') HFo => cond4_cl s ac af cc cf d cs fs w1.heap.size w' (Lib.hid (HK.out.below A)) (Lib.hid (HI.out.below A)) (Lib.hid (HJ.out.below A)) HM HR HFo)
          have HX : Hid (R1 = holdP ⟨s, cs, fs, d⟩ 4 ∧ R2 = true) := Lib.hid (by subst ha; exact ⟨HR1.out.trans rfl, HR2.out.trans rfl⟩)
          generalize holdP ⟨s, cs, fs, d⟩ 4 = h at HC HX
          clear hb ha hno hat hfo HR1 HR2
          go_wp2_with (go_at_call 46; refine (HC.out _ (HB.out.alloc _).all.2 (Lib.hid (HFO.out.on (one_new2 _ _)))).mono ?_; rintro e w3 ⟨rfl, b3⟩; have A3 := Lib.hid ((HB.out.alloc (Obj.cells #[.int .i64 4, .func (Fn.func 46) #[] #[.pointer (some ⟨w1.heap.size, 0, none⟩)]] 54)).on b3); clear b3)
          go_ret2
          exact ⟨ret_bb2 HX.out.1.symm HX.out.2.symm, A3.out.all.2⟩
        · have da : ((4 : Int) == a) = false := by simpa using ha
          have HNO : Hid (∀ j : Nat, j < 4 → ((j : Int) + 1) ≠ a) := Lib.hid (fun j hj => by
            rcases Nat.lt_succ_iff_lt_or_eq.1 hj with q | q
            · exact hno j q
            · subst q; exact ha)
          have HBA := Lib.hid (HB.out.alloc (Obj.cells #[.int .i64 4, .func (Fn.func 46) #[] #[.pointer (some ⟨w1.heap.size, 0, none⟩)]] 54))
          have HTA := Lib.hid (AtC.below hat (one_new2 wr (Obj.cells #[.int .i64 4, .func (Fn.func 46) #[] #[.pointer (some ⟨w1.heap.size, 0, none⟩)]] 54)) hl2)
          have HFA := Lib.hid (HFO.out.on (one_new2 wr (Obj.cells #[.int .i64 4, .func (Fn.func 46) #[] #[.pointer (some ⟨w1.heap.size, 0, none⟩)]] 54)))
          clear hb ha hno hat hfo
          go_wp2_with fail
          go_roundw
          case rel => exact ⟨4, by omega, by go_num, HBA.out, HTA.out, by simp; omega, HFA.out, HNO.out⟩
          case measure => simp [intOf]
      · have g0 := hat.at 8 (u := .int .i64 5) rfl
        have g1 := hat.at 9 rfl
        by_cases ha : (5 : Int) = a
        · have da : ((5 : Int) == a) = true := by simpa using ha
          have HC := Lib.hid (fun w' (A : Below w.heap.size w w') HFo => cond5_cl s ac af cc cf d cs fs w1.heap.size w' (Lib.hid (HK.out.below A)) (Lib.hid (HI.out.below A)) (Lib.hid (HJ.out.below A)) HM HR HFo)
          have HX : Hid (R1 = holdP ⟨s, cs, fs, d⟩ 5 ∧ R2 = true) := Lib.hid (by subst ha; exact ⟨HR1.out.trans rfl, HR2.out.trans rfl⟩)
          generalize holdP ⟨s, cs, fs, d⟩ 5 = h at HC HX
          clear hb ha hno hat hfo HR1 HR2
          go_wp2_with (go_at_call 48; refine (HC.out _ (HB.out.alloc _).all.2 (Lib.hid (HFO.out.on (one_new2 _ _)))).mono ?_; rintro e w3 ⟨rfl, b3⟩; have A3 := Lib.hid ((HB.out.alloc (Obj.cells #[.int .i64 5, .func (Fn.func 48) #[] #[.pointer (some ⟨w1.heap.size, 0, none⟩)]] 54)).on b3); clear b3)
          go_ret2
          exact ⟨ret_bb2 HX.out.1.symm HX.out.2.symm, A3.out.all.2⟩
        · have da : ((5 : Int) == a) = false := by simpa using ha
          have HNO : Hid (∀ j : Nat, j < 5 → ((j : Int) + 1) ≠ a) := Lib.hid (fun j hj => by
            rcases Nat.lt_succ_iff_lt_or_eq.1 hj with q | q
            · exact hno j q
            · subst q; exact ha)
          have HBA := Lib.hid (HB.out.alloc (Obj.cells #[.int .i64 5, .func (Fn.func 48) #[] #[.pointer (some ⟨w1.heap.size, 0, none⟩)]] 54))
          have HTA := Lib.hid (AtC.below hat (one_new2 wr (Obj.cells #[.int .i64 5, .func (Fn.func 48) #[] #[.pointer (some ⟨w1.heap.size, 0, none⟩)]] 54)) hl2)
          have HFA := Lib.hid (HFO.out.on (one_new2 wr (Obj.cells #[.int .i64 5, .func (Fn.func 48) #[] #[.pointer (some ⟨w1.heap.size, 0, none⟩)]] 54)))
          clear hb ha hno hat hfo
          go_wp2_with fail
          go_roundw
          case rel => exact ⟨5, by omega, by go_num, HBA.out, HTA.out, by simp; omega, HFA.out, HNO.out⟩
          case measure => simp [intOf]
      · have g0 := hat.at 10 (u := .int .i64 6) rfl
        have g1 := hat.at 11 rfl
        by_cases ha : (6 : Int) = a
        · have da : ((6 : Int) == a) = true := by simpa using ha
          have HC := Lib.hid (fun w' (A : Below w.heap.size w w') HFo => cond6_cl s ac af cc cf d cs fs w1.heap.size w' (Lib.hid (HK.out.below A)) (Lib.hid (HI.out.below A)) (Lib.hid (HJ.out.below A)) HM HR HFo)
          have HX : Hid (R1 = holdP ⟨s, cs, fs, d⟩ 6 ∧ R2 = true) := Lib.hid (by subst ha; exact ⟨HR1.out.trans rfl, HR2.out.trans rfl⟩)
          generalize holdP ⟨s, cs, fs, d⟩ 6 = h at HC HX
          clear hb ha hno hat hfo HR1 HR2
          go_wp2_with (go_at_call 51; refine (HC.out _ (HB.out.alloc _).all.2 (Lib.hid (HFO.out.on (one_new2 _ _)))).mono ?_; rintro e w3 ⟨rfl, b3⟩; have A3 := Lib.hid ((HB.out.alloc (Obj.cells #[.int .i64 6, .func (Fn.func 51) #[] #[.pointer (some ⟨w1.heap.size, 0, none⟩)]] 54)).on b3); clear b3)
          go_ret2
          exact ⟨ret_bb2 HX.out.1.symm HX.out.2.symm, A3.out.all.2⟩
        · have da : ((6 : Int) == a) = false := by simpa using ha
          have HNO : Hid (∀ j : Nat, j < 6 → ((j : Int) + 1) ≠ a) := Lib.hid (fun j hj => by
            rcases Nat.lt_succ_iff_lt_or_eq.1 hj with q | q
            · exact hno j q
            · subst q; exact ha)
          have HBA := Lib.hid (HB.out.alloc (Obj.cells #[.int .i64 6, .func (Fn.func 51) #[] #[.pointer (some ⟨w1.heap.size, 0, none⟩)]] 54))
          have HTA := Lib.hid (AtC.below hat (one_new2 wr (Obj.cells #[.int .i64 6, .func (Fn.func 51) #[] #[.pointer (some ⟨w1.heap.size, 0, none⟩)]] 54)) hl2)
          have HFA := Lib.hid (HFO.out.on (one_new2 wr (Obj.cells #[.int .i64 6, .func (Fn.func 51) #[] #[.pointer (some ⟨w1.heap.size, 0, none⟩)]] 54)))
          clear hb ha hno hat hfo
          go_wp2_with fail
          go_roundw
          case rel => exact ⟨6, by omega, by go_num, HBA.out, HTA.out, by simp; omega, HFA.out, HNO.out⟩
          case measure => simp [intOf]
      · have g0 := hat.at 12 (u := .int .i64 7) rfl
        have g1 := hat.at 13 rfl
        by_cases ha : (7 : Int) = a
        · have da : ((7 : Int) == a) = true := by simpa using ha
          have HC := Lib.hid (fun w' (A : Below w.heap.size w w') HFo => cond7_cl s ac af cc cf d cs fs w1.heap.size w' (Lib.hid (HK.out.below A)) (Lib.hid (HI.out.below A)) (Lib.hid (HJ.out.below A)) HM HR HFo)
          have HX : Hid (R1 = holdP ⟨s, cs, fs, d⟩ 7 ∧ R2 = true) := Lib.hid (by subst ha; exact ⟨HR1.out.trans rfl, HR2.out.trans rfl⟩)
          generalize holdP ⟨s, cs, fs, d⟩ 7 = h at HC HX
          clear hb ha hno hat hfo HR1 HR2
          go_wp2_with (go_at_call 53; refine (HC.out _ (HB.out.alloc _).all.2 (Lib.hid (HFO.out.on (one_new2 _ _)))).mono ?_; rintro e w3 ⟨rfl, b3⟩; have A3 := Lib.hid ((HB.out.alloc (Obj.cells #[.int .i64 7, .func (Fn.func 53) #[] #[.pointer (some ⟨w1.heap.size, 0, none⟩)]] 54)).on b3); clear b3)
          go_ret2
          exact ⟨ret_bb2 HX.out.1.symm HX.out.2.symm, A3.out.all.2⟩
        · have da : ((7 : Int) == a) = false := by simpa using ha
          have HNO : Hid (∀ j : Nat, j < 7 → ((j : Int) + 1) ≠ a) := Lib.hid (fun j hj => by
            rcases Nat.lt_succ_iff_lt_or_eq.1 hj with q | q
            · exact hno j q
            · subst q; exact ha)
          have HBA := Lib.hid (HB.out.alloc (Obj.cells #[.int .i64 7, .func (Fn.func 53) #[] #[.pointer (some ⟨w1.heap.size, 0, none⟩)]] 54))
          have HTA := Lib.hid (AtC.below hat (one_new2 wr (Obj.cells #[.int .i64 7, .func (Fn.func 53) #[] #[.pointer (some ⟨w1.heap.size, 0, none⟩)]] 54)) hl2)
          have HFA := Lib.hid (HFO.out.on (one_new2 wr (Obj.cells #[.int .i64 7, .func (Fn.func 53) #[] #[.pointer (some ⟨w1.heap.size, 0, none⟩)]] 54)))
          clear hb ha hno hat hfo
          go_wp2_with fail
          go_roundw
          case rel => exact ⟨7, by omega, by go_num, HBA.out, HTA.out, by simp; omega, HFA.out, HNO.out⟩
          case measure => simp [intOf]
      · have g0 := hat.at 14 (u := .int .i64 8) rfl
        have g1 := hat.at 15 rfl
        by_cases ha : (8 : Int) = a
        · have da : ((8 : Int) == a) = true := by simpa using ha
          have HC := Lib.hid (fun w' (A : Below w.heap.size w w') HFo => cond8_cl s ac af cc cf d cs fs w1.heap.size w' (Lib.hid (HK.out.below A)) (Lib.hid (HI.out.below A)) (Lib.hid (HJ.out.below A)) HM HR HFo)
          have HX : Hid (R1 = holdP ⟨s, cs, fs, d⟩ 8 ∧ R2 = true) := Lib.hid (by subst ha; exact ⟨HR1.out.trans rfl, HR2.out.trans rfl⟩)
          generalize holdP ⟨s, cs, fs, d⟩ 8 = h at HC HX
          clear hb ha hno hat hfo HR1 HR2
          go_wp2_with (go_at_call 55; refine (HC.out _ (HB.out.alloc _).all.2 (Lib.hid (HFO.out.on (one_new2 _ _)))).mono ?_; rintro e w3 ⟨rfl, b3⟩; have A3 := Lib.hid ((HB.out.alloc (Obj.cells #[.int .i64 8, .func (Fn.func 55) #[] #[.pointer (some ⟨w1.heap.size, 0, none⟩)]] 54)).on b3); clear b3)
          go_ret2
          exact ⟨ret_bb2 HX.out.1.symm HX.out.2.symm, A3.out.all.2⟩
        · have da : ((8 : Int) == a) = false := by simpa using ha
          have HNO : Hid (∀ j : Nat, j < 8 → ((j : Int) + 1) ≠ a) := Lib.hid (fun j hj => by
            rcases Nat.lt_succ_iff_lt_or_eq.1 hj with q | q
            · exact hno j q
            · subst q; exact ha)
          have HBA := Lib.hid (HB.out.alloc (Obj.cells #[.int .i64 8, .func (Fn.func 55) #[] #[.pointer (some ⟨w1.heap.size, 0, none⟩)]] 54))
          have HTA := Lib.hid (AtC.below hat (one_new2 wr (Obj.cells #[.int .i64 8, .func (Fn.func 55) #[] #[.pointer (some ⟨w1.heap.size, 0, none⟩)]] 54)) hl2)
          have HFA := Lib.hid (HFO.out.on (one_new2 wr (Obj.cells #[.int .i64 8, .func (Fn.func 55) #[] #[.pointer (some ⟨w1.heap.size, 0, none⟩)]] 54)))
          clear hb ha hno hat hfo
          go_wp2_with fail
          go_roundw
          case rel => exact ⟨8, by omega, by go_num, HBA.out, HTA.out, by simp; omega, HFA.out, HNO.out⟩
          case measure => simp [intOf]
      · have g0 := hat.at 16 (u := .int .i64 9) rfl
        have g1 := hat.at 17 rfl
        by_cases ha : (9 : Int) = a
        · have da : ((9 : Int) == a) = true := by simpa using ha
          have HC := Lib.hid (fun w' (A : Below w.heap.size w w') HFo => cond9_cl s ac af cc cf d cs fs w1.heap.size w' (Lib.hid (HK.out.below A)) (Lib.hid (HI.out.below A)) (Lib.hid (HJ.out.below A)) HM HR HFo)
          have HX : Hid (R1 = holdP ⟨s, cs, fs, d⟩ 9 ∧ R2 = true) := Lib.hid (by subst ha; exact ⟨HR1.out.trans rfl, HR2.out.trans rfl⟩)
          generalize holdP ⟨s, cs, fs, d⟩ 9 = h at HC HX
          clear hb ha hno hat hfo HR1 HR2
          go_wp2_with (go_at_call 57; refine (HC.out _ (HB.out.alloc _).all.2 (Lib.hid (HFO.out.on (one_new2 _ _)))).mono ?_; rintro e w3 ⟨rfl, b3⟩; have A3 := Lib.hid ((HB.out.alloc (Obj.cells #[.int .i64 9, .func (Fn.func 57) #[] #[.pointer (some ⟨w1.heap.size, 0, none⟩)]] 54)).on b3); clear b3)
          go_ret2
          exact ⟨ret_bb2 HX.out.1.symm HX.out.2.symm, A3.out.all.2⟩
        · have da : ((9 : Int) == a) = false := by simpa using ha
          have HNO : Hid (∀ j : Nat, j < 9 → ((j : Int) + 1) ≠ a) := Lib.hid (fun j hj => by
            rcases Nat.lt_succ_iff_lt_or_eq.1 hj with q | q
            · exact hno j q
            · subst q; exact ha)
          have HBA := Lib.hid (HB.out.alloc (Obj.cells #[.int .i64 9, .func (Fn.func 57) #[] #[.pointer (some ⟨w1.heap.size, 0, none⟩)]] 54))
          have HTA := Lib.hid (AtC.below hat (one_new2 wr (Obj.cells #[.int .i64 9, .func (Fn.func 57) #[] #[.pointer (some ⟨w1.heap.size, 0, none⟩)]] 54)) hl2)
          have HFA := Lib.hid (HFO.out.on (one_new2 wr (Obj.cells #[.int .i64 9, .func (Fn.func 57) #[] #[.pointer (some ⟨w1.heap.size, 0, none⟩)]] 54)))
          clear hb ha hno hat hfo
          go_wp2_with fail
          go_roundw
          case rel => exact ⟨9, by omega, by go_num, HBA.out, HTA.out, by simp; omega, HFA.out, HNO.out⟩
          case measure => simp [intOf]
      · have g0 := hat.at 18 (u := .int .i64 10) rfl
        have g1 := hat.at 19 rfl
        by_cases ha : (10 : Int) = a
        · have da : ((10 : Int) == a) = true := by simpa using ha
          have HC := Lib.hid (fun w' (A : Below w.heap.size w w') HFo => cond10_cl s ac af cc cf d cs fs w1.heap.size w' (Lib.hid (HK.out.below A)) (Lib.hid (HI.out.below A)) (Lib.hid (HJ.out.below A)) HM HR HFo)
          have HX : Hid (R1 = holdP ⟨s, cs, fs, d⟩ 10 ∧ R2 = true) := Lib.hid (by subst ha; exact ⟨HR1.out.trans rfl, HR2.out.trans rfl⟩)
          generalize holdP ⟨s, cs, fs, d⟩ 10 = h at HC HX
          clear hb ha hno hat hfo HR1 HR2
          go_wp2_with (go_at_call 60; refine (HC.out _ (HB.out.alloc _).all.2 (Lib.hid (HFO.out.on (one_new2 _ _)))).mono ?_; rintro e w3 ⟨rfl, b3⟩; have A3 := Lib.hid ((HB.out.alloc (Obj.cells #[.int .i64 10, .func (Fn.func 60) #[] #[.pointer (some ⟨w1.heap.size, 0, none⟩)]] 54)).on b3); clear b3)
          go_ret2
          exact ⟨ret_bb2 HX.out.1.symm HX.out.2.symm, A3.out.all.2⟩
        · have da : ((10 : Int) == a) = false := by simpa using ha
          have HNO : Hid (∀ j : Nat, j < 10 → ((j : Int) + 1) ≠ a) := Lib.hid (fun j hj => by
            rcases Nat.lt_succ_iff_lt_or_eq.1 hj with q | q
            · exact hno j q
            · subst q; exact ha)
          have HBA := Lib.hid (HB.out.alloc (Obj.cells #[.int .i64 10, .func (Fn.func 60) #[] #[.pointer (some ⟨w1.heap.size, 0, none⟩)]] 54))
          have HTA := Lib.hid (AtC.below hat (one_new2 wr (Obj.cells #[.int .i64 10, .func (Fn.func 60) #[] #[.pointer (some ⟨w1.heap.size, 0, none⟩)]] 54)) hl2)
          have HFA := Lib.hid (HFO.out.on (one_new2 wr (Obj.cells #[.int .i64 10, .func (Fn.func 60) #[] #[.pointer (some ⟨w1.heap.size, 0, none⟩)]] 54)))
          clear hb ha hno hat hfo
          go_wp2_with fail
          go_roundw
          case rel => exact ⟨10, by omega, by go_num, HBA.out, HTA.out, by simp; omega, HFA.out, HNO.out⟩
          case measure => simp [intOf]
    · have hk10 : k = 10 := by omega
      subst hk10
      have hi : inB a 1 10 = false := by
        cases hq : inB a 1 10 with
        | false => rfl
        | true =>
          have := inBR_iff.1 hq
          exact absurd (show (((a - 1).toNat : Nat) : Int) + 1 = a by omega) (hno (a - 1).toNat (by omega))
      rw [hi] at HR1 HR2
      clear hb hat hfo hno hi
      go_wp2_with fail
      go_ret2
      exact ⟨ret_bb2 (by rw [HR1.out]; rfl) (by rw [HR2.out]), HB.out.all.2⟩
theorem four_up {w w1 : World} {b n : Nat} {a0 a1 a2 a3 : Value} (h : FourIs w b a0 a1 a2 a3) (hb : Below n w w1) (hn : b < n) : FourIs w1 b a0 a1 a2 a3 := by
  obtain ⟨h0, h1, h2, h3, hl⟩ := h
  exact ⟨(hb.cell (p := ⟨b, 0, none⟩) hn).trans h0, (hb.cell (p := ⟨b, 1, none⟩) hn).trans h1, (hb.cell (p := ⟨b, 2, none⟩) hn).trans h2, (hb.cell (p := ⟨b, 3, none⟩) hn).trans h3, Nat.lt_of_lt_of_le hl hb.size⟩
def BqRel (w : World) (o : Obj) (g c0 : Nat) (a0 a1 a2 a3 : Value) (X : List Value) (B : Nat) (P : Nat → Bool) (K : List Nat) (out i : Value) (wr : World) : Prop :=
  ∃ (k : Nat) (ks : List Nat), k ≤ 10 ∧ ks.length ≤ k ∧ i = .int .i64 k ∧ Aft w o wr ∧ B ≤ wr.heap.size ∧ wr.ownsRow B 3 1 out ks.length (nv ks) ∧ AtC wr g X ∧ g < wr.heap.size ∧ FourIs wr c0 a0 a1 a2 a3 ∧ Hid (ks ++ selF P 11 (k + 1) = K)
set_option maxRecDepth 100000 in
set_option maxHeartbeats 12800000 in
theorem implBrokenConditions_any (v : Value) (c : Cfg) (w : World) (HK : Hid (Kwt w)) (HV : Hid (CfgV w v c)) (HM : Hid (CfgM c)) :
    Calls Tryd.prog 11 #[v] w (SaysVS w (resBrokenConditions1 c) (resBrokenConditions2 c)) := by
  obtain ⟨ac, cc, af, cf, rfl, ic, if_⟩ := HV.out
  obtain ⟨s, cs, fs, d⟩ := c
  have hM := HM.out
  unfold CfgM at hM
  simp only at ic if_ hM HV ⊢
  obtain ⟨q0, q1, q2⟩ := hM
  have HI := Lib.hid ic
  have HJ := Lib.hid if_
  have HVB := Lib.hid (fun w' (b : Below w.heap.size w w') => Lib.hid (HV.out.below b))
  have A0 := Lib.hid (Aft.refl w (Obj.cells #[.string s, .slice ac cs.length cc, .slice af fs.length cf, .int .i64 d] 32))
  clear ic if_
  have HAS := Lib.hid (fun w' (b : Below w.heap.size w w') => isRaw_any (.agg #[.string s, .slice ac cs.length cc, .slice af fs.length cf, .int .i64 d]) ⟨s, cs, fs, d⟩ w' (HVB.out w' b) HM)
  have HCO := Lib.hid (fun w' => conditionsOf_any s ac af cs.length cc fs.length cf d w')
  show Calls _ _ _ _ (SaysVS w (if rawC ⟨s, cs, fs, d⟩ then selF (fun k => !holdP ⟨s, cs, fs, d⟩ k) 11 1 else []) (rawC ⟨s, cs, fs, d⟩))
  cases hh : rawC ⟨s, cs, fs, d⟩
  · rw [hh] at HAS
    clear hh
    go_enter Tryd.func11, Tryd.ntmps11
    go_wp2_with (go_at_call 23; refine (HAS.out _ A0.out.all.2).mono ?_; rintro e w1 ⟨rfl, b1⟩; have A1 := Lib.hid (A0.out.on b1); clear b1)
    go_ret2
    exact ⟨_, rfl, World.ownsRow_nil _ _ _ _, A1.out.all.2⟩
  have HR := Lib.hid hh
  rw [hh] at HAS
  rw [if_pos rfl]
  obtain ⟨i0, hi, hz0, hz1, hz2⟩ := info_parts infoI
  obtain ⟨P, hP⟩ : ∃ P, (fun k => !holdP ⟨s, cs, fs, d⟩ k) = P := ⟨_, rfl⟩
  have HPD := Lib.hid (fun k => (congrFun hP k).symm)
  rw [hP]
  obtain ⟨K, hK⟩ : ∃ K, selF P 11 1 = K := ⟨_, rfl⟩
  have H0 : Hid ([] ++ selF P 11 (0 + 1) = K) := Lib.hid hK
  rw [hK]
  clear hh hP hK
  go_enter Tryd.func11, Tryd.ntmps11
  go_wp2_with (go_at_call 23; refine (HAS.out _ A0.out.all.2).mono ?_; rintro e w1 ⟨rfl, b1⟩; have A1 := Lib.hid (A0.out.on b1); obtain ⟨c0, c1, c2, c3, _⟩ := A1.out.all.1; clear b1)
  go_wp2_with (go_at_call 24; refine (HCO.out _).mono ?_; rintro e w2 ⟨rfl, b2, t2, l2, f2⟩; have A2 := Lib.hid (A1.out.on b2); have T2 := Lib.hid t2; have F2 := Lib.hid f2; clear b2 t2 f2)
  have hB2 : w.heap.size + 1 ≤ w2.heap.size := A2.out.all.1.2.2.2.2
  go_loopw [4, 13] (fun out i wr => BqRel w (Obj.cells #[.string s, .slice ac cs.length cc, .slice af fs.length cf, .int .i64 d] 32) (w1.heap.size + 1) w1.heap.size (.string s) (.slice ac cs.length cc) (.slice af fs.length cf) (.int .i64 d) (condX w1.heap.size) w2.heap.size P K out i wr) (fun _ i _ => 10 - (intOf i).toNat)
  case atStart => exact ⟨0, [], Nat.zero_le _, Nat.le_refl _, rfl, A2.out, Nat.le_refl _, World.ownsRow_nil _ _ _ _, T2.out, l2, F2.out, H0⟩
  case round =>
    obtain ⟨k, ks, hk, hkl, rfl, hb, hsr, ho, hat, hl2, hfo, HP⟩ := hrel
    have HB := Lib.hid hb
    have HO := Lib.hid ho
    have HFO := Lib.hid hfo
    obtain ⟨ad, cO, rfl, _⟩ := own_in ho
    by_cases hlt : k < 10
    · have hcase : k = 0 ∨ k = 1 ∨ k = 2 ∨ k = 3 ∨ k = 4 ∨ k = 5 ∨ k = 6 ∨ k = 7 ∨ k = 8 ∨ k = 9 := by omega
      clear hk hlt c0 c1 c2 c3
      rcases hcase with rfl | rfl | rfl | rfl | rfl | rfl | rfl | rfl | rfl | rfl
      · have g0 := hat.at 0 (u := .int .i64 1) rfl
        have g1 := hat.at 1 rfl
        have HC := Lib.hid (fun w' (A : Below w.heap.size w w') HFo => cond1_cl s ac af cc cf d cs fs w1.heap.size w' (Lib.hid (HK.out.below A)) (Lib.hid (HI.out.below A)) (Lib.hid (HJ.out.below A)) HM HR HFo)
        have HBA := Lib.hid (HB.out.alloc (Obj.cells #[.int .i64 1, .func (Fn.func 38) #[] #[.pointer (some ⟨w1.heap.size, 0, none⟩)]] 54))
        have HOA := Lib.hid (World.ownsRow.alloc HO.out (Obj.cells #[.int .i64 1, .func (Fn.func 38) #[] #[.pointer (some ⟨w1.heap.size, 0, none⟩)]] 54))
        have HTA := Lib.hid (AtC.below hat (one_new2 wr (Obj.cells #[.int .i64 1, .func (Fn.func 38) #[] #[.pointer (some ⟨w1.heap.size, 0, none⟩)]] 54)) hl2)
        have HFA := Lib.hid (HFO.out.on (one_new2 wr (Obj.cells #[.int .i64 1, .func (Fn.func 38) #[] #[.pointer (some ⟨w1.heap.size, 0, none⟩)]] 54)))
        have hl3 : w1.heap.size + 1 < (wr.alloc (Obj.cells #[.int .i64 1, .func (Fn.func 38) #[] #[.pointer (some ⟨w1.heap.size, 0, none⟩)]] 54)).heap.size := by simp; omega
        cases hq : holdP ⟨s, cs, fs, d⟩ 1
        · have HX : Hid ((ks ++ [1]) ++ selF P 11 (1 + 1) = K) := Lib.hid (by rw [← HP.out, selF_yes (P := P) (n := 11) (k := 1) (by omega) (by rw [HPD.out, hq]; rfl)]; simp)
          rw [hq] at HC
          clear hb ho hq hat hfo
          go_wp2_with (go_at_call 38; refine (HC.out _ HBA.out.all.2 HFA).mono ?_; rintro e w3 ⟨rfl, b3⟩; have A3 := Lib.hid (HBA.out.on b3); have O3 := Lib.hid (own_low HOA.out b3 (Nat.le_refl _)); have T3 := Lib.hid (AtC.below HTA.out b3 hl3); have L3 : w1.heap.size + 1 < w3.heap.size := Nat.lt_of_lt_of_le hl3 b3.size; have hs3 : w2.heap.size ≤ w3.heap.size := Nat.le_trans hsr (Nat.le_trans (by simp) b3.size); have F3 := Lib.hid (HFA.out.on b3); have X0 : w3.cell? ⟨wr.heap.size, 0, none⟩ = some (.int .i64 1) := ((bcell b3).1 wr.heap.size 0 (by simp)).trans (by simp [go_sem]); clear b3; refine Hid.out ?_)
          refine Lib.hid ?_
          have hB3 : w2.heap.size ≤ w3.heap.size := hs3
          go_wp2_with (at_builtin; refine wpList_append_own _ rfl _ _ 36 rfl (w2.heap.size) 3 i0 (.int .i64 0) 1 8 Tryd.underlying36 hi hz0 hz1 hz2 rfl (by decide) _ _ _ rfl (World.ownsRow.alloc O3.out _) ⟨w3.heap.size, 0, none⟩ 1 1 [.int .i64 ((1 : Nat) : Int)] rfl rfl (by have := one_int w3 (.int .i64 ((1 : Nat) : Int)) 3; simpa using this) (by intro u hu; simp at hu; subst hu; rfl) (by unfold maxLen; omega) (by omega) (by simp; omega) ?_; intro v' wA hown1 hgrow1 _; have F := Lib.hid (own_snoc rfl ((Below.refl (w2.heap.size) w3).alloc hB3 (.cells #[.int .i64 ((1 : Nat) : Int)] 3)) hown1 (by simp; omega) hgrow1 (fun g h => (World.ownsRow.lt O3.out g h).1)); clear hown1 hgrow1)
          go_roundw
          case rel => exact ⟨1, ks ++ [1], by omega, Nat.le_trans (Nat.le_of_eq List.length_append) (by simp only [List.length_singleton]; omega), by go_num, A3.out.up (F.out.2.mono hB2), Nat.le_trans hs3 F.out.2.size, F.out.1, AtC.below T3.out F.out.2 l2, Nat.lt_of_lt_of_le L3 F.out.2.size, four_up F3.out F.out.2 (by omega), HX⟩
          case measure => simp [intOf]
        · have HX : Hid (ks ++ selF P 11 (1 + 1) = K) := Lib.hid (by rw [← HP.out, selF_no (P := P) (n := 11) (k := 1) (by omega) (by rw [HPD.out, hq]; rfl)])
          rw [hq] at HC
          clear hb ho hq hat hfo
          go_wp2_with (go_at_call 38; refine (HC.out _ HBA.out.all.2 HFA).mono ?_; rintro e w3 ⟨rfl, b3⟩; have A3 := Lib.hid (HBA.out.on b3); have O3 := Lib.hid (own_low HOA.out b3 (Nat.le_refl _)); have T3 := Lib.hid (AtC.below HTA.out b3 hl3); have L3 : w1.heap.size + 1 < w3.heap.size := Nat.lt_of_lt_of_le hl3 b3.size; have hs3 : w2.heap.size ≤ w3.heap.size := Nat.le_trans hsr (Nat.le_trans (by simp) b3.size); have F3 := Lib.hid (HFA.out.on b3); have X0 : w3.cell? ⟨wr.heap.size, 0, none⟩ = some (.int .i64 1) := ((bcell b3).1 wr.heap.size 0 (by simp)).trans (by simp [go_sem]); clear b3; refine Hid.out ?_)
          refine Lib.hid ?_
          go_wp2_with fail
          go_roundw
          case rel => exact ⟨1, ks, by omega, by omega, by go_num, A3.out, hs3, O3.out, T3.out, L3, F3.out, HX⟩
          case measure => simp [intOf]
      · have g0 := hat.at 2 (u := .int .i64 2) rfl
        have g1 := hat.at 3 rfl
        have HC := Lib.hid (fun w' (A : Below w.heap.size w w') HFo => cond2_cl s ac af cc cf d cs fs w1.heap.size w' (Lib.hid (HK.out.below A)) (Lib.hid (HI.out.below A)) (Lib.hid (HJ.out.below A)) HM HR HFo)
        have HBA := Lib.hid (HB.out.alloc (Obj.cells #[.int .i64 2, .func (Fn.func 40) #[] #[.pointer (some ⟨w1.heap.size, 0, none⟩)]] 54))
        have HOA := Lib.hid (World.ownsRow.alloc HO.out (Obj.cells #[.int .i64 2, .func (Fn.func 40) #[] #[.pointer (some ⟨w1.heap.size, 0, none⟩)]] 54))
        have HTA := Lib.hid (AtC.below hat (one_new2 wr (Obj.cells #[.int .i64 2, .func (Fn.func 40) #[] #[.pointer (some ⟨w1.heap.size, 0, none⟩)]] 54)) hl2)
        have HFA := Lib.hid (HFO.out.on (one_new2 wr (Obj.cells #[.int .i64 2, .func (Fn.func 40) #[] #[.pointer (some ⟨w1.heap.size, 0, none⟩)]] 54)))
        have hl3 : w1.heap.size + 1 < (wr.alloc (Obj.cells #[.int .i64 2, .func (Fn.func 40) #[] #[.pointer (some ⟨w1.heap.size, 0, none⟩)]] 54)).heap.size := by simp; omega
        cases hq : holdP ⟨s, cs, fs, d⟩ 2
        · have HX : Hid ((ks ++ [2]) ++ selF P 11 (2 + 1) = K) := Lib.hid (by rw [← HP.out, selF_yes (P := P) (n := 11) (k := 2) (by omega) (by rw [HPD.out, hq]; rfl)]; simp)
          rw [hq] at HC
          clear hb ho hq hat hfo
          go_wp2_with (go_at_call 40; refine (HC.out _ HBA.out.all.2 HFA).mono ?_; rintro e w3 ⟨rfl, b3⟩; have A3 := Lib.hid (HBA.out.on b3); have O3 := Lib.hid (own_low HOA.out b3 (Nat.le_refl _)); have T3 := Lib.hid (AtC.below HTA.out b3 hl3); have L3 : w1.heap.size + 1 < w3.heap.size := Nat.lt_of_lt_of_le hl3 b3.size; have hs3 : w2.heap.size ≤ w3.heap.size := Nat.le_trans hsr (Nat.le_trans (by simp) b3.size); have F3 := Lib.hid (HFA.out.on b3); have X0 : w3.cell? ⟨wr.heap.size, 0, none⟩ = some (.int .i64 2) := ((bcell b3).1 wr.heap.size 0 (by simp)).trans (by simp [go_sem]); clear b3; refine Hid.out ?_)
          refine Lib.hid ?_
          have hB3 : w2.heap.size ≤ w3.heap.size := hs3
          go_wp2_with (at_builtin; refine wpList_append_own _ rfl _ _ 36 rfl (w2.heap.size) 3 i0 (.int .i64 0) 1 8 Tryd.underlying36 hi hz0 hz1 hz2 rfl (by decide) _ _ _ rfl (World.ownsRow.alloc O3.out _) ⟨w3.heap.size, 0, none⟩ 1 1 [.int .i64 ((2 : Nat) : Int)] rfl rfl (by have := one_int w3 (.int .i64 ((2 : Nat) : Int)) 3; simpa using this) (by intro u hu; simp at hu; subst hu; rfl) (by unfold maxLen; omega) (by omega) (by simp; omega) ?_; intro v' wA hown1 hgrow1 _; have F := Lib.hid (own_snoc rfl ((Below.refl (w2.heap.size) w3).alloc hB3 (.cells #[.int .i64 ((2 : Nat) : Int)] 3)) hown1 (by simp; omega) hgrow1 (fun g h => (World.ownsRow.lt O3.out g h).1)); clear hown1 hgrow1)
          go_roundw
          case rel => exact ⟨2, ks ++ [2], by omega, Nat.le_trans (Nat.le_of_eq List.length_append) (by simp only [List.length_singleton]; omega), by go_num, A3.out.up (F.out.2.mono hB2), Nat.le_trans hs3 F.out.2.size, F.out.1, AtC.below T3.out F.out.2 l2, Nat.lt_of_lt_of_le L3 F.out.2.size, four_up F3.out F.out.2 (by omega), HX⟩
          case measure => simp [intOf]
        · have HX : Hid (ks ++ selF P 11 (2 + 1) = K) := Lib.hid (by rw [← HP.out, selF_no (P := P) (n := 11) (k := 2) (by omega) (by rw [HPD.out, hq]; rfl)])
          rw [hq] at HC
          clear hb ho hq hat hfo
          go_wp2_with (go_at_call 40; refine (HC.out _ HBA.out.all.2 HFA).mono ?_; rintro e w3 ⟨rfl, b3⟩; have A3 := Lib.hid (HBA.out.on b3); have O3 := Lib.hid (own_low HOA.out b3 (Nat.le_refl _)); have T3 := Lib.hid (AtC.below HTA.out b3 hl3); have L3 : w1.heap.size + 1 < w3.heap.size := Nat.lt_of_lt_of_le hl3 b3.size; have hs3 : w2.heap.size ≤ w3.heap.size := Nat.le_trans hsr (Nat.le_trans (by simp) b3.size); have F3 := Lib.hid (HFA.out.on b3); have X0 : w3.cell? ⟨wr.heap.size, 0, none⟩ = some (.int .i64 2) := ((bcell b3).1 wr.heap.size 0 (by simp)).trans (by simp [go_sem]); clear b3; refine Hid.out ?_)
          refine Lib.hid ?_
          go_wp2_with fail
          go_roundw
          case rel => exact ⟨2, ks, by omega, by omega, by go_num, A3.out, hs3, O3.out, T3.out, L3, F3.out, HX⟩
          case measure => simp [intOf]
      · have g0 := hat.at 4 (u := .int .i64 3) rfl
        have g1 := hat.at 5 rfl
        have HC := Lib.hid (fun w' (A : Below w.heap.size w w') HFo => cond3_cl s ac af cc cf d cs fs w1.heap.size w' (Lib.hid (HK.out.below A)) (Lib.hid (HI.out.below A)) (Lib.hid (HJ.out.below A)) HM HR HFo)
        have HBA := Lib.hid (HB.out.alloc (Obj.cells #[.int .i64 3, .func (Fn.func 42) #[] #[.pointer (some ⟨w1.heap.size, 0, none⟩)]] 54))
        have HOA := Lib.hid (World.ownsRow.alloc HO.out (Obj.cells #[.int .i64 3, .func (Fn.func 42) #[] #[.pointer (some ⟨w1.heap.size, 0, none⟩)]] 54))
        have HTA := Lib.hid (AtC.below hat (one_new2 wr (Obj.cells #[.int .i64 3, .func (Fn.func 42) #[] #[.pointer (some ⟨w1.heap.size, 0, none⟩)]] 54)) hl2)
        have HFA := Lib.hid (HFO.out.on (one_new2 wr (Obj.cells #[.int .i64 3, .func (Fn.func 42) #[] #[.pointer (some ⟨w1.heap.size, 0, none⟩)]] 54)))
        have hl3 : w1.heap.size + 1 < (wr.alloc (Obj.cells #[.int .i64 3, .func (Fn.func 42) #[] #[.pointer (some ⟨w1.heap.size, 0, none⟩)]] 54)).heap.size := by simp; omega
        cases hq : holdP ⟨s, cs, fs, d⟩ 3
        · have HX : Hid ((ks ++ [3]) ++ selF P 11 (3 + 1) = K) := Lib.hid (by rw [← HP.out, selF_yes (P := P) (n := 11) (k := 3) (by omega) (by rw [HPD.out, hq]; rfl)]; simp)
          rw [hq] at HC
          clear hb ho hq hat hfo
          go_wp2_with (go_at_call 42; refine (HC.out _ HBA.out.all.2 HFA).mono ?_; rintro e w3 ⟨rfl, b3⟩; have A3 := Lib.hid (HBA.out.on b3); have O3 := Lib.hid (own_low HOA.out b3 (Nat.le_refl _)); have T3 := Lib.hid (AtC.below HTA.out b3 hl3); have L3 : w1.heap.size + 1 < w3.heap.size := Nat.lt_of_lt_of_le hl3 b3.size; have hs3 : w2.heap.size ≤ w3.heap.size := Nat.le_trans hsr (Nat.le_trans (by simp) b3.size); have F3 := Lib.hid (HFA.out.on b3); have X0 : w3.cell? ⟨wr.heap.size, 0, none⟩ = some (.int .i64 3) := ((bcell b3).1 wr.heap.size 0 (by simp)).trans (by simp [go_sem]); clear b3; refine Hid.out ?_)
          refine Lib.hid ?_
          have hB3 : w2.heap.size ≤ w3.heap.size := hs3
          go_wp2_with (at_builtin; refine wpList_append_own _ rfl _ _ 36 rfl (w2.heap.size) 3 i0 (.int .i64 0) 1 8 Tryd.underlying36 hi hz0 hz1 hz2 rfl (by decide) _ _ _ rfl (World.ownsRow.alloc O3.out _) ⟨w3.heap.size, 0, none⟩ 1 1 [.int .i64 ((3 : Nat) : Int)] rfl rfl (by have := one_int w3 (.int .i64 ((3 : Nat) : Int)) 3; simpa using this) (by intro u hu; simp at hu; subst hu; rfl) (by unfold maxLen; omega) (by omega) (by simp; omega) ?_; intro v' wA hown1 hgrow1 _; have F := Lib.hid (own_snoc rfl ((Below.refl (w2.heap.size) w3).alloc hB3 (.cells #[.int .i64 ((3 : Nat) : Int)] 3)) hown1 (by simp; omega) hgrow1 (fun g h => (World.ownsRow.lt O3.out g h).1)); clear hown1 hgrow1)
          go_roundw
          case rel => exact ⟨3, ks ++ [3], by omega, Nat.le_trans (Nat.le_of_eq List.length_append) (by simp only [List.length_singleton]; omega), by go_num, A3.out.up (F.out.2.mono hB2), Nat.le_trans hs3 F.out.2.size, F.out.1, AtC.below T3.out F.out.2 l2, Nat.lt_of_lt_of_le L3 F.out.2.size, four_up F3.out F.out.2 (by omega), HX⟩
          case measure => simp [intOf]
        · have HX : Hid (ks ++ selF P 11 (3 + 1) = K) := Lib.hid (by rw [← HP.out, selF_no (P := P) (n := 11) (k := 3) (by omega) (by rw [HPD.out, hq]; rfl)])
          rw [hq] at HC
          clear hb ho hq hat hfo
          go_wp2_with (go_at_call 42; refine (HC.out _ HBA.out.all.2 HFA).mono ?_; rintro e w3 ⟨rfl, b3⟩; have A3 := Lib.hid (HBA.out.on b3); have O3 := Lib.hid (own_low HOA.out b3 (Nat.le_refl _)); have T3 := Lib.hid (AtC.below HTA.out b3 hl3); have L3 : w1.heap.size + 1 < w3.heap.size := Nat.lt_of_lt_of_le hl3 b3.size; have hs3 : w2.heap.size ≤ w3.heap.size := Nat.le_trans hsr (Nat.le_trans (by simp) b3.size); have F3 := Lib.hid (HFA.out.on b3); have X0 : w3.cell? ⟨wr.heap.size, 0, none⟩ = some (.int .i64 3) := ((bcell b3).1 wr.heap.size 0 (by simp)).trans (by simp [go_sem]); clear b3; refine Hid.out ?_)
          refine Lib.hid ?_
          go_wp2_with fail
          go_roundw
          case rel => exact ⟨3, ks, by omega, by omega, by go_num, A3.out, hs3, O3.out, T3.out, L3, F3.out, HX⟩
          case measure => simp [intOf]
      · have g0 := hat.at 6 (u := .int .i64 4) rfl
        have g1 := hat.at 7 rfl
        have HC := Lib.hid (fun w' (A : Below w.heap.size w w') HFo => cond4_cl s ac af cc cf d cs fs w1.heap.size w' (Lib.hid (HK.out.below A)) (Lib.hid (HI.out.below A)) (Lib.hid (HJ.out.below A)) HM HR HFo)
        have HBA := Lib.hid (HB.out.alloc (Obj.cells #[.int .i64 4, .func (Fn.func 46) #[] #[.pointer (some ⟨w1.heap.size, 0, none⟩)]] 54))
        have HOA := Lib.hid (World.ownsRow.alloc HO.out (Obj.cells #[.int .i64 4, .func (Fn.func 46) #[] #[.pointer (some ⟨w1.heap.size, 0, none⟩)]] 54))
        have HTA := Lib.hid (AtC.below hat (one_new2 wr (Obj.cells #[.int .i64 4, .func (Fn.func 46) #[] #[.pointer (some ⟨w1.heap.size, 0, none⟩)]] 54)) hl2)
        have HFA := Lib.hid (HFO.out.on (one_new2 wr (Obj.cells #[.int .i64 4, .func (Fn.func 46) #[] #[.pointer (some ⟨w1.heap.size, 0, none⟩)]] 54)))
        have hl3 : w1.heap.size + 1 < (wr.alloc (Obj.cells #[.int .i64 4, .func (Fn.func 46) #[] #[.pointer (some ⟨w1.heap.size, 0, none⟩)]] 54)).heap.size := by simp; omega
        cases hq : holdP ⟨s, cs, fs, d⟩ 4
        · have HX : Hid ((ks ++ [4]) ++ selF P 11 (4 + 1) = K) := Lib.hid (by rw [← HP.out, selF_yes (P := P) (n := 11) (k := 4) (by omega) (by rw [HPD.out, hq]; rfl)]; simp)
          rw [hq] at HC
          clear hb ho hq hat hfo
          go_wp2_with (go_at_call 46; refine (HC.out _ HBA.out.all.2 HFA).mono ?_; rintro e w3 ⟨rfl, b3⟩; have A3 := Lib.hid (HBA.out.on b3); have O3 := Lib.hid (own_low HOA.out b3 (Nat.le_refl _)); have T3 := Lib.hid (AtC.below HTA.out b3 hl3); have L3 : w1.heap.size + 1 < w3.heap.size := Nat.lt_of_lt_of_le hl3 b3.size; have hs3 : w2.heap.size ≤ w3.heap.size := Nat.le_trans hsr (Nat.le_trans (by simp) b3.size); have F3 := Lib.hid (HFA.out.on b3); have X0 : w3.cell? ⟨wr.heap.size, 0, none⟩ = some (.int .i64 4) := ((bcell b3).1 wr.heap.size 0 (by simp)).trans (by simp [go_sem]); clear b3; refine Hid.out ?_)
          refine Lib.hid ?_
          have hB3 : w2.heap.size ≤ w3.heap.size := hs3
          go_wp2_with (at_builtin; refine wpList_append_own _ rfl _ _ 36 rfl (w2.heap.size) 3 i0 (.int .i64 0) 1 8 Tryd.underlying36 hi hz0 hz1 hz2 rfl (by decide) _ _ _ rfl (World.ownsRow.alloc O3.out _) ⟨w3.heap.size, 0, none⟩ 1 1 [.int .i64 ((4 : Nat) : Int)] rfl rfl (by have := one_int w3 (.int .i64 ((4 : Nat) : Int)) 3; simpa using this) (by intro u hu; simp at hu; subst hu; rfl) (by unfold maxLen; omega) (by omega) (by simp; omega) ?_; intro v' wA hown1 hgrow1 _; have F := Lib.hid (own_snoc rfl ((Below.refl (w2.heap.size) w3).alloc hB3 (.cells #[.int .i64 ((4 : Nat) : Int)] 3)) hown1 (by simp; omega) hgrow1 (fun g h => (World.ownsRow.lt O3.out g h).1)); clear hown1 hgrow1)
          go_roundw
          case rel => exact ⟨4, ks ++ [4], by omega, Nat.le_trans (Nat.le_of_eq List.length_append) (by simp only [List.length_singleton]; omega), by go_num, A3.out.up (F.out.2.mono hB2), Nat.le_trans hs3 F.out.2.size, F.out.1, AtC.below T3.out F.out.2 l2, Nat.lt_of_lt_of_le L3 F.out.2.size, four_up F3.out F.out.2 (by omega), HX⟩
          case measure => simp [intOf]
        · have HX : Hid (ks ++ selF P 11 (4 + 1) = K) := Lib.hid (by rw [← HP.out, selF_no (P := P) (n := 11) (k := 4) (by omega) (by rw [HPD.out, hq]; rfl)])
          rw [hq] at HC
          clear hb ho hq hat hfo
          go_wp2_with (go_at_call 46; refine (HC.out _ HBA.out.all.2 HFA).mono ?_; rintro e w3 ⟨rfl, b3⟩; have A3 := Lib.hid (HBA.out.on b3); have O3 := Lib.hid (own_low HOA.out b3 (Nat.le_refl _)); have T3 := Lib.hid (AtC.below HTA.out b3 hl3); have L3 : w1.heap.size + 1 < w3.heap.size := Nat.lt_of_lt_of_le hl3 b3.size; have hs3 : w2.heap.size ≤ w3.heap.size := Nat.le_trans hsr (Nat.le_trans (by simp) b3.size); have F3 := Lib.hid (HFA.out.on b3); have X0 : w3.cell? ⟨wr.heap.size, 0, none⟩ = some (.int .i64 4) := ((bcell b3).1 wr.heap.size 0 (by simp)).trans (by simp [go_sem]); clear b3; refine Hid.out ?_)
          refine Lib.hid ?_
          go_wp2_with fail
          go_roundw
          case rel => exact ⟨4, ks, by omega, by omega, by go_num, A3.out, hs3, O3.out, T3.out, L3, F3.out, HX⟩
          case measure => simp [intOf]
      · have g0 := hat.at 8 (u := .int .i64 5) rfl
        have g1 := hat.at 9 rfl
        have HC := Lib.hid (fun w' (A : Below w.heap.size w w') HFo => cond5_cl s ac af cc cf d cs fs w1.heap.size w' (Lib.hid (HK.out.below A)) (Lib.hid (HI.out.below A)) (Lib.hid (HJ.out.below A)) HM HR HFo)
        have HBA := Lib.hid (HB.out.alloc (Obj.cells #[.int .i64 5, .func (Fn.func 48) #[] #[.pointer (some ⟨w1.heap.size, 0, none⟩)]] 54))
        have HOA := Lib.hid (World.ownsRow.alloc HO.out (Obj.cells #[.int .i64 5, .func (Fn.func 48) #[] #[.pointer (some ⟨w1.heap.size, 0, none⟩)]] 54))
        have HTA := Lib.hid (AtC.below hat (one_new2 wr (Obj.cells #[.int .i64 5, .func (Fn.func 48) #[] #[.pointer (some ⟨w1.heap.size, 0, none⟩)]] 54)) hl2)
        have HFA := Lib.hid (HFO.out.on (one_new2 wr (Obj.cells #[.int .i64 5, .func (Fn.func 48) #[] #[.pointer (some ⟨w1.heap.size, 0, none⟩)]] 54)))
        have hl3 : w1.heap.size + 1 < (wr.alloc (Obj.cells #[.int .i64 5, .func (Fn.func 48) #[] #[.pointer (some ⟨w1.heap.size, 0, none⟩)]] 54)).heap.size := by simp; omega
        cases hq : holdP ⟨s, cs, fs, d⟩ 5
        · have HX : Hid ((ks ++ [5]) ++ selF P 11 (5 + 1) = K) := Lib.hid (by rw [← HP.out, selF_yes (P := P) (n := 11) (k := 5) (by omega) (by rw [HPD.out, hq]; rfl)]; simp)
          rw [hq] at HC
          clear hb ho hq hat hfo
          go_wp2_with (go_at_call 48; refine (HC.out _ HBA.out.all.2 HFA).mono ?_; rintro e w3 ⟨rfl, b3⟩; have A3 := Lib.hid (HBA.out.on b3); have O3 := Lib.hid (own_low HOA.out b3 (Nat.le_refl _)); have T3 := Lib.hid (AtC.below HTA.out b3 hl3); have L3 : w1.heap.size + 1 < w3.heap.size := Nat.lt_of_lt_of_le hl3 b3.size; have hs3 : w2.heap.size ≤ w3.heap.size := Nat.le_trans hsr (Nat.le_trans (by simp) b3.size); have F3 := Lib.hid (HFA.out.on b3); have X0 : w3.cell? ⟨wr.heap.size, 0, none⟩ = some (.int .i64 5) := ((bcell b3).1 wr.heap.size 0 (by simp)).trans (by simp [go_sem]); clear b3; refine Hid.out ?_)
          refine Lib.hid ?_
          have hB3 : w2.heap.size ≤ w3.heap.size := hs3
          go_wp2_with (at_builtin; refine wpList_append_own _ rfl _ _ 36 rfl (w2.heap.size) 3 i0 (.int .i64 0) 1 8 Tryd.underlying36 hi hz0 hz1 hz2 rfl (by decide) _ _ _ rfl (World.ownsRow.alloc O3.out _) ⟨w3.heap.size, 0, none⟩ 1 1 [.int .i64 ((5 : Nat) : Int)] rfl rfl (by have := one_int w3 (.int .i64 ((5 : Nat) : Int)) 3; simpa using this) (by intro u hu; simp at hu; subst hu; rfl) (by unfold maxLen; omega) (by omega) (by simp; omega) ?_; intro v' wA hown1 hgrow1 _; have F := Lib.hid (own_snoc rfl ((Below.refl (w2.heap.size) w3).alloc hB3 (.cells #[.int .i64 ((5 : Nat) : Int)] 3)) hown1 (by simp; omega) hgrow1 (fun g h => (World.ownsRow.lt O3.out g h).1)); clear hown1 hgrow1)
          go_roundw
          case rel => exact ⟨5, ks ++ [5], by omega, Nat.le_trans (Nat.le_of_eq List.length_append) (by simp only [List.length_singleton]; omega), by go_num, A3.out.up (F.out.2.mono hB2), Nat.le_trans hs3 F.out.2.size, F.out.1, AtC.below T3.out F.out.2 l2, Nat.lt_of_lt_of_le L3 F.out.2.size, four_up F3.out F.out.2 (by omega), HX⟩
          case measure => simp [intOf]
        · have HX : Hid (ks ++ selF P 11 (5 + 1) = K) := Lib.hid (by rw [← HP.out, selF_no (P := P) (n := 11) (k := 5) (by omega) (by rw [HPD.out, hq]; rfl)])
          rw [hq] at HC
          clear hb ho hq hat hfo
          go_wp2_with (go_at_call 48; refine (HC.out _ HBA.out.all.2 HFA).mono ?_; rintro e w3 ⟨rfl, b3⟩; have A3 := Lib.hid (HBA.out.on b3); have O3 := Lib.hid (own_low HOA.out b3 (Nat.le_refl _)); have T3 := Lib.hid (AtC.below HTA.out b3 hl3); have L3 : w1.heap.size + 1 < w3.heap.size := Nat.lt_of_lt_of_le hl3 b3.size; have hs3 : w2.heap.size ≤ w3.heap.size := Nat.le_trans hsr (Nat.le_trans (by simp) b3.size); have F3 := Lib.hid (HFA.out.on b3); have X0 : w3.cell? ⟨wr.heap.size, 0, none⟩ = some (.int .i64 5) := ((bcell b3).1 wr.heap.size 0 (by simp)).trans (by simp [go_sem]); clear b3; refine Hid.out ?_)
          refine Lib.hid ?_
          go_wp2_with fail
          go_roundw
          case rel => exact ⟨5, ks, by omega, by omega, by go_num, A3.out, hs3, O3.out, T3.out, L3, F3.out, HX⟩
          case measure => simp [intOf]
      · have g0 := hat.at 10 (u := .int .i64 6) rfl
        have g1 := hat.at 11 rfl
        have HC := Lib.hid (fun w' (A : Below w.heap.size w w') HFo => cond6_cl s ac af cc cf d cs fs w1.heap.size w' (Lib.hid (HK.out.below A)) (Lib.hid (HI.out.below A)) (Lib.hid (HJ.out.below A)) HM HR HFo)
        have HBA := Lib.hid (HB.out.alloc (Obj.cells #[.int .i64 6, .func (Fn.func 51) #[] #[.pointer (some ⟨w1.heap.size, 0, none⟩)]] 54))
        have HOA := Lib.hid (World.ownsRow.alloc HO.out (Obj.cells #[.int .i64 6, .func (Fn.func 51) #[] #[.pointer (some ⟨w1.heap.size, 0, none⟩)]] 54))
        have HTA := Lib.hid (AtC.below hat (one_new2 wr (Obj.cells #[.int .i64 6, .func (Fn.func 51) #[] #[.pointer (some ⟨w1.heap.size, 0, none⟩)]] 54)) hl2)
        have HFA := Lib.hid (HFO.out.on (one_new2 wr (Obj.cells #[.int .i64 6, .func (Fn.func 51) #[] #[.pointer (some ⟨w1.heap.size, 0, none⟩)]] 54)))
        have hl3 : w1.heap.size + 1 < (wr.alloc (Obj.cells #[.int .i64 6, .func (Fn.func 51) #[] #[.pointer (some ⟨w1.heap.size, 0, none⟩)]] 54)).heap.size := by simp; omega
        cases hq : holdP ⟨s, cs, fs, d⟩ 6
        · have HX : Hid ((ks ++ [6]) ++ selF P 11 (6 + 1) = K) := Lib.hid (by rw [← HP.out, selF_yes (P := P) (n := 11) (k := 6) (by omega) (by rw [HPD.out, hq]; rfl)]; simp)
          rw [hq] at HC
          clear hb ho hq hat hfo
          go_wp2_with (go_at_call 51; refine (HC.out _ HBA.out.all.2 HFA).mono ?_; rintro e w3 ⟨rfl, b3⟩; have A3 := Lib.hid (HBA.out.on b3); have O3 := Lib.hid (own_low HOA.out b3 (Nat.le_refl _)); have T3 := Lib.hid (AtC.below HTA.out b3 hl3); have L3 : w1.heap.size + 1 < w3.heap.size := Nat.lt_of_lt_of_le hl3 b3.size; have hs3 : w2.heap.size ≤ w3.heap.size := Nat.le_trans hsr (Nat.le_trans (by simp) b3.size); have F3 := Lib.hid (HFA.out.on b3); have X0 : w3.cell? ⟨wr.heap.size, 0, none⟩ = some (.int .i64 6) := ((bcell b3).1 wr.heap.size 0 (by simp)).trans (by simp [go_sem]); clear b3; refine Hid.out ?_)
          refine Lib.hid ?_
          have hB3 : w2.heap.size ≤ w3.heap.size := hs3
          go_wp2_with (at_builtin; refine wpList_append_own _ rfl _ _ 36 rfl (w2.heap.size) 3 i0 (.int .i64 0) 1 8 Tryd.underlying36 hi hz0 hz1 hz2 rfl (by decide) _ _ _ rfl (World.ownsRow.alloc O3.out _) ⟨w3.heap.size, 0, none⟩ 1 1 [.int .i64 ((6 : Nat) : Int)] rfl rfl (by have := one_int w3 (.int .i64 ((6 : Nat) : Int)) 3; simpa using this) (by intro u hu; simp at hu; subst hu; rfl) (by unfold maxLen; omega) (by omega) (by simp; omega) ?_; intro v' wA hown1 hgrow1 _; have F := Lib.hid (own_snoc rfl ((Below.refl (w2.heap.size) w3).alloc hB3 (.cells #[.int .i64 ((6 : Nat) : Int)] 3)) hown1 (by simp; omega) hgrow1 (fun g h => (World.ownsRow.lt O3.out g h).1)); clear hown1 hgrow1)
          go_roundw
          case rel => exact ⟨6, ks ++ [6], by omega, Nat.le_trans (Nat.le_of_eq List.length_append) (by simp only [List.length_singleton]; omega), by go_num, A3.out.up (F.out.2.mono hB2), Nat.le_trans hs3 F.out.2.size, F.out.1, AtC.below T3.out F.out.2 l2, Nat.lt_of_lt_of_le L3 F.out.2.size, four_up F3.out F.out.2 (by omega), HX⟩
          case measure => simp [intOf]
        · have HX : Hid (ks ++ selF P 11 (6 + 1) = K) := Lib.hid (by rw [← HP.out, selF_no (P := P) (n := 11) (k := 6) (by omega) (by rw [HPD.out, hq]; rfl)])
          rw [hq] at HC
          clear hb ho hq hat hfo
          go_wp2_with (go_at_call 51; refine (HC.out _ HBA.out.all.2 HFA).mono ?_; rintro e w3 ⟨rfl, b3⟩; have A3 := Lib.hid (HBA.out.on b3); have O3 := Lib.hid (own_low HOA.out b3 (Nat.le_refl _)); have T3 := Lib.hid (AtC.below HTA.out b3 hl3); have L3 : w1.heap.size + 1 < w3.heap.size := Nat.lt_of_lt_of_le hl3 b3.size; have hs3 : w2.heap.size ≤ w3.heap.size := Nat.le_trans hsr (Nat.le_trans (by simp) b3.size); have F3 := Lib.hid (HFA.out.on b3); have X0 : w3.cell? ⟨wr.heap.size, 0, none⟩ = some (.int .i64 6) := ((bcell b3).1 wr.heap.size 0 (by simp)).trans (by simp [go_sem]); clear b3; refine Hid.out ?_)
          refine Lib.hid ?_
          go_wp2_with fail
          go_roundw
          case rel => exact ⟨6, ks, by omega, by omega, by go_num, A3.out, hs3, O3.out, T3.out, L3, F3.out, HX⟩
          case measure => simp [intOf]
      · have g0 := hat.at 12 (u := .int .i64 7) rfl
        have g1 := hat.at 13 rfl
        have HC := Lib.hid (fun w' (A : Below w.heap.size w w') HFo => cond7_cl s ac af cc cf d cs fs w1.heap.size w' (Lib.hid (HK.out.below A)) (Lib.hid (HI.out.below A)) (Lib.hid (HJ.out.below A)) HM HR HFo)
        have HBA := Lib.hid (HB.out.alloc (Obj.cells #[.int .i64 7, .func (Fn.func 53) #[] #[.pointer (some ⟨w1.heap.size, 0, none⟩)]] 54))
        have HOA := Lib.hid (World.ownsRow.alloc HO.out (Obj.cells #[.int .i64 7, .func (Fn.func 53) #[] #[.pointer (some ⟨w1.heap.size, 0, none⟩)]] 54))
        have HTA := Lib.hid (AtC.below hat (one_new2 wr (Obj.cells #[.int .i64 7, .func (Fn.func 53) #[] #[.pointer (some ⟨w1.heap.size, 0, none⟩)]] 54)) hl2)
        have HFA := Lib.hid (HFO.out.on (one_new2 wr (Obj.cells #[.int .i64 7, .func (Fn.func 53) #[] #[.pointer (some ⟨w1.heap.size, 0, none⟩)]] 54)))
        have hl3 : w1.heap.size + 1 < (wr.alloc (Obj.cells #[.int .i64 7, .func (Fn.func 53) #[] #[.pointer (some ⟨w1.heap.size, 0, none⟩)]] 54)).heap.size := by simp; omega
        cases hq : holdP ⟨s, cs, fs, d⟩ 7
        · have HX : Hid ((ks ++ [7]) ++ selF P 11 (7 + 1) = K) := Lib.hid (by rw [← HP.out, selF_yes (P := P) (n := 11) (k := 7) (by omega) (by rw [HPD.out, hq]; rfl)]; simp)
          rw [hq] at HC
          clear hb ho hq hat hfo
          go_wp2_with (go_at_call 53; refine (HC.out _ HBA.out.all.2 HFA).mono ?_; rintro e w3 ⟨rfl, b3⟩; have A3 := Lib.hid (HBA.out.on b3); have O3 := Lib.hid (own_low HOA.out b3 (Nat.le_refl _)); have T3 := Lib.hid (AtC.below HTA.out b3 hl3); have L3 : w1.heap.size + 1 < w3.heap.size := Nat.lt_of_lt_of_le hl3 b3.size; have hs3 : w2.heap.size ≤ w3.heap.size := Nat.le_trans hsr (Nat.le_trans (by simp) b3.size); have F3 := Lib.hid (HFA.out.on b3); have X0 : w3.cell? ⟨wr.heap.size, 0, none⟩ = some (.int .i64 7) := ((bcell b3).1 wr.heap.size 0 (by simp)).trans (by simp [go_sem]); clear b3; refine Hid.out ?_)
          refine Lib.hid ?_
          have hB3 : w2.heap.size ≤ w3.heap.size := hs3
          go_wp2_with (at_builtin; refine wpList_append_own _ rfl _ _ 36 rfl (w2.heap.size) 3 i0 (.int .i64 0) 1 8 Tryd.underlying36 hi hz0 hz1 hz2 rfl (by decide) _ _ _ rfl (World.ownsRow.alloc O3.out _) ⟨w3.heap.size, 0, none⟩ 1 1 [.int .i64 ((7 : Nat) : Int)] rfl rfl (by have := one_int w3 (.int .i64 ((7 : Nat) : Int)) 3; simpa using this) (by intro u hu; simp at hu; subst hu; rfl) (by unfold maxLen; omega) (by omega) (by simp; omega) ?_; intro v' wA hown1 hgrow1 _; have F := Lib.hid (own_snoc rfl ((Below.refl (w2.heap.size) w3).alloc hB3 (.cells #[.int .i64 ((7 : Nat) : Int)] 3)) hown1 (by simp; omega) hgrow1 (fun g h => (World.ownsRow.lt O3.out g h).1)); clear hown1 hgrow1)
          go_roundw
          case rel => exact ⟨7, ks ++ [7], by omega, Nat.le_trans (Nat.le_of_eq List.length_append) (by simp only [List.length_singleton]; omega), by go_num, A3.out.up (F.out.2.mono hB2), Nat.le_trans hs3 F.out.2.size, F.out.1, AtC.below T3.out F.out.2 l2, Nat.lt_of_lt_of_le L3 F.out.2.size, four_up F3.out F.out.2 (by omega), HX⟩
          case measure => simp [intOf]
        · have HX : Hid (ks ++ selF P 11 (7 + 1) = K) := Lib.hid (by rw [← HP.out, selF_no (P := P) (n := 11) (k := 7) (by omega) (by rw [HPD.out, hq]; rfl)])
          rw [hq] at HC
          clear hb ho hq hat hfo
          go_wp2_with (go_at_call 53; refine (HC.out _ HBA.out.all.2 HFA).mono ?_; rintro e w3 ⟨rfl, b3⟩; have A3 := Lib.hid (HBA.out.on b3); have O3 := Lib.hid (own_low HOA.out b3 (Nat.le_refl _)); have T3 := Lib.hid (AtC.below HTA.out b3 hl3); have L3 : w1.heap.size + 1 < w3.heap.size := Nat.lt_of_lt_of_le hl3 b3.size; have hs3 : w2.heap.size ≤ w3.heap.size := Nat.le_trans hsr (Nat.le_trans (by simp) b3.size); have F3 := Lib.hid (HFA.out.on b3); have X0 : w3.cell? ⟨wr.heap.size, 0, none⟩ = some (.int .i64 7) := ((bcell b3).1 wr.heap.size 0 (by simp)).trans (by simp [go_sem]); clear b3; refine Hid.out ?_)
          refine Lib.hid ?_
          go_wp2_with fail
          go_roundw
          case rel => exact ⟨7, ks, by omega, by omega, by go_num, A3.out, hs3, O3.out, T3.out, L3, F3.out, HX⟩
          case measure => simp [intOf]
      · have g0 := hat.at 14 (u := .int .i64 8) rfl
        have g1 := hat.at 15 rfl
        have HC := Lib.hid (fun w' (A : Below w.heap.size w w') HFo => cond8_cl s ac af cc cf d cs fs w1.heap.size w' (Lib.hid (HK.out.below A)) (Lib.hid (HI.out.below A)) (Lib.hid (HJ.out.below A)) HM HR HFo)
        have HBA := Lib.hid (HB.out.alloc (Obj.cells #[.int .i64 8, .func (Fn.func 55) #[] #[.pointer (some ⟨w1.heap.size, 0, none⟩)]] 54))
        have HOA := Lib.hid (World.ownsRow.alloc HO.out (Obj.cells #[.int .i64 8, .func (Fn.func 55) #[] #[.pointer (some ⟨w1.heap.size, 0, none⟩)]] 54))
        have HTA := Lib.hid (AtC.below hat (one_new2 wr (Obj.cells #[.int .i64 8, .func (Fn.func 55) #[] #[.pointer (some ⟨w1.heap.size, 0, none⟩)]] 54)) hl2)
        have HFA := Lib.hid (HFO.out.on (one_new2 wr (Obj.cells #[.int .i64 8, .func (Fn.func 55) #[] #[.pointer (some ⟨w1.heap.size, 0, none⟩)]] 54)))
        have hl3 : w1.heap.size + 1 < (wr.alloc (Obj.cells #[.int .i64 8, .func (Fn.func 55) #[] #[.pointer (some ⟨w1.heap.size, 0, none⟩)]] 54)).heap.size := by simp; omega
        cases hq : holdP ⟨s, cs, fs, d⟩ 8
        · have HX : Hid ((ks ++ [8]) ++ selF P 11 (8 + 1) = K) := Lib.hid (by rw [← HP.out, selF_yes (P := P) (n := 11) (k := 8) (by omega) (by rw [HPD.out, hq]; rfl)]; simp)
          rw [hq] at HC
          clear hb ho hq hat hfo
          go_wp2_with (go_at_call 55; refine (HC.out _ HBA.out.all.2 HFA).mono ?_; rintro e w3 ⟨rfl, b3⟩; have A3 := Lib.hid (HBA.out.on b3); have O3 := Lib.hid (own_low HOA.out b3 (Nat.le_refl _)); have T3 := Lib.hid (AtC.below HTA.out b3 hl3); have L3 : w1.heap.size + 1 < w3.heap.size := Nat.lt_of_lt_of_le hl3 b3.size; have hs3 : w2.heap.size ≤ w3.heap.size := Nat.le_trans hsr (Nat.le_trans (by simp) b3.size); have F3 := Lib.hid (HFA.out.on b3); have X0 : w3.cell? ⟨wr.heap.size, 0, none⟩ = some (.int .i64 8) := ((bcell b3).1 wr.heap.size 0 (by simp)).trans (by simp [go_sem]); clear b3; refine Hid.out ?_)
          refine Lib.hid ?_
          have hB3 : w2.heap.size ≤ w3.heap.size := hs3
          go_wp2_with (at_builtin; refine wpList_append_own _ rfl _ _ 36 rfl (w2.heap.size) 3 i0 (.int .i64 0) 1 8 Tryd.underlying36 hi hz0 hz1 hz2 rfl (by decide) _ _ _ rfl (World.ownsRow.alloc O3.out _) ⟨w3.heap.size, 0, none⟩ 1 1 [.int .i64 ((8 : Nat) : Int)] rfl rfl (by have := one_int w3 (.int .i64 ((8 : Nat) : Int)) 3; simpa using this) (by intro u hu; simp at hu; subst hu; rfl) (by unfold maxLen; omega) (by omega) (by simp; omega) ?_; intro v' wA hown1 hgrow1 _; have F := Lib.hid (own_snoc rfl ((Below.refl (w2.heap.size) w3).alloc hB3 (.cells #[.int .i64 ((8 : Nat) : Int)] 3)) hown1 (by simp; omega) hgrow1 (fun g h => (World.ownsRow.lt O3.out g h).1)); clear hown1 hgrow1)
          go_roundw
          case rel => exact ⟨8, ks ++ [8], by omega, Nat.le_trans (Nat.le_of_eq List.length_append) (by simp only [List.length_singleton]; omega), by go_num, A3.out.up (F.out.2.mono hB2), Nat.le_trans hs3 F.out.2.size, F.out.1, AtC.below T3.out F.out.2 l2, Nat.lt_of_lt_of_le L3 F.out.2.size, four_up F3.out F.out.2 (by omega), HX⟩
          case measure => simp [intOf]
        · have HX : Hid (ks ++ selF P 11 (8 + 1) = K) := Lib.hid (by rw [← HP.out, selF_no (P := P) (n := 11) (k := 8) (by omega) (by rw [HPD.out, hq]; rfl)])
          rw [hq] at HC
          clear hb ho hq hat hfo
          go_wp2_with (go_at_call 55; refine (HC.out _ HBA.out.all.2 HFA).mono ?_; rintro e w3 ⟨rfl, b3⟩; have A3 := Lib.hid (HBA.out.on b3); have O3 := Lib.hid (own_low HOA.out b3 (Nat.le_refl _)); have T3 := Lib.hid (AtC.below HTA.out b3 hl3); have L3 : w1.heap.size + 1 < w3.heap.size := Nat.lt_of_lt_of_le hl3 b3.size; have hs3 : w2.heap.size ≤ w3.heap.size := Nat.le_trans hsr (Nat.le_trans (by simp) b3.size); have F3 := Lib.hid (HFA.out.on b3); have X0 : w3.cell? ⟨wr.heap.size, 0, none⟩ = some (.int .i64 8) := ((bcell b3).1 wr.heap.size 0 (by simp)).trans (by simp [go_sem]); clear b3; refine Hid.out ?_)
          refine Lib.hid ?_
          go_wp2_with fail
          go_roundw
          case rel => exact ⟨8, ks, by omega, by omega, by go_num, A3.out, hs3, O3.out, T3.out, L3, F3.out, HX⟩
          case measure => simp [intOf]
      · have g0 := hat.at 16 (u := .int .i64 9) rfl
        have g1 := hat.at 17 rfl
        have HC := Lib.hid (fun w' (A : Below w.heap.size w w') HFo => cond9_cl s ac af cc cf d cs fs w1.heap.size w' (Lib.hid (HK.out.below A)) (Lib.hid (HI.out.below A)) (Lib.hid (HJ.out.below A)) HM HR HFo)
        have HBA := Lib.hid (HB.out.alloc (Obj.cells #[.int .i64 9, .func (Fn.func 57) #[] #[.pointer (some ⟨w1.heap.size, 0, none⟩)]] 54))
        have HOA := Lib.hid (World.ownsRow.alloc HO.out (Obj.cells #[.int .i64 9, .func (Fn.func 57) #[] #[.pointer (some ⟨w1.heap.size, 0, none⟩)]] 54))
        have HTA := Lib.hid (AtC.below hat (one_new2 wr (Obj.cells #[.int .i64 9, .func (Fn.func 57) #[] #[.pointer (some ⟨w1.heap.size, 0, none⟩)]] 54)) hl2)
        have HFA := Lib.hid (HFO.out.on (one_new2 wr (Obj.cells #[.int .i64 9, .func (Fn.func 57) #[] #[.pointer (some ⟨w1.heap.size, 0, none⟩)]] 54)))
        have hl3 : w1.heap.size + 1 < (wr.alloc (Obj.cells #[.int .i64 9, .func (Fn.func 57) #[] #[.pointer (some ⟨w1.heap.size, 0, none⟩)]] 54)).heap.size := by simp; omega
        cases hq : holdP ⟨s, cs, fs, d⟩ 9
        · have HX : Hid ((ks ++ [9]) ++ selF P 11 (9 + 1) = K) := Lib.hid (by rw [← HP.out, selF_yes (P := P) (n := 11) (k := 9) (by omega) (by rw [HPD.out, hq]; rfl)]; simp)
          rw [hq] at HC
          clear hb ho hq hat hfo
          go_wp2_with (go_at_call 57; refine (HC.out _ HBA.out.all.2 HFA).mono ?_; rintro e w3 ⟨rfl, b3⟩; have A3 := Lib.hid (HBA.out.on b3); have O3 := Lib.hid (own_low HOA.out b3 (Nat.le_refl _)); have T3 := Lib.hid (AtC.below HTA.out b3 hl3); have L3 : w1.heap.size + 1 < w3.heap.size := Nat.lt_of_lt_of_le hl3 b3.size; have hs3 : w2.heap.size ≤ w3.heap.size := Nat.le_trans hsr (Nat.le_trans (by simp) b3.size); have F3 := Lib.hid (HFA.out.on b3); have X0 : w3.cell? ⟨wr.heap.size, 0, none⟩ = some (.int .i64 9) := ((bcell b3).1 wr.heap.size 0 (by simp)).trans (by simp [go_sem]); clear b3; refine Hid.out ?_)
          refine Lib.hid ?_
          have hB3 : w2.heap.size ≤ w3.heap.size := hs3
          go_wp2_with (at_builtin; refine wpList_append_own _ rfl _ _ 36 rfl (w2.heap.size) 3 i0 (.int .i64 0) 1 8 Tryd.underlying36 hi hz0 hz1 hz2 rfl (by decide) _ _ _ rfl (World.ownsRow.alloc O3.out _) ⟨w3.heap.size, 0, none⟩ 1 1 [.int .i64 ((9 : Nat) : Int)] rfl rfl (by have := one_int w3 (.int .i64 ((9 : Nat) : Int)) 3; simpa using this) (by intro u hu; simp at hu; subst hu; rfl) (by unfold maxLen; omega) (by omega) (by simp; omega) ?_; intro v' wA hown1 hgrow1 _; have F := Lib.hid (own_snoc rfl ((Below.refl (w2.heap.size) w3).alloc hB3 (.cells #[.int .i64 ((9 : Nat) : Int)] 3)) hown1 (by simp; omega) hgrow1 (fun g h => (World.ownsRow.lt O3.out g h).1)); clear hown1 hgrow1)
          go_roundw
          case rel => exact ⟨9, ks ++ [9], by omega, Nat.le_trans (Nat.le_of_eq List.length_append) (by simp only [List.length_singleton]; omega), by go_num, A3.out.up (F.out.2.mono hB2), Nat.le_trans hs3 F.out.2.size, F.out.1, AtC.below T3.out F.out.2 l2, Nat.lt_of_lt_of_le L3 F.out.2.size, four_up F3.out F.out.2 (by omega), HX⟩
          case measure => simp [intOf]
        · have HX : Hid (ks ++ selF P 11 (9 + 1) = K) := Lib.hid (by rw [← HP.out, selF_no (P := P) (n := 11) (k := 9) (by omega) (by rw [HPD.out, hq]; rfl)])
          rw [hq] at HC
          clear hb ho hq hat hfo
          go_wp2_with (go_at_call 57; refine (HC.out _ HBA.out.all.2 HFA).mono ?_; rintro e w3 ⟨rfl, b3⟩; have A3 := Lib.hid (HBA.out.on b3); have O3 := Lib.hid (own_low HOA.out b3 (Nat.le_refl _)); have T3 := Lib.hid (AtC.below HTA.out b3 hl3); have L3 : w1.heap.size + 1 < w3.heap.size := Nat.lt_of_lt_of_le hl3 b3.size; have hs3 : w2.heap.size ≤ w3.heap.size := Nat.le_trans hsr (Nat.le_trans (by simp) b3.size); have F3 := Lib.hid (HFA.out.on b3); have X0 : w3.cell? ⟨wr.heap.size, 0, none⟩ = some (.int .i64 9) := ((bcell b3).1 wr.heap.size 0 (by simp)).trans (by simp [go_sem]); clear b3; refine Hid.out ?_)
          refine Lib.hid ?_
          go_wp2_with fail
          go_roundw
          case rel => exact ⟨9, ks, by omega, by omega, by go_num, A3.out, hs3, O3.out, T3.out, L3, F3.out, HX⟩
          case measure => simp [intOf]
      · have g0 := hat.at 18 (u := .int .i64 10) rfl
        have g1 := hat.at 19 rfl
        have HC := Lib.hid (fun w' (A : Below w.heap.size w w') HFo => cond10_cl s ac af cc cf d cs fs w1.heap.size w' (Lib.hid (HK.out.below A)) (Lib.hid (HI.out.below A)) (Lib.hid (HJ.out.below A)) HM HR HFo)
        have HBA := Lib.hid (HB.out.alloc (Obj.cells #[.int .i64 10, .func (Fn.func 60) #[] #[.pointer (some ⟨w1.heap.size, 0, none⟩)]] 54))
        have HOA := Lib.hid (World.ownsRow.alloc HO.out (Obj.cells #[.int .i64 10, .func (Fn.func 60) #[] #[.pointer (some ⟨w1.heap.size, 0, none⟩)]] 54))
        have HTA := Lib.hid (AtC.below hat (one_new2 wr (Obj.cells #[.int .i64 10, .func (Fn.func 60) #[] #[.pointer (some ⟨w1.heap.size, 0, none⟩)]] 54)) hl2)
        have HFA := Lib.hid (HFO.out.on (one_new2 wr (Obj.cells #[.int .i64 10, .func (Fn.func 60) #[] #[.pointer (some ⟨w1.heap.size, 0, none⟩)]] 54)))
        have hl3 : w1.heap.size + 1 < (wr.alloc (Obj.cells #[.int .i64 10, .func (Fn.func 60) #[] #[.pointer (some ⟨w1.heap.size, 0, none⟩)]] 54)).heap.size := by simp; omega
        cases hq : holdP ⟨s, cs, fs, d⟩ 10
        · have HX : Hid ((ks ++ [10]) ++ selF P 11 (10 + 1) = K) := Lib.hid (by rw [← HP.out, selF_yes (P := P) (n := 11) (k := 10) (by omega) (by rw [HPD.out, hq]; rfl)]; simp)
          rw [hq] at HC
          clear hb ho hq hat hfo
          go_wp2_with (go_at_call 60; refine (HC.out _ HBA.out.all.2 HFA).mono ?_; rintro e w3 ⟨rfl, b3⟩; have A3 := Lib.hid (HBA.out.on b3); have O3 := Lib.hid (own_low HOA.out b3 (Nat.le_refl _)); have T3 := Lib.hid (AtC.below HTA.out b3 hl3); have L3 : w1.heap.size + 1 < w3.heap.size := Nat.lt_of_lt_of_le hl3 b3.size; have hs3 : w2.heap.size ≤ w3.heap.size := Nat.le_trans hsr (Nat.le_trans (by simp) b3.size); have F3 := Lib.hid (HFA.out.on b3); have X0 : w3.cell? ⟨wr.heap.size, 0, none⟩ = some (.int .i64 10) := ((bcell b3).1 wr.heap.size 0 (by simp)).trans (by simp [go_sem]); clear b3; refine Hid.out ?_)
          refine Lib.hid ?_
          have hB3 : w2.heap.size ≤ w3.heap.size := hs3
          go_wp2_with (at_builtin; refine wpList_append_own _ rfl _ _ 36 rfl (w2.heap.size) 3 i0 (.int .i64 0) 1 8 Tryd.underlying36 hi hz0 hz1 hz2 rfl (by decide) _ _ _ rfl (World.ownsRow.alloc O3.out _) ⟨w3.heap.size, 0, none⟩ 1 1 [.int .i64 ((10 : Nat) : Int)] rfl rfl (by have := one_int w3 (.int .i64 ((10 : Nat) : Int)) 3; simpa using this) (by intro u hu; simp at hu; subst hu; rfl) (by unfold maxLen; omega) (by omega) (by simp; omega) ?_; intro v' wA hown1 hgrow1 _; have F := Lib.hid (own_snoc rfl ((Below.refl (w2.heap.size) w3).alloc hB3 (.cells #[.int .i64 ((10 : Nat) : Int)] 3)) hown1 (by simp; omega) hgrow1 (fun g h => (World.ownsRow.lt O3.out g h).1)); clear hown1 hgrow1)
          go_roundw
          case rel => exact ⟨10, ks ++ [10], by omega, Nat.le_trans (Nat.le_of_eq List.length_append) (by simp only [List.length_singleton]; omega), by go_num, A3.out.up (F.out.2.mono hB2), Nat.le_trans hs3 F.out.2.size, F.out.1, AtC.below T3.out F.out.2 l2, Nat.lt_of_lt_of_le L3 F.out.2.size, four_up F3.out F.out.2 (by omega), HX⟩
          case measure => simp [intOf]
        · have HX : Hid (ks ++ selF P 11 (10 + 1) = K) := Lib.hid (by rw [← HP.out, selF_no (P := P) (n := 11) (k := 10) (by omega) (by rw [HPD.out, hq]; rfl)])
          rw [hq] at HC
          clear hb ho hq hat hfo
          go_wp2_with (go_at_call 60; refine (HC.out _ HBA.out.all.2 HFA).mono ?_; rintro e w3 ⟨rfl, b3⟩; have A3 := Lib.hid (HBA.out.on b3); have O3 := Lib.hid (own_low HOA.out b3 (Nat.le_refl _)); have T3 := Lib.hid (AtC.below HTA.out b3 hl3); have L3 : w1.heap.size + 1 < w3.heap.size := Nat.lt_of_lt_of_le hl3 b3.size; have hs3 : w2.heap.size ≤ w3.heap.size := Nat.le_trans hsr (Nat.le_trans (by simp) b3.size); have F3 := Lib.hid (HFA.out.on b3); have X0 : w3.cell? ⟨wr.heap.size, 0, none⟩ = some (.int .i64 10) := ((bcell b3).1 wr.heap.size 0 (by simp)).trans (by simp [go_sem]); clear b3; refine Hid.out ?_)
          refine Lib.hid ?_
          go_wp2_with fail
          go_roundw
          case rel => exact ⟨10, ks, by omega, by omega, by go_num, A3.out, hs3, O3.out, T3.out, L3, F3.out, HX⟩
          case measure => simp [intOf]
    · have hk10 : k = 10 := by omega
      subst hk10
      have HX : Hid (ks = K) := Lib.hid (by rw [← HP.out, selF_end _ (by omega), List.append_nil])
      clear hb ho hat hfo
      go_wp2_with fail
      go_ret2
      exact ⟨_, rfl, by rw [← HX.out]; exact own_base HO.out A2.out.all.2.size, HB.out.all.2⟩
end Go.Proofs.YtfijhgggljaomaaDoor
