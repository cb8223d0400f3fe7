/- Chapter 8, the program: indices where something holds; rings, deep ways, bad parents and targets. -/
import Derived.Test.YtfijhgggljaomaaDoorVac
import Derived.Test.YtfijhgggljaomaaDoorBxw
import Derived.Deep.RegionHeld3
namespace Go.Proofs.YtfijhgggljaomaaDoor
set_option maxRecDepth 100000
open Go.RowKit
set_option linter.unusedVariables false

def IwRel (w : World) (N : Nat) (P : Nat → Bool) (K : List Nat) (out i : Value) (wr : World) : Prop :=
  ∃ (k : Nat) (ks : List Nat), k ≤ N ∧ ks.length ≤ k ∧ i = .int .i64 k ∧ Below w.heap.size w wr ∧ wr.ownsRow w.heap.size 3 1 out ks.length (nv ks) ∧ Hid (ks ++ selF P N k = K)
set_option maxHeartbeats 6400000 in
theorem DeepClasses_cl (s : ByteArray) (ac af : Option Addr) (n cc m cf : Nat) (d : Int) (cs : List Cls) (fs : List Flt) (c0 k : Nat) (w : World) (HI : Hid (InX w ac n (clsCs cs))) (HJ : Hid (InX w af m (fltCs fs))) (hn : Hid (cs.length = n)) (hf : Hid (fs.length = m)) (h40 : n ≤ 40) (hf40 : m ≤ 40) (hk : k < n) (HFo : Hid (FourIs w c0 (.string s) (.slice ac n cc) (.slice af m cf) (.int .i64 d))) :
    Calls Tryd.prog 78 #[.int .i64 (k : Int), .pointer (some ⟨c0, 0, none⟩)] w (SaysB w (deepQ ⟨s, cs, fs, d⟩ k)) := by
  have q1 : n ≤ 1048576 := by omega
  obtain ⟨e0, e1, e2, e3, hgw⟩ := HFo.out
  have hX : deepQ ⟨s, cs, fs, d⟩ k = (decide (8 < (wkN cs k : Int)) || (wkA cs k != -1)) := by
    unfold deepQ
    exact (deep_same (by rw [hn.out]; exact h40) (by rw [hn.out]; exact hk)).symm
  have HW := Lib.hid (fun w HI => walkUp_any ac n cc cs k w HI hn q1 h40 hk)
  rw [hX]
  clear hX
  generalize wkA cs k = ra at HW ⊢
  generalize wkN cs k = rn at HW ⊢
  obtain ⟨p, hp⟩ : ∃ p, decide (8 < (rn : Int)) = p := ⟨_, rfl⟩
  obtain ⟨q, hq⟩ : ∃ q, (ra != (-1 : Int)) = q := ⟨_, rfl⟩
  rw [hp, hq]
  cases p
  · go_enter Tryd.func78, Tryd.ntmps78
    go_wp2_with (go_at_call 79; refine (HW.out _ HI).mono ?_; rintro e w1 ⟨rfl, b1⟩; have B1 := Lib.hid b1; clear b1)
    go_ret
    exact ⟨rfl, B1.out⟩
  · go_enter Tryd.func78, Tryd.ntmps78
    go_wp2_with (go_at_call 79; refine (HW.out _ HI).mono ?_; rintro e w1 ⟨rfl, b1⟩; have B1 := Lib.hid b1; clear b1)
    go_ret
    exact ⟨rfl, B1.out⟩
set_option maxHeartbeats 6400000 in
theorem BadTargets_cl (s : ByteArray) (ac af : Option Addr) (n cc m cf : Nat) (d : Int) (cs : List Cls) (fs : List Flt) (c0 k : Nat) (w : World) (HI : Hid (InX w ac n (clsCs cs))) (HJ : Hid (InX w af m (fltCs fs))) (hn : Hid (cs.length = n)) (hf : Hid (fs.length = m)) (h40 : n ≤ 40) (hf40 : m ≤ 40) (hk : k < m) (HFo : Hid (FourIs w c0 (.string s) (.slice ac n cc) (.slice af m cf) (.int .i64 d))) :
    Calls Tryd.prog 86 #[.int .i64 (k : Int), .pointer (some ⟨c0, 0, none⟩)] w (SaysB w (tgtP ⟨s, cs, fs, d⟩ k)) := by
  have q1 : n ≤ 1048576 := by omega
  obtain ⟨e0, e1, e2, e3, hgw⟩ := HFo.out
  have HL := Lib.hid (fun id w HI => isLeafId_any ac n cc cs id w HI hn q1)
  obtain ⟨x, hx⟩ : ∃ x, fs.getD k flt0 = x := ⟨_, rfl⟩
  have hl1 : k < fs.length := by rw [hf.out]; exact hk
  have HGJ := HJ.out
  obtain ⟨g, rfl, ht, hg⟩ := HGJ (by omega)
  obtain ⟨a0, a1, a2, a3, a4⟩ := ht.flt k hl1 x hx
  have HLx := Lib.hid (HL.out x.t)
  have hX : tgtP ⟨s, cs, fs, d⟩ k = !leafB cs x.t := by unfold tgtP; simp only; rw [hx]
  rw [hX]
  generalize leafB cs x.t = lb at HLx ⊢
  obtain ⟨xo, xf, xm, xv, xt⟩ := x
  simp only at a0 a1 a2 a3 a4 HLx
  clear hx ht hX
  go_enter Tryd.func86, Tryd.ntmps86
  go_wp2_with fail
  go_region_with (go_at_call 61; refine (HLx.out _ (Lib.hid (HI.out.below (below_drewN (Below.refl _ _) _)))).mono ?_; rintro e w4 ⟨rfl, b4⟩; have B4 := Lib.hid ((below_drewN (Below.refl _ w) 1).trans b4); clear b4)
  all_goals
    (try go_simp)
    go_wp2
    go_ret
    exact ⟨rfl, B4.out⟩
set_option maxHeartbeats 6400000 in
theorem BadParents_cl (s : ByteArray) (ac af : Option Addr) (n cc m cf : Nat) (d : Int) (cs : List Cls) (fs : List Flt) (c0 k : Nat) (w : World) (HI : Hid (InX w ac n (clsCs cs))) (HJ : Hid (InX w af m (fltCs fs))) (hn : Hid (cs.length = n)) (hf : Hid (fs.length = m)) (h40 : n ≤ 40) (hf40 : m ≤ 40) (hk : k < n) (HFo : Hid (FourIs w c0 (.string s) (.slice ac n cc) (.slice af m cf) (.int .i64 d))) :
    Calls Tryd.prog 76 #[.int .i64 (k : Int), .pointer (some ⟨c0, 0, none⟩)] w (SaysB w (badP ⟨s, cs, fs, d⟩ k)) := by
  have q1 : n ≤ 1048576 := by omega
  obtain ⟨e0, e1, e2, e3, hgw⟩ := HFo.out
  have HL := Lib.hid (fun id w HI => classWith_any ac n cc cs id w HI hn q1)
  have HT := Lib.hid (fun x w => isTop_any x w)
  obtain ⟨x, hx⟩ : ∃ x, cs.getD k cls0 = x := ⟨_, rfl⟩
  have hl1 : k < cs.length := by rw [hn.out]; exact hk
  have HGI := HI.out
  obtain ⟨g, rfl, ht, hg⟩ := HGI (by omega)
  obtain ⟨a0, a1, a2, a3, a4, a5, a6, a7⟩ := ht.cls k hl1 x hx
  have HLx := Lib.hid (HL.out x.p)
  have HTx := Lib.hid (HT.out x)
  have hX : badP ⟨s, cs, fs, d⟩ k = (!(x.p == 0) && (fndI cs x.p == -1)) := by
    unfold badP; simp only; rw [hx]
    have h1 : (fnd cs x.p).isNone = (fndI cs x.p == -1) := by
      have := fndI_not (cs := cs) (id := x.p)
      rw [← Option.not_isSome, ← this]; simp [bne]
    rw [h1]; simp [bne]
  rw [hX]
  generalize fndI cs x.p = fi at HLx ⊢
  obtain ⟨p, hp⟩ : ∃ p, (x.p == 0) = p := ⟨_, rfl⟩
  obtain ⟨q, hq⟩ : ∃ q, (fi == -1) = q := ⟨_, rfl⟩
  rw [hp] at HTx
  rw [hp, hq]
  obtain ⟨xi, xp, xr, xe, xb, xu, xo, xl⟩ := x
  unfold clsV at HTx
  simp only at a0 a1 a2 a3 a4 a5 a6 a7 HLx HTx
  clear hx ht hX hp
  have e0' := fun o => ((bcell (one_new2 w o)).1 _ 0 hgw).trans e0
  have e1' := fun o => ((bcell (one_new2 w o)).1 _ 1 hgw).trans e1
  have B0 := Lib.hid (one_new2 w (Obj.cells #[.int .i64 xi, .int .i64 xp, .int .i64 xr, .int .i64 xe, .int .i64 xb, .int .i64 xu, .int .i64 xo, .int .i64 xl] 62))
  cases p
  · go_enter Tryd.func76, Tryd.ntmps76
    go_wp2_with (go_at_call 75; refine (HTx.out _).mono ?_; rintro e w1 ⟨rfl, b1⟩; have B1 := Lib.hid (B0.out.trans (b1.mono B0.out.size)); have X1 := (bcell b1).1 w.heap.size 1 (by simp); have E1 := ((bcell B1.out).1 c0 1 hgw).trans e1; have XX : w1.cell? ⟨w.heap.size, 1, none⟩ = some (.int .i64 xp) := X1.trans (by simp [go_sem]); clear b1 X1; refine Hid.out ?_)
    refine Lib.hid ?_
    go_wp2_with (go_at_call 77; refine (HLx.out _ (Lib.hid (HI.out.below B1.out))).mono ?_; rintro e w2 ⟨rfl, b2⟩; have B2 := Lib.hid (B1.out.trans (b2.mono B1.out.size)); clear b2)
    go_ret
    exact ⟨rfl, B2.out⟩
  · go_enter Tryd.func76, Tryd.ntmps76
    go_wp2_with (go_at_call 75; refine (HTx.out _).mono ?_; rintro e w1 ⟨rfl, b1⟩; have B1 := Lib.hid (B0.out.trans (b1.mono B0.out.size)); clear b1)
    go_ret
    exact ⟨rfl, B1.out⟩
set_option maxHeartbeats 3200000 in
theorem iw_DeepClasses (c0 N : Nat) (P : Nat → Bool) (w : World) (hN : N ≤ 40) (HF : Hid (∀ k : Nat, k < N → ∀ w', Below w.heap.size w w' → Calls Tryd.prog 78 #[.int .i64 (k : Int), .pointer (some ⟨c0, 0, none⟩)] w' (SaysB w' (P k)))) :
    Calls Tryd.prog 73 #[.int .i64 (N : Int), .func (Fn.func 78) #[] #[.pointer (some ⟨c0, 0, none⟩)]] w (SaysNs w (selF P N 0)) := by
  obtain ⟨i0, hi, hz0, hz1, hz2⟩ := info_parts infoI
  obtain ⟨K, hK⟩ : ∃ K, selF P N 0 = K := ⟨_, rfl⟩
  have H0 : Hid ([] ++ selF P N 0 = K) := Lib.hid hK
  rw [hK]
  clear hK
  go_enter Tryd.func73, Tryd.ntmps73
  go_wp2_with fail
  go_loopw [5, 8] (fun out i wr => IwRel w N P K out i wr) (fun _ i _ => N - (intOf i).toNat)
  case atStart => exact ⟨0, [], Nat.zero_le _, Nat.le_refl _, rfl, Below.refl _ _, World.ownsRow_nil _ _ _ _, H0⟩
  case round =>
    obtain ⟨k, ks, hk, hkl, rfl, hb, ho, HP⟩ := hrel
    have HB := Lib.hid hb
    have HO := Lib.hid ho
    obtain ⟨ad, cO, rfl, _⟩ := own_in ho
    by_cases hlt : k < N
    · have HFk := Lib.hid (HF.out k hlt)
      rcases Bool.eq_false_or_eq_true (P k) with hq | hq
      · have HX : Hid ((ks ++ [k]) ++ selF P N (k + 1) = K) := Lib.hid (by rw [← HP.out, selF_yes hlt hq]; simp)
        rw [hq] at HFk
        clear hb ho hq
        go_wp2_with (go_at_call 78; refine (HFk.out _ HB.out).mono ?_; rintro e w2 ⟨rfl, b2⟩; have A2 := Lib.hid (HB.out.trans (b2.mono HB.out.size)); have O2 := Lib.hid (own_low HO.out b2 (Nat.le_refl _)); clear b2; refine Hid.out ?_)
        refine Lib.hid ?_
        have hB2 : w.heap.size ≤ w2.heap.size := A2.out.size
        go_wp2_with (at_builtin; refine wpList_append_own _ rfl _ _ 36 rfl (w.heap.size) 3 i0 (.int .i64 0) 1 8 Tryd.underlying36 hi hz0 hz1 hz2 rfl (by decide) _ _ _ rfl (World.ownsRow.alloc O2.out _) ⟨w2.heap.size, 0, none⟩ 1 1 [.int .i64 (k : Int)] rfl rfl (by have := one_int w2 (.int .i64 (k : Int)) 3; simpa using this) (by intro u hu; simp at hu; subst hu; rfl) (by unfold maxLen; omega) (by omega) (by simp; omega) ?_; intro v' wA hown1 hgrow1 _; have F := Lib.hid (own_snoc rfl ((Below.refl (w.heap.size) w2).alloc hB2 (.cells #[.int .i64 (k : Int)] 3)) hown1 (by simp; omega) hgrow1 (fun g h => (World.ownsRow.lt O2.out g h).1)); clear hown1 hgrow1)
        go_roundw
        case rel => exact ⟨k + 1, ks ++ [k], by omega, by simp; omega, by go_num, A2.out.trans F.out.2, F.out.1, HX⟩
        case measure => simp [intOf]; omega
      · have HX : Hid (ks ++ selF P N (k + 1) = K) := Lib.hid (by rw [← HP.out, selF_no hlt hq])
        rw [hq] at HFk
        clear hb ho hq
        go_wp2_with (go_at_call 78; refine (HFk.out _ HB.out).mono ?_; rintro e w2 ⟨rfl, b2⟩; have A2 := Lib.hid (HB.out.trans (b2.mono HB.out.size)); have O2 := Lib.hid (own_low HO.out b2 (Nat.le_refl _)); clear b2)
        go_roundw
        case rel => exact ⟨k + 1, ks, by omega, by omega, by go_num, A2.out, O2.out, HX⟩
        case measure => simp [intOf]; omega
    · have HX : Hid (ks = K) := Lib.hid (by rw [← HP.out, selF_end _ (by omega), List.append_nil])
      clear hb ho
      go_wp2_with fail
      go_ret
      exact ⟨_, rfl, by rw [← HX.out]; exact HO.out, HB.out⟩
set_option maxHeartbeats 6400000 in
theorem implDeepClasses_any (v : Value) (c : Cfg) (w : World) (HV : Hid (CfgV w v c)) (HM : Hid (CfgM c)) :
    Calls Tryd.prog 47 #[v] w (SaysVS w (selC deepQ c) (rawC c)) := by
  obtain ⟨ac, cc, af, cf, rfl, ic, if_⟩ := HV.out
  obtain ⟨s, cs, fs, d⟩ := c
  have hM := HM.out
  unfold CfgM at hM
  simp only at ic if_ hM HV ⊢
  obtain ⟨q0, q1, q2⟩ := hM
  have HI := Lib.hid ic
  have HJ := Lib.hid if_
  have HVB := Lib.hid (fun w' (b : Below w.heap.size w w') => Lib.hid (HV.out.below b))
  have A0 := Lib.hid (Aft.refl w (Obj.cells #[.string s, .slice ac cs.length cc, .slice af fs.length cf, .int .i64 d] 32))
  clear ic if_
  have HAS := Lib.hid (fun w' (b : Below w.heap.size w w') => isRaw_any (.agg #[.string s, .slice ac cs.length cc, .slice af fs.length cf, .int .i64 d]) ⟨s, cs, fs, d⟩ w' (HVB.out w' b) HM)
  cases hh : rawC ⟨s, cs, fs, d⟩
  · rw [selC_bad hh]
    rw [hh] at HAS
    clear hh
    go_enter Tryd.func47, Tryd.ntmps47
    go_wp2_with (go_at_call 23; refine (HAS.out _ A0.out.all.2).mono ?_; rintro e w1 ⟨rfl, b1⟩; have A1 := Lib.hid (A0.out.on b1); clear b1)
    go_ret2
    exact ⟨_, rfl, World.ownsRow_nil _ _ _ _, A1.out.all.2⟩
  · obtain ⟨h40, hf40⟩ := raw_of hh
    rw [selC_ok hh]
    rw [hh] at HAS
    simp only at h40 hf40 ⊢
    have HCL := Lib.hid (fun (w1 : World) (A1 : Aft w (Obj.cells #[.string s, .slice ac cs.length cc, .slice af fs.length cf, .int .i64 d] 32) w1) => iw_DeepClasses w.heap.size cs.length (deepQ ⟨s, cs, fs, d⟩) w1 h40 (Lib.hid (fun k hk w' b => DeepClasses_cl s ac af cs.length cc fs.length cf d cs fs w.heap.size k w' (Lib.hid (HI.out.below (A1.on b).all.2)) (Lib.hid (HJ.out.below (A1.on b).all.2)) (Lib.hid rfl) (Lib.hid rfl) h40 hf40 hk (Lib.hid (A1.on b).all.1))))
    generalize selF (deepQ ⟨s, cs, fs, d⟩) cs.length 0 = K at HCL ⊢
    clear hh
    go_enter Tryd.func47, Tryd.ntmps47
    go_wp2_with (go_at_call 23; refine (HAS.out _ A0.out.all.2).mono ?_; rintro e w1 ⟨rfl, b1⟩; have A1 := Lib.hid (A0.out.on b1); obtain ⟨c0, c1, c2, c3, _⟩ := A1.out.all.1; clear b1)
    go_wp2_with (go_at_call 73; refine (HCL.out _ A1.out).mono ?_; rintro e w2 ⟨v2, rfl, o2, b2⟩; have A2 := Lib.hid (A1.out.on b2); have O2 := Lib.hid (own_base o2 A1.out.all.2.size); clear b2 o2)
    go_ret2
    exact ⟨_, rfl, O2.out, A2.out.all.2⟩
set_option maxHeartbeats 3200000 in
theorem iw_BadTargets (c0 N : Nat) (P : Nat → Bool) (w : World) (hN : N ≤ 40) (HF : Hid (∀ k : Nat, k < N → ∀ w', Below w.heap.size w w' → Calls Tryd.prog 86 #[.int .i64 (k : Int), .pointer (some ⟨c0, 0, none⟩)] w' (SaysB w' (P k)))) :
    Calls Tryd.prog 73 #[.int .i64 (N : Int), .func (Fn.func 86) #[] #[.pointer (some ⟨c0, 0, none⟩)]] w (SaysNs w (selF P N 0)) := by
  obtain ⟨i0, hi, hz0, hz1, hz2⟩ := info_parts infoI
  obtain ⟨K, hK⟩ : ∃ K, selF P N 0 = K := ⟨_, rfl⟩
  have H0 : Hid ([] ++ selF P N 0 = K) := Lib.hid hK
  rw [hK]
  clear hK
  go_enter Tryd.func73, Tryd.ntmps73
  go_wp2_with fail
  go_loopw [5, 8] (fun out i wr => IwRel w N P K out i wr) (fun _ i _ => N - (intOf i).toNat)
  case atStart => exact ⟨0, [], Nat.zero_le _, Nat.le_refl _, rfl, Below.refl _ _, World.ownsRow_nil _ _ _ _, H0⟩
  case round =>
    obtain ⟨k, ks, hk, hkl, rfl, hb, ho, HP⟩ := hrel
    have HB := Lib.hid hb
    have HO := Lib.hid ho
    obtain ⟨ad, cO, rfl, _⟩ := own_in ho
    by_cases hlt : k < N
    · have HFk := Lib.hid (HF.out k hlt)
      rcases Bool.eq_false_or_eq_true (P k) with hq | hq
      · have HX : Hid ((ks ++ [k]) ++ selF P N (k + 1) = K) := Lib.hid (by rw [← HP.out, selF_yes hlt hq]; simp)
        rw [hq] at HFk
        clear hb ho hq
        go_wp2_with (go_at_call 86; refine (HFk.out _ HB.out).mono ?_; rintro e w2 ⟨rfl, b2⟩; have A2 := Lib.hid (HB.out.trans (b2.mono HB.out.size)); have O2 := Lib.hid (own_low HO.out b2 (Nat.le_refl _)); clear b2; refine Hid.out ?_)
        refine Lib.hid ?_
        have hB2 : w.heap.size ≤ w2.heap.size := A2.out.size
        go_wp2_with (at_builtin; refine wpList_append_own _ rfl _ _ 36 rfl (w.heap.size) 3 i0 (.int .i64 0) 1 8 Tryd.underlying36 hi hz0 hz1 hz2 rfl (by decide) _ _ _ rfl (World.ownsRow.alloc O2.out _) ⟨w2.heap.size, 0, none⟩ 1 1 [.int .i64 (k : Int)] rfl rfl (by have := one_int w2 (.int .i64 (k : Int)) 3; simpa using this) (by intro u hu; simp at hu; subst hu; rfl) (by unfold maxLen; omega) (by omega) (by simp; omega) ?_; intro v' wA hown1 hgrow1 _; have F := Lib.hid (own_snoc rfl ((Below.refl (w.heap.size) w2).alloc hB2 (.cells #[.int .i64 (k : Int)] 3)) hown1 (by simp; omega) hgrow1 (fun g h => (World.ownsRow.lt O2.out g h).1)); clear hown1 hgrow1)
        go_roundw
        case rel => exact ⟨k + 1, ks ++ [k], by omega, by simp; omega, by go_num, A2.out.trans F.out.2, F.out.1, HX⟩
        case measure => simp [intOf]; omega
      · have HX : Hid (ks ++ selF P N (k + 1) = K) := Lib.hid (by rw [← HP.out, selF_no hlt hq])
        rw [hq] at HFk
        clear hb ho hq
        go_wp2_with (go_at_call 86; refine (HFk.out _ HB.out).mono ?_; rintro e w2 ⟨rfl, b2⟩; have A2 := Lib.hid (HB.out.trans (b2.mono HB.out.size)); have O2 := Lib.hid (own_low HO.out b2 (Nat.le_refl _)); clear b2)
        go_roundw
        case rel => exact ⟨k + 1, ks, by omega, by omega, by go_num, A2.out, O2.out, HX⟩
        case measure => simp [intOf]; omega
    · have HX : Hid (ks = K) := Lib.hid (by rw [← HP.out, selF_end _ (by omega), List.append_nil])
      clear hb ho
      go_wp2_with fail
      go_ret
      exact ⟨_, rfl, by rw [← HX.out]; exact HO.out, HB.out⟩
set_option maxHeartbeats 6400000 in
theorem implBadTargets_any (v : Value) (c : Cfg) (w : World) (HV : Hid (CfgV w v c)) (HM : Hid (CfgM c)) :
    Calls Tryd.prog 59 #[v] w (SaysVS w (selT tgtP c) (rawC c)) := by
  obtain ⟨ac, cc, af, cf, rfl, ic, if_⟩ := HV.out
  obtain ⟨s, cs, fs, d⟩ := c
  have hM := HM.out
  unfold CfgM at hM
  simp only at ic if_ hM HV ⊢
  obtain ⟨q0, q1, q2⟩ := hM
  have HI := Lib.hid ic
  have HJ := Lib.hid if_
  have HVB := Lib.hid (fun w' (b : Below w.heap.size w w') => Lib.hid (HV.out.below b))
  have A0 := Lib.hid (Aft.refl w (Obj.cells #[.string s, .slice ac cs.length cc, .slice af fs.length cf, .int .i64 d] 32))
  clear ic if_
  have HAS := Lib.hid (fun w' (b : Below w.heap.size w w') => isRaw_any (.agg #[.string s, .slice ac cs.length cc, .slice af fs.length cf, .int .i64 d]) ⟨s, cs, fs, d⟩ w' (HVB.out w' b) HM)
  cases hh : rawC ⟨s, cs, fs, d⟩
  · rw [selT_bad hh]
    rw [hh] at HAS
    clear hh
    go_enter Tryd.func59, Tryd.ntmps59
    go_wp2_with (go_at_call 23; refine (HAS.out _ A0.out.all.2).mono ?_; rintro e w1 ⟨rfl, b1⟩; have A1 := Lib.hid (A0.out.on b1); clear b1)
    go_ret2
    exact ⟨_, rfl, World.ownsRow_nil _ _ _ _, A1.out.all.2⟩
  · obtain ⟨h40, hf40⟩ := raw_of hh
    rw [selT_ok hh]
    rw [hh] at HAS
    simp only at h40 hf40 ⊢
    have HCL := Lib.hid (fun (w1 : World) (A1 : Aft w (Obj.cells #[.string s, .slice ac cs.length cc, .slice af fs.length cf, .int .i64 d] 32) w1) => iw_BadTargets w.heap.size fs.length (tgtP ⟨s, cs, fs, d⟩) w1 hf40 (Lib.hid (fun k hk w' b => BadTargets_cl s ac af cs.length cc fs.length cf d cs fs w.heap.size k w' (Lib.hid (HI.out.below (A1.on b).all.2)) (Lib.hid (HJ.out.below (A1.on b).all.2)) (Lib.hid rfl) (Lib.hid rfl) h40 hf40 hk (Lib.hid (A1.on b).all.1))))
    generalize selF (tgtP ⟨s, cs, fs, d⟩) fs.length 0 = K at HCL ⊢
    clear hh
    go_enter Tryd.func59, Tryd.ntmps59
    go_wp2_with (go_at_call 23; refine (HAS.out _ A0.out.all.2).mono ?_; rintro e w1 ⟨rfl, b1⟩; have A1 := Lib.hid (A0.out.on b1); obtain ⟨c0, c1, c2, c3, _⟩ := A1.out.all.1; clear b1)
    go_wp2_with (go_at_call 73; refine (HCL.out _ A1.out).mono ?_; rintro e w2 ⟨v2, rfl, o2, b2⟩; have A2 := Lib.hid (A1.out.on b2); have O2 := Lib.hid (own_base o2 A1.out.all.2.size); clear b2 o2)
    go_ret2
    exact ⟨_, rfl, O2.out, A2.out.all.2⟩
set_option maxHeartbeats 3200000 in
theorem iw_BadParents (c0 N : Nat) (P : Nat → Bool) (w : World) (hN : N ≤ 40) (HF : Hid (∀ k : Nat, k < N → ∀ w', Below w.heap.size w w' → Calls Tryd.prog 76 #[.int .i64 (k : Int), .pointer (some ⟨c0, 0, none⟩)] w' (SaysB w' (P k)))) :
    Calls Tryd.prog 73 #[.int .i64 (N : Int), .func (Fn.func 76) #[] #[.pointer (some ⟨c0, 0, none⟩)]] w (SaysNs w (selF P N 0)) := by
  obtain ⟨i0, hi, hz0, hz1, hz2⟩ := info_parts infoI
  obtain ⟨K, hK⟩ : ∃ K, selF P N 0 = K := ⟨_, rfl⟩
  have H0 : Hid ([] ++ selF P N 0 = K) := Lib.hid hK
  rw [hK]
  clear hK
  go_enter Tryd.func73, Tryd.ntmps73
  go_wp2_with fail
  go_loopw [5, 8] (fun out i wr => IwRel w N P K out i wr) (fun _ i _ => N - (intOf i).toNat)
  case atStart => exact ⟨0, [], Nat.zero_le _, Nat.le_refl _, rfl, Below.refl _ _, World.ownsRow_nil _ _ _ _, H0⟩
  case round =>
    obtain ⟨k, ks, hk, hkl, rfl, hb, ho, HP⟩ := hrel
    have HB := Lib.hid hb
    have HO := Lib.hid ho
    obtain ⟨ad, cO, rfl, _⟩ := own_in ho
    by_cases hlt : k < N
    · have HFk := Lib.hid (HF.out k hlt)
      rcases Bool.eq_false_or_eq_true (P k) with hq | hq
      · have HX : Hid ((ks ++ [k]) ++ selF P N (k + 1) = K) := Lib.hid (by rw [← HP.out, selF_yes hlt hq]; simp)
        rw [hq] at HFk
        clear hb ho hq
        go_wp2_with (go_at_call 76; refine (HFk.out _ HB.out).mono ?_; rintro e w2 ⟨rfl, b2⟩; have A2 := Lib.hid (HB.out.trans (b2.mono HB.out.size)); have O2 := Lib.hid (own_low HO.out b2 (Nat.le_refl _)); clear b2; refine Hid.out ?_)
        refine Lib.hid ?_
        have hB2 : w.heap.size ≤ w2.heap.size := A2.out.size
        go_wp2_with (at_builtin; refine wpList_append_own _ rfl _ _ 36 rfl (w.heap.size) 3 i0 (.int .i64 0) 1 8 Tryd.underlying36 hi hz0 hz1 hz2 rfl (by decide) _ _ _ rfl (World.ownsRow.alloc O2.out _) ⟨w2.heap.size, 0, none⟩ 1 1 [.int .i64 (k : Int)] rfl rfl (by have := one_int w2 (.int .i64 (k : Int)) 3; simpa using this) (by intro u hu; simp at hu; subst hu; rfl) (by unfold maxLen; omega) (by omega) (by simp; omega) ?_; intro v' wA hown1 hgrow1 _; have F := Lib.hid (own_snoc rfl ((Below.refl (w.heap.size) w2).alloc hB2 (.cells #[.int .i64 (k : Int)] 3)) hown1 (by simp; omega) hgrow1 (fun g h => (World.ownsRow.lt O2.out g h).1)); clear hown1 hgrow1)
        go_roundw
        case rel => exact ⟨k + 1, ks ++ [k], by omega, by simp; omega, by go_num, A2.out.trans F.out.2, F.out.1, HX⟩
        case measure => simp [intOf]; omega
      · have HX : Hid (ks ++ selF P N (k + 1) = K) := Lib.hid (by rw [← HP.out, selF_no hlt hq])
        rw [hq] at HFk
        clear hb ho hq
        go_wp2_with (go_at_call 76; refine (HFk.out _ HB.out).mono ?_; rintro e w2 ⟨rfl, b2⟩; have A2 := Lib.hid (HB.out.trans (b2.mono HB.out.size)); have O2 := Lib.hid (own_low HO.out b2 (Nat.le_refl _)); clear b2)
        go_roundw
        case rel => exact ⟨k + 1, ks, by omega, by omega, by go_num, A2.out, O2.out, HX⟩
        case measure => simp [intOf]; omega
    · have HX : Hid (ks = K) := Lib.hid (by rw [← HP.out, selF_end _ (by omega), List.append_nil])
      clear hb ho
      go_wp2_with fail
      go_ret
      exact ⟨_, rfl, by rw [← HX.out]; exact HO.out, HB.out⟩
set_option maxHeartbeats 6400000 in
theorem implBadParents_any (v : Value) (c : Cfg) (w : World) (HV : Hid (CfgV w v c)) (HM : Hid (CfgM c)) :
    Calls Tryd.prog 45 #[v] w (SaysVS w (selC badP c) (rawC c)) := by
  obtain ⟨ac, cc, af, cf, rfl, ic, if_⟩ := HV.out
  obtain ⟨s, cs, fs, d⟩ := c
  have hM := HM.out
  unfold CfgM at hM
  simp only at ic if_ hM HV ⊢
  obtain ⟨q0, q1, q2⟩ := hM
  have HI := Lib.hid ic
  have HJ := Lib.hid if_
  have HVB := Lib.hid (fun w' (b : Below w.heap.size w w') => Lib.hid (HV.out.below b))
  have A0 := Lib.hid (Aft.refl w (Obj.cells #[.string s, .slice ac cs.length cc, .slice af fs.length cf, .int .i64 d] 32))
  clear ic if_
  have HAS := Lib.hid (fun w' (b : Below w.heap.size w w') => isRaw_any (.agg #[.string s, .slice ac cs.length cc, .slice af fs.length cf, .int .i64 d]) ⟨s, cs, fs, d⟩ w' (HVB.out w' b) HM)
  cases hh : rawC ⟨s, cs, fs, d⟩
  · rw [selC_bad hh]
    rw [hh] at HAS
    clear hh
    go_enter Tryd.func45, Tryd.ntmps45
    go_wp2_with (go_at_call 23; refine (HAS.out _ A0.out.all.2).mono ?_; rintro e w1 ⟨rfl, b1⟩; have A1 := Lib.hid (A0.out.on b1); clear b1)
    go_ret2
    exact ⟨_, rfl, World.ownsRow_nil _ _ _ _, A1.out.all.2⟩
  · obtain ⟨h40, hf40⟩ := raw_of hh
    rw [selC_ok hh]
    rw [hh] at HAS
    simp only at h40 hf40 ⊢
    have HCL := Lib.hid (fun (w1 : World) (A1 : Aft w (Obj.cells #[.string s, .slice ac cs.length cc, .slice af fs.length cf, .int .i64 d] 32) w1) => iw_BadParents w.heap.size cs.length (badP ⟨s, cs, fs, d⟩) w1 h40 (Lib.hid (fun k hk w' b => BadParents_cl s ac af cs.length cc fs.length cf d cs fs w.heap.size k w' (Lib.hid (HI.out.below (A1.on b).all.2)) (Lib.hid (HJ.out.below (A1.on b).all.2)) (Lib.hid rfl) (Lib.hid rfl) h40 hf40 hk (Lib.hid (A1.on b).all.1))))
    generalize selF (badP ⟨s, cs, fs, d⟩) cs.length 0 = K at HCL ⊢
    clear hh
    go_enter Tryd.func45, Tryd.ntmps45
    go_wp2_with (go_at_call 23; refine (HAS.out _ A0.out.all.2).mono ?_; rintro e w1 ⟨rfl, b1⟩; have A1 := Lib.hid (A0.out.on b1); obtain ⟨c0, c1, c2, c3, _⟩ := A1.out.all.1; clear b1)
    go_wp2_with (go_at_call 73; refine (HCL.out _ A1.out).mono ?_; rintro e w2 ⟨v2, rfl, o2, b2⟩; have A2 := Lib.hid (A1.out.on b2); have O2 := Lib.hid (own_base o2 A1.out.all.2.size); clear b2 o2)
    go_ret2
    exact ⟨_, rfl, O2.out, A2.out.all.2⟩
end Go.Proofs.YtfijhgggljaomaaDoor
