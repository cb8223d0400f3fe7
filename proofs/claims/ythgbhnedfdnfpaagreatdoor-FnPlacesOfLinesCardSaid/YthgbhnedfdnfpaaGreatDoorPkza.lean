import Derived.Test.YthgbhnedfdnfpaaGreatDoorPky
import Derived.Deep.CutBlock
/- What a law draws of configurations: config. -/
namespace Go.Proofs.YthgbhnedfdnfpaaGreatDoor
set_option maxRecDepth 100000
open Go.RowKit
set_option linter.unusedVariables false
set_option linter.unusedSimpArgs false

theorem least24 (x : Nat) (w : World) : Calls Tryz.prog 104 #[.int .i64 (x : Int), .int .i64 24] w fun e w' => e = .returned (.int .i64 ((min x 24 : Nat) : Int)) ∧ w' = w :=
  (least_any x 24 w).mono fun e w' ⟨h, hw⟩ => ⟨by rw [h]; congr 2; split <;> omega, hw⟩
def C1Rel (w W : World) (a : Option Addr) (n cap t bo : Nat) (s : ByteArray) (vr : Value) (L0 : List Cls) (iv : Value) (wx : World) : Prop :=
  ∃ (j : Nat) (L : List Cls) (v : Value), j ≤ L0.length ∧ L.length = j ∧ iv = .int .i64 j ∧ KC w W a n cap t bo s v (.slice none 0 0) (.slice none 0 0) 0 L [] [] wx ∧ (L = [] → v = .slice none 0 0) ∧
    wx.ownsRow (W.heap.size + 1) 41 8 vr L0.length (clsCs L0) ∧ (∀ g, vr.ownBlock = some g → g ≠ bo) ∧ Hid ((L0.drop j).foldl putC L = ordC L0)
def C2Rel (w W : World) (a : Option Addr) (n cap T bo : Nat) (s : ByteArray) (g c N : Nat) (vl : Value) (K : List Nat) (iv : Value) (wx : World) : Prop :=
  ∃ (j t' : Nat) (L : List Cls), j ≤ K.length ∧ iv = .int .i64 j ∧ KC w W a n cap t' bo s (.slice (some ⟨g, 0, none⟩) N c) (.slice none 0 0) vl 0 L [] K wx ∧ L.length = N ∧ t' ≤ T + 2 * j ∧ Hid (leaves L = K)
def C3Rel (w W : World) (a : Option Addr) (n cap T bo : Nat) (s : ByteArray) (g c N m : Nat) (vl : Value) (L : List Cls) (K : List Nat) (wx : World) : Prop :=
  ∃ (t' : Nat) (M : List Flt) (vF : Value), KC w W a n cap t' bo s (.slice (some ⟨g, 0, none⟩) N c) vF vl 0 L M K wx ∧ M.length ≤ m ∧ t' ≤ T
def DrCfg (w W : World) (a : Option Addr) (n cap : Nat) (zs : List Int) (t : Nat) (e : Ending) (w' : World) : Prop :=
  ∃ (v : Value) (c : Cfg) (t' : Nat), e = .returned v ∧ OwnCfg w' W.heap.size v c ∧ 1 ≤ c.cs.length ∧ c.cs.length ≤ 24 ∧ c.fs.length ≤ 16 ∧ c.s.size ≤ 8 ∧ 0 < (leaves c.cs).length ∧ t' ≤ t + 1000 ∧ Dr w w' a n cap zs t' ∧ Bar w.heap.size W.heap.size W w'
set_option maxHeartbeats 6400000 in
theorem dr_config {w W : World} {a : Option Addr} {n cap t : Nat} {zs : List Int} (HD : Hid (Dr w W a n cap zs t)) (HL : Hid (zs.length = n)) (hn : n ≤ 9223372036854775807) (ht : t ≤ 800000) :
    Calls Tryz.prog 72 #[.pointer (some ⟨w.heap.size, 0, none⟩)] W (DrCfg w W a n cap zs t) := by
  obtain ⟨i0, hi, hz0, hz1, hz2⟩ := info_parts infoFlt
  have hw : w.heap.size < W.heap.size := HD.out.cur.lt
  have DZ := Lib.hid (fun o => Lib.hid ((HD.out.alloc (.cells #[.string ⟨#[]⟩, .slice none 0 0, .slice none 0 0, .int .i64 0] 26)).alloc o))
  go_enter Tryz.func72, Tryz.ntmps72
  go_upto_region 2 with (go_at_call 74; (with_reducible refine (dr_ofL (m := 5) (M := 8) (t := t) (zs := zs) (Lib.hid (strL_two _ _ _ _ 5 8 (by decide))) (by omega) (by omega) (by omega) (DZ.out _) HL hn (by omega)).mono ?_); rintro e v1 ⟨x, t1, rfl, hx8, ht1, d, o⟩; have K0 := Lib.hid (kc_new (x := x) hw d.cur o); clear d o)
  have D0 := Lib.hid (K0.out.dr HD.out)
  go_upto_region 4 with (first | (go_at_call 73; (with_reducible refine (dr_pick1 8 (by omega) (by omega) D0 HL hn (by omega)).mono ?_); rintro e v2 ⟨r2, t2, rfl, ⟨r20, r21⟩, ht2, d2, o2⟩; have D2 := Lib.hid d2; have K2 := Lib.hid (K0.out.only hw d2.cur o2); clear d2 o2) | (go_at_call 77; (with_reducible refine (dr_one 5 (by omega) (by omega) D2 HL hn (by omega)).mono ?_); rintro e v3 ⟨b3, t3, rfl, ht3, d3, o3⟩; have D3 := Lib.hid d3; have K3 := Lib.hid (K2.out.only hw d3.cur o3); clear d3 o3))
  obtain ⟨r, rfl⟩ := Int.eq_ofNat_of_zero_le r20
  go_upto_if 25 with (go_at_call 77; (with_reducible refine (dr_one 24 (by omega) (by omega) D3 HL hn (by omega)).mono ?_); rintro e v4 ⟨b4, t4, rfl, ht4, d4, o4⟩; have K4 := Lib.hid (K3.out.only hw d4.cur o4); clear d4 o4)
  go_cut [4, 5] from 26 to 26 (fun nv bv wx => (∃ (m : Nat) (b : Bool), nv = .int .i64 (m : Int) ∧ bv = .bool b ∧ 1 ≤ m) ∧ wx = v4)
  case first =>
    cases b4
    · go_wp2_with fail
      go_meet
      exact ⟨⟨1 + r, b3, by go_num, rfl, by omega⟩, rfl⟩
    · go_wp2_with fail
      go_meet
      exact ⟨⟨24, false, rfl, rfl, by omega⟩, rfl⟩
  case rest =>
  obtain ⟨⟨m, b, rfl, rfl, hm1⟩, rfl⟩ := hcut
  have D4 := Lib.hid (K4.out.dr HD.out)
  clear K0 D0 D2 K2 D3 K3 DZ
  have HCL := Lib.hid (dr_classes (min m 24) b (by omega) (by omega) D4 HL hn (by omega))
  go_wp2_with (first | (go_at_call 104; (with_reducible refine (least24 m _).mono ?_); rintro e v5 ⟨rfl, rfl⟩) | (go_at_call 103; (with_reducible refine HCL.out.mono ?_); rintro e v6 ⟨vr, L0, t6, rfl, hL1, hL2, hlf, ht6, d6, b6, o6⟩; have K6 := Lib.hid (K4.out.barS hw d6.cur b6); have O6 := Lib.hid o6; have HLF := Lib.hid hlf; obtain ⟨gr, cr, rfl, _, _⟩ := own_pos o6 hL1; clear d6 b6 o6 hlf))
  have hbo := K6.out.rb
  have nR : Hid (∀ g, (Value.slice (some ⟨gr, 0, none⟩) L0.length cr).ownBlock = some g → g ≠ v1.heap.size) := Lib.hid (fun g e => by have := (World.ownsRow.lt O6.out g e).1; have := K4.out.box.2.2.2.2; omega)
  have HR : Hid (v6.ownsRow (W.heap.size + 1) 41 8 (.slice (some ⟨gr, 0, none⟩) L0.length cr) L0.length (clsCs L0)) := Lib.hid (own_base O6.out (by have := K4.out.box.2.2.2.2; omega))
  have hL24 : L0.length ≤ 24 := by omega
  clear O6 K4 D4 HCL
  have HPC := Lib.hid (fun v B L x w HO hn h0 => cfPut_all v B L x w HO hn h0)
  go_loopw [32] (fun iv wr => C1Rel w W a n cap t6 v1.heap.size x (.slice (some ⟨gr, 0, none⟩) L0.length cr) L0 iv wr) (fun iv _ => L0.length - (intOf iv).toNat)
  case atStart => exact ⟨0, [], .slice none 0 0, Nat.zero_le _, rfl, rfl, K6.out, fun _ => rfl, HR.out, nR.out, Lib.hid (by rw [List.drop_zero]; rfl)⟩
  case round =>
    obtain ⟨j, L, v, hj, rfl, rfl, hk, h0, hr, hnr, HP⟩ := hrel
    have K := Lib.hid hk
    have HR1 := Lib.hid hr
    have H0 := Lib.hid h0
    clear hk hr h0
    by_cases hlt : L.length < L0.length
    · obtain ⟨a0, a1, a2, a3, a4, a5, a6, a7⟩ := own_eight HR1.out L.length hlt
      obtain ⟨y, hy⟩ : ∃ y, L0.getD L.length cls0 = y := ⟨_, rfl⟩
      have HX : Hid ((L0.drop (L.length + 1)).foldl putC (putC L y) = ordC L0) := Lib.hid (by rw [← HP.out, fold_at putC L0 L.length hlt cls0 y hy])
      rw [hy] at a0 a1 a2 a3 a4 a5 a6 a7
      obtain ⟨yi, yp, yr, ye, yb, yu, yo, yl⟩ := y
      simp only at a0 a1 a2 a3 a4 a5 a6 a7
      have K1 := Lib.hid (K.out.on (one_new2 wr (Obj.cells #[.int .i64 yi, .int .i64 yp, .int .i64 yr, .int .i64 ye, .int .i64 yb, .int .i64 yu, .int .i64 yo, .int .i64 yl] 41)))
      obtain ⟨av, cv, rfl, _⟩ := own_in K.out.C
      obtain ⟨z0, z1, z2, z3, zl⟩ := K1.out.box
      obtain ⟨s0, s1, s2, s3, sl⟩ := K.out.box
      have hyb : (¬ wr.heap.size = v1.heap.size) ∧ (¬ v1.heap.size = wr.heap.size) := by omega
      have hgr : gr < wr.heap.size := (World.ownsRow.lt HR1.out gr rfl).2
      have CP := Lib.hid (HPC.out (.slice av L.length cv) (W.heap.size + 1) L ⟨yi, yp, yr, ye, yb, yu, yo, yl⟩ (wr.alloc (Obj.cells #[.int .i64 yi, .int .i64 yp, .int .i64 yr, .int .i64 ye, .int .i64 yb, .int .i64 yu, .int .i64 yo, .int .i64 yl] 41)) (Lib.hid K1.out.C) (by omega) H0)
      unfold clsV at CP
      simp only at CP
      have HRa := Lib.hid (own_low HR1.out (one_new2 wr (Obj.cells #[.int .i64 yi, .int .i64 yp, .int .i64 yr, .int .i64 ye, .int .i64 yb, .int .i64 yu, .int .i64 yo, .int .i64 yl] 41)) (Nat.le_refl _))
      clear hy HP
      go_wp2_with (go_at_call 105; (with_reducible refine CP.out.mono ?_); rintro e w1 ⟨r, rfl, o1, b1⟩; have KN := Lib.hid (K1.out.newC hw b1 (len_row o1 (putC_length L ⟨yi, yp, yr, ye, yb, yu, yo, yl⟩).symm)); have HRb := Lib.hid (own_far (j := 1) (own_low HRa.out b1 (Nat.le_refl _)) hnr r); obtain ⟨t0', t1', t2', t3', tl'⟩ := (K1.out.on b1).box; have tf := (K1.out.on b1).fro 1; obtain ⟨ar, cr', rfl, _⟩ := own_in o1; clear o1 b1 z0 z1 z2 z3 s0 s1 s2 s3)
      go_roundw
      case rel => exact ⟨L.length + 1, _, _, by omega, by rw [putC_length], by go_num, KN.out, (fun e => by have := putC_length L ⟨yi, yp, yr, ye, yb, yu, yo, yl⟩; rw [e] at this; simp at this), HRb.out, hnr, HX⟩
      case measure => simp [intOf]; omega
    · have HLo : Hid (L = ordC L0) := Lib.hid (by rw [← HP.out, List.drop_eq_nil_of_le (by omega)]; rfl)
      have HK0 : Hid (0 < (leaves L).length) := Lib.hid (by rw [HLo.out]; exact ord_leaf HLF.out)
      have HKl := Lib.hid (leaf_lt L)
      have hlen : L.length = L0.length := by omega
      obtain ⟨gC, cC, rfl, hgC, _⟩ := own_pos K.out.C (by omega)
      have HCV := Lib.hid (cfLeaves_any x (some ⟨gC, 0, none⟩) none L.length cC 0 0 0 L wr (Lib.hid (own_inx K.out.C)) (Lib.hid rfl) (by omega))
      obtain ⟨KK, hKK⟩ : ∃ KK, leaves L = KK := ⟨_, rfl⟩
      rw [hKK] at HCV HK0 HKl
      have HKK : Hid (leaves L = KK) := Lib.hid hKK
      obtain ⟨N, hN⟩ : ∃ N, L.length = N := ⟨_, rfl⟩
      have K0 := K.out
      rw [hN] at HCV HKl K0 hlen
      have HN := Lib.hid hN
      have hN24 : N ≤ 24 ∧ 1 ≤ N := by omega
      have hKN : KK.length ≤ 24 := by have := lvsF_len L L 0; rw [show lvsF L 0 L = leaves L from rfl, HKK.out, hN] at this; omega
      obtain ⟨s0, s1, s2, s3, sl⟩ := K0.box
      have KZ := Lib.hid K0
      have hk0 := HK0.out
      clear hKK hN K HP HLo H0 HR1 HPC hlen hj K0 K6 HR nR
      go_wp2_with (go_at_call 76; (with_reducible refine HCV.out.mono ?_); rintro e w8 ⟨vl, rfl, o8, b8⟩; have K8 := Lib.hid (KZ.out.newl b8 o8); obtain ⟨gl, cl, rfl, _, _⟩ := own_pos o8 hk0; clear o8 b8 s0 s1 s2 s3)
      go_loopw [46] (fun iv wr => C2Rel w W a n cap t6 v1.heap.size x gC cC N (.slice (some ⟨gl, 0, none⟩) KK.length cl) KK iv wr) (fun iv _ => KK.length - (intOf iv).toNat)
      case atStart => exact ⟨0, t6, L, Nat.zero_le _, rfl, K8.out, HN.out, by omega, HKK⟩
      case round =>
        obtain ⟨j, t9, L2, hj, rfl, hk9, hl9, ht9, HV⟩ := hrel
        have K9 := Lib.hid hk9
        have HL9 := Lib.hid hl9
        clear hk9
        by_cases hlt : j < KK.length
        · have ij := own_nat K9.out.l j hlt
          have hpl := HKl.out j hlt
          generalize KK.getD j 0 = p at ij hpl
          go_upto_block 3 with fail
          go_cut [10] from 47 to 58 (fun xv wx => (∃ p : Int, xv = .int .i64 p) ∧ ∃ (L3 : List Cls) (t10 : Nat), L3.length = N ∧ t10 ≤ t9 + 2 ∧ leaves L3 = KK ∧ KC w W a n cap t10 v1.heap.size x (.slice (some ⟨gC, 0, none⟩) N cC) (.slice none 0 0) (.slice (some ⟨gl, 0, none⟩) KK.length cl) 0 L3 [] KK wx)
          case first =>
            go_upto_region 16 with fail
            have KKa : Hid (∀ o, KC w W a n cap t9 v1.heap.size x (.slice (some ⟨gC, 0, none⟩) N cC) (.slice none 0 0) (.slice (some ⟨gl, 0, none⟩) KK.length cl) 0 L2 [] KK (wr.alloc o).drew) := Lib.hid (fun o => (K9.out.on (one_new2 wr o)).on (below_drewN (Below.refl _ _) 1))
            have DKa := Lib.hid (fun o => (Lib.hid ((KKa.out o).dr HD.out)))
            have hsz := K9.out.bar.size
            have e1 := K9.out.box.2.1
            have e1a := fun o => (bcell (one_new2 wr o)).1 v1.heap.size 1 K9.out.box.2.2.2.2
            simp only [e1] at e1a
            go_region_with (go_at_call 75; (with_reducible refine (dr_amongA (m := 6) (t := t9) (zs := zs) (Lib.hid (ints_drew (by decide))) (by omega) (by omega) (by omega) (DKa.out _) HL hn (by omega)).mono ?_); rintro e v10 ⟨r10, t10, rfl, _, ht10, d10, o10⟩; have K10 := Lib.hid ((KKa.out _).only hw d10.cur o10); clear d10 o10; have b1 := K10.out.box.2.1; obtain ⟨_, _, _, _, _, _, _, z7⟩ := own_eight (len_row K10.out.C HL9.out) p (by rw [HL9.out]; exact hpl); have fz := World.ownsRow.frozenAt (len_row K10.out.C HL9.out) (p * 8 + 7))
            all_goals
              go_wp2_with fail
              go_meet
              exact ⟨⟨_, rfl⟩, _, t10, by rw [List.length_set]; exact HL9.out, ht10, (leaves_lim _ _ _ _ (by decide)).trans HV.out, K10.out.upd HL9.out hw p 7 _ (by rw [HL9.out]; exact hpl) (by decide)⟩
          case rest =>
          obtain ⟨⟨pz, rfl⟩, L3, t10, hl3, ht10, hv3, hk3⟩ := hcut
          have KX := Lib.hid hk3
          clear hk3
          go_wp2_with fail
          go_roundw
          case rel => exact ⟨j + 1, t10, L3, by omega, by go_num, KX.out, hl3, by omega, Lib.hid hv3⟩
          case measure => simp [intOf]; omega
        · clear K8 KZ HCV
          have D9 := Lib.hid (K9.out.dr HD.out)
          have ht9' : t9 ≤ t6 + 48 := by omega
          have hltj : ¬ (j : Int) < KK.length := by omega
          have HL2 := Lib.hid hl9
          clear HKK HN hl9
          go_upto_block 4 with (go_at_call 73; (with_reducible refine (dr_pick1 5 (by omega) (by omega) D9 HL hn (by omega)).mono ?_); rintro e v11 ⟨r11, t11, rfl, ⟨r110, r111⟩, ht11, d11, o11⟩; have K11 := Lib.hid (K9.out.only hw d11.cur o11); clear d11 o11)
          obtain ⟨k11, rfl⟩ := Int.eq_ofNat_of_zero_le r110
          go_cut [11, 12] from 61 to 99 (fun pv kv wx => (∃ z : Int, pv = .int .i64 z) ∧ (∃ z : Int, kv = .int .i64 z) ∧ C3Rel w W a n cap (t9 + 50) v1.heap.size x gC cC N (4) (.slice (some ⟨gl, 0, none⟩) KK.length cl) L2 KK wx)
          case first =>
            --<S
            go_wp2_with fail
            go_loopw [11, 12] (fun pv kv wr => ∃ (z : Int) (k : Nat), pv = .int .i64 z ∧ kv = .int .i64 k ∧ k ≤ 4 ∧ C3Rel w W a n cap (t9 + 2 + 10 * (4 - k)) v1.heap.size x gC cC N (4 - k) (.slice (some ⟨gl, 0, none⟩) KK.length cl) L2 KK wr) (fun _ kv _ => (intOf kv).toNat)
            case atStart => exact ⟨0, k11, rfl, rfl, by omega, t11, [], _, K11.out, by simp, by omega⟩
            case round =>
              obtain ⟨z, k, rfl, rfl, hk4, t12, M, vF, hk12, hM, ht12⟩ := hrel
              have K12 := Lib.hid hk12
              have D12 := Lib.hid (hk12.dr HD.out)
              clear hk12
              cases k with
              | zero =>
                go_wp2_with fail
                go_meet
                exact ⟨⟨z, rfl⟩, ⟨0, rfl⟩, t12, M, vF, K12.out, by omega, by omega⟩
              | succ k =>
                go_upto_block 5 with fail
                go_cut [11, 13] from 61 to 99 (fun pv mv wx => (∃ z : Int, pv = .int .i64 z) ∧ (∃ z : Int, mv = .int .i64 z) ∧ C3Rel w W a n cap (t12 + 10) v1.heap.size x gC cC N (M.length + 1) (.slice (some ⟨gl, 0, none⟩) KK.length cl) L2 KK wx)
                case first =>
                  have HN3 := HL2
                  go_upto_region 24 with (first | (go_at_call 73; (with_reducible refine (dr_pick1 9 (by omega) (by omega) D12 HL hn (by omega)).mono ?_); rintro e v12 ⟨r12, t12b, rfl, ⟨r120, r121⟩, ht12b, d12, o12⟩; have K12b := Lib.hid (K12.out.only hw d12.cur o12); have D12b := Lib.hid d12; clear d12 o12) | (go_at_call 75; (with_reducible refine (dr_among (m := 6) (t := t12b) (zs := zs) (ints_of v12 _ _ 6 (by decide)) (by omega) (by omega) D12b HL hn (by omega)).mono ?_); rintro e v13 ⟨r13, t13, rfl, _, ht13, d13, o13⟩; have K13 := Lib.hid ((K12b.out.on (one_new2 v12 _)).only hw d13.cur o13); clear d13 o13))
                  clear K12b D12b D12 K12
                  have HS1 : Hid (∀ t' vF' M' w', KC w W a n cap t' v1.heap.size x (.slice (some ⟨gC, 0, none⟩) N cC) vF' (.slice (some ⟨gl, 0, none⟩) KK.length cl) 0 L2 M' KK w' → (w'.cell? ⟨v1.heap.size, 1, none⟩ = some (.slice (some ⟨gC, 0, none⟩) N cC) ∧ (∀ q, q < KK.length → w'.cell? ⟨gl, q, none⟩ = some (.int .i64 ((KK.getD q 0 : Nat) : Int))) ∧ (∀ q, q < N → w'.cell? ⟨gC, q * 8, none⟩ = some (.int .i64 (L2.getD q cls0).i)))) := Lib.hid (fun t' vF' M' w' h => ⟨h.box.2.1, fun q hq => own_nat h.l q hq, fun q hq => (own_eight (len_row h.C HN3.out) q (by rw [HN3.out]; exact hq)).1⟩)
                  have KD : Hid (KC w W a n cap t13 v1.heap.size x (.slice (some ⟨gC, 0, none⟩) N cC) vF (.slice (some ⟨gl, 0, none⟩) KK.length cl) 0 L2 M KK v13.drew) := Lib.hid (K13.out.on (below_drewN (Below.refl _ _) 1))
                  refine AnyL.begin (S := fun w' => w'.cell? ⟨v1.heap.size, 1, none⟩ = some (.slice (some ⟨gC, 0, none⟩) N cC) ∧ (∀ q, q < KK.length → w'.cell? ⟨gl, q, none⟩ = some (.int .i64 ((KK.getD q 0 : Nat) : Int))) ∧ (∀ q, q < N → w'.cell? ⟨gC, q * 8, none⟩ = some (.int .i64 (L2.getD q cls0).i))) (T := fun w' => w'.cell? ⟨v1.heap.size, 2, none⟩ = some vF) (b := 25) (by kernel_rfl) ?_
                  obtain ⟨u0, hu0⟩ : ∃ u0, v13.drew = u0 := ⟨_, rfl⟩
                  rw [hu0] at KD ⊢
                  clear hu0
                  have hB := And.intro (HS1.out _ _ _ _ KD.out) KD.out.box.2.2.1
                  obtain ⟨af, cf, rfl, _⟩ := own_in KD.out.F
                  refine AnyL.tS (i := 0) (d := 73) (v := ?_) rfl rfl (by kernel_rfl) (by kernel_rfl) (by kernel_rfl) (by decide) (fun _ _ _ h => h) (by rfl) ?_ (by assumption) ?_
                  rotate_left
                  · intro w' hSw
                    (try dsimp only at hSw)
                    go_simp
                    try with_reducible rfl
                  try simp only [Act.put, List.setIfInBounds_toArray, List.set_cons_zero, List.set_cons_succ]
                  refine AnyL.tT (i := 1) (d := 74) (v := ?_) rfl rfl (by kernel_rfl) (by kernel_rfl) (by kernel_rfl) (by decide) (by kernel_rfl) (by kernel_rfl) (fun _ _ _ h => h) (by rfl) ?_ (by assumption) ?_
                  rotate_left
                  · intro w' hSw
                    (try dsimp only at hSw)
                    go_simp
                    try with_reducible rfl
                  try simp only [Act.put, List.setIfInBounds_toArray, List.set_cons_zero, List.set_cons_succ]
                  refine AnyL.tS (i := 2) (d := 75) (v := ?_) rfl rfl (by kernel_rfl) (by kernel_rfl) (by kernel_rfl) (by decide) (fun _ _ _ h => h) (by rfl) ?_ (by assumption) ?_
                  rotate_left
                  · intro w' hSw
                    (try dsimp only at hSw)
                    go_simp
                    try with_reducible rfl
                  try simp only [Act.put, List.setIfInBounds_toArray, List.set_cons_zero, List.set_cons_succ]
                  refine AnyL.tS (i := 3) (d := 76) (v := ?_) rfl rfl (by kernel_rfl) (by kernel_rfl) (by kernel_rfl) (by decide) (fun _ _ _ h => h) (by rfl) ?_ (by assumption) ?_
                  rotate_left
                  · intro w' hSw
                    (try dsimp only at hSw)
                    go_simp
                    try with_reducible rfl
                  try simp only [Act.put, List.setIfInBounds_toArray, List.set_cons_zero, List.set_cons_succ]
                  refine AnyL.tS (i := 5) (d := 78) (v := ?_) rfl rfl (by kernel_rfl) (by kernel_rfl) (by kernel_rfl) (by decide) (fun _ _ _ h => h) (by rfl) ?_ (by assumption) ?_
                  rotate_left
                  · intro w' hSw
                    (try dsimp only at hSw)
                    go_simp
                    try with_reducible rfl
                  try simp only [Act.put, List.setIfInBounds_toArray, List.set_cons_zero, List.set_cons_succ]
                  refine AnyL.tS (i := 6) (d := 79) (v := ?_) rfl rfl (by kernel_rfl) (by kernel_rfl) (by kernel_rfl) (by decide) (fun _ _ _ h => h) (by rfl) ?_ (by assumption) ?_
                  rotate_left
                  · intro w' hSw
                    (try dsimp only at hSw)
                    go_simp
                    try with_reducible rfl
                  try simp only [Act.put, List.setIfInBounds_toArray, List.set_cons_zero, List.set_cons_succ]
                  refine AnyL.tS (i := 9) (d := 82) (v := ?_) rfl rfl (by kernel_rfl) (by kernel_rfl) (by kernel_rfl) (by decide) (fun _ _ _ h => h) (by rfl) ?_ (by assumption) ?_
                  rotate_left
                  · intro w' hSw
                    (try dsimp only at hSw)
                    go_simp
                    try with_reducible rfl
                  try simp only [Act.put, List.setIfInBounds_toArray, List.set_cons_zero, List.set_cons_succ]
                  refine AnyL.tS (i := 11) (d := 84) (v := ?_) rfl rfl (by kernel_rfl) (by kernel_rfl) (by kernel_rfl) (by decide) (fun _ _ _ h => h) (by rfl) ?_ (by assumption) ?_
                  rotate_left
                  · intro w' hSw
                    (try dsimp only at hSw)
                    go_simp
                    try with_reducible rfl
                  try simp only [Act.put, List.setIfInBounds_toArray, List.set_cons_zero, List.set_cons_succ]
                  refine AnyL.tS (i := 12) (d := 85) (v := ?_) rfl rfl (by kernel_rfl) (by kernel_rfl) (by kernel_rfl) (by decide) (fun _ _ _ h => h) (by rfl) ?_ (by assumption) ?_
                  rotate_left
                  · intro w' hSw
                    (try dsimp only at hSw)
                    go_simp
                    try with_reducible rfl
                  try simp only [Act.put, List.setIfInBounds_toArray, List.set_cons_zero, List.set_cons_succ]
                  refine AnyL.tS (i := 13) (d := 86) (v := ?_) rfl rfl (by kernel_rfl) (by kernel_rfl) (by kernel_rfl) (by decide) (fun _ _ _ h => h) (by rfl) ?_ (by assumption) ?_
                  rotate_left
                  · intro w' hSw
                    (try dsimp only at hSw)
                    go_simp
                    try with_reducible rfl
                  try simp only [Act.put, List.setIfInBounds_toArray, List.set_cons_zero, List.set_cons_succ]
                  refine AnyL.tS (i := 14) (d := 87) (v := ?_) rfl rfl (by kernel_rfl) (by kernel_rfl) (by kernel_rfl) (by decide) (fun _ _ _ h => h) (by rfl) ?_ (by assumption) ?_
                  rotate_left
                  · intro w' hSw
                    (try dsimp only at hSw)
                    go_simp
                    try with_reducible rfl
                  try simp only [Act.put, List.setIfInBounds_toArray, List.set_cons_zero, List.set_cons_succ]
                  refine AnyL.tS (i := 15) (d := 88) (v := ?_) rfl rfl (by kernel_rfl) (by kernel_rfl) (by kernel_rfl) (by decide) (fun _ _ _ h => h) (by rfl) ?_ (by assumption) ?_
                  rotate_left
                  · intro w' hSw
                    (try dsimp only at hSw)
                    go_simp
                    try with_reducible rfl
                  try simp only [Act.put, List.setIfInBounds_toArray, List.set_cons_zero, List.set_cons_succ]
                  refine AnyL.tS (i := 16) (d := 89) (v := ?_) rfl rfl (by kernel_rfl) (by kernel_rfl) (by kernel_rfl) (by decide) (fun _ _ _ h => h) (by rfl) ?_ (by assumption) ?_
                  rotate_left
                  · intro w' hSw
                    (try dsimp only at hSw)
                    go_simp
                    try with_reducible rfl
                  try simp only [Act.put, List.setIfInBounds_toArray, List.set_cons_zero, List.set_cons_succ]
                  refine AnyL.ready (rs := [4, 7]) (by kernel_rfl) (by simp) ?_
                  refine ((AllL.consN rfl (fun K' hK => ?_) (AllL.consN rfl (fun K' hK => ?_) AllL.nil)))
                  · skip
                    go_simp
                    go_at_call 73
                    refine (dr_pick1 4 (by omega) (by omega) (Lib.hid (KD.out.dr HD.out)) HL hn (by omega)).mono ?_
                    rintro e u1 ⟨rt1q, t1q, rfl, ⟨rt1q0, rt1q1⟩, ht1q, dt1q, ot1q⟩
                    have K1 := Lib.hid (KD.out.only hw dt1q.cur ot1q)
                    clear dt1q ot1q
                    refine hK.out _ _ ⟨HS1.out _ _ _ _ K1.out, K1.out.box.2.2.1⟩ (fun hB => ?_)
                    clear hK K'
                    try simp only [Act.put, List.setIfInBounds_toArray, List.set_cons_zero, List.set_cons_succ]
                    refine AnyL.ready (rs := [7]) (by kernel_rfl) (by simp) ?_
                    refine (AllL.consN rfl (fun K' hK => ?_) AllL.nil)
                    go_simp
                    have bn := one_new2 u1 (Obj.cells #[.int .i64 0, .int .i64 1, .int .i64 2, .int .i64 5, .int .i64 80, .int .i64 443, .int .i64 4096] 3)
                    have K2 := Lib.hid (K1.out.on bn)
                    refine hK.out _ _ ⟨HS1.out _ _ _ _ K2.out, K2.out.box.2.2.1⟩ (fun hB => ?_)
                    clear hK K'
                    try simp only [Act.put, List.setIfInBounds_toArray, List.set_cons_zero, List.set_cons_succ]
                    have HI := Lib.hid (ints_of u1 #[.int .i64 0, .int .i64 1, .int .i64 2, .int .i64 5, .int .i64 80, .int .i64 443, .int .i64 4096] 3 7 (by decide))
                    have hgi : u1.heap.size ≠ w.heap.size := by have := K1.out.bar.size; omega
                    obtain ⟨u2, hu2⟩ : ∃ u, u1.alloc (Obj.cells #[.int .i64 0, .int .i64 1, .int .i64 2, .int .i64 5, .int .i64 80, .int .i64 443, .int .i64 4096] 3) = u := ⟨_, rfl⟩
                    rw [hu2] at hB K2 HI ⊢
                    clear hu2 bn
                    refine AnyL.ready (rs := [8]) (by kernel_rfl) (by simp) ?_
                    refine (AllL.consN rfl (fun K' hK => ?_) AllL.nil)
                    go_simp
                    go_at_call 75
                    refine (dr_amongA (m := 7) HI hgi (by omega) (by omega) (Lib.hid (K2.out.dr HD.out)) HL hn (by omega)).mono ?_
                    rintro e u3 ⟨r3, t3', rfl, _, ht3', d3, o3⟩
                    have K3 := Lib.hid (K2.out.only hw d3.cur o3)
                    clear d3 o3 HI
                    refine hK.out _ _ ⟨HS1.out _ _ _ _ K3.out, K3.out.box.2.2.1⟩ (fun hB => ?_)
                    clear hK K'
                    try simp only [Act.put, List.setIfInBounds_toArray, List.set_cons_zero, List.set_cons_succ]
                    refine AnyL.tS (i := 10) (d := 83) (v := .int .i64 (bits .and .i64 r3 r13)) rfl rfl (by kernel_rfl) (by kernel_rfl) (by kernel_rfl) (by decide) (fun _ _ _ h => h) (by rfl) ?_ (by assumption) ?_
                    · intro w' hSw
                      (try dsimp only at hSw)
                      go_simp
                      try with_reducible rfl
                    try simp only [Act.put, List.setIfInBounds_toArray, List.set_cons_zero, List.set_cons_succ]
                    generalize bits .and .i64 r3 r13 = zv
                    refine AnyL.ready (rs := [17]) (by kernel_rfl) (by simp) ?_
                    refine (AllL.consN rfl (fun K' hK => ?_) AllL.nil)
                    go_simp
                    go_at_call 73
                    refine (dr_pick1 KK.length (by omega) (by omega) (Lib.hid (K3.out.dr HD.out)) HL hn (by omega)).mono ?_
                    rintro e u4 ⟨rt4, t4, rfl, ⟨rt40, rt41⟩, ht4, dt4, ot4⟩
                    have K4 := Lib.hid (K3.out.only hw dt4.cur ot4)
                    clear dt4 ot4
                    refine hK.out _ _ ⟨HS1.out _ _ _ _ K4.out, K4.out.box.2.2.1⟩ (fun hB => ?_)
                    clear hK K'
                    try simp only [Act.put, List.setIfInBounds_toArray, List.set_cons_zero, List.set_cons_succ]
                    obtain ⟨q4, rfl⟩ := Int.eq_ofNat_of_zero_le rt40
                    have hq4 : q4 < KK.length := by omega
                    obtain ⟨p, hp⟩ : ∃ p, KK.getD q4 0 = p := ⟨_, rfl⟩
                    have hpN : p < N := by rw [← hp]; exact HKl.out q4 hq4
                    obtain ⟨zi, hzi⟩ : ∃ z, (L2.getD p cls0).i = z := ⟨_, rfl⟩
                    refine AnyL.tS (i := 18) (d := 91) (v := ?_) rfl rfl (by kernel_rfl) (by kernel_rfl) (by kernel_rfl) (by decide) (fun _ _ _ h => h) (by rfl) ?_ (by assumption) ?_
                    rotate_left
                    · intro w' hSw
                      (try dsimp only at hSw)
                      go_simp
                      try with_reducible rfl
                    try simp only [Act.put, List.setIfInBounds_toArray, List.set_cons_zero, List.set_cons_succ]
                    refine AnyL.tS (i := 19) (d := 92) (v := ?_) rfl rfl (by kernel_rfl) (by kernel_rfl) (by kernel_rfl) (by decide) (fun _ _ _ h => h) (by rfl) ?_ (by assumption) ?_
                    rotate_left
                    · intro w' hSw
                      (try dsimp only at hSw)
                      have hx := hSw.2.1 q4 hq4
                      rw [hp] at hx
                      clear hSw
                      go_simp
                      try with_reducible rfl
                    try simp only [Act.put, List.setIfInBounds_toArray, List.set_cons_zero, List.set_cons_succ]
                    refine AnyL.tS (i := 20) (d := 93) (v := ?_) rfl rfl (by kernel_rfl) (by kernel_rfl) (by kernel_rfl) (by decide) (fun _ _ _ h => h) (by rfl) ?_ (by assumption) ?_
                    rotate_left
                    · intro w' hSw
                      (try dsimp only at hSw)
                      go_simp
                      try with_reducible rfl
                    try simp only [Act.put, List.setIfInBounds_toArray, List.set_cons_zero, List.set_cons_succ]
                    refine AnyL.tS (i := 21) (d := 94) (v := ?_) rfl rfl (by kernel_rfl) (by kernel_rfl) (by kernel_rfl) (by decide) (fun _ _ _ h => h) (by rfl) ?_ (by assumption) ?_
                    rotate_left
                    · intro w' hSw
                      (try dsimp only at hSw)
                      go_simp
                      try with_reducible rfl
                    try simp only [Act.put, List.setIfInBounds_toArray, List.set_cons_zero, List.set_cons_succ]
                    refine AnyL.tS (i := 22) (d := 95) (v := ?_) rfl rfl (by kernel_rfl) (by kernel_rfl) (by kernel_rfl) (by decide) (fun _ _ _ h => h) (by rfl) ?_ (by assumption) ?_
                    rotate_left
                    · intro w' hSw
                      (try dsimp only at hSw)
                      have hx := hSw.2.2 p hpN
                      rw [hzi] at hx
                      clear hSw
                      go_simp
                      try with_reducible rfl
                    try simp only [Act.put, List.setIfInBounds_toArray, List.set_cons_zero, List.set_cons_succ]
                    refine AnyL.tS (i := 23) (d := 96) (v := ?_) rfl rfl (by kernel_rfl) (by kernel_rfl) (by kernel_rfl) (by decide) (fun _ _ _ h => h) (by rfl) ?_ (by assumption) ?_
                    rotate_left
                    · intro w' hSw
                      (try dsimp only at hSw)
                      go_simp
                      try with_reducible rfl
                    try simp only [Act.put, List.setIfInBounds_toArray, List.set_cons_zero, List.set_cons_succ]
                    refine AnyL.ready (rs := [24]) (by kernel_rfl) (by simp) ?_
                    refine (AllL.consN rfl (fun K' hK => ?_) AllL.nil)
                    go_simp
                    have KA := Lib.hid (fun y : Flt => K4.out.on (one_new2 u4 (.cells #[.int .i64 y.o, .int .i64 y.f, .int .i64 y.m, .int .i64 y.v, .int .i64 y.t] 82)))
                    refine hK.out _ _ ⟨HS1.out _ _ _ _ (KA.out ⟨_, rt1q, r13, zv, zi⟩), (KA.out ⟨_, rt1q, r13, zv, zi⟩).box.2.2.1⟩ (fun hB => ?_)
                    clear hK K'
                    try simp only [Act.put, List.setIfInBounds_toArray, List.set_cons_zero, List.set_cons_succ]
                    refine AnyL.ready (rs := [25]) (by kernel_rfl) (by simp) ?_
                    refine (AllL.consB rfl (by kernel_rfl) (fun K' hK => ?_) AllL.nil)
                    refine step_append_src _ rfl (.tmp 74) (.tmp 97) 24 rfl (W.heap.size + 1) 82 i0 (.agg #[.int .i64 0, .int .i64 0, .int .i64 0, .int .i64 0, .int .i64 0]) 5 40 Tryz.underlying24 hi hz0 hz1 hz2 rfl (by decide) (.slice af M.length cf) M.length (fltCs M) (by rfl) (KA.out ⟨_, rt1q, r13, zv, zi⟩).F 0 (.slice (some ⟨u4.heap.size, 0, none⟩) 1 1) 1 (fltC ⟨_, rt1q, r13, zv, zi⟩) (by rfl) (lit_flt u4 0 (Nat.zero_le _) ⟨_, rt1q, r13, zv, zi⟩) (fltC_one _) (by unfold maxLen; omega) (by omega) (Nat.le_trans (Nat.succ_le_of_lt (KA.out ⟨_, rt1q, r13, zv, zi⟩).zer.1.2.2.2.2) (Nat.le_refl _)) ?_
                    intro vF2 u6 hown hgrow hat
                    obtain ⟨aF2, cF2, rfl, _⟩ := own_in hown
                    obtain ⟨m1, m2, m3, m4⟩ := (KA.out ⟨_, rt1q, r13, zv, zi⟩).mid hw hgrow
                    have KN := Lib.hid ((KA.out ⟨_, rt1q, r13, zv, zi⟩).appF hw ⟨_, rt1q, r13, zv, zi⟩ hgrow hown hat)
                    clear hown hgrow hat
                    refine hK.out _ _ ⟨m1.2.1, fun q hq => own_nat m4 q hq, fun q hq => (own_eight (len_row m3 HN3.out) q (by rw [HN3.out]; exact hq)).1⟩ ?_
                    clear hK K'
                    try simp only [Act.put, List.setIfInBounds_toArray, List.set_cons_zero, List.set_cons_succ]
                    obtain ⟨g0, g1, g2, g3, g4⟩ := m1
                    have fz := m2 2
                    refine AnyL.tE (i := 26) (d := 99) (v := ?_) rfl rfl (by kernel_rfl) (by kernel_rfl) (by kernel_rfl) (by decide) (by kernel_rfl) (fun _ _ _ h => h) (by rfl) ?_ ⟨g1, fun q hq => own_nat m4 q hq, fun q hq => (own_eight (len_row m3 HN3.out) q (by rw [HN3.out]; exact hq)).1⟩ ?_
                    rotate_left
                    · intro w' hSw
                      go_simp
                      try with_reducible rfl
                    try simp only [Act.put, List.setIfInBounds_toArray, List.set_cons_zero, List.set_cons_succ]
                    refine AnyL.ready (rs := [27]) (by kernel_rfl) (by simp) ?_
                    refine (AllL.consB rfl (by kernel_rfl) (fun K' hK => ?_) AllL.nil)
                    go_simp
                    refine hK.out _ _ (HS1.out _ _ _ _ KN.out) ?_
                    clear hK K'
                    try simp only [Act.put, List.setIfInBounds_toArray, List.set_cons_zero, List.set_cons_succ]
                    refine AnyL.done (by kernel_rfl) ?_ _
                    go_wp2_with fail
                    go_meet
                    exact ⟨⟨_, rfl⟩, ⟨_, rfl⟩, _, _, _, KN.out, by simp, by omega⟩
                  · skip
                    go_simp
                    have bn := one_new2 u0 (Obj.cells #[.int .i64 0, .int .i64 1, .int .i64 2, .int .i64 5, .int .i64 80, .int .i64 443, .int .i64 4096] 3)
                    have K1 := Lib.hid (KD.out.on bn)
                    refine hK.out _ _ ⟨HS1.out _ _ _ _ K1.out, K1.out.box.2.2.1⟩ (fun hB => ?_)
                    clear hK K'
                    try simp only [Act.put, List.setIfInBounds_toArray, List.set_cons_zero, List.set_cons_succ]
                    have HI0 := Lib.hid (ints_of u0 #[.int .i64 0, .int .i64 1, .int .i64 2, .int .i64 5, .int .i64 80, .int .i64 443, .int .i64 4096] 3 7 (by decide))
                    have hgi : u0.heap.size ≠ w.heap.size := by have := KD.out.bar.size; omega
                    obtain ⟨u1, hu1⟩ : ∃ u, u0.alloc (Obj.cells #[.int .i64 0, .int .i64 1, .int .i64 2, .int .i64 5, .int .i64 80, .int .i64 443, .int .i64 4096] 3) = u := ⟨_, rfl⟩
                    rw [hu1] at hB K1 HI0 ⊢
                    clear hu1 bn
                    refine AnyL.ready (rs := [4]) (by kernel_rfl) (by simp) ?_
                    refine (AllL.consN rfl (fun K' hK => ?_) AllL.nil)
                    go_simp
                    go_at_call 73
                    refine (dr_pick1 4 (by omega) (by omega) (Lib.hid (K1.out.dr HD.out)) HL hn (by omega)).mono ?_
                    rintro e u2 ⟨rt1q, t1q, rfl, ⟨rt1q0, rt1q1⟩, ht1q, dt1q, ot1q⟩
                    have K2 := Lib.hid (K1.out.only hw dt1q.cur ot1q)
                    have HI := Lib.hid (HI0.out.only ot1q hgi)
                    clear dt1q ot1q
                    refine hK.out _ _ ⟨HS1.out _ _ _ _ K2.out, K2.out.box.2.2.1⟩ (fun hB => ?_)
                    clear hK K'
                    try simp only [Act.put, List.setIfInBounds_toArray, List.set_cons_zero, List.set_cons_succ]
                    refine AnyL.ready (rs := [8]) (by kernel_rfl) (by simp) ?_
                    refine (AllL.consN rfl (fun K' hK => ?_) AllL.nil)
                    go_simp
                    go_at_call 75
                    refine (dr_amongA (m := 7) HI hgi (by omega) (by omega) (Lib.hid (K2.out.dr HD.out)) HL hn (by omega)).mono ?_
                    rintro e u3 ⟨r3, t3', rfl, _, ht3', d3, o3⟩
                    have K3 := Lib.hid (K2.out.only hw d3.cur o3)
                    clear d3 o3 HI
                    refine hK.out _ _ ⟨HS1.out _ _ _ _ K3.out, K3.out.box.2.2.1⟩ (fun hB => ?_)
                    clear hK K'
                    try simp only [Act.put, List.setIfInBounds_toArray, List.set_cons_zero, List.set_cons_succ]
                    refine AnyL.tS (i := 10) (d := 83) (v := .int .i64 (bits .and .i64 r3 r13)) rfl rfl (by kernel_rfl) (by kernel_rfl) (by kernel_rfl) (by decide) (fun _ _ _ h => h) (by rfl) ?_ (by assumption) ?_
                    · intro w' hSw
                      (try dsimp only at hSw)
                      go_simp
                      try with_reducible rfl
                    try simp only [Act.put, List.setIfInBounds_toArray, List.set_cons_zero, List.set_cons_succ]
                    generalize bits .and .i64 r3 r13 = zv
                    refine AnyL.ready (rs := [17]) (by kernel_rfl) (by simp) ?_
                    refine (AllL.consN rfl (fun K' hK => ?_) AllL.nil)
                    go_simp
                    go_at_call 73
                    refine (dr_pick1 KK.length (by omega) (by omega) (Lib.hid (K3.out.dr HD.out)) HL hn (by omega)).mono ?_
                    rintro e u4 ⟨rt4, t4, rfl, ⟨rt40, rt41⟩, ht4, dt4, ot4⟩
                    have K4 := Lib.hid (K3.out.only hw dt4.cur ot4)
                    clear dt4 ot4
                    refine hK.out _ _ ⟨HS1.out _ _ _ _ K4.out, K4.out.box.2.2.1⟩ (fun hB => ?_)
                    clear hK K'
                    try simp only [Act.put, List.setIfInBounds_toArray, List.set_cons_zero, List.set_cons_succ]
                    obtain ⟨q4, rfl⟩ := Int.eq_ofNat_of_zero_le rt40
                    have hq4 : q4 < KK.length := by omega
                    obtain ⟨p, hp⟩ : ∃ p, KK.getD q4 0 = p := ⟨_, rfl⟩
                    have hpN : p < N := by rw [← hp]; exact HKl.out q4 hq4
                    obtain ⟨zi, hzi⟩ : ∃ z, (L2.getD p cls0).i = z := ⟨_, rfl⟩
                    refine AnyL.tS (i := 18) (d := 91) (v := ?_) rfl rfl (by kernel_rfl) (by kernel_rfl) (by kernel_rfl) (by decide) (fun _ _ _ h => h) (by rfl) ?_ (by assumption) ?_
                    rotate_left
                    · intro w' hSw
                      (try dsimp only at hSw)
                      go_simp
                      try with_reducible rfl
                    try simp only [Act.put, List.setIfInBounds_toArray, List.set_cons_zero, List.set_cons_succ]
                    refine AnyL.tS (i := 19) (d := 92) (v := ?_) rfl rfl (by kernel_rfl) (by kernel_rfl) (by kernel_rfl) (by decide) (fun _ _ _ h => h) (by rfl) ?_ (by assumption) ?_
                    rotate_left
                    · intro w' hSw
                      (try dsimp only at hSw)
                      have hx := hSw.2.1 q4 hq4
                      rw [hp] at hx
                      clear hSw
                      go_simp
                      try with_reducible rfl
                    try simp only [Act.put, List.setIfInBounds_toArray, List.set_cons_zero, List.set_cons_succ]
                    refine AnyL.tS (i := 20) (d := 93) (v := ?_) rfl rfl (by kernel_rfl) (by kernel_rfl) (by kernel_rfl) (by decide) (fun _ _ _ h => h) (by rfl) ?_ (by assumption) ?_
                    rotate_left
                    · intro w' hSw
                      (try dsimp only at hSw)
                      go_simp
                      try with_reducible rfl
                    try simp only [Act.put, List.setIfInBounds_toArray, List.set_cons_zero, List.set_cons_succ]
                    refine AnyL.tS (i := 21) (d := 94) (v := ?_) rfl rfl (by kernel_rfl) (by kernel_rfl) (by kernel_rfl) (by decide) (fun _ _ _ h => h) (by rfl) ?_ (by assumption) ?_
                    rotate_left
                    · intro w' hSw
                      (try dsimp only at hSw)
                      go_simp
                      try with_reducible rfl
                    try simp only [Act.put, List.setIfInBounds_toArray, List.set_cons_zero, List.set_cons_succ]
                    refine AnyL.tS (i := 22) (d := 95) (v := ?_) rfl rfl (by kernel_rfl) (by kernel_rfl) (by kernel_rfl) (by decide) (fun _ _ _ h => h) (by rfl) ?_ (by assumption) ?_
                    rotate_left
                    · intro w' hSw
                      (try dsimp only at hSw)
                      have hx := hSw.2.2 p hpN
                      rw [hzi] at hx
                      clear hSw
                      go_simp
                      try with_reducible rfl
                    try simp only [Act.put, List.setIfInBounds_toArray, List.set_cons_zero, List.set_cons_succ]
                    refine AnyL.tS (i := 23) (d := 96) (v := ?_) rfl rfl (by kernel_rfl) (by kernel_rfl) (by kernel_rfl) (by decide) (fun _ _ _ h => h) (by rfl) ?_ (by assumption) ?_
                    rotate_left
                    · intro w' hSw
                      (try dsimp only at hSw)
                      go_simp
                      try with_reducible rfl
                    try simp only [Act.put, List.setIfInBounds_toArray, List.set_cons_zero, List.set_cons_succ]
                    refine AnyL.ready (rs := [24]) (by kernel_rfl) (by simp) ?_
                    refine (AllL.consN rfl (fun K' hK => ?_) AllL.nil)
                    go_simp
                    have KA := Lib.hid (fun y : Flt => K4.out.on (one_new2 u4 (.cells #[.int .i64 y.o, .int .i64 y.f, .int .i64 y.m, .int .i64 y.v, .int .i64 y.t] 82)))
                    refine hK.out _ _ ⟨HS1.out _ _ _ _ (KA.out ⟨_, rt1q, r13, zv, zi⟩), (KA.out ⟨_, rt1q, r13, zv, zi⟩).box.2.2.1⟩ (fun hB => ?_)
                    clear hK K'
                    try simp only [Act.put, List.setIfInBounds_toArray, List.set_cons_zero, List.set_cons_succ]
                    refine AnyL.ready (rs := [25]) (by kernel_rfl) (by simp) ?_
                    refine (AllL.consB rfl (by kernel_rfl) (fun K' hK => ?_) AllL.nil)
                    refine step_append_src _ rfl (.tmp 74) (.tmp 97) 24 rfl (W.heap.size + 1) 82 i0 (.agg #[.int .i64 0, .int .i64 0, .int .i64 0, .int .i64 0, .int .i64 0]) 5 40 Tryz.underlying24 hi hz0 hz1 hz2 rfl (by decide) (.slice af M.length cf) M.length (fltCs M) (by rfl) (KA.out ⟨_, rt1q, r13, zv, zi⟩).F 0 (.slice (some ⟨u4.heap.size, 0, none⟩) 1 1) 1 (fltC ⟨_, rt1q, r13, zv, zi⟩) (by rfl) (lit_flt u4 0 (Nat.zero_le _) ⟨_, rt1q, r13, zv, zi⟩) (fltC_one _) (by unfold maxLen; omega) (by omega) (Nat.le_trans (Nat.succ_le_of_lt (KA.out ⟨_, rt1q, r13, zv, zi⟩).zer.1.2.2.2.2) (Nat.le_refl _)) ?_
                    intro vF2 u6 hown hgrow hat
                    obtain ⟨aF2, cF2, rfl, _⟩ := own_in hown
                    obtain ⟨m1, m2, m3, m4⟩ := (KA.out ⟨_, rt1q, r13, zv, zi⟩).mid hw hgrow
                    have KN := Lib.hid ((KA.out ⟨_, rt1q, r13, zv, zi⟩).appF hw ⟨_, rt1q, r13, zv, zi⟩ hgrow hown hat)
                    clear hown hgrow hat
                    refine hK.out _ _ ⟨m1.2.1, fun q hq => own_nat m4 q hq, fun q hq => (own_eight (len_row m3 HN3.out) q (by rw [HN3.out]; exact hq)).1⟩ ?_
                    clear hK K'
                    try simp only [Act.put, List.setIfInBounds_toArray, List.set_cons_zero, List.set_cons_succ]
                    obtain ⟨g0, g1, g2, g3, g4⟩ := m1
                    have fz := m2 2
                    refine AnyL.tE (i := 26) (d := 99) (v := ?_) rfl rfl (by kernel_rfl) (by kernel_rfl) (by kernel_rfl) (by decide) (by kernel_rfl) (fun _ _ _ h => h) (by rfl) ?_ ⟨g1, fun q hq => own_nat m4 q hq, fun q hq => (own_eight (len_row m3 HN3.out) q (by rw [HN3.out]; exact hq)).1⟩ ?_
                    rotate_left
                    · intro w' hSw
                      go_simp
                      try with_reducible rfl
                    try simp only [Act.put, List.setIfInBounds_toArray, List.set_cons_zero, List.set_cons_succ]
                    refine AnyL.ready (rs := [27]) (by kernel_rfl) (by simp) ?_
                    refine (AllL.consB rfl (by kernel_rfl) (fun K' hK => ?_) AllL.nil)
                    go_simp
                    refine hK.out _ _ (HS1.out _ _ _ _ KN.out) ?_
                    clear hK K'
                    try simp only [Act.put, List.setIfInBounds_toArray, List.set_cons_zero, List.set_cons_succ]
                    refine AnyL.done (by kernel_rfl) ?_ _
                    go_wp2_with fail
                    go_meet
                    exact ⟨⟨_, rfl⟩, ⟨_, rfl⟩, _, _, _, KN.out, by simp, by omega⟩
                case rest =>
                obtain ⟨⟨z', rfl⟩, ⟨mz, rfl⟩, t14, M2, vF2, hk14, hM2, ht14⟩ := hcut
                have K14 := Lib.hid hk14
                clear hk14
                go_wp2_with fail
                go_roundw
                case rel => exact ⟨z', k, rfl, by go_num, by omega, t14, M2, vF2, K14.out, by omega, by omega⟩
                case measure => simp [intOf]
            --S>
          case rest =>
          obtain ⟨⟨z, rfl⟩, ⟨kz, rfl⟩, t14, M0, vF0, hk14, hM0, ht14⟩ := hcut
          have K14 := Lib.hid hk14
          have D14 := Lib.hid (hk14.dr HD.out)
          clear hk14 K9 D9
          go_upto_if 101 with (go_at_call 77; (with_reducible refine (dr_one 24 (by omega) (by omega) D14 HL hn (by omega)).mono ?_); rintro e v15 ⟨b15, t15, rfl, ht15, d15, o15⟩; have K15 := Lib.hid (K14.out.only hw d15.cur o15); clear d15 o15)
          clear K14 D14
          go_cut [11, 14] from 102 to 126 (fun pv kv wx => True ∧ True ∧ C3Rel w W a n cap (t15) v1.heap.size x gC cC N (16) (.slice (some ⟨gl, 0, none⟩) KK.length cl) L2 KK wx)
          case first =>
            cases b15
            · go_wp2_with fail
              go_meet
              exact ⟨trivial, trivial, t15, M0, vF0, K15.out, by omega, by omega⟩
            · obtain ⟨af0, cf0, rfl, _⟩ := own_in K15.out.F
              obtain ⟨e0, e1, e2, e3, _⟩ := K15.out.box
              go_wp2_with fail
              go_loopw [11, 14] (fun pv kv wr => ∃ (z : Int) (M : List Flt) (vF : Value), pv = .int .i64 z ∧ kv = .int .i64 (M.length : Nat) ∧ M.length ≤ 16 ∧ KC w W a n cap t15 v1.heap.size x (.slice (some ⟨gC, 0, none⟩) N cC) vF (.slice (some ⟨gl, 0, none⟩) KK.length cl) 0 L2 M KK wr) (fun _ kv _ => 16 - (intOf kv).toNat)
              case atStart => exact ⟨z, M0, _, rfl, rfl, by omega, K15.out⟩
              case round =>
                obtain ⟨z2, M, vF, rfl, rfl, hM16, hk15⟩ := hrel
                obtain ⟨af, cf, rfl, _⟩ := own_in hk15.F
                clear K15 e0 e1 e2 e3
                have K15 := Lib.hid hk15
                clear hk15
                by_cases hlt : M.length < 16
                · have hlti : (M.length : Int) < 16 := by omega
                  go_upto_region 30 with fail
                  have HS1 : Hid (∀ t' vF' M' w', KC w W a n cap t' v1.heap.size x (.slice (some ⟨gC, 0, none⟩) N cC) vF' (.slice (some ⟨gl, 0, none⟩) KK.length cl) 0 L2 M' KK w' → (w'.cell? ⟨v1.heap.size, 1, none⟩ = some (.slice (some ⟨gC, 0, none⟩) N cC) ∧ (∀ q, q < KK.length → w'.cell? ⟨gl, q, none⟩ = some (.int .i64 ((KK.getD q 0 : Nat) : Int))) ∧ (∀ q, q < N → w'.cell? ⟨gC, q * 8, none⟩ = some (.int .i64 (L2.getD q cls0).i)))) := Lib.hid (fun t' vF' M' w' h => ⟨h.box.2.1, fun q hq => own_nat h.l q hq, fun q hq => (own_eight (len_row h.C HL2.out) q (by rw [HL2.out]; exact hq)).1⟩)
                  have KD : Hid (KC w W a n cap t15 v1.heap.size x (.slice (some ⟨gC, 0, none⟩) N cC) (.slice af M.length cf) (.slice (some ⟨gl, 0, none⟩) KK.length cl) 0 L2 M KK wr.drew) := Lib.hid (K15.out.on (below_drewN (Below.refl _ _) 1))
                  refine AnyL.begin (S := fun w' => w'.cell? ⟨v1.heap.size, 1, none⟩ = some (.slice (some ⟨gC, 0, none⟩) N cC) ∧ (∀ q, q < KK.length → w'.cell? ⟨gl, q, none⟩ = some (.int .i64 ((KK.getD q 0 : Nat) : Int))) ∧ (∀ q, q < N → w'.cell? ⟨gC, q * 8, none⟩ = some (.int .i64 (L2.getD q cls0).i))) (T := fun w' => w'.cell? ⟨v1.heap.size, 2, none⟩ = some (.slice af M.length cf)) (b := 14) (by kernel_rfl) ?_
                  obtain ⟨u0, hu0⟩ : ∃ u0, wr.drew = u0 := ⟨_, rfl⟩
                  rw [hu0] at KD ⊢
                  clear hu0
                  have hB := And.intro (HS1.out _ _ _ _ KD.out) KD.out.box.2.2.1
                  obtain ⟨p, hp⟩ : ∃ p, KK.getD 0 0 = p := ⟨_, rfl⟩
                  have hpN : p < N := by rw [← hp]; exact HKl.out 0 hk0
                  obtain ⟨zi, hzi⟩ : ∃ z, (L2.getD p cls0).i = z := ⟨_, rfl⟩
                  refine AnyL.tS (i := 0) (d := 111) (v := ?_) rfl rfl (by kernel_rfl) (by kernel_rfl) (by kernel_rfl) (by decide) (fun _ _ _ h => h) (by rfl) ?_ (by assumption) ?_
                  rotate_left
                  · intro w' hSw
                    (try dsimp only at hSw)
                    go_simp
                    try with_reducible rfl
                  try simp only [Act.put, List.setIfInBounds_toArray, List.set_cons_zero, List.set_cons_succ]
                  refine AnyL.tT (i := 1) (d := 112) (v := ?_) rfl rfl (by kernel_rfl) (by kernel_rfl) (by kernel_rfl) (by decide) (by kernel_rfl) (by kernel_rfl) (fun _ _ _ h => h) (by rfl) ?_ (by assumption) ?_
                  rotate_left
                  · intro w' hSw
                    (try dsimp only at hSw)
                    go_simp
                    try with_reducible rfl
                  try simp only [Act.put, List.setIfInBounds_toArray, List.set_cons_zero, List.set_cons_succ]
                  refine AnyL.tS (i := 2) (d := 113) (v := ?_) rfl rfl (by kernel_rfl) (by kernel_rfl) (by kernel_rfl) (by decide) (fun _ _ _ h => h) (by rfl) ?_ (by assumption) ?_
                  rotate_left
                  · intro w' hSw
                    (try dsimp only at hSw)
                    go_simp
                    try with_reducible rfl
                  try simp only [Act.put, List.setIfInBounds_toArray, List.set_cons_zero, List.set_cons_succ]
                  refine AnyL.tS (i := 3) (d := 114) (v := ?_) rfl rfl (by kernel_rfl) (by kernel_rfl) (by kernel_rfl) (by decide) (fun _ _ _ h => h) (by rfl) ?_ (by assumption) ?_
                  rotate_left
                  · intro w' hSw
                    (try dsimp only at hSw)
                    go_simp
                    try with_reducible rfl
                  try simp only [Act.put, List.setIfInBounds_toArray, List.set_cons_zero, List.set_cons_succ]
                  refine AnyL.tS (i := 4) (d := 115) (v := ?_) rfl rfl (by kernel_rfl) (by kernel_rfl) (by kernel_rfl) (by decide) (fun _ _ _ h => h) (by rfl) ?_ (by assumption) ?_
                  rotate_left
                  · intro w' hSw
                    (try dsimp only at hSw)
                    go_simp
                    try with_reducible rfl
                  try simp only [Act.put, List.setIfInBounds_toArray, List.set_cons_zero, List.set_cons_succ]
                  refine AnyL.tS (i := 5) (d := 116) (v := ?_) rfl rfl (by kernel_rfl) (by kernel_rfl) (by kernel_rfl) (by decide) (fun _ _ _ h => h) (by rfl) ?_ (by assumption) ?_
                  rotate_left
                  · intro w' hSw
                    (try dsimp only at hSw)
                    go_simp
                    try with_reducible rfl
                  try simp only [Act.put, List.setIfInBounds_toArray, List.set_cons_zero, List.set_cons_succ]
                  refine AnyL.tS (i := 6) (d := 117) (v := ?_) rfl rfl (by kernel_rfl) (by kernel_rfl) (by kernel_rfl) (by decide) (fun _ _ _ h => h) (by rfl) ?_ (by assumption) ?_
                  rotate_left
                  · intro w' hSw
                    (try dsimp only at hSw)
                    go_simp
                    try with_reducible rfl
                  try simp only [Act.put, List.setIfInBounds_toArray, List.set_cons_zero, List.set_cons_succ]
                  refine AnyL.tS (i := 7) (d := 118) (v := ?_) rfl rfl (by kernel_rfl) (by kernel_rfl) (by kernel_rfl) (by decide) (fun _ _ _ h => h) (by rfl) ?_ (by assumption) ?_
                  rotate_left
                  · intro w' hSw
                    (try dsimp only at hSw)
                    go_simp
                    try with_reducible rfl
                  try simp only [Act.put, List.setIfInBounds_toArray, List.set_cons_zero, List.set_cons_succ]
                  refine AnyL.tS (i := 8) (d := 119) (v := ?_) rfl rfl (by kernel_rfl) (by kernel_rfl) (by kernel_rfl) (by decide) (fun _ _ _ h => h) (by rfl) ?_ (by assumption) ?_
                  rotate_left
                  · intro w' hSw
                    (try dsimp only at hSw)
                    have hx := hSw.2.1 0 hk0
                    rw [hp] at hx
                    clear hSw
                    go_simp
                    try with_reducible rfl
                  try simp only [Act.put, List.setIfInBounds_toArray, List.set_cons_zero, List.set_cons_succ]
                  refine AnyL.tS (i := 9) (d := 120) (v := ?_) rfl rfl (by kernel_rfl) (by kernel_rfl) (by kernel_rfl) (by decide) (fun _ _ _ h => h) (by rfl) ?_ (by assumption) ?_
                  rotate_left
                  · intro w' hSw
                    (try dsimp only at hSw)
                    go_simp
                    try with_reducible rfl
                  try simp only [Act.put, List.setIfInBounds_toArray, List.set_cons_zero, List.set_cons_succ]
                  refine AnyL.tS (i := 10) (d := 121) (v := ?_) rfl rfl (by kernel_rfl) (by kernel_rfl) (by kernel_rfl) (by decide) (fun _ _ _ h => h) (by rfl) ?_ (by assumption) ?_
                  rotate_left
                  · intro w' hSw
                    (try dsimp only at hSw)
                    go_simp
                    try with_reducible rfl
                  try simp only [Act.put, List.setIfInBounds_toArray, List.set_cons_zero, List.set_cons_succ]
                  refine AnyL.tS (i := 11) (d := 122) (v := ?_) rfl rfl (by kernel_rfl) (by kernel_rfl) (by kernel_rfl) (by decide) (fun _ _ _ h => h) (by rfl) ?_ (by assumption) ?_
                  rotate_left
                  · intro w' hSw
                    (try dsimp only at hSw)
                    have hx := hSw.2.2 p hpN
                    rw [hzi] at hx
                    clear hSw
                    go_simp
                    try with_reducible rfl
                  try simp only [Act.put, List.setIfInBounds_toArray, List.set_cons_zero, List.set_cons_succ]
                  refine AnyL.tS (i := 12) (d := 123) (v := ?_) rfl rfl (by kernel_rfl) (by kernel_rfl) (by kernel_rfl) (by decide) (fun _ _ _ h => h) (by rfl) ?_ (by assumption) ?_
                  rotate_left
                  · intro w' hSw
                    (try dsimp only at hSw)
                    go_simp
                    try with_reducible rfl
                  try simp only [Act.put, List.setIfInBounds_toArray, List.set_cons_zero, List.set_cons_succ]
                  refine AnyL.ready (rs := [13]) (by kernel_rfl) (by simp) ?_
                  refine (AllL.consN rfl (fun K' hK => ?_) AllL.nil)
                  go_simp
                  have KA := Lib.hid (fun y : Flt => KD.out.on (one_new2 u0 (.cells #[.int .i64 y.o, .int .i64 y.f, .int .i64 y.m, .int .i64 y.v, .int .i64 y.t] 82)))
                  refine hK.out _ _ ⟨HS1.out _ _ _ _ (KA.out ⟨_, 0, 65535, _, zi⟩), (KA.out ⟨_, 0, 65535, _, zi⟩).box.2.2.1⟩ (fun hB => ?_)
                  clear hK K'
                  try simp only [Act.put, List.setIfInBounds_toArray, List.set_cons_zero, List.set_cons_succ]
                  refine AnyL.ready (rs := [14]) (by kernel_rfl) (by simp) ?_
                  refine (AllL.consB rfl (by kernel_rfl) (fun K' hK => ?_) AllL.nil)
                  refine step_append_src _ rfl (.tmp 112) (.tmp 124) 24 rfl (W.heap.size + 1) 82 i0 (.agg #[.int .i64 0, .int .i64 0, .int .i64 0, .int .i64 0, .int .i64 0]) 5 40 Tryz.underlying24 hi hz0 hz1 hz2 rfl (by decide) (.slice af M.length cf) M.length (fltCs M) (by rfl) (KA.out ⟨_, 0, 65535, _, zi⟩).F 0 (.slice (some ⟨u0.heap.size, 0, none⟩) 1 1) 1 (fltC ⟨_, 0, 65535, _, zi⟩) (by rfl) (lit_flt u0 0 (Nat.zero_le _) ⟨_, 0, 65535, _, zi⟩) (fltC_one _) (by unfold maxLen; omega) (by omega) (Nat.le_trans (Nat.succ_le_of_lt (KA.out ⟨_, 0, 65535, _, zi⟩).zer.1.2.2.2.2) (Nat.le_refl _)) ?_
                  intro vF2 u6 hown hgrow hat
                  obtain ⟨aF2, cF2, rfl, _⟩ := own_in hown
                  obtain ⟨m1, m2, m3, m4⟩ := (KA.out ⟨_, 0, 65535, _, zi⟩).mid hw hgrow
                  have KN := Lib.hid ((KA.out ⟨_, 0, 65535, _, zi⟩).appF hw ⟨_, 0, 65535, _, zi⟩ hgrow hown hat)
                  clear hown hgrow hat
                  refine hK.out _ _ ⟨m1.2.1, fun q hq => own_nat m4 q hq, fun q hq => (own_eight (len_row m3 HL2.out) q (by rw [HL2.out]; exact hq)).1⟩ ?_
                  clear hK K'
                  try simp only [Act.put, List.setIfInBounds_toArray, List.set_cons_zero, List.set_cons_succ]
                  obtain ⟨g0, g1, g2, g3, g4⟩ := m1
                  have fz := m2 2
                  refine AnyL.tE (i := 15) (d := 126) (v := ?_) rfl rfl (by kernel_rfl) (by kernel_rfl) (by kernel_rfl) (by decide) (by kernel_rfl) (fun _ _ _ h => h) (by rfl) ?_ ⟨g1, fun q hq => own_nat m4 q hq, fun q hq => (own_eight (len_row m3 HL2.out) q (by rw [HL2.out]; exact hq)).1⟩ ?_
                  rotate_left
                  · intro w' hSw
                    go_simp
                    try with_reducible rfl
                  try simp only [Act.put, List.setIfInBounds_toArray, List.set_cons_zero, List.set_cons_succ]
                  refine AnyL.ready (rs := [16]) (by kernel_rfl) (by simp) ?_
                  refine (AllL.consB rfl (by kernel_rfl) (fun K' hK => ?_) AllL.nil)
                  go_simp
                  refine hK.out _ _ (HS1.out _ _ _ _ KN.out) ?_
                  clear hK K'
                  try simp only [Act.put, List.setIfInBounds_toArray, List.set_cons_zero, List.set_cons_succ]
                  refine AnyL.done (by kernel_rfl) ?_ _
                  go_wp2_with fail
                  go_roundw
                  case rel => exact ⟨_, _, _, rfl, by simp, by simp; try omega, KN.out⟩
                  case measure => simp [intOf]; omega
                · have hlti : ¬ (M.length : Int) < 16 := by omega
                  go_wp2_with fail
                  go_meet
                  exact ⟨trivial, trivial, t15, M, _, K15.out, by omega, by omega⟩
          case rest =>
          obtain ⟨_, _, t16, M, vF, hk16, hM16, ht16⟩ := hcut
          have K16 := Lib.hid hk16
          have D16 := Lib.hid (hk16.dr HD.out)
          have hM17 := hM16
          clear hk16 K15
          go_upto_if 129 with (go_at_call 77; (with_reducible refine (dr_one 3 (by omega) (by omega) D16 HL hn (by omega)).mono ?_); rintro e v17 ⟨b17, t17, rfl, ht17, d17, o17⟩; have K17 := Lib.hid (K16.out.only hw d17.cur o17); clear d17 o17)
          clear K16 D16
          go_cut [129] from 130 to 142 (fun bv wx => True ∧ ∃ (z : Int) (t' : Nat) (M : List Flt) (vF : Value), KC w W a n cap t' v1.heap.size x (.slice (some ⟨gC, 0, none⟩) N cC) vF (.slice (some ⟨gl, 0, none⟩) KK.length cl) z L2 M KK wx ∧ M.length ≤ 16 ∧ t' ≤ t17 + 2)
          case first =>
            cases b17
            · go_upto_region 32 with fail
              have HS1 : Hid (∀ t' d' w', KC w W a n cap t' v1.heap.size x (.slice (some ⟨gC, 0, none⟩) N cC) vF (.slice (some ⟨gl, 0, none⟩) KK.length cl) d' L2 M KK w' → (w'.cell? ⟨v1.heap.size, 1, none⟩ = some (.slice (some ⟨gC, 0, none⟩) N cC) ∧ (∀ q, q < KK.length → w'.cell? ⟨gl, q, none⟩ = some (.int .i64 ((KK.getD q 0 : Nat) : Int))) ∧ (∀ q, q < N → w'.cell? ⟨gC, q * 8, none⟩ = some (.int .i64 (L2.getD q cls0).i)))) := Lib.hid (fun t' d' w' h => ⟨h.box.2.1, fun q hq => own_nat h.l q hq, fun q hq => (own_eight (len_row h.C HL2.out) q (by rw [HL2.out]; exact hq)).1⟩)
              have KD : Hid (KC w W a n cap t17 v1.heap.size x (.slice (some ⟨gC, 0, none⟩) N cC) vF (.slice (some ⟨gl, 0, none⟩) KK.length cl) 0 L2 M KK v17.drew) := Lib.hid (K17.out.on (below_drewN (Below.refl _ _) 1))
              refine AnyL.begin (S := fun w' => w'.cell? ⟨v1.heap.size, 1, none⟩ = some (.slice (some ⟨gC, 0, none⟩) N cC) ∧ (∀ q, q < KK.length → w'.cell? ⟨gl, q, none⟩ = some (.int .i64 ((KK.getD q 0 : Nat) : Int))) ∧ (∀ q, q < N → w'.cell? ⟨gC, q * 8, none⟩ = some (.int .i64 (L2.getD q cls0).i))) (T := fun _ => True) (b := 100) (by kernel_rfl) ?_
              obtain ⟨u0, hu0⟩ : ∃ u0, v17.drew = u0 := ⟨_, rfl⟩
              rw [hu0] at KD ⊢
              clear hu0
              have hB := And.intro (HS1.out _ _ _ KD.out) trivial
              refine AnyL.tS (i := 0) (d := 130) (v := ?_) rfl rfl (by kernel_rfl) (by kernel_rfl) (by kernel_rfl) (by decide) (fun _ _ _ h => h) (by rfl) ?_ (by assumption) ?_
              rotate_left
              · intro w' hSw
                (try dsimp only at hSw)
                go_simp
                try with_reducible rfl
              try simp only [Act.put, List.setIfInBounds_toArray, List.set_cons_zero, List.set_cons_succ]
              refine AnyL.tS (i := 1) (d := 131) (v := ?_) rfl rfl (by kernel_rfl) (by kernel_rfl) (by kernel_rfl) (by decide) (fun _ _ _ h => h) (by rfl) ?_ (by assumption) ?_
              rotate_left
              · intro w' hSw
                (try dsimp only at hSw)
                go_simp
                try with_reducible rfl
              try simp only [Act.put, List.setIfInBounds_toArray, List.set_cons_zero, List.set_cons_succ]
              refine AnyL.tS (i := 2) (d := 132) (v := ?_) rfl rfl (by kernel_rfl) (by kernel_rfl) (by kernel_rfl) (by decide) (fun _ _ _ h => h) (by rfl) ?_ (by assumption) ?_
              rotate_left
              · intro w' hSw
                (try dsimp only at hSw)
                go_simp
                try with_reducible rfl
              try simp only [Act.put, List.setIfInBounds_toArray, List.set_cons_zero, List.set_cons_succ]
              refine AnyL.tS (i := 3) (d := 133) (v := ?_) rfl rfl (by kernel_rfl) (by kernel_rfl) (by kernel_rfl) (by decide) (fun _ _ _ h => h) (by rfl) ?_ (by assumption) ?_
              rotate_left
              · intro w' hSw
                (try dsimp only at hSw)
                go_simp
                try with_reducible rfl
              try simp only [Act.put, List.setIfInBounds_toArray, List.set_cons_zero, List.set_cons_succ]
              refine AnyL.tS (i := 4) (d := 134) (v := ?_) rfl rfl (by kernel_rfl) (by kernel_rfl) (by kernel_rfl) (by decide) (fun _ _ _ h => h) (by rfl) ?_ (by assumption) ?_
              rotate_left
              · intro w' hSw
                (try dsimp only at hSw)
                go_simp
                try with_reducible rfl
              try simp only [Act.put, List.setIfInBounds_toArray, List.set_cons_zero, List.set_cons_succ]
              refine AnyL.tS (i := 5) (d := 135) (v := ?_) rfl rfl (by kernel_rfl) (by kernel_rfl) (by kernel_rfl) (by decide) (fun _ _ _ h => h) (by rfl) ?_ (by assumption) ?_
              rotate_left
              · intro w' hSw
                (try dsimp only at hSw)
                go_simp
                try with_reducible rfl
              try simp only [Act.put, List.setIfInBounds_toArray, List.set_cons_zero, List.set_cons_succ]
              refine AnyL.ready (rs := [6]) (by kernel_rfl) (by simp) ?_
              refine (AllL.consN rfl (fun K' hK => ?_) AllL.nil)
              go_simp
              go_at_call 73
              refine (dr_pick1 KK.length (by omega) (by omega) (Lib.hid (KD.out.dr HD.out)) HL hn (by omega)).mono ?_
              rintro e u4 ⟨rt4, t4q, rfl, ⟨rt40, rt41⟩, ht4q, dt4, ot4⟩
              have K4 := Lib.hid (KD.out.only hw dt4.cur ot4)
              clear dt4 ot4
              refine hK.out _ _ ⟨HS1.out _ _ _ K4.out, trivial⟩ (fun hB => ?_)
              clear hK K'
              try simp only [Act.put, List.setIfInBounds_toArray, List.set_cons_zero, List.set_cons_succ]
              obtain ⟨q4, rfl⟩ := Int.eq_ofNat_of_zero_le rt40
              have hq4 : q4 < KK.length := by omega
              obtain ⟨p, hp⟩ : ∃ p, KK.getD q4 0 = p := ⟨_, rfl⟩
              have hpN : p < N := by rw [← hp]; exact HKl.out q4 hq4
              obtain ⟨zi, hzi⟩ : ∃ z, (L2.getD p cls0).i = z := ⟨_, rfl⟩
              refine AnyL.tS (i := 7) (d := 137) (v := ?_) rfl rfl (by kernel_rfl) (by kernel_rfl) (by kernel_rfl) (by decide) (fun _ _ _ h => h) (by rfl) ?_ (by assumption) ?_
              rotate_left
              · intro w' hSw
                (try dsimp only at hSw)
                go_simp
                try with_reducible rfl
              try simp only [Act.put, List.setIfInBounds_toArray, List.set_cons_zero, List.set_cons_succ]
              refine AnyL.tS (i := 8) (d := 138) (v := ?_) rfl rfl (by kernel_rfl) (by kernel_rfl) (by kernel_rfl) (by decide) (fun _ _ _ h => h) (by rfl) ?_ (by assumption) ?_
              rotate_left
              · intro w' hSw
                (try dsimp only at hSw)
                have hx := hSw.2.1 q4 hq4
                rw [hp] at hx
                clear hSw
                go_simp
                try with_reducible rfl
              try simp only [Act.put, List.setIfInBounds_toArray, List.set_cons_zero, List.set_cons_succ]
              refine AnyL.tS (i := 9) (d := 139) (v := ?_) rfl rfl (by kernel_rfl) (by kernel_rfl) (by kernel_rfl) (by decide) (fun _ _ _ h => h) (by rfl) ?_ (by assumption) ?_
              rotate_left
              · intro w' hSw
                (try dsimp only at hSw)
                go_simp
                try with_reducible rfl
              try simp only [Act.put, List.setIfInBounds_toArray, List.set_cons_zero, List.set_cons_succ]
              refine AnyL.tS (i := 10) (d := 140) (v := ?_) rfl rfl (by kernel_rfl) (by kernel_rfl) (by kernel_rfl) (by decide) (fun _ _ _ h => h) (by rfl) ?_ (by assumption) ?_
              rotate_left
              · intro w' hSw
                (try dsimp only at hSw)
                go_simp
                try with_reducible rfl
              try simp only [Act.put, List.setIfInBounds_toArray, List.set_cons_zero, List.set_cons_succ]
              refine AnyL.tS (i := 11) (d := 141) (v := ?_) rfl rfl (by kernel_rfl) (by kernel_rfl) (by kernel_rfl) (by decide) (fun _ _ _ h => h) (by rfl) ?_ (by assumption) ?_
              rotate_left
              · intro w' hSw
                (try dsimp only at hSw)
                have hx := hSw.2.2 p hpN
                rw [hzi] at hx
                clear hSw
                go_simp
                try with_reducible rfl
              try simp only [Act.put, List.setIfInBounds_toArray, List.set_cons_zero, List.set_cons_succ]
              refine AnyL.tS (i := 12) (d := 142) (v := ?_) rfl rfl (by kernel_rfl) (by kernel_rfl) (by kernel_rfl) (by decide) (fun _ _ _ h => h) (by rfl) ?_ (by assumption) ?_
              rotate_left
              · intro w' hSw
                (try dsimp only at hSw)
                go_simp
                try with_reducible rfl
              try simp only [Act.put, List.setIfInBounds_toArray, List.set_cons_zero, List.set_cons_succ]
              obtain ⟨g0, g1, g2, g3, g4⟩ := K4.out.box
              have fz := K4.out.fro 3
              have KN := Lib.hid (K4.out.setD hw zi)
              refine AnyL.ready (rs := [13]) (by kernel_rfl) (by simp) ?_
              refine (AllL.consN rfl (fun K' hK => ?_) AllL.nil)
              go_simp
              refine hK.out _ _ ⟨HS1.out _ _ _ KN.out, trivial⟩ (fun hB => ?_)
              clear hK K'
              try simp only [Act.put, List.setIfInBounds_toArray, List.set_cons_zero, List.set_cons_succ]
              refine AnyL.done (by kernel_rfl) ?_ _
              go_wp2_with fail
              go_meet
              exact ⟨trivial, zi, t4q, M, vF, KN.out, hM17, by omega⟩
            · go_wp2_with fail
              go_meet
              exact ⟨trivial, 0, t17, M, vF, K17.out, hM17, by omega⟩
          case rest =>
          obtain ⟨_, z, t18, M2, vF2, hk18, hM18, ht18⟩ := hcut
          have K18 := Lib.hid hk18
          have hlv : L2.length = N := HL2.out
          obtain ⟨af, cf, rfl, _⟩ := own_in hk18.F
          obtain ⟨g0, g1, g2, g3, g4⟩ := hk18.box
          obtain ⟨⟨x0, x1, x2, x3, xl⟩, x4⟩ := hk18.zer
          have q0 := x4 0
          have q1 := x4 1
          have q2 := x4 2
          have q3 := x4 3
          clear x4 hk18 K17
          have HLV : Hid (0 < (leaves L2).length) := Lib.hid (by rw [HV.out]; exact hk0)
          go_wp2_with fail
          obtain ⟨r0, r1, r2, r3⟩ := read4 K18.out.zer.four (.string x) (.slice (some ⟨gC, 0, none⟩) N cC) (.slice af M2.length cf) (.int .i64 z) _ rfl
          obtain ⟨f1, f2, f3⟩ := K18.out.fin hw (.string x) (.slice (some ⟨gC, 0, none⟩) N cC) (.slice af M2.length cf) (.int .i64 z)
          exact bodyPost_ret (v := .agg #[.string x, .slice (some ⟨gC, 0, none⟩) N cC, .slice af M2.length cf, .int .i64 z]) (by simp [results, Tryz.results72, go_sem, r0, r1, r2, r3]) rfl ⟨_, ⟨x, L2, M2, z⟩, t18, rfl, f3, by show 1 ≤ L2.length; omega, by show L2.length ≤ 24; omega, hM18, hx8, HLV.out, by omega, HD.out.bar f1 f2, f2⟩
end Go.Proofs.YthgbhnedfdnfpaaGreatDoor
