/- Chapter 8, the model: ways, rings, and the searches for indices. -/
import Derived.Test.YtfijhgggljaomaaVas
import Derived.Deep.CutRange
namespace Go.Proofs.Ytfijhgggljaomaa
open Go.RowKit
set_option linter.unusedVariables false

def WyRelV (w : World) (o : Obj) (n : Nat) (cs : List Cls) (R : Int × Nat) (c i : Value) (wr : World) : Prop :=
  ∃ (a k : Nat), a ≤ n + 1 ∧ 1 ≤ a ∧ k < n ∧ c = .int .i64 a ∧ i = .int .i64 k ∧ Aft w o wr ∧ Hid ((vwN cs (n + 1 - a) a k, vwL cs (n + 1 - a) k) = R)
def SaysII (w : World) (a : Int) (b : Nat) (e : Ending) (w' : World) : Prop := e = .returned (.tuple #[.int .i64 a, .int .i64 (b : Int)]) ∧ Below w.heap.size w w'
theorem ret_ii {a a' b b' : Int} (h : a = a') (h' : b = b') : Ending.returned (.tuple #[.int .i64 a, .int .i64 b]) = .returned (.tuple #[.int .i64 a', .int .i64 b']) := by rw [h, h']
set_option maxHeartbeats 6400000 in
theorem vaWay_any (s : ByteArray) (ac af : Option Addr) (n cc m cf : Nat) (d : Int) (cs : List Cls) (q : Nat) (w : World) (HI : Hid (InX w ac n (clsCs cs))) (hn : Hid (cs.length = n)) (hm : n ≤ 1048576) (hq : q < n) :
    Calls Try.prog 50 #[(.agg #[.string s, .slice ac n cc, .slice af m cf, .int .i64 d]), .int .i64 q] w (SaysII w (vwN cs n 1 q) (vwL cs n q)) := by
  obtain ⟨R1, h1⟩ : ∃ R, vwN cs n 1 q = R := ⟨_, rfl⟩
  obtain ⟨R2, h2⟩ : ∃ R, vwL cs n q = R := ⟨_, rfl⟩
  have H0 : Hid ((vwN cs (n + 1 - 1) 1 q, vwL cs (n + 1 - 1) q) = (R1, R2)) := Lib.hid (by rw [Nat.add_sub_cancel, h1, h2])
  rw [h1, h2]
  have HF := Lib.hid (fun id w HI => cfFind_any s ac af n cc m cf d cs id w HI hn hm)
  clear h1 h2
  go_enter Try.func50, Try.ntmps50
  go_wp2_with fail
  go_loopw [6, 1] (fun c i wr => WyRelV w (Obj.cells #[.string s, .slice ac n cc, .slice af m cf, .int .i64 d] 33) n cs (R1, R2) c i wr) (fun c _ _ => n + 1 - (intOf c).toNat)
  case atStart => exact ⟨1, q, by omega, Nat.le_refl _, hq, rfl, rfl, Aft.refl _ _, H0⟩
  case round =>
    obtain ⟨a, k, ha, ha1, hkn, rfl, rfl, hb, HP⟩ := hrel
    have HB := Lib.hid hb
    obtain ⟨e0, e1, e2, e3, hgw⟩ := hb.all.1
    by_cases hlt : a ≤ n
    · obtain ⟨x, hx⟩ : ∃ x, cs.getD k cls0 = x := ⟨_, rfl⟩
      have hl1 : k < cs.length := by rw [hn.out]; exact hkn
      have HFx := Lib.hid (HF.out x.p)
      obtain ⟨g, rfl, ht, hg⟩ := HI.out (by omega)
      obtain ⟨_, a1, _⟩ := (ht.below hb.all.2 hg).cls k hl1 x hx
      have HI3 : Hid (InX wr (some ⟨g, 0, none⟩) n (clsCs cs)) := Lib.hid (HI.out.below hb.all.2)
      have hE : n + 1 - a = (n - a) + 1 := by omega
      have HL : Hid (∀ j, fnd cs x.p = Option.some j → (vwN cs (n + 1 - (a + 1)) (a + 1) j, vwL cs (n + 1 - (a + 1)) j) = (R1, R2)) := Lib.hid (fun j hj => by
        have hnx : nx cs k = Option.some j := by unfold nx; rw [hx]; exact hj
        rw [← HP.out, hE, vwN_some hnx, vwL_some hnx, show n + 1 - (a + 1) = n - a by omega])
      have HE : Hid (fnd cs x.p = Option.none → (a : Int) = R1 ∧ k = R2) := Lib.hid (fun hj => by
        have hnx : nx cs k = Option.none := by unfold nx; rw [hx]; exact hj
        have := HP.out
        rw [hE, vwN_none hnx, vwL_none hnx] at this
        exact ⟨congrArg Prod.fst this, congrArg Prod.snd this⟩)
      cases hf : fnd cs x.p with
      | none =>
        rw [fndI_none hf] at HFx
        have HY := Lib.hid (HE.out hf)
        obtain ⟨xi, xp, xr, xe, xb, xu, xo, xl⟩ := x
        simp only at a1 HFx
        clear hx hl1 hf ht hb
        go_wp2_with fail
        go_region_with (go_at_call 35; refine (HFx.out _ (Lib.hid (HI3.out.below (below_drewN (Below.refl _ _) _)))).mono ?_; rintro e w4 ⟨rfl, b4⟩; have B4 := Lib.hid ((below_drewN (Below.refl _ wr) 1).trans b4); clear b4)
        all_goals
          (try go_simp)
          go_wp2
          go_ret2
          exact ⟨ret_ii HY.out.1 (by rw [HY.out.2]), (HB.out.on B4.out).all.2⟩
      | some j =>
        rw [fndI_some hf] at HFx
        have hjn : j < n := by rw [← hn.out]; exact (fnd_get cs x.p j hf).1
        have HY := Lib.hid (HL.out j hf)
        obtain ⟨xi, xp, xr, xe, xb, xu, xo, xl⟩ := x
        simp only at a1 HFx
        have dj := not_lt (show (0 : Int) ≤ (j : Int) by omega)
        clear hx hl1 hf ht hb
        go_wp2_with fail
        go_region_with (go_at_call 35; refine (HFx.out _ (Lib.hid (HI3.out.below (below_drewN (Below.refl _ _) _)))).mono ?_; rintro e w4 ⟨rfl, b4⟩; have B4 := Lib.hid ((below_drewN (Below.refl _ wr) 1).trans b4); clear b4)
        all_goals
          (try go_simp)
          go_wp2
          go_roundw
          case rel => exact ⟨a + 1, j, by omega, by omega, hjn, by go_num, rfl, HB.out.on B4.out, HY⟩
          case measure => simp [intOf]; omega
    · have hE : n + 1 - a = 0 := by omega
      have HY : Hid ((-1 : Int) = R1 ∧ k = R2) := Lib.hid (by
        have := HP.out
        rw [hE] at this
        exact ⟨congrArg Prod.fst this, congrArg Prod.snd this⟩)
      clear hb
      go_wp2_with fail
      go_ret2
      exact ⟨ret_ii HY.out.1 (by rw [HY.out.2]), HB.out.all.2⟩
def CyRelV (w : World) (o : Obj) (n : Nat) (cs : List Cls) (q : Nat) (R : Bool) (i a : Value) (wr : World) : Prop :=
  ∃ (k t : Nat), t ≤ n ∧ k < n ∧ i = .int .i64 k ∧ a = .int .i64 t ∧ Aft w o wr ∧ Hid (vcy cs q (n - t) k = R)
set_option maxHeartbeats 6400000 in
theorem vaCycle_any (s : ByteArray) (ac af : Option Addr) (n cc m cf : Nat) (d : Int) (cs : List Cls) (q : Nat) (w : World) (HI : Hid (InX w ac n (clsCs cs))) (hn : Hid (cs.length = n)) (hm : n ≤ 1048576) (hq : q < n) :
    Calls Try.prog 47 #[(.agg #[.string s, .slice ac n cc, .slice af m cf, .int .i64 d]), .int .i64 q] w (SaysB w (vcy cs q n q)) := by
  obtain ⟨R, h1⟩ : ∃ R, vcy cs q n q = R := ⟨_, rfl⟩
  have H0 : Hid (vcy cs q (n - 0) q = R) := Lib.hid h1
  rw [h1]
  have HF := Lib.hid (fun id w HI => cfFind_any s ac af n cc m cf d cs id w HI hn hm)
  clear h1
  go_enter Try.func47, Try.ntmps47
  go_wp2_with fail
  go_loopw [5, 6] (fun i a wr => CyRelV w (Obj.cells #[.string s, .slice ac n cc, .slice af m cf, .int .i64 d] 33) n cs q R i a wr) (fun _ a _ => n - (intOf a).toNat)
  case atStart => exact ⟨q, 0, Nat.zero_le _, hq, rfl, rfl, Aft.refl _ _, H0⟩
  case round =>
    obtain ⟨k, t, ht0, hkn, rfl, rfl, hb, HP⟩ := hrel
    have HB := Lib.hid hb
    obtain ⟨e0, e1, e2, e3, hgw⟩ := hb.all.1
    by_cases hlt : t < n
    · obtain ⟨x, hx⟩ : ∃ x, cs.getD k cls0 = x := ⟨_, rfl⟩
      have hl1 : k < cs.length := by rw [hn.out]; exact hkn
      have HFx := Lib.hid (HF.out x.p)
      obtain ⟨g, rfl, ht, hg⟩ := HI.out (by omega)
      obtain ⟨_, a1, _⟩ := (ht.below hb.all.2 hg).cls k hl1 x hx
      have HI3 : Hid (InX wr (some ⟨g, 0, none⟩) n (clsCs cs)) := Lib.hid (HI.out.below hb.all.2)
      have hE : n - t = (n - (t + 1)) + 1 := by omega
      cases hf : fnd cs x.p with
      | none =>
        rw [fndI_none hf] at HFx
        have HY : Hid (false = R) := Lib.hid (by
          have hnx : nx cs k = Option.none := by unfold nx; rw [hx]; exact hf
          rw [← HP.out, hE, vcy_none hnx])
        obtain ⟨xi, xp, xr, xe, xb, xu, xo, xl⟩ := x
        simp only at a1 HFx
        clear hx hl1 hf ht hb
        go_wp2_with fail
        go_region_with (go_at_call 35; refine (HFx.out _ (Lib.hid (HI3.out.below (below_drewN (Below.refl _ _) _)))).mono ?_; rintro e w4 ⟨rfl, b4⟩; have B4 := Lib.hid ((below_drewN (Below.refl _ wr) 1).trans b4); clear b4)
        all_goals
          (try go_simp)
          go_wp2
          go_ret
          exact ⟨ret_bool HY.out, (HB.out.on B4.out).all.2⟩
      | some j =>
        rw [fndI_some hf] at HFx
        have hjn : j < n := by rw [← hn.out]; exact (fnd_get cs x.p j hf).1
        have hnx : nx cs k = Option.some j := by unfold nx; rw [hx]; exact hf
        have HW := Lib.hid HP.out
        rw [hE, vcy_some hnx] at HW
        have dj := not_lt (show (0 : Int) ≤ (j : Int) by omega)
        by_cases hji : j = q
        · subst hji
          have HY : Hid (true = R) := Lib.hid (by have := HW.out; rw [if_pos rfl] at this; exact this)
          obtain ⟨xi, xp, xr, xe, xb, xu, xo, xl⟩ := x
          simp only at a1 HFx
          clear hx hl1 hf ht hb hnx HW
          go_wp2_with fail
          go_region_with (go_at_call 35; refine (HFx.out _ (Lib.hid (HI3.out.below (below_drewN (Below.refl _ _) _)))).mono ?_; rintro e w4 ⟨rfl, b4⟩; have B4 := Lib.hid ((below_drewN (Below.refl _ wr) 1).trans b4); clear b4)
          all_goals
            (try go_simp)
            go_wp2
            go_ret
            exact ⟨ret_bool HY.out, (HB.out.on B4.out).all.2⟩
        · have HY : Hid (vcy cs q (n - (t + 1)) j = R) := Lib.hid (by have := HW.out; rw [if_neg hji] at this; exact this)
          have dne : ((j : Int) == (q : Int)) = false := by simp; omega
          obtain ⟨xi, xp, xr, xe, xb, xu, xo, xl⟩ := x
          simp only at a1 HFx
          clear hx hl1 hf ht hb hnx HW hji
          go_wp2_with fail
          go_region_with (go_at_call 35; refine (HFx.out _ (Lib.hid (HI3.out.below (below_drewN (Below.refl _ _) _)))).mono ?_; rintro e w4 ⟨rfl, b4⟩; have B4 := Lib.hid ((below_drewN (Below.refl _ wr) 1).trans b4); clear b4)
          all_goals
            (try go_simp)
            go_wp2
            go_roundw
            case rel => exact ⟨j, t + 1, by omega, hjn, rfl, by go_num, HB.out.on B4.out, HY⟩
            case measure => simp [intOf]; omega
    · have HY : Hid (false = R) := Lib.hid (by rw [← HP.out, show n - t = 0 by omega]; rfl)
      clear hb
      go_wp2_with fail
      go_ret
      exact ⟨ret_bool HY.out, HB.out.all.2⟩
set_option maxHeartbeats 6400000 in
theorem specCycleClasses_any (v : Value) (c : Cfg) (w : World) (HV : Hid (CfgV w v c)) (HM : Hid (CfgM c)) :
    Calls Try.prog 19 #[v] w (SaysVS w (selC cycP c) (rawC c)) := by
  obtain ⟨ac, cc, af, cf, rfl, ic, if_⟩ := HV.out
  obtain ⟨s, cs, fs, d⟩ := c
  have hM := HM.out
  unfold CfgM at hM
  simp only at ic if_ hM HV ⊢
  obtain ⟨q0, q1, q2⟩ := hM
  have HI := Lib.hid ic
  have HJ := Lib.hid if_
  have HVB := Lib.hid (fun w' (b : Below w.heap.size w w') => Lib.hid (HV.out.below b))
  have A0 := Lib.hid (Aft.refl w (Obj.cells #[.string s, .slice ac cs.length cc, .slice af fs.length cf, .int .i64 d] 33))
  clear ic if_
  have HAS := Lib.hid (fun w' (b : Below w.heap.size w w') => vaAsked_any (.agg #[.string s, .slice ac cs.length cc, .slice af fs.length cf, .int .i64 d]) ⟨s, cs, fs, d⟩ w' (HVB.out w' b) HM)
  cases hh : rawC ⟨s, cs, fs, d⟩
  · rw [selC_bad hh]
    rw [hh] at HAS
    clear hh
    go_enter Try.func19, Try.ntmps19
    go_wp2_with (go_at_call 34; refine (HAS.out _ A0.out.all.2).mono ?_; rintro e w1 ⟨rfl, b1⟩; have A1 := Lib.hid (A0.out.on b1); clear b1)
    go_ret2
    exact ⟨_, rfl, World.ownsRow_nil _ _ _ _, A1.out.all.2⟩
  · obtain ⟨h40, hf40⟩ := raw_of hh
    rw [selC_ok hh]
    rw [hh] at HAS
    simp only at h40 hf40 ⊢
    obtain ⟨i0, hi, hz0, hz1, hz2⟩ := info_parts infoI
    have HCY := Lib.hid (fun k (hk : k < cs.length) w' HI => vaCycle_any s ac af cs.length cc fs.length cf d cs k w' HI (Lib.hid rfl) q1 hk)
    obtain ⟨P, hP⟩ : ∃ P, cycP ⟨s, cs, fs, d⟩ = P := ⟨_, rfl⟩
    have HPD := Lib.hid (fun k => (congrFun hP k).symm)
    rw [hP]
    obtain ⟨K, hK⟩ : ∃ K, selF P cs.length 0 = K := ⟨_, rfl⟩
    have H0 : Hid ([] ++ selF P cs.length 0 = K) := Lib.hid hK
    rw [hK]
    clear HV HVB
    generalize hn : cs.length = n at *
    generalize hm : fs.length = m at *
    have HN := Lib.hid hn
    have HMf := Lib.hid hm
    clear hP hh hK hn hm
    go_enter Try.func19, Try.ntmps19
    go_wp2_with (go_at_call 34; refine (HAS.out _ A0.out.all.2).mono ?_; rintro e w1 ⟨rfl, b1⟩; have A1 := Lib.hid (A0.out.on b1); obtain ⟨c0, c1, c2, c3, _⟩ := A1.out.all.1; clear b1)
    go_loopw [4, 12] (fun out i wr => VRel w (Obj.cells #[.string s, .slice ac n cc, .slice af m cf, .int .i64 d] 33) n P K out i wr) (fun _ i _ => n - (intOf i).toNat)
    case atStart => exact ⟨0, [], Nat.zero_le _, Nat.le_refl _, rfl, A1.out, World.ownsRow_nil _ _ _ _, H0⟩
    case round =>
      obtain ⟨k, ks, hk, hkl, rfl, hb, ho, HP⟩ := hrel
      have HB := Lib.hid hb
      have HO := Lib.hid ho
      obtain ⟨ad, cO, rfl, _⟩ := own_in ho
      have hB0 : w.heap.size + 1 ≤ wr.heap.size := hb.all.1.2.2.2.2
      clear c0 c1 c2 c3
      by_cases hlt : k < n
      · have hl1 : k < cs.length := by rw [HN.out]; exact hlt
        have HPk := Lib.hid (HPD.out k)
        have HCk : Hid (∀ w' (HI : Hid (InX w' ac n (clsCs cs))), Calls Try.prog 47 #[(.agg #[.string s, .slice ac n cc, .slice af m cf, .int .i64 d]), .int .i64 (k : Int)] w' (SaysB w' (cycP ⟨s, cs, fs, d⟩ k))) := Lib.hid (fun w' HI => by have := HCY.out k hlt w' HI; unfold cycP; rw [HN.out]; exact this)
        obtain ⟨e0, e1, e2, e3, hgw⟩ := hb.all.1
        rcases Bool.eq_false_or_eq_true (cycP ⟨s, cs, fs, d⟩ k) with hq | hq
        · have HX := Lib.hid (show (ks ++ [k]) ++ selF P n (k + 1) = K from by rw [← HP.out, selF_yes hlt (HPk.out.trans hq)]; simp)
          rw [hq] at HCk
          clear hb ho hq
          go_wp2_with (go_at_call 47; refine (HCk.out _ (Lib.hid (HI.out.below HB.out.all.2))).mono ?_; rintro e w2 ⟨rfl, b2⟩; have A2 := Lib.hid (HB.out.on b2); have O2 := Lib.hid (own_low HO.out b2 (Nat.le_refl _)); clear b2; refine Hid.out ?_)
          refine Lib.hid ?_
          have hB2 : w.heap.size + 1 ≤ w2.heap.size := A2.out.all.1.2.2.2.2
          go_wp2_with (at_builtin; refine wpList_append_own _ rfl _ _ 27 rfl (w.heap.size + 1) 3 i0 (.int .i64 0) 1 8 Try.underlying27 hi hz0 hz1 hz2 rfl (by decide) _ _ _ rfl (World.ownsRow.alloc O2.out _) ⟨w2.heap.size, 0, none⟩ 1 1 [.int .i64 (k : Int)] rfl rfl (by have := one_int w2 (.int .i64 (k : Int)) 3; simpa using this) (by intro u hu; simp at hu; subst hu; rfl) (by unfold maxLen; omega) (by omega) (by simp; omega) ?_; intro v' wA hown1 hgrow1 _; have F := Lib.hid (own_snoc rfl ((Below.refl (w.heap.size + 1) w2).alloc hB2 (.cells #[.int .i64 (k : Int)] 3)) hown1 (by simp; omega) hgrow1 (fun g h => (World.ownsRow.lt O2.out g h).1)); clear hown1 hgrow1)
          go_roundw
          case rel => exact ⟨k + 1, ks ++ [k], by omega, by simp; omega, by go_num, A2.out.up F.out.2, F.out.1, HX⟩
          case measure => simp [intOf]; omega
        · have HX := Lib.hid (show ks ++ selF P n (k + 1) = K from by rw [← HP.out, selF_no hlt (HPk.out.trans hq)])
          rw [hq] at HCk
          clear hb ho hq
          go_wp2_with (go_at_call 47; refine (HCk.out _ (Lib.hid (HI.out.below HB.out.all.2))).mono ?_; rintro e w2 ⟨rfl, b2⟩; have A2 := Lib.hid (HB.out.on b2); have O2 := Lib.hid (own_low HO.out b2 (Nat.le_refl _)); clear b2; refine Hid.out ?_)
          refine Lib.hid ?_
          have hB2 : w.heap.size + 1 ≤ w2.heap.size := A2.out.all.1.2.2.2.2
          go_wp2_with fail
          go_roundw
          case rel => exact ⟨k + 1, ks, by omega, by omega, by go_num, A2.out, O2.out, HX⟩
          case measure => simp [intOf]; omega
      · have HX : Hid (ks = K) := Lib.hid (by rw [← HP.out, selF_end _ (by omega), List.append_nil])
        clear hb ho
        go_wp2_with fail
        go_ret2
        exact ⟨_, rfl, by rw [← HX.out]; exact own_base HO.out (Nat.le_succ _), HB.out.all.2⟩
set_option maxHeartbeats 6400000 in
theorem specDeepClasses_any (v : Value) (c : Cfg) (w : World) (HV : Hid (CfgV w v c)) (HM : Hid (CfgM c)) :
    Calls Try.prog 21 #[v] w (SaysVS w (selC deepQ c) (rawC c)) := by
  obtain ⟨ac, cc, af, cf, rfl, ic, if_⟩ := HV.out
  obtain ⟨s, cs, fs, d⟩ := c
  have hM := HM.out
  unfold CfgM at hM
  simp only at ic if_ hM HV ⊢
  obtain ⟨q0, q1, q2⟩ := hM
  have HI := Lib.hid ic
  have HJ := Lib.hid if_
  have HVB := Lib.hid (fun w' (b : Below w.heap.size w w') => Lib.hid (HV.out.below b))
  have A0 := Lib.hid (Aft.refl w (Obj.cells #[.string s, .slice ac cs.length cc, .slice af fs.length cf, .int .i64 d] 33))
  clear ic if_
  have HAS := Lib.hid (fun w' (b : Below w.heap.size w w') => vaAsked_any (.agg #[.string s, .slice ac cs.length cc, .slice af fs.length cf, .int .i64 d]) ⟨s, cs, fs, d⟩ w' (HVB.out w' b) HM)
  cases hh : rawC ⟨s, cs, fs, d⟩
  · rw [selC_bad hh]
    rw [hh] at HAS
    clear hh
    go_enter Try.func21, Try.ntmps21
    go_wp2_with (go_at_call 34; refine (HAS.out _ A0.out.all.2).mono ?_; rintro e w1 ⟨rfl, b1⟩; have A1 := Lib.hid (A0.out.on b1); clear b1)
    go_ret2
    exact ⟨_, rfl, World.ownsRow_nil _ _ _ _, A1.out.all.2⟩
  · obtain ⟨h40, hf40⟩ := raw_of hh
    rw [selC_ok hh]
    rw [hh] at HAS
    simp only at h40 hf40 ⊢
    obtain ⟨i0, hi, hz0, hz1, hz2⟩ := info_parts infoI
    have HCY := Lib.hid (fun k (hk : k < cs.length) w' HI => vaWay_any s ac af cs.length cc fs.length cf d cs k w' HI (Lib.hid rfl) q1 hk)
    obtain ⟨P, hP⟩ : ∃ P, deepQ ⟨s, cs, fs, d⟩ = P := ⟨_, rfl⟩
    have HPD := Lib.hid (fun k => (congrFun hP k).symm)
    rw [hP]
    obtain ⟨K, hK⟩ : ∃ K, selF P cs.length 0 = K := ⟨_, rfl⟩
    have H0 : Hid ([] ++ selF P cs.length 0 = K) := Lib.hid hK
    rw [hK]
    clear HV HVB
    generalize hn : cs.length = n at *
    generalize hm : fs.length = m at *
    have HN := Lib.hid hn
    have HMf := Lib.hid hm
    clear hP hh hK hn hm
    go_enter Try.func21, Try.ntmps21
    go_wp2_with (go_at_call 34; refine (HAS.out _ A0.out.all.2).mono ?_; rintro e w1 ⟨rfl, b1⟩; have A1 := Lib.hid (A0.out.on b1); obtain ⟨c0, c1, c2, c3, _⟩ := A1.out.all.1; clear b1)
    go_loopw [4, 14] (fun out i wr => VRel w (Obj.cells #[.string s, .slice ac n cc, .slice af m cf, .int .i64 d] 33) n P K out i wr) (fun _ i _ => n - (intOf i).toNat)
    case atStart => exact ⟨0, [], Nat.zero_le _, Nat.le_refl _, rfl, A1.out, World.ownsRow_nil _ _ _ _, H0⟩
    case round =>
      obtain ⟨k, ks, hk, hkl, rfl, hb, ho, HP⟩ := hrel
      have HB := Lib.hid hb
      have HO := Lib.hid ho
      obtain ⟨ad, cO, rfl, _⟩ := own_in ho
      have hB0 : w.heap.size + 1 ≤ wr.heap.size := hb.all.1.2.2.2.2
      clear c0 c1 c2 c3
      by_cases hlt : k < n
      · have hl1 : k < cs.length := by rw [HN.out]; exact hlt
        have HPk := Lib.hid (HPD.out k)
        have HCk := Lib.hid (fun w' HI => HCY.out k hlt w' HI)
        have HLk := Lib.hid (fun w' => l1In_any (vwN cs n 1 k) 1 8 w')
        have HLv : Hid (inB (vwN cs n 1 k) 1 8 = !deepQ ⟨s, cs, fs, d⟩ k) := Lib.hid (by unfold deepQ; rw [HN.out]; simp)
        rw [HLv.out] at HLk
        generalize vwN cs n 1 k = vn at HCk HLk
        generalize vwL cs n k = vl at HCk
        obtain ⟨e0, e1, e2, e3, hgw⟩ := hb.all.1
        rcases Bool.eq_false_or_eq_true (deepQ ⟨s, cs, fs, d⟩ k) with hq | hq
        · have HX := Lib.hid (show (ks ++ [k]) ++ selF P n (k + 1) = K from by rw [← HP.out, selF_yes hlt (HPk.out.trans hq)]; simp)
          rw [hq] at HLk
          clear hb ho hq
          go_wp2_with (go_at_call 50; refine (HCk.out _ (Lib.hid (HI.out.below HB.out.all.2))).mono ?_; rintro e w2 ⟨rfl, b2⟩; have A2 := Lib.hid (HB.out.on b2); have O2 := Lib.hid (own_low HO.out b2 (Nat.le_refl _)); clear b2; refine Hid.out ?_)
          refine Lib.hid ?_
          go_wp2_with (go_at_call 51; refine (HLk.out _).mono ?_; rintro e w9 ⟨rfl, rfl⟩; refine Hid.out ?_)
          refine Lib.hid ?_
          have hB2 : w.heap.size + 1 ≤ w2.heap.size := A2.out.all.1.2.2.2.2
          go_wp2_with (at_builtin; refine wpList_append_own _ rfl _ _ 27 rfl (w.heap.size + 1) 3 i0 (.int .i64 0) 1 8 Try.underlying27 hi hz0 hz1 hz2 rfl (by decide) _ _ _ rfl (World.ownsRow.alloc O2.out _) ⟨w2.heap.size, 0, none⟩ 1 1 [.int .i64 (k : Int)] rfl rfl (by have := one_int w2 (.int .i64 (k : Int)) 3; simpa using this) (by intro u hu; simp at hu; subst hu; rfl) (by unfold maxLen; omega) (by omega) (by simp; omega) ?_; intro v' wA hown1 hgrow1 _; have F := Lib.hid (own_snoc rfl ((Below.refl (w.heap.size + 1) w2).alloc hB2 (.cells #[.int .i64 (k : Int)] 3)) hown1 (by simp; omega) hgrow1 (fun g h => (World.ownsRow.lt O2.out g h).1)); clear hown1 hgrow1)
          go_roundw
          case rel => exact ⟨k + 1, ks ++ [k], by omega, by simp; omega, by go_num, A2.out.up F.out.2, F.out.1, HX⟩
          case measure => simp [intOf]; omega
        · have HX := Lib.hid (show ks ++ selF P n (k + 1) = K from by rw [← HP.out, selF_no hlt (HPk.out.trans hq)])
          rw [hq] at HLk
          clear hb ho hq
          go_wp2_with (go_at_call 50; refine (HCk.out _ (Lib.hid (HI.out.below HB.out.all.2))).mono ?_; rintro e w2 ⟨rfl, b2⟩; have A2 := Lib.hid (HB.out.on b2); have O2 := Lib.hid (own_low HO.out b2 (Nat.le_refl _)); clear b2; refine Hid.out ?_)
          refine Lib.hid ?_
          go_wp2_with (go_at_call 51; refine (HLk.out _).mono ?_; rintro e w9 ⟨rfl, rfl⟩; refine Hid.out ?_)
          refine Lib.hid ?_
          have hB2 : w.heap.size + 1 ≤ w2.heap.size := A2.out.all.1.2.2.2.2
          go_wp2_with fail
          go_roundw
          case rel => exact ⟨k + 1, ks, by omega, by omega, by go_num, A2.out, O2.out, HX⟩
          case measure => simp [intOf]; omega
      · have HX : Hid (ks = K) := Lib.hid (by rw [← HP.out, selF_end _ (by omega), List.append_nil])
        clear hb ho
        go_wp2_with fail
        go_ret2
        exact ⟨_, rfl, by rw [← HX.out]; exact own_base HO.out (Nat.le_succ _), HB.out.all.2⟩
set_option maxHeartbeats 6400000 in
theorem specBadTargets_any (v : Value) (c : Cfg) (w : World) (HV : Hid (CfgV w v c)) (HM : Hid (CfgM c)) :
    Calls Try.prog 25 #[v] w (SaysVS w (selT tgtP c) (rawC c)) := by
  obtain ⟨ac, cc, af, cf, rfl, ic, if_⟩ := HV.out
  obtain ⟨s, cs, fs, d⟩ := c
  have hM := HM.out
  unfold CfgM at hM
  simp only at ic if_ hM HV ⊢
  obtain ⟨q0, q1, q2⟩ := hM
  have HI := Lib.hid ic
  have HJ := Lib.hid if_
  have HVB := Lib.hid (fun w' (b : Below w.heap.size w w') => Lib.hid (HV.out.below b))
  have A0 := Lib.hid (Aft.refl w (Obj.cells #[.string s, .slice ac cs.length cc, .slice af fs.length cf, .int .i64 d] 33))
  clear ic if_
  have HAS := Lib.hid (fun w' (b : Below w.heap.size w w') => vaAsked_any (.agg #[.string s, .slice ac cs.length cc, .slice af fs.length cf, .int .i64 d]) ⟨s, cs, fs, d⟩ w' (HVB.out w' b) HM)
  cases hh : rawC ⟨s, cs, fs, d⟩
  · rw [selT_bad hh]
    rw [hh] at HAS
    clear hh
    go_enter Try.func25, Try.ntmps25
    go_wp2_with (go_at_call 34; refine (HAS.out _ A0.out.all.2).mono ?_; rintro e w1 ⟨rfl, b1⟩; have A1 := Lib.hid (A0.out.on b1); clear b1)
    go_ret2
    exact ⟨_, rfl, World.ownsRow_nil _ _ _ _, A1.out.all.2⟩
  · obtain ⟨h40, hf40⟩ := raw_of hh
    rw [selT_ok hh]
    rw [hh] at HAS
    simp only at h40 hf40 ⊢
    obtain ⟨i0, hi, hz0, hz1, hz2⟩ := info_parts infoI
    have HCY := Lib.hid (fun id w' HI => cfTarget_any s ac af cs.length cc fs.length cf d cs id w' HI (Lib.hid rfl) q1)
    obtain ⟨P, hP⟩ : ∃ P, tgtP ⟨s, cs, fs, d⟩ = P := ⟨_, rfl⟩
    have HPD := Lib.hid (fun k => (congrFun hP k).symm)
    rw [hP]
    obtain ⟨K, hK⟩ : ∃ K, selF P fs.length 0 = K := ⟨_, rfl⟩
    have H0 : Hid ([] ++ selF P fs.length 0 = K) := Lib.hid hK
    rw [hK]
    clear HV HVB
    generalize hn : cs.length = n at *
    generalize hm : fs.length = m at *
    have HN := Lib.hid hn
    have HMf := Lib.hid hm
    clear hP hh hK hn hm
    go_enter Try.func25, Try.ntmps25
    go_wp2_with (go_at_call 34; refine (HAS.out _ A0.out.all.2).mono ?_; rintro e w1 ⟨rfl, b1⟩; have A1 := Lib.hid (A0.out.on b1); obtain ⟨c0, c1, c2, c3, _⟩ := A1.out.all.1; clear b1)
    go_loopw [4, 13] (fun out i wr => VRel w (Obj.cells #[.string s, .slice ac n cc, .slice af m cf, .int .i64 d] 33) m P K out i wr) (fun _ i _ => m - (intOf i).toNat)
    case atStart => exact ⟨0, [], Nat.zero_le _, Nat.le_refl _, rfl, A1.out, World.ownsRow_nil _ _ _ _, H0⟩
    case round =>
      obtain ⟨k, ks, hk, hkl, rfl, hb, ho, HP⟩ := hrel
      have HB := Lib.hid hb
      have HO := Lib.hid ho
      obtain ⟨ad, cO, rfl, _⟩ := own_in ho
      have hB0 : w.heap.size + 1 ≤ wr.heap.size := hb.all.1.2.2.2.2
      clear c0 c1 c2 c3
      by_cases hlt : k < m
      · have hl1 : k < fs.length := by rw [HMf.out]; exact hlt
        have HPk := Lib.hid (HPD.out k)
        obtain ⟨x, hx⟩ : ∃ x, fs.getD k flt0 = x := ⟨_, rfl⟩
        obtain ⟨g, rfl, ht, hg⟩ := HJ.out (by omega)
        obtain ⟨a0, a1, a2, a3, a4⟩ := (ht.below hb.all.2 hg).flt k hl1 x hx
        have HLk := Lib.hid (fun w' HI => HCY.out x.t w' HI)
        have HTP : Hid (leafB cs x.t = !tgtP ⟨s, cs, fs, d⟩ k) := Lib.hid (by unfold tgtP; simp only; rw [hx]; simp)
        rw [HTP.out] at HLk
        have HB5 := Lib.hid (HB.out.alloc (Obj.cells #[.int .i64 x.o, .int .i64 x.f, .int .i64 x.m, .int .i64 x.v, .int .i64 x.t] 65))
        have HO5 := Lib.hid (World.ownsRow.alloc HO.out (Obj.cells #[.int .i64 x.o, .int .i64 x.f, .int .i64 x.m, .int .i64 x.v, .int .i64 x.t] 65))
        obtain ⟨f0, f1, f2, f3, _⟩ := HB5.out.all.1
        generalize tgtP ⟨s, cs, fs, d⟩ k = tq at *
        obtain ⟨xo, xf, xm, xv, xt⟩ := x
        simp only at a0 a1 a2 a3 a4 HLk HB5 HO5 f0 f1 f2 f3
        clear hx ht
        obtain ⟨e0, e1, e2, e3, hgw⟩ := hb.all.1
        rcases Bool.eq_false_or_eq_true (tq) with hq | hq
        · have HX := Lib.hid (show (ks ++ [k]) ++ selF P m (k + 1) = K from by rw [← HP.out, selF_yes hlt (HPk.out.trans hq)]; simp)
          rw [hq] at HLk
          clear hb ho hq
          go_wp2_with (go_at_call 59; refine (HLk.out _ (Lib.hid (HI.out.below HB5.out.all.2))).mono ?_; rintro e w2 ⟨rfl, b2⟩; have A2 := Lib.hid (HB5.out.on b2); have O2 := Lib.hid (own_low HO5.out b2 (Nat.le_refl _)); clear b2; refine Hid.out ?_)
          refine Lib.hid ?_
          have hB2 : w.heap.size + 1 ≤ w2.heap.size := A2.out.all.1.2.2.2.2
          go_wp2_with (at_builtin; refine wpList_append_own _ rfl _ _ 27 rfl (w.heap.size + 1) 3 i0 (.int .i64 0) 1 8 Try.underlying27 hi hz0 hz1 hz2 rfl (by decide) _ _ _ rfl (World.ownsRow.alloc O2.out _) ⟨w2.heap.size, 0, none⟩ 1 1 [.int .i64 (k : Int)] rfl rfl (by have := one_int w2 (.int .i64 (k : Int)) 3; simpa using this) (by intro u hu; simp at hu; subst hu; rfl) (by unfold maxLen; omega) (by omega) (by simp; omega) ?_; intro v' wA hown1 hgrow1 _; have F := Lib.hid (own_snoc rfl ((Below.refl (w.heap.size + 1) w2).alloc hB2 (.cells #[.int .i64 (k : Int)] 3)) hown1 (by simp; omega) hgrow1 (fun g h => (World.ownsRow.lt O2.out g h).1)); clear hown1 hgrow1)
          go_roundw
          case rel => exact ⟨k + 1, ks ++ [k], by omega, by simp; omega, by go_num, A2.out.up F.out.2, F.out.1, HX⟩
          case measure => simp [intOf]; omega
        · have HX := Lib.hid (show ks ++ selF P m (k + 1) = K from by rw [← HP.out, selF_no hlt (HPk.out.trans hq)])
          rw [hq] at HLk
          clear hb ho hq
          go_wp2_with (go_at_call 59; refine (HLk.out _ (Lib.hid (HI.out.below HB5.out.all.2))).mono ?_; rintro e w2 ⟨rfl, b2⟩; have A2 := Lib.hid (HB5.out.on b2); have O2 := Lib.hid (own_low HO5.out b2 (Nat.le_refl _)); clear b2; refine Hid.out ?_)
          refine Lib.hid ?_
          have hB2 : w.heap.size + 1 ≤ w2.heap.size := A2.out.all.1.2.2.2.2
          go_wp2_with fail
          go_roundw
          case rel => exact ⟨k + 1, ks, by omega, by omega, by go_num, A2.out, O2.out, HX⟩
          case measure => simp [intOf]; omega
      · have HX : Hid (ks = K) := Lib.hid (by rw [← HP.out, selF_end _ (by omega), List.append_nil])
        clear hb ho
        go_wp2_with fail
        go_ret2
        exact ⟨_, rfl, by rw [← HX.out]; exact own_base HO.out (Nat.le_succ _), HB.out.all.2⟩
set_option maxHeartbeats 6400000 in
theorem specBadParents_any (v : Value) (c : Cfg) (w : World) (HV : Hid (CfgV w v c)) (HM : Hid (CfgM c)) :
    Calls Try.prog 11 #[v] w (SaysVS w (selC badP c) (rawC c)) := by
  obtain ⟨ac, cc, af, cf, rfl, ic, if_⟩ := HV.out
  obtain ⟨s, cs, fs, d⟩ := c
  have hM := HM.out
  unfold CfgM at hM
  simp only at ic if_ hM HV ⊢
  obtain ⟨q0, q1, q2⟩ := hM
  have HI := Lib.hid ic
  have HJ := Lib.hid if_
  have HVB := Lib.hid (fun w' (b : Below w.heap.size w w') => Lib.hid (HV.out.below b))
  have A0 := Lib.hid (Aft.refl w (Obj.cells #[.string s, .slice ac cs.length cc, .slice af fs.length cf, .int .i64 d] 33))
  clear ic if_
  have HAS := Lib.hid (fun w' (b : Below w.heap.size w w') => vaAsked_any (.agg #[.string s, .slice ac cs.length cc, .slice af fs.length cf, .int .i64 d]) ⟨s, cs, fs, d⟩ w' (HVB.out w' b) HM)
  cases hh : rawC ⟨s, cs, fs, d⟩
  · rw [selC_bad hh]
    rw [hh] at HAS
    clear hh
    go_enter Try.func11, Try.ntmps11
    go_wp2_with (go_at_call 34; refine (HAS.out _ A0.out.all.2).mono ?_; rintro e w1 ⟨rfl, b1⟩; have A1 := Lib.hid (A0.out.on b1); clear b1)
    go_ret2
    exact ⟨_, rfl, World.ownsRow_nil _ _ _ _, A1.out.all.2⟩
  · obtain ⟨h40, hf40⟩ := raw_of hh
    rw [selC_ok hh]
    rw [hh] at HAS
    simp only at h40 hf40 ⊢
    obtain ⟨i0, hi, hz0, hz1, hz2⟩ := info_parts infoI
    have HCY := Lib.hid (fun id w' HI => cfFind_any s ac af cs.length cc fs.length cf d cs id w' HI (Lib.hid rfl) q1)
    obtain ⟨P, hP⟩ : ∃ P, badP ⟨s, cs, fs, d⟩ = P := ⟨_, rfl⟩
    have HPD := Lib.hid (fun k => (congrFun hP k).symm)
    rw [hP]
    obtain ⟨K, hK⟩ : ∃ K, selF P cs.length 0 = K := ⟨_, rfl⟩
    have H0 : Hid ([] ++ selF P cs.length 0 = K) := Lib.hid hK
    rw [hK]
    clear HV HVB
    generalize hn : cs.length = n at *
    generalize hm : fs.length = m at *
    have HN := Lib.hid hn
    have HMf := Lib.hid hm
    clear hP hh hK hn hm
    go_enter Try.func11, Try.ntmps11
    go_wp2_with (go_at_call 34; refine (HAS.out _ A0.out.all.2).mono ?_; rintro e w1 ⟨rfl, b1⟩; have A1 := Lib.hid (A0.out.on b1); obtain ⟨c0, c1, c2, c3, _⟩ := A1.out.all.1; clear b1)
    go_loopw [4, 13] (fun out i wr => VRel w (Obj.cells #[.string s, .slice ac n cc, .slice af m cf, .int .i64 d] 33) n P K out i wr) (fun _ i _ => n - (intOf i).toNat)
    case atStart => exact ⟨0, [], Nat.zero_le _, Nat.le_refl _, rfl, A1.out, World.ownsRow_nil _ _ _ _, H0⟩
    case round =>
      obtain ⟨k, ks, hk, hkl, rfl, hb, ho, HP⟩ := hrel
      have HB := Lib.hid hb
      have HO := Lib.hid ho
      obtain ⟨ad, cO, rfl, _⟩ := own_in ho
      have hB0 : w.heap.size + 1 ≤ wr.heap.size := hb.all.1.2.2.2.2
      clear c0 c1 c2 c3
      by_cases hlt : k < n
      · have hl1 : k < cs.length := by rw [HN.out]; exact hlt
        have HPk := Lib.hid (HPD.out k)
        obtain ⟨x, hx⟩ : ∃ x, cs.getD k cls0 = x := ⟨_, rfl⟩
        have HGI := HI.out
        obtain ⟨g, rfl, ht, hg⟩ := HGI (by omega)
        obtain ⟨a0, a1, a2, a3, a4, a5, a6, a7⟩ := (ht.below hb.all.2 hg).cls k hl1 x hx
        have HFx := Lib.hid (fun w' HI => HCY.out x.p w' HI)
        have HB5 := Lib.hid (HB.out.alloc (Obj.cells #[.int .i64 x.i, .int .i64 x.p, .int .i64 x.r, .int .i64 x.e, .int .i64 x.b, .int .i64 x.u, .int .i64 x.o, .int .i64 x.l] 47))
        have HO5 := Lib.hid (World.ownsRow.alloc HO.out (Obj.cells #[.int .i64 x.i, .int .i64 x.p, .int .i64 x.r, .int .i64 x.e, .int .i64 x.b, .int .i64 x.u, .int .i64 x.o, .int .i64 x.l] 47))
        obtain ⟨f0, f1, f2, f3, _⟩ := HB5.out.all.1
        have HTP : Hid (badP ⟨s, cs, fs, d⟩ k = ((x.p != 0) && (fnd cs x.p).isNone)) := Lib.hid (by unfold badP; simp only; rw [hx])
        clear hx ht
        by_cases hz : x.p = 0
        · have hq : badP ⟨s, cs, fs, d⟩ k = false := by rw [HTP.out, hz]; rfl
          have HX : Hid (ks ++ selF P n (k + 1) = K) := Lib.hid (by rw [← HP.out, selF_no hlt (by rw [HPD.out]; exact hq)])
          have dz : (x.p != 0) = false := by rw [hz]; rfl
          obtain ⟨xi, xp, xr, xe, xb, xu, xo, xl⟩ := x
          simp only at a0 a1 a2 a3 a4 a5 a6 a7 HB5 HO5 f0 f1 f2 f3 dz
          clear hb ho hq hz
          go_wp2_with fail
          go_roundw
          case rel => exact ⟨k + 1, ks, by omega, by omega, by go_num, HB5.out, HO5.out, HX⟩
          case measure => simp [intOf]; omega
        have dz : (x.p != 0) = true := by simpa using hz
        cases hf : fnd cs x.p with
        | none =>
          have hq : badP ⟨s, cs, fs, d⟩ k = true := by rw [HTP.out, dz, hf]; rfl
          have HX : Hid ((ks ++ [k]) ++ selF P n (k + 1) = K) := Lib.hid (by rw [← HP.out, selF_yes hlt (by rw [HPD.out]; exact hq)]; simp)
          rw [fndI_none hf] at HFx
          obtain ⟨xi, xp, xr, xe, xb, xu, xo, xl⟩ := x
          simp only at a0 a1 a2 a3 a4 a5 a6 a7 HB5 HO5 f0 f1 f2 f3 dz HFx
          clear hb ho hq hz hf HTP
          go_wp2_with (go_at_call 35; refine (HFx.out _ (Lib.hid (HI.out.below HB5.out.all.2))).mono ?_; rintro e w2 ⟨rfl, b2⟩; have A2 := Lib.hid (HB5.out.on b2); have O2 := Lib.hid (own_low HO5.out b2 (Nat.le_refl _)); clear b2; refine Hid.out ?_)
          refine Lib.hid ?_
          have hB2 : w.heap.size + 1 ≤ w2.heap.size := A2.out.all.1.2.2.2.2
          go_wp2_with (at_builtin; refine wpList_append_own _ rfl _ _ 27 rfl (w.heap.size + 1) 3 i0 (.int .i64 0) 1 8 Try.underlying27 hi hz0 hz1 hz2 rfl (by decide) _ _ _ rfl (World.ownsRow.alloc O2.out _) ⟨w2.heap.size, 0, none⟩ 1 1 [.int .i64 (k : Int)] rfl rfl (by have := one_int w2 (.int .i64 (k : Int)) 3; simpa using this) (by intro u hu; simp at hu; subst hu; rfl) (by unfold maxLen; omega) (by omega) (by simp; omega) ?_; intro v' wA hown1 hgrow1 _; have F := Lib.hid (own_snoc rfl ((Below.refl (w.heap.size + 1) w2).alloc hB2 (.cells #[.int .i64 (k : Int)] 3)) hown1 (by simp; omega) hgrow1 (fun g h => (World.ownsRow.lt O2.out g h).1)); clear hown1 hgrow1)
          go_roundw
          case rel => exact ⟨k + 1, ks ++ [k], by omega, by simp; omega, by go_num, A2.out.up F.out.2, F.out.1, HX⟩
          case measure => simp [intOf]; omega
        | some j =>
          have hq : badP ⟨s, cs, fs, d⟩ k = false := by rw [HTP.out, hf]; simp
          have HX : Hid (ks ++ selF P n (k + 1) = K) := Lib.hid (by rw [← HP.out, selF_no hlt (by rw [HPD.out]; exact hq)])
          rw [fndI_some hf] at HFx
          have dj := not_lt (show (0 : Int) ≤ (j : Int) by omega)
          obtain ⟨xi, xp, xr, xe, xb, xu, xo, xl⟩ := x
          simp only at a0 a1 a2 a3 a4 a5 a6 a7 HB5 HO5 f0 f1 f2 f3 dz HFx
          clear hb ho hq hz hf HTP
          go_wp2_with (go_at_call 35; refine (HFx.out _ (Lib.hid (HI.out.below HB5.out.all.2))).mono ?_; rintro e w2 ⟨rfl, b2⟩; have A2 := Lib.hid (HB5.out.on b2); have O2 := Lib.hid (own_low HO5.out b2 (Nat.le_refl _)); clear b2; refine Hid.out ?_)
          refine Lib.hid ?_
          go_wp2_with fail
          go_roundw
          case rel => exact ⟨k + 1, ks, by omega, by omega, by go_num, A2.out, O2.out, HX⟩
          case measure => simp [intOf]; omega
      · have HX : Hid (ks = K) := Lib.hid (by rw [← HP.out, selF_end _ (by omega), List.append_nil])
        clear hb ho
        go_wp2_with fail
        go_ret2
        exact ⟨_, rfl, by rw [← HX.out]; exact own_base HO.out (Nat.le_succ _), HB.out.all.2⟩
end Go.Proofs.Ytfijhgggljaomaa
