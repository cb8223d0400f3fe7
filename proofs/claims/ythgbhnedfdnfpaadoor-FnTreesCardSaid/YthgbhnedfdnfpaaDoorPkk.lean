import Derived.Test.YthgbhnedfdnfpaaDoorPkj
/- The program's checks: names, classes and filters by themselves, the tree. -/
namespace Go.Proofs.YthgbhnedfdnfpaaDoor
set_option maxRecDepth 100000
open Go.RowKit
set_option linter.unusedVariables false

def OkRel (w : World) (n : Nat) (cs : List Cls) (B : Bool) (a i : Value) (wr : World) : Prop := ∃ (k : Nat) (b : Int), k ≤ n ∧ i = .int .i64 k ∧ a = .int .i64 b ∧ Below w.heap.size w wr ∧ Hid (okL b (cs.drop k) = B)
set_option maxHeartbeats 3200000 in
theorem areClasses_any (ac : Option Addr) (n cc : Nat) (cs : List Cls) (w : World) (HI : Hid (InX w ac n (clsCs cs))) (hn : Hid (cs.length = n)) (hm : n ≤ 1048576) :
    Calls Tryd.prog 45 #[(.slice ac n cc)] w (SaysB w (arG cs)) := by
  obtain ⟨B, hB⟩ : ∃ B, okL 0 cs = B := ⟨_, rfl⟩
  have H0 : Hid (okL 0 (cs.drop 0) = B) := Lib.hid hB
  have HA : Hid (arG cs = ((decide (1 ≤ n) && decide (n ≤ 24)) && B)) := Lib.hid (by unfold arG; rw [hB, hn.out])
  generalize arG cs = R at HA ⊢
  clear hB
  by_cases h1 : n < 1
  · have d1 := is_lt (show (n : Int) < 1 by omega)
    have HX : Hid (R = false) := Lib.hid (by rw [HA.out, decide_eq_false (by omega)]; rfl)
    go_enter Tryd.func45, Tryd.ntmps45
    go_wp2_with fail
    go_ret
    exact ⟨ret_bool HX.out.symm, Below.refl _ _⟩
  have d1 := not_lt (show (1 : Int) ≤ n by omega)
  by_cases h2 : 24 < n
  · have d2 := is_lt (show (24 : Int) < n by omega)
    have HX : Hid (R = false) := Lib.hid (by rw [HA.out, decide_eq_false (show ¬ n ≤ 24 by omega), Bool.and_false]; rfl)
    go_enter Tryd.func45, Tryd.ntmps45
    go_wp2_with fail
    go_ret
    exact ⟨ret_bool HX.out.symm, Below.refl _ _⟩
  have d2 := not_lt (show (n : Int) ≤ 24 by omega)
  have HR : Hid (R = B) := Lib.hid (by rw [HA.out, decide_eq_true (by omega), decide_eq_true (by omega)]; rfl)
  go_enter Tryd.func45, Tryd.ntmps45
  go_wp2_with fail
  go_loopw [3, 16] (fun a i wr => OkRel w n cs B a i wr) (fun _ i _ => n - (intOf i).toNat)
  case atStart => exact ⟨0, 0, Nat.zero_le _, rfl, rfl, Below.refl _ _, H0⟩
  case round =>
    obtain ⟨k, b, hk, rfl, rfl, hb, HP⟩ := hrel
    have HB := Lib.hid hb
    by_cases hlt : k < n
    · obtain ⟨g, rfl, ht, hg⟩ := HI.out (by omega)
      obtain ⟨x, hx⟩ : ∃ x, cs.getD k cls0 = x := ⟨_, rfl⟩
      have hl1 : k < cs.length := by rw [hn.out]; exact hlt
      obtain ⟨a0, a1, a2, a3, a4, a5, a6, a7⟩ := (ht.below hb hg).cls k hl1 x hx
      have HE := Lib.hid (okL_at b cs k hl1 x hx)
      have HS := Lib.hid (fun w => hasRates_any x w)
      have BA := Lib.hid (hb.trans ((one_new2 wr (Obj.cells #[.int .i64 x.i, .int .i64 x.p, .int .i64 x.r, .int .i64 x.e, .int .i64 x.b, .int .i64 x.u, .int .i64 x.o, .int .i64 x.l] 43)).mono hb.size))
      clear hb hx hl1 ht
      by_cases q1 : x.i ≤ b
      · have e1 := is_le q1
        have HX : Hid (R = false) := Lib.hid (by rw [HR.out, ← HP.out, HE.out, not_lt q1]; rfl)
        obtain ⟨xi, xp, xr, xe, xb, xu, xo, xl⟩ := x
        simp only at a0 a1 a2 a3 a4 a5 a6 a7 e1 BA
        clear HS q1
        go_wp2_with fail
        go_ret
        exact ⟨ret_bool HX.out.symm, BA.out⟩
      have e1 := not_le (show b < x.i by omega)
      by_cases q2 : 999 < x.i
      · have e2 := is_lt q2
        have HX : Hid (R = false) := Lib.hid (by rw [HR.out, ← HP.out, HE.out, not_le q2, Bool.false_and, Bool.and_false]; rfl)
        obtain ⟨xi, xp, xr, xe, xb, xu, xo, xl⟩ := x
        simp only at a0 a1 a2 a3 a4 a5 a6 a7 e1 e2 BA
        clear HS q1 q2
        go_wp2_with fail
        go_ret
        exact ⟨ret_bool HX.out.symm, BA.out⟩
      have e2 := not_lt (show x.i ≤ 999 by omega)
      have HY : Hid (B = (rateOk x && okL x.i (cs.drop (k + 1)))) := Lib.hid (by rw [← HP.out, HE.out, is_lt (show b < x.i by omega), is_le (show x.i ≤ 999 by omega)]; rfl)
      rcases Bool.eq_false_or_eq_true (rateOk x) with q3 | q3
      · have HX := Lib.hid (show okL x.i (cs.drop (k + 1)) = B by rw [HY.out, q3, Bool.true_and])
        rw [q3] at HS
        obtain ⟨xi, xp, xr, xe, xb, xu, xo, xl⟩ := x
        unfold clsV at HS
        simp only at a0 a1 a2 a3 a4 a5 a6 a7 e1 e2 BA HS HX
        clear q1 q2 q3 HY HE
        go_wp2_with (go_at_call 64; refine (HS.out _).mono ?_; rintro e w1 ⟨rfl, b1⟩; have B1 := Lib.hid (BA.out.trans (b1.mono BA.out.size)); obtain ⟨f0, f1, f2, f3, f4, f5, f6, f7⟩ := (box_eight b1).1; clear b1)
        go_roundw
        case rel => exact ⟨k + 1, xi, by omega, by go_num, rfl, B1.out, HX⟩
        case measure => simp [intOf]; omega
      · have HX : Hid (R = false) := Lib.hid (by rw [HR.out, HY.out, q3, Bool.false_and])
        rw [q3] at HS
        obtain ⟨xi, xp, xr, xe, xb, xu, xo, xl⟩ := x
        unfold clsV at HS
        simp only at a0 a1 a2 a3 a4 a5 a6 a7 e1 e2 BA HS
        clear q1 q2 q3 HY HE
        go_wp2_with (go_at_call 64; refine (HS.out _).mono ?_; rintro e w1 ⟨rfl, b1⟩; have B1 := Lib.hid (BA.out.trans (b1.mono BA.out.size)); clear b1)
        go_ret
        exact ⟨ret_bool HX.out.symm, B1.out⟩
    · have HX : Hid (true = R) := Lib.hid (by rw [HR.out, ← HP.out, okL_end _ cs k (by rw [hn.out]; omega)])
      clear hb
      go_wp2_with fail
      go_ret
      exact ⟨ret_bool HX.out, HB.out⟩
def OkfRel (w : World) (m : Nat) (fs : List Flt) (B : Bool) (a i : Value) (wr : World) : Prop := ∃ (k : Nat) (b : Int), k ≤ m ∧ i = .int .i64 k ∧ a = .int .i64 b ∧ Below w.heap.size w wr ∧ Hid (okF b (fs.drop k) = B)
set_option maxHeartbeats 3200000 in
theorem areFilters_any (af : Option Addr) (m cf : Nat) (fs : List Flt) (w : World) (HJ : Hid (InX w af m (fltCs fs))) (hf : Hid (fs.length = m)) (hmf : m ≤ 1048576) :
    Calls Tryd.prog 49 #[(.slice af m cf)] w (SaysB w (afG fs)) := by
  obtain ⟨B, hB⟩ : ∃ B, okF 0 fs = B := ⟨_, rfl⟩
  have H0 : Hid (okF 0 (fs.drop 0) = B) := Lib.hid hB
  have HA : Hid (afG fs = (decide (m ≤ 16) && B)) := Lib.hid (by unfold afG; rw [hB, hf.out])
  generalize afG fs = R at HA ⊢
  clear hB
  by_cases h2 : 16 < m
  · have d2 := is_lt (show (16 : Int) < m by omega)
    have HX : Hid (R = false) := Lib.hid (by rw [HA.out, decide_eq_false (show ¬ m ≤ 16 by omega)]; rfl)
    go_enter Tryd.func49, Tryd.ntmps49
    go_wp2_with fail
    go_ret
    exact ⟨ret_bool HX.out.symm, Below.refl _ _⟩
  have d2 := not_lt (show (m : Int) ≤ 16 by omega)
  have HR : Hid (R = B) := Lib.hid (by rw [HA.out, decide_eq_true (by omega)]; rfl)
  go_enter Tryd.func49, Tryd.ntmps49
  go_wp2_with fail
  go_loopw [3, 11] (fun a i wr => OkfRel w m fs B a i wr) (fun _ i _ => m - (intOf i).toNat)
  case atStart => exact ⟨0, 0, Nat.zero_le _, rfl, rfl, Below.refl _ _, H0⟩
  case round =>
    obtain ⟨k, b, hk, rfl, rfl, hb, HP⟩ := hrel
    have HB := Lib.hid hb
    by_cases hlt : k < m
    · obtain ⟨g, rfl, ht, hg⟩ := HJ.out (by omega)
      obtain ⟨x, hx⟩ : ∃ x, fs.getD k flt0 = x := ⟨_, rfl⟩
      have hl1 : k < fs.length := by rw [hf.out]; exact hlt
      obtain ⟨a0, a1, a2, a3, a4⟩ := (ht.below hb hg).flt k hl1 x hx
      have HE := Lib.hid (okF_at b fs k hl1 x hx)
      have HS := Lib.hid (fun w => isPattern_any x w)
      have BA := Lib.hid (hb.trans ((one_new2 wr (Obj.cells #[.int .i64 x.o, .int .i64 x.f, .int .i64 x.m, .int .i64 x.v, .int .i64 x.t] 77)).mono hb.size))
      clear hb hx hl1 ht
      by_cases q1 : x.o ≤ b
      · have e1 := is_le q1
        have HX : Hid (R = false) := Lib.hid (by rw [HR.out, ← HP.out, HE.out, not_lt q1]; rfl)
        obtain ⟨xo, xf, xm, xv, xt⟩ := x
        simp only at a0 a1 a2 a3 a4 e1 BA
        clear HS q1
        go_wp2_with fail
        go_ret
        exact ⟨ret_bool HX.out.symm, BA.out⟩
      have e1 := not_le (show b < x.o by omega)
      by_cases q2 : 99 < x.o
      · have e2 := is_lt q2
        have HX : Hid (R = false) := Lib.hid (by rw [HR.out, ← HP.out, HE.out, not_le q2, Bool.false_and, Bool.and_false]; rfl)
        obtain ⟨xo, xf, xm, xv, xt⟩ := x
        simp only at a0 a1 a2 a3 a4 e1 e2 BA
        clear HS q1 q2
        go_wp2_with fail
        go_ret
        exact ⟨ret_bool HX.out.symm, BA.out⟩
      have e2 := not_lt (show x.o ≤ 99 by omega)
      have HY : Hid (B = (patOk x && okF x.o (fs.drop (k + 1)))) := Lib.hid (by rw [← HP.out, HE.out, is_lt (show b < x.o by omega), is_le (show x.o ≤ 99 by omega)]; rfl)
      rcases Bool.eq_false_or_eq_true (patOk x) with q3 | q3
      · have HX := Lib.hid (show okF x.o (fs.drop (k + 1)) = B by rw [HY.out, q3, Bool.true_and])
        rw [q3] at HS
        obtain ⟨xo, xf, xm, xv, xt⟩ := x
        unfold fltV at HS
        simp only at a0 a1 a2 a3 a4 e1 e2 BA HS HX
        clear q1 q2 q3 HY HE
        go_wp2_with (go_at_call 67; refine (HS.out _).mono ?_; rintro e w1 ⟨rfl, b1⟩; have B1 := Lib.hid (BA.out.trans (b1.mono BA.out.size)); obtain ⟨f0, f1, f2, f3, f4⟩ := (box_five b1).1; clear b1)
        go_roundw
        case rel => exact ⟨k + 1, xo, by omega, by go_num, rfl, B1.out, HX⟩
        case measure => simp [intOf]; omega
      · have HX : Hid (R = false) := Lib.hid (by rw [HR.out, HY.out, q3, Bool.false_and])
        rw [q3] at HS
        obtain ⟨xo, xf, xm, xv, xt⟩ := x
        unfold fltV at HS
        simp only at a0 a1 a2 a3 a4 e1 e2 BA HS
        clear q1 q2 q3 HY HE
        go_wp2_with (go_at_call 67; refine (HS.out _).mono ?_; rintro e w1 ⟨rfl, b1⟩; have B1 := Lib.hid (BA.out.trans (b1.mono BA.out.size)); clear b1)
        go_ret
        exact ⟨ret_bool HX.out.symm, B1.out⟩
    · have HX : Hid (true = R) := Lib.hid (by rw [HR.out, ← HP.out, okF_end _ fs k (by rw [hf.out]; omega)])
      clear hb
      go_wp2_with fail
      go_ret
      exact ⟨ret_bool HX.out, HB.out⟩
theorem reach_zero {cs : List Cls} {f : Nat} {x : Cls} (h : x.p = 0) : reach cs f x = true := by
  cases f <;> unfold reach <;> simp [h]
theorem reach_last {cs : List Cls} {x : Cls} : reach cs 0 x = (x.p == 0) := rfl
theorem reach_step {cs : List Cls} {f j : Nat} {x : Cls} (h : x.p ≠ 0) (hj : fnd cs x.p = Option.some j) : reach cs (f + 1) x = reach cs f (cs.getD j cls0) := by
  show ((x.p == 0) || (match fnd cs x.p with | .none => false | .some j => reach cs f (cs.getD j cls0))) = _
  rw [hj, beq_eq_false_iff_ne.2 h, Bool.false_or]
theorem par_some {cs : List Cls} {x : Cls} (h : parOk cs x = true) (hx : x.p ≠ 0) : ∃ j, fnd cs x.p = Option.some j := by
  unfold parOk at h
  rw [beq_eq_false_iff_ne.2 hx, Bool.false_or] at h
  exact Option.isSome_iff_exists.1 h
def ParAll (cs : List Cls) : Prop := ∀ k, k < cs.length → parOk cs (cs.getD k cls0) = true
/-- no cell of a block is marked -/
def FroB (w : World) (g : Nat) : Prop := ∀ o, w.frozen? ⟨g, o, none⟩ = false
theorem FroB.on {w w1 : World} {g : Nat} (h : FroB w g) (b : Below w.heap.size w w1) (hg : g < w.heap.size) : FroB w1 g := fun o => ((bcell b).2 g o hg).trans (h o)
theorem FroB.new (w : World) (a : Array Value) (t : TypeId) : FroB (w.alloc (.cells a t)) w.heap.size := fun o => by simp
theorem FroB.set {w : World} {g : Nat} (h : FroB w g) (p : Addr) (v : Value) : FroB (w.setCell p v) g := fun o => by rw [World.frozen?_setCell]; exact h o
def RchRel (w : World) (cs : List Cls) (R : Bool) (i : Value) (wr : World) : Prop :=
  ∃ (k : Nat) (x : Cls), k ≤ 7 ∧ i = .int .i64 k ∧ parOk cs x = true ∧ EightB wr w.heap.size x ∧ w.heap.size < wr.heap.size ∧ FroB wr w.heap.size ∧ Below w.heap.size w wr ∧ Hid (reach cs (7 - k) x = R)
set_option maxHeartbeats 3200000 in
theorem reachesTop_any (ac : Option Addr) (n cc : Nat) (cs : List Cls) (y : Cls) (w : World) (HI : Hid (InX w ac n (clsCs cs))) (hn : Hid (cs.length = n)) (hm : n ≤ 1048576) (hi : Hid (IncC cs)) (HPA : Hid (ParAll cs)) (hy : parOk cs y = true) :
    Calls Tryd.prog 65 #[(.slice ac n cc), clsV y] w (SaysB w (reach cs 7 y)) := by
  obtain ⟨R, hR⟩ : ∃ R, reach cs 7 y = R := ⟨_, rfl⟩
  have H0 : Hid (reach cs (7 - 0) y = R) := Lib.hid hR
  have HY := Lib.hid hy
  rw [hR]
  clear hR hy
  obtain ⟨yi, yp, yr, ye, yb, yu, yo, yl⟩ := y
  unfold clsV
  simp only
  go_enter Tryd.func65, Tryd.ntmps65
  go_wp2_with fail
  go_loopw [5] (fun i wr => RchRel w cs R i wr) (fun i _ => 7 - (intOf i).toNat)
  case atStart => exact ⟨0, ⟨yi, yp, yr, ye, yb, yu, yo, yl⟩, Nat.zero_le _, rfl, HY.out, (box_eight (Below.refl _ _)).1, by simp, FroB.new _ _ _, one_new2 _ _, H0⟩
  case round =>
    obtain ⟨k, x, hk, rfl, hpx, he, hgw, hfr, hb, HP⟩ := hrel
    have HB := Lib.hid hb
    have HE := Lib.hid he
    have HFR := Lib.hid hfr
    clear hfr
    have HPX := Lib.hid hpx
    have HT := Lib.hid (fun w => isTop_any x w)
    obtain ⟨a0, a1, a2, a3, a4, a5, a6, a7⟩ := he
    by_cases hlt : k < 7
    · by_cases hz : x.p = 0
      · have HX : Hid (true = R) := Lib.hid (by rw [← HP.out, reach_zero hz])
        rw [show (x.p == 0) = true by rw [hz]; rfl] at HT
        obtain ⟨xi, xp, xr, xe, xb, xu, xo, xl⟩ := x
        unfold clsV at HT
        simp only at a0 a1 a2 a3 a4 a5 a6 a7 HT
        clear hb hz hpx
        go_wp2_with (go_at_call 22; refine (HT.out _).mono ?_; rintro e w1 ⟨rfl, b1⟩; have B1 := Lib.hid (HB.out.trans (b1.mono HB.out.size)); clear b1)
        go_ret
        exact ⟨ret_bool HX.out, B1.out⟩
      · obtain ⟨j, hj⟩ := par_some hpx hz
        have hjl := (fnd_get cs _ j hj).1
        have HX : Hid (reach cs (7 - (k + 1)) (cs.getD j cls0) = R) := Lib.hid (by
          rw [← HP.out, show 7 - k = (7 - (k + 1)) + 1 by omega, reach_step hz hj])
        have HQ := Lib.hid (HPA.out j hjl)
        have HS := Lib.hid (fun w HI => parentOf_any ac n cc cs x j w HI hn hm hi (Lib.hid hj))
        rw [show (x.p == 0) = false from beq_eq_false_iff_ne.2 hz] at HT
        generalize cs.getD j cls0 = z at HX HQ HS
        obtain ⟨xi, xp, xr, xe, xb, xu, xo, xl⟩ := x
        obtain ⟨zi, zp, zr, ze, zb, zu, zo, zl⟩ := z
        unfold clsV at HT HS
        simp only at a0 a1 a2 a3 a4 a5 a6 a7 HT HS
        clear hb hz hpx hj
        go_wp2_with (go_at_call 22; refine (HT.out _).mono ?_; rintro e w1 ⟨rfl, b1⟩; have B1 := Lib.hid (HB.out.trans (b1.mono HB.out.size)); have hg1 := Nat.lt_of_lt_of_le hgw b1.size; have E1 := Lib.hid (HE.out.on b1 hgw); have F1 := Lib.hid (HFR.out.on b1 hgw); obtain ⟨c0, c1, c2, c3, c4, c5, c6, c7⟩ := E1.out; clear b1)
        go_wp2_with (go_at_call 37; refine (HS.out _ (Lib.hid (HI.out.below B1.out))).mono ?_; rintro e w2 ⟨rfl, b2⟩; have B2 := Lib.hid (B1.out.trans (b2.mono B1.out.size)); have hg2 := Nat.lt_of_lt_of_le hg1 b2.size; have E2 := Lib.hid (E1.out.on b2 hg1); have F2 := Lib.hid (F1.out.on b2 hg1); have hfz := fun o => F2.out o; obtain ⟨p0, p1, p2, p3, p4, p5, p6, p7⟩ := E2.out; clear b2)
        go_roundw
        case rel => exact ⟨k + 1, ⟨zi, zp, zr, ze, zb, zu, zo, zl⟩, by omega, by go_num, HQ.out, read8 E2.out.some _ _ rfl, by simpa using hg2, ((((((((F2.out.set _ _).set _ _).set _ _).set _ _).set _ _).set _ _).set _ _).set _ _), set8 B2.out _ (Nat.le_refl _) _ _ _ _ _ _ _ _, HX⟩
        case measure => simp [intOf]; omega
    · have hk7 : k = 7 := by omega
      subst hk7
      have HX : Hid ((x.p == 0) = R) := Lib.hid (by rw [← HP.out]; rfl)
      generalize (x.p == 0) = q at HT HX
      obtain ⟨xi, xp, xr, xe, xb, xu, xo, xl⟩ := x
      unfold clsV at HT
      simp only at a0 a1 a2 a3 a4 a5 a6 a7 HT
      clear hb hpx
      go_wp2_with (go_at_call 22; refine (HT.out _).mono ?_; rintro e w1 ⟨rfl, b1⟩; have B1 := Lib.hid (HB.out.trans (b1.mono HB.out.size)); clear b1)
      go_ret
      exact ⟨ret_bool HX.out, B1.out⟩
end Go.Proofs.YthgbhnedfdnfpaaDoor
