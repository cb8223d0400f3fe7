import Derived.Test.YthgbhnedfdnfpaaGreatDoorPka
import Derived.Test.YthgbhnedfdnfpaaGreatDoorPkj
/- A number in a range, two numbers compared: the program's. -/
namespace Go.Proofs.YthgbhnedfdnfpaaGreatDoor
set_option maxRecDepth 100000
open Go.RowKit
set_option linter.unusedVariables false

theorem isIn_any (n lo hi : Int) (w : World) :
    Calls Tryz.prog 35 #[.int .i64 n, .int .i64 lo, .int .i64 hi] w fun e w' => e = .returned (.bool (inB n lo hi)) ∧ w = w' := by
  rcases Int.lt_or_le n lo with c0 | c0
  · have H : Hid (inB n lo hi = false) := Lib.hid (inB_low c0)
    have d := not_le c0
    go_enter Tryz.func35, Tryz.ntmps35
    go_wp2
    go_ret
    exact ⟨ret_bool (by rw [H.out]), rfl⟩
  rcases Int.lt_or_le hi n with c1 | c1
  · have H : Hid (inB n lo hi = false) := Lib.hid (inB_high c1)
    have d0 := is_le c0
    have d := not_le c1
    go_enter Tryz.func35, Tryz.ntmps35
    go_wp2
    go_ret
    exact ⟨ret_bool (by rw [H.out]), rfl⟩
  · have H : Hid (inB n lo hi = true) := Lib.hid (inB_true c0 c1)
    have d0 := is_le c0
    have d := is_le c1
    go_enter Tryz.func35, Tryz.ntmps35
    go_wp2
    go_ret
    exact ⟨ret_bool (by rw [H.out]), rfl⟩
def cmpI (a b : Int) : Int := if a < b then -1 else if b < a then 1 else 0
theorem cmpI_lt {a b : Int} (h : a < b) : cmpI a b = -1 := by unfold cmpI; rw [if_pos h]
theorem cmpI_gt {a b : Int} (h : b < a) : cmpI a b = 1 := by unfold cmpI; rw [if_neg (by omega), if_pos h]
theorem cmpI_eq {a b : Int} (h : a = b) : cmpI a b = 0 := by unfold cmpI; rw [if_neg (by omega), if_neg (by omega)]
theorem isNaNI_any (a : Int) (w : World) : Calls Tryz.prog 102 #[.int .i64 a] w fun e w' => e = .returned (.bool false) ∧ w = w' := by
  go_enter Tryz.func102, Tryz.ntmps102
  go_wp2
  go_ret
  exact ⟨rfl, rfl⟩
theorem cmpInt_any (a b : Int) (w : World) : Calls Tryz.prog 71 #[.int .i64 a, .int .i64 b] w fun e w' => e = .returned (.int .i64 (cmpI a b)) ∧ w = w' := by
  rcases Int.lt_trichotomy a b with h | h | h
  · have H := Lib.hid (cmpI_lt h)
    have d := is_lt h
    go_enter Tryz.func71, Tryz.ntmps71
    go_wp2_with (go_at_call 102; refine (isNaNI_any _ _).mono ?_; rintro e w' ⟨rfl, rfl⟩)
    go_ret
    exact ⟨ret_int H.out.symm, rfl⟩
  · have H := Lib.hid (cmpI_eq h)
    subst h
    have d := not_lt (Int.le_refl a)
    go_enter Tryz.func71, Tryz.ntmps71
    go_wp2_with (go_at_call 102; refine (isNaNI_any _ _).mono ?_; rintro e w' ⟨rfl, rfl⟩)
    go_ret
    exact ⟨ret_int H.out.symm, rfl⟩
  · have H := Lib.hid (cmpI_gt h)
    have d := not_lt (Int.le_of_lt h)
    have d2 := is_lt h
    go_enter Tryz.func71, Tryz.ntmps71
    go_wp2_with (go_at_call 102; refine (isNaNI_any _ _).mono ?_; rintro e w' ⟨rfl, rfl⟩)
    go_ret
    exact ⟨ret_int H.out.symm, rfl⟩
end Go.Proofs.YthgbhnedfdnfpaaGreatDoor

/- The program's small functions over classes. -/
namespace Go.Proofs.YthgbhnedfdnfpaaGreatDoor
set_option maxRecDepth 100000
open Go.RowKit
set_option linter.unusedVariables false

theorem isTop_any (x : Cls) (w : World) : Calls Tryz.prog 86 #[clsV x] w (SaysB w (x.p == 0)) := by
  obtain ⟨b, hb⟩ : ∃ b, (x.p == 0) = b := ⟨_, rfl⟩
  rw [hb]
  obtain ⟨xi, xp, xr, xe, xb, xu, xo, xl⟩ := x
  unfold clsV
  simp only at hb ⊢
  go_enter Tryz.func86, Tryz.ntmps86
  go_wp2
  go_ret
  exact ⟨ret_bool rfl, one_new2 _ _⟩
set_option maxHeartbeats 1600000 in
theorem hasRates_any (x : Cls) (w : World) : Calls Tryz.prog 36 #[clsV x] w (SaysB w (rateOk x)) := by
  have HX : Hid (rateOk x = (inB x.r 1 100000 && (inB x.e x.r 100000 && (inB x.b 1500 1000000 && (inB x.u 1500 1000000 && inB x.o 0 7))))) := Lib.hid rfl
  have H2 := Lib.hid (fun w => isIn_any x.r 1 100000 w)
  have H3 := Lib.hid (fun w => isIn_any x.e x.r 100000 w)
  have H4 := Lib.hid (fun w => isIn_any x.b 1500 1000000 w)
  have H5 := Lib.hid (fun w => isIn_any x.u 1500 1000000 w)
  have H6 := Lib.hid (fun w => isIn_any x.o 0 7 w)
  generalize inB x.r 1 100000 = b2 at HX H2
  generalize inB x.e x.r 100000 = b3 at HX H3
  generalize inB x.b 1500 1000000 = b4 at HX H4
  generalize inB x.u 1500 1000000 = b5 at HX H5
  generalize inB x.o 0 7 = b6 at HX H6
  generalize rateOk x = B at HX ⊢
  obtain ⟨xi, xp, xr, xe, xb, xu, xo, xl⟩ := x
  unfold clsV
  simp only at H2 H3 H4 H5 H6 ⊢
  go_enter Tryz.func36, Tryz.ntmps36
  go_wp2_with (first | (go_at_call 35; (with_reducible refine (H2.out _).mono ?_); rintro e w' ⟨rfl, rfl⟩) | (go_at_call 35; (with_reducible refine (H3.out _).mono ?_); rintro e w' ⟨rfl, rfl⟩) | (go_at_call 35; (with_reducible refine (H4.out _).mono ?_); rintro e w' ⟨rfl, rfl⟩) | (go_at_call 35; (with_reducible refine (H5.out _).mono ?_); rintro e w' ⟨rfl, rfl⟩) | (go_at_call 35; (with_reducible refine (H6.out _).mono ?_); rintro e w' ⟨rfl, rfl⟩))
  all_goals
    go_ret
    exact ⟨ret_bool (by rw [HX.out]; simp_all), one_new2 _ _⟩
set_option maxHeartbeats 1600000 in
theorem isPattern_any (x : Flt) (w : World) : Calls Tryz.prog 90 #[fltV x] w (SaysB w (patOk x)) := by
  obtain ⟨b7, d7⟩ : ∃ b, (bits .andNot .i64 x.v x.m == 0) = b := ⟨_, rfl⟩
  have HX : Hid (patOk x = (inB x.f 0 3 && (inB x.m 0 65535 && (inB x.v 0 65535 && b7)))) := Lib.hid (by
    unfold patOk
    cases hm : inB x.m 0 65535
    · rfl
    cases hv : inB x.v 0 65535
    · rfl
    rw [← d7, andNot_bits (inBR_iff.1 hv) (inBR_iff.1 hm)])
  have H2 := Lib.hid (fun w => isIn_any x.f 0 3 w)
  have H3 := Lib.hid (fun w => isIn_any x.m 0 65535 w)
  have H4 := Lib.hid (fun w => isIn_any x.v 0 65535 w)
  generalize inB x.f 0 3 = b2 at HX H2
  generalize inB x.m 0 65535 = b3 at HX H3
  generalize inB x.v 0 65535 = b4 at HX H4
  generalize patOk x = B at HX ⊢
  obtain ⟨xo, xf, xm, xv, xt⟩ := x
  unfold fltV
  simp only at d7 H2 H3 H4 ⊢
  go_enter Tryz.func90, Tryz.ntmps90
  go_wp2_with (first | (go_at_call 35; (with_reducible refine (H2.out _).mono ?_); rintro e w' ⟨rfl, rfl⟩) | (go_at_call 35; (with_reducible refine (H3.out _).mono ?_); rintro e w' ⟨rfl, rfl⟩) | (go_at_call 35; (with_reducible refine (H4.out _).mono ?_); rintro e w' ⟨rfl, rfl⟩))
  all_goals
    go_ret
    exact ⟨ret_bool (by rw [HX.out]; simp_all), one_new2 _ _⟩
theorem placeCmp_any (x : Cls) (id : Int) (w : World) : Calls Tryz.prog 70 #[clsV x, .int .i64 id] w (SaysI w (cmpI x.i id)) := by
  have HC := Lib.hid (fun w => cmpInt_any x.i id w)
  obtain ⟨r, hr⟩ : ∃ r, cmpI x.i id = r := ⟨_, rfl⟩
  rw [hr] at HC ⊢
  clear hr
  obtain ⟨xi, xp, xr, xe, xb, xu, xo, xl⟩ := x
  unfold clsV
  simp only at HC ⊢
  go_enter Tryz.func70, Tryz.ntmps70
  go_wp2_with (go_at_call 71; refine (HC.out _).mono ?_; rintro e w' ⟨rfl, rfl⟩)
  go_ret
  exact ⟨rfl, one_new2 _ _⟩
def SaysP (w : World) (k : Nat) (b : Bool) (e : Ending) (w' : World) : Prop := e = .returned (.tuple #[.int .i64 (k : Int), .bool b]) ∧ Below w.heap.size w w'
def BsRel (w : World) (n : Nat) (cs : List Cls) (id : Int) (i j : Value) (wr : World) : Prop := ∃ a b : Nat, a ≤ b ∧ b ≤ n ∧ i = .int .i64 a ∧ j = .int .i64 b ∧ Below w.heap.size w wr ∧ Hid (∀ t, t < a → (cs.getD t cls0).i < id) ∧ Hid (b < n → id ≤ (cs.getD b cls0).i)
theorem bs_less {cs : List Cls} {id : Int} {h : Nat} (hi : IncC cs) (hh : h < cs.length) (hx : (cs.getD h cls0).i < id) : ∀ t, t < h + 1 → (cs.getD t cls0).i < id := fun t ht => by
  rcases Nat.lt_succ_iff_lt_or_eq.1 ht with q | q
  · have := hi t h q hh; omega
  · rw [q]; exact hx
theorem bs_mid (a b : Nat) (h : b ≤ 1048576) (hab : a < b) : a ≤ (a + b) / 2 ∧ (a + b) / 2 < b := by omega
def plcB (cs : List Cls) (id : Int) : Bool := decide (plc cs id < cs.length) && ((cs.getD (plc cs id) cls0).i == id)
theorem plcB_fnd {cs : List Cls} (hi : IncC cs) (id : Int) : plcB cs id = (fnd cs id).isSome := by
  rw [fnd_plc hi]
  unfold plcB
  by_cases h : plc cs id < cs.length ∧ (cs.getD (plc cs id) cls0).i = id
  · rw [if_pos h]; rw [h.2]; simp [h.1]
  · rw [if_neg h]
    by_cases h1 : plc cs id < cs.length
    · have h2 : (cs.getD (plc cs id) cls0).i ≠ id := fun q => h ⟨h1, q⟩
      rw [beq_eq_false_iff_ne.2 h2]; simp
    · simp [h1]
set_option maxHeartbeats 3200000 in
theorem search_any (ac : Option Addr) (n cc : Nat) (cs : List Cls) (id : Int) (w : World) (HI : Hid (InX w ac n (clsCs cs))) (hn : Hid (cs.length = n)) (hm : n ≤ 1048576) (hi : Hid (IncC cs)) :
    Calls Tryz.prog 69 #[(.slice ac n cc), .int .i64 id, .func (Fn.func 70) #[] #[]] w (SaysP w (plc cs id) (plcB cs id)) := by
  go_enter Tryz.func69, Tryz.ntmps69
  go_wp2_with fail
  go_loopw [9, 10] (fun i j wr => BsRel w n cs id i j wr) (fun i j _ => (intOf j).toNat - (intOf i).toNat)
  case atStart => exact ⟨0, n, Nat.zero_le _, Nat.le_refl _, rfl, rfl, Below.refl _ _, Lib.hid (fun t ht => absurd ht (Nat.not_lt_zero t)), Lib.hid (fun h => absurd h (by omega))⟩
  case round =>
    obtain ⟨a, b, hab, hbn, rfl, rfl, hb, HL, HG⟩ := hrel
    have HB := Lib.hid hb
    by_cases hlt : a < b
    · obtain ⟨g, rfl, ht, hg⟩ := HI.out (by omega)
      have hm2 := bs_mid a b (by omega) hlt
      obtain ⟨x, hx⟩ : ∃ x, cs.getD ((a + b) / 2) cls0 = x := ⟨_, rfl⟩
      have hl1 : (a + b) / 2 < cs.length := by rw [hn.out]; omega
      obtain ⟨a0, a1, a2, a3, a4, a5, a6, a7⟩ := (ht.below hb hg).cls _ hl1 x hx
      have HC := Lib.hid (fun w => placeCmp_any x id w)
      rcases Int.lt_or_le x.i id with hq | hq
      · have HX := Lib.hid (bs_less hi.out hl1 (by rw [hx]; exact hq))
        rw [cmpI_lt hq] at HC
        obtain ⟨xi, xp, xr, xe, xb, xu, xo, xl⟩ := x
        simp only at a0 a1 a2 a3 a4 a5 a6 a7 HC
        unfold clsV at HC
        simp only at HC
        clear hb ht hx hl1 hq HI
        go_wp2_with (go_at_call 70; refine (HC.out _).mono ?_; rintro e w1 ⟨rfl, b1⟩; have B1 := Lib.hid (HB.out.trans (b1.mono HB.out.size)); clear b1)
        go_roundw
        case rel => exact ⟨(a + b) / 2 + 1, b, by omega, hbn, by go_num, rfl, B1.out, HX, HG⟩
        case measure => simp [intOf]; omega
      · have HX : Hid ((a + b) / 2 < n → id ≤ (cs.getD ((a + b) / 2) cls0).i) := Lib.hid (fun _ => by rw [hx]; exact hq)
        have hc0 : ∃ r, 0 ≤ r ∧ cmpI x.i id = r := ⟨_, by unfold cmpI; split; omega; split <;> omega, rfl⟩
        obtain ⟨r, hr0, hr⟩ := hc0
        rw [hr] at HC
        have dr := not_lt hr0
        obtain ⟨xi, xp, xr, xe, xb, xu, xo, xl⟩ := x
        simp only at a0 a1 a2 a3 a4 a5 a6 a7 HC
        unfold clsV at HC
        simp only at HC
        clear hb ht hx hl1 hq HI hr
        go_wp2_with (go_at_call 70; refine (HC.out _).mono ?_; rintro e w1 ⟨rfl, b1⟩; have B1 := Lib.hid (HB.out.trans (b1.mono HB.out.size)); clear b1)
        go_roundw
        case rel => exact ⟨a, (a + b) / 2, by omega, by omega, rfl, by go_num, B1.out, HL, HX⟩
        case measure => simp [intOf]; omega
    · have hab2 : a = b := by omega
      subst hab2
      have HP := Lib.hid (plc_eq cs id a (by rw [hn.out]; omega) HL.out (by rw [hn.out]; exact HG.out))
      by_cases hl : a < n
      · obtain ⟨g, rfl, ht, hg⟩ := HI.out (by omega)
        obtain ⟨x, hx⟩ : ∃ x, cs.getD a cls0 = x := ⟨_, rfl⟩
        have hl1 : a < cs.length := by rw [hn.out]; omega
        obtain ⟨a0, a1, a2, a3, a4, a5, a6, a7⟩ := (ht.below hb hg).cls _ hl1 x hx
        have HC := Lib.hid (fun w => placeCmp_any x id w)
        obtain ⟨q, hq⟩ : ∃ q, (cmpI x.i id == 0) = q := ⟨_, rfl⟩
        have HE : Hid (plcB cs id = q) := Lib.hid (by
          unfold plcB
          rw [HP.out, hx, ← hq, decide_eq_true hl1, Bool.true_and]
          unfold cmpI
          apply Bool.eq_iff_iff.2
          rw [beq_iff_eq, beq_iff_eq]
          split
          · constructor <;> intro h <;> omega
          · split
            · constructor <;> intro h <;> omega
            · constructor <;> intro h <;> omega)
        obtain ⟨r, hr⟩ : ∃ r, cmpI x.i id = r := ⟨_, rfl⟩
        rw [hr] at HC hq
        have D := hq
        obtain ⟨xi, xp, xr, xe, xb, xu, xo, xl⟩ := x
        simp only at a0 a1 a2 a3 a4 a5 a6 a7 HC
        unfold clsV at HC
        simp only at HC
        clear hb ht hx hl1 HI hr hq
        go_wp2_with (go_at_call 70; refine (HC.out _).mono ?_; rintro e w1 ⟨rfl, b1⟩; have B1 := Lib.hid (HB.out.trans (b1.mono HB.out.size)); clear b1)
        go_ret2
        exact ⟨by rw [HP.out, HE.out]; rfl, B1.out⟩
      · have HE : Hid (plcB cs id = false) := Lib.hid (by unfold plcB; rw [HP.out, decide_eq_false (by rw [hn.out]; exact hl)]; rfl)
        clear hb
        go_wp2_with fail
        go_ret2
        exact ⟨by rw [HP.out, HE.out]; rfl, HB.out⟩
theorem placeOf_any (ac : Option Addr) (n cc : Nat) (cs : List Cls) (id : Int) (w : World) (HI : Hid (InX w ac n (clsCs cs))) (hn : Hid (cs.length = n)) (hm : n ≤ 1048576) (hi : Hid (IncC cs)) :
    Calls Tryz.prog 41 #[(.slice ac n cc), .int .i64 id] w (SaysP w (plc cs id) (plcB cs id)) := by
  have HS := Lib.hid (search_any ac n cc cs id w HI hn hm hi)
  generalize plc cs id = k at HS ⊢
  generalize plcB cs id = b at HS ⊢
  go_enter Tryz.func41, Tryz.ntmps41
  go_wp2_with (go_at_call 69; refine HS.out.mono ?_; rintro e w1 ⟨rfl, b1⟩; have B1 := Lib.hid b1; clear b1)
  go_ret2
  exact ⟨rfl, B1.out⟩
end Go.Proofs.YthgbhnedfdnfpaaGreatDoor
