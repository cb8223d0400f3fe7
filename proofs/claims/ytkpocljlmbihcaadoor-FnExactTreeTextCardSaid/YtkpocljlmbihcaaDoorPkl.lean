import Derived.Test.YtkpocljlmbihcaaDoorPka
import Derived.Test.YtkpocljlmbihcaaDoorPkj
import Derived.Test.YtkpocljlmbihcaaDoorPkh
import Derived.Lib.SmallJoins
import Derived.Deep.Slices
import Derived.Test.YtkpocljlmbihcaaDoorPkc
import Derived.Deep.OwnRows
/- A number in a range, two numbers compared: the program's. -/
namespace Go.Proofs.YtkpocljlmbihcaaDoor
set_option maxRecDepth 100000
open Go.RowKit
set_option linter.unusedVariables false

theorem isIn_any (n lo hi : Int) (w : World) :
    Calls Tryd.prog 19 #[.int .i64 n, .int .i64 lo, .int .i64 hi] w fun e w' => e = .returned (.bool (inB n lo hi)) ∧ w = w' := by
  rcases Int.lt_or_le n lo with c0 | c0
  · have H : Hid (inB n lo hi = false) := Lib.hid (inB_low c0)
    have d := not_le c0
    go_enter Tryd.func19, Tryd.ntmps19
    go_wp2
    go_ret
    exact ⟨ret_bool (by rw [H.out]), rfl⟩
  rcases Int.lt_or_le hi n with c1 | c1
  · have H : Hid (inB n lo hi = false) := Lib.hid (inB_high c1)
    have d0 := is_le c0
    have d := not_le c1
    go_enter Tryd.func19, Tryd.ntmps19
    go_wp2
    go_ret
    exact ⟨ret_bool (by rw [H.out]), rfl⟩
  · have H : Hid (inB n lo hi = true) := Lib.hid (inB_true c0 c1)
    have d0 := is_le c0
    have d := is_le c1
    go_enter Tryd.func19, Tryd.ntmps19
    go_wp2
    go_ret
    exact ⟨ret_bool (by rw [H.out]), rfl⟩
/-- how two numbers compare -/
def cmpI (a b : Int) : Int := if a < b then -1 else if b < a then 1 else 0
theorem cmpI_lt {a b : Int} (h : a < b) : cmpI a b = -1 := by unfold cmpI; rw [if_pos h]
theorem cmpI_gt {a b : Int} (h : b < a) : cmpI a b = 1 := by unfold cmpI; rw [if_neg (by omega), if_pos h]
theorem cmpI_eq {a b : Int} (h : a = b) : cmpI a b = 0 := by unfold cmpI; rw [if_neg (by omega), if_neg (by omega)]
theorem isNaNI_any (a : Int) (w : World) : Calls Tryd.prog 113 #[.int .i64 a] w fun e w' => e = .returned (.bool false) ∧ w = w' := by
  go_enter Tryd.func113, Tryd.ntmps113
  go_wp2
  go_ret
  exact ⟨rfl, rfl⟩
theorem cmpInt_any (a b : Int) (w : World) : Calls Tryd.prog 101 #[.int .i64 a, .int .i64 b] w fun e w' => e = .returned (.int .i64 (cmpI a b)) ∧ w = w' := by
  rcases Int.lt_trichotomy a b with h | h | h
  · have H := Lib.hid (cmpI_lt h)
    have d := is_lt h
    go_enter Tryd.func101, Tryd.ntmps101
    go_wp2_with (go_at_call 113; refine (isNaNI_any _ _).mono ?_; rintro e w' ⟨rfl, rfl⟩)
    go_ret
    exact ⟨ret_int H.out.symm, rfl⟩
  · have H := Lib.hid (cmpI_eq h)
    subst h
    have d := not_lt (Int.le_refl a)
    go_enter Tryd.func101, Tryd.ntmps101
    go_wp2_with (go_at_call 113; refine (isNaNI_any _ _).mono ?_; rintro e w' ⟨rfl, rfl⟩)
    go_ret
    exact ⟨ret_int H.out.symm, rfl⟩
  · have H := Lib.hid (cmpI_gt h)
    have d := not_lt (Int.le_of_lt h)
    have d2 := is_lt h
    go_enter Tryd.func101, Tryd.ntmps101
    go_wp2_with (go_at_call 113; refine (isNaNI_any _ _).mono ?_; rintro e w' ⟨rfl, rfl⟩)
    go_ret
    exact ⟨ret_int H.out.symm, rfl⟩
end Go.Proofs.YtkpocljlmbihcaaDoor

/- The program's small functions over classes. -/
namespace Go.Proofs.YtkpocljlmbihcaaDoor
set_option maxRecDepth 100000
open Go.RowKit
set_option linter.unusedVariables false

theorem isTop_any (x : Cls) (w : World) : Calls Tryd.prog 81 #[clsV x] w (SaysB w (x.p == 0)) := by
  obtain ⟨b, hb⟩ : ∃ b, (x.p == 0) = b := ⟨_, rfl⟩
  rw [hb]
  obtain ⟨xi, xp, xr, xe, xb, xu, xo, xl⟩ := x
  unfold clsV
  simp only at hb ⊢
  go_enter Tryd.func81, Tryd.ntmps81
  go_wp2
  go_ret
  exact ⟨ret_bool rfl, one_new2 _ _⟩
set_option maxHeartbeats 1600000 in
theorem hasRates_any (x : Cls) (w : World) : Calls Tryd.prog 20 #[clsV x] w (SaysB w (rateOk x)) := by
  have HX : Hid (rateOk x = (inB x.r 1 100000 && (inB x.e x.r 100000 && (inB x.b 1500 1000000 && (inB x.u 1500 1000000 && inB x.o 0 7))))) := Lib.hid rfl
  have H2 := Lib.hid (fun w => isIn_any x.r 1 100000 w)
  have H3 := Lib.hid (fun w => isIn_any x.e x.r 100000 w)
  have H4 := Lib.hid (fun w => isIn_any x.b 1500 1000000 w)
  have H5 := Lib.hid (fun w => isIn_any x.u 1500 1000000 w)
  have H6 := Lib.hid (fun w => isIn_any x.o 0 7 w)
  generalize inB x.r 1 100000 = b2 at HX H2
  generalize inB x.e x.r 100000 = b3 at HX H3
  generalize inB x.b 1500 1000000 = b4 at HX H4
  generalize inB x.u 1500 1000000 = b5 at HX H5
  generalize inB x.o 0 7 = b6 at HX H6
  generalize rateOk x = B at HX ⊢
  obtain ⟨xi, xp, xr, xe, xb, xu, xo, xl⟩ := x
  unfold clsV
  simp only at H2 H3 H4 H5 H6 ⊢
  go_enter Tryd.func20, Tryd.ntmps20
  go_wp2_with (first | (go_at_call 19; (with_reducible refine (H2.out _).mono ?_); rintro e w' ⟨rfl, rfl⟩) | (go_at_call 19; (with_reducible refine (H3.out _).mono ?_); rintro e w' ⟨rfl, rfl⟩) | (go_at_call 19; (with_reducible refine (H4.out _).mono ?_); rintro e w' ⟨rfl, rfl⟩) | (go_at_call 19; (with_reducible refine (H5.out _).mono ?_); rintro e w' ⟨rfl, rfl⟩) | (go_at_call 19; (with_reducible refine (H6.out _).mono ?_); rintro e w' ⟨rfl, rfl⟩))
  all_goals
    go_ret
    exact ⟨ret_bool (by rw [HX.out]; simp_all), one_new2 _ _⟩
set_option maxHeartbeats 1600000 in
theorem isPattern_any (x : Flt) (w : World) : Calls Tryd.prog 28 #[fltV x] w (SaysB w (patOk x)) := by
  obtain ⟨b7, d7⟩ : ∃ b, (bits .andNot .i64 x.v x.m == 0) = b := ⟨_, rfl⟩
  have HX : Hid (patOk x = (inB x.f 0 3 && (inB x.m 0 65535 && (inB x.v 0 65535 && b7)))) := Lib.hid (by
    unfold patOk
    cases hm : inB x.m 0 65535
    · rfl
    cases hv : inB x.v 0 65535
    · rfl
    rw [← d7, andNot_bits (inBR_iff.1 hv) (inBR_iff.1 hm)])
  have H2 := Lib.hid (fun w => isIn_any x.f 0 3 w)
  have H3 := Lib.hid (fun w => isIn_any x.m 0 65535 w)
  have H4 := Lib.hid (fun w => isIn_any x.v 0 65535 w)
  generalize inB x.f 0 3 = b2 at HX H2
  generalize inB x.m 0 65535 = b3 at HX H3
  generalize inB x.v 0 65535 = b4 at HX H4
  generalize patOk x = B at HX ⊢
  obtain ⟨xo, xf, xm, xv, xt⟩ := x
  unfold fltV
  simp only at d7 H2 H3 H4 ⊢
  go_enter Tryd.func28, Tryd.ntmps28
  go_wp2_with (first | (go_at_call 19; (with_reducible refine (H2.out _).mono ?_); rintro e w' ⟨rfl, rfl⟩) | (go_at_call 19; (with_reducible refine (H3.out _).mono ?_); rintro e w' ⟨rfl, rfl⟩) | (go_at_call 19; (with_reducible refine (H4.out _).mono ?_); rintro e w' ⟨rfl, rfl⟩))
  all_goals
    go_ret
    exact ⟨ret_bool (by rw [HX.out]; simp_all), one_new2 _ _⟩
theorem placeCmp_any (x : Cls) (id : Int) (w : World) : Calls Tryd.prog 100 #[clsV x, .int .i64 id] w (SaysI w (cmpI x.i id)) := by
  have HC := Lib.hid (fun w => cmpInt_any x.i id w)
  obtain ⟨r, hr⟩ : ∃ r, cmpI x.i id = r := ⟨_, rfl⟩
  rw [hr] at HC ⊢
  clear hr
  obtain ⟨xi, xp, xr, xe, xb, xu, xo, xl⟩ := x
  unfold clsV
  simp only at HC ⊢
  go_enter Tryd.func100, Tryd.ntmps100
  go_wp2_with (go_at_call 101; refine (HC.out _).mono ?_; rintro e w' ⟨rfl, rfl⟩)
  go_ret
  exact ⟨rfl, one_new2 _ _⟩
/-- an index and whether there is a class -/
def SaysP (w : World) (k : Nat) (b : Bool) (e : Ending) (w' : World) : Prop := e = .returned (.tuple #[.int .i64 (k : Int), .bool b]) ∧ Below w.heap.size w w'
def BsRel (w : World) (n : Nat) (cs : List Cls) (id : Int) (i j : Value) (wr : World) : Prop := ∃ a b : Nat, a ≤ b ∧ b ≤ n ∧ i = .int .i64 a ∧ j = .int .i64 b ∧ Below w.heap.size w wr ∧ Hid (∀ t, t < a → (cs.getD t cls0).i < id) ∧ Hid (b < n → id ≤ (cs.getD b cls0).i)
theorem bs_less {cs : List Cls} {id : Int} {h : Nat} (hi : IncC cs) (hh : h < cs.length) (hx : (cs.getD h cls0).i < id) : ∀ t, t < h + 1 → (cs.getD t cls0).i < id := fun t ht => by
  rcases Nat.lt_succ_iff_lt_or_eq.1 ht with q | q
  · have := hi t h q hh; omega
  · rw [q]; exact hx
theorem bs_mid (a b : Nat) (h : b ≤ 1048576) (hab : a < b) : a ≤ (a + b) / 2 ∧ (a + b) / 2 < b := by omega
def plcB (cs : List Cls) (id : Int) : Bool := decide (plc cs id < cs.length) && ((cs.getD (plc cs id) cls0).i == id)
theorem plcB_fnd {cs : List Cls} (hi : IncC cs) (id : Int) : plcB cs id = (fnd cs id).isSome := by
  rw [fnd_plc hi]
  unfold plcB
  by_cases h : plc cs id < cs.length ∧ (cs.getD (plc cs id) cls0).i = id
  · rw [if_pos h]; rw [h.2]; simp [h.1]
  · rw [if_neg h]
    by_cases h1 : plc cs id < cs.length
    · have h2 : (cs.getD (plc cs id) cls0).i ≠ id := fun q => h ⟨h1, q⟩
      rw [beq_eq_false_iff_ne.2 h2]; simp
    · simp [h1]
set_option maxHeartbeats 3200000 in
theorem search_any (ac : Option Addr) (n cc : Nat) (cs : List Cls) (id : Int) (w : World) (HI : Hid (InX w ac n (clsCs cs))) (hn : Hid (cs.length = n)) (hm : n ≤ 1048576) (hi : Hid (IncC cs)) :
    Calls Tryd.prog 99 #[(.slice ac n cc), .int .i64 id, .func (Fn.func 100) #[] #[]] w (SaysP w (plc cs id) (plcB cs id)) := by
  go_enter Tryd.func99, Tryd.ntmps99
  go_wp2_with fail
  go_loopw [9, 10] (fun i j wr => BsRel w n cs id i j wr) (fun i j _ => (intOf j).toNat - (intOf i).toNat)
  case atStart => exact ⟨0, n, Nat.zero_le _, Nat.le_refl _, rfl, rfl, Below.refl _ _, Lib.hid (fun t ht => absurd ht (Nat.not_lt_zero t)), Lib.hid (fun h => absurd h (by omega))⟩
  case round =>
    obtain ⟨a, b, hab, hbn, rfl, rfl, hb, HL, HG⟩ := hrel
    have HB := Lib.hid hb
    by_cases hlt : a < b
    · obtain ⟨g, rfl, ht, hg⟩ := HI.out (by omega)
      have hm2 := bs_mid a b (by omega) hlt
      obtain ⟨x, hx⟩ : ∃ x, cs.getD ((a + b) / 2) cls0 = x := ⟨_, rfl⟩
      have hl1 : (a + b) / 2 < cs.length := by rw [hn.out]; omega
      obtain ⟨a0, a1, a2, a3, a4, a5, a6, a7⟩ := (ht.below hb hg).cls _ hl1 x hx
      have HC := Lib.hid (fun w => placeCmp_any x id w)
      rcases Int.lt_or_le x.i id with hq | hq
      · have HX := Lib.hid (bs_less hi.out hl1 (by rw [hx]; exact hq))
        rw [cmpI_lt hq] at HC
        obtain ⟨xi, xp, xr, xe, xb, xu, xo, xl⟩ := x
        simp only at a0 a1 a2 a3 a4 a5 a6 a7 HC
        unfold clsV at HC
        simp only at HC
        clear hb ht hx hl1 hq HI
        go_wp2_with (go_at_call 100; refine (HC.out _).mono ?_; rintro e w1 ⟨rfl, b1⟩; have B1 := Lib.hid (HB.out.trans (b1.mono HB.out.size)); clear b1)
        go_roundw
        case rel => exact ⟨(a + b) / 2 + 1, b, by omega, hbn, by go_num, rfl, B1.out, HX, HG⟩
        case measure => simp [intOf]; omega
      · have HX : Hid ((a + b) / 2 < n → id ≤ (cs.getD ((a + b) / 2) cls0).i) := Lib.hid (fun _ => by rw [hx]; exact hq)
        have hc0 : ∃ r, 0 ≤ r ∧ cmpI x.i id = r := ⟨_, by unfold cmpI; split; omega; split <;> omega, rfl⟩
        obtain ⟨r, hr0, hr⟩ := hc0
        rw [hr] at HC
        have dr := not_lt hr0
        obtain ⟨xi, xp, xr, xe, xb, xu, xo, xl⟩ := x
        simp only at a0 a1 a2 a3 a4 a5 a6 a7 HC
        unfold clsV at HC
        simp only at HC
        clear hb ht hx hl1 hq HI hr
        go_wp2_with (go_at_call 100; refine (HC.out _).mono ?_; rintro e w1 ⟨rfl, b1⟩; have B1 := Lib.hid (HB.out.trans (b1.mono HB.out.size)); clear b1)
        go_roundw
        case rel => exact ⟨a, (a + b) / 2, by omega, by omega, rfl, by go_num, B1.out, HL, HX⟩
        case measure => simp [intOf]; omega
    · have hab2 : a = b := by omega
      subst hab2
      have HP := Lib.hid (plc_eq cs id a (by rw [hn.out]; omega) HL.out (by rw [hn.out]; exact HG.out))
      by_cases hl : a < n
      · obtain ⟨g, rfl, ht, hg⟩ := HI.out (by omega)
        obtain ⟨x, hx⟩ : ∃ x, cs.getD a cls0 = x := ⟨_, rfl⟩
        have hl1 : a < cs.length := by rw [hn.out]; omega
        obtain ⟨a0, a1, a2, a3, a4, a5, a6, a7⟩ := (ht.below hb hg).cls _ hl1 x hx
        have HC := Lib.hid (fun w => placeCmp_any x id w)
        obtain ⟨q, hq⟩ : ∃ q, (cmpI x.i id == 0) = q := ⟨_, rfl⟩
        have HE : Hid (plcB cs id = q) := Lib.hid (by
          unfold plcB
          rw [HP.out, hx, ← hq, decide_eq_true hl1, Bool.true_and]
          unfold cmpI
          apply Bool.eq_iff_iff.2
          rw [beq_iff_eq, beq_iff_eq]
          split
          · constructor <;> intro h <;> omega
          · split
            · constructor <;> intro h <;> omega
            · constructor <;> intro h <;> omega)
        obtain ⟨r, hr⟩ : ∃ r, cmpI x.i id = r := ⟨_, rfl⟩
        rw [hr] at HC hq
        have D := hq
        obtain ⟨xi, xp, xr, xe, xb, xu, xo, xl⟩ := x
        simp only at a0 a1 a2 a3 a4 a5 a6 a7 HC
        unfold clsV at HC
        simp only at HC
        clear hb ht hx hl1 HI hr hq
        go_wp2_with (go_at_call 100; refine (HC.out _).mono ?_; rintro e w1 ⟨rfl, b1⟩; have B1 := Lib.hid (HB.out.trans (b1.mono HB.out.size)); clear b1)
        go_ret2
        exact ⟨by rw [HP.out, HE.out]; rfl, B1.out⟩
      · have HE : Hid (plcB cs id = false) := Lib.hid (by unfold plcB; rw [HP.out, decide_eq_false (by rw [hn.out]; exact hl)]; rfl)
        clear hb
        go_wp2_with fail
        go_ret2
        exact ⟨by rw [HP.out, HE.out]; rfl, HB.out⟩
theorem placeOf_any (ac : Option Addr) (n cc : Nat) (cs : List Cls) (id : Int) (w : World) (HI : Hid (InX w ac n (clsCs cs))) (hn : Hid (cs.length = n)) (hm : n ≤ 1048576) (hi : Hid (IncC cs)) :
    Calls Tryd.prog 82 #[(.slice ac n cc), .int .i64 id] w (SaysP w (plc cs id) (plcB cs id)) := by
  have HS := Lib.hid (search_any ac n cc cs id w HI hn hm hi)
  generalize plc cs id = k at HS ⊢
  generalize plcB cs id = b at HS ⊢
  go_enter Tryd.func82, Tryd.ntmps82
  go_wp2_with (go_at_call 99; refine HS.out.mono ?_; rintro e w1 ⟨rfl, b1⟩; have B1 := Lib.hid b1; clear b1)
  go_ret2
  exact ⟨rfl, B1.out⟩
end Go.Proofs.YtkpocljlmbihcaaDoor

/- Arguments that are configurations or classes: opened. -/
namespace Go.Proofs.YtkpocljlmbihcaaDoor
set_option maxRecDepth 100000
open Go.RowKit Go.Joins Go.ChangeShapes Go.WideShapes Go.Deep
set_option linter.unusedVariables false

def EightO (w : World) (b off k : Nat) (x : Cls) : Prop := w.cell? ⟨b, off + k * 8, none⟩ = some (.int .i64 x.i) ∧ w.cell? ⟨b, off + k * 8 + 1, none⟩ = some (.int .i64 x.p) ∧ w.cell? ⟨b, off + k * 8 + 2, none⟩ = some (.int .i64 x.r) ∧ w.cell? ⟨b, off + k * 8 + 3, none⟩ = some (.int .i64 x.e) ∧
  w.cell? ⟨b, off + k * 8 + 4, none⟩ = some (.int .i64 x.b) ∧ w.cell? ⟨b, off + k * 8 + 5, none⟩ = some (.int .i64 x.u) ∧ w.cell? ⟨b, off + k * 8 + 6, none⟩ = some (.int .i64 x.o) ∧ w.cell? ⟨b, off + k * 8 + 7, none⟩ = some (.int .i64 x.l)
theorem OffC.cls {w : World} {b off : Nat} {l : List Cls} (h : OffC w b off (clsCs l)) (k : Nat) (hk : k < l.length) (x : Cls) (hx : l.getD k cls0 = x) : EightO w b off k x := by
  subst hx
  have q := fun j (hj : j < 8) => clsCs_get l k j hj hk
  exact ⟨h.at _ ((q 0 (by decide)).trans rfl), h.at _ ((q 1 (by decide)).trans rfl), h.at _ ((q 2 (by decide)).trans rfl), h.at _ ((q 3 (by decide)).trans rfl), h.at _ ((q 4 (by decide)).trans rfl), h.at _ ((q 5 (by decide)).trans rfl), h.at _ ((q 6 (by decide)).trans rfl), h.at _ ((q 7 (by decide)).trans rfl)⟩
def FiveO (w : World) (b off k : Nat) (x : Flt) : Prop := w.cell? ⟨b, off + k * 5, none⟩ = some (.int .i64 x.o) ∧ w.cell? ⟨b, off + k * 5 + 1, none⟩ = some (.int .i64 x.f) ∧ w.cell? ⟨b, off + k * 5 + 2, none⟩ = some (.int .i64 x.m) ∧ w.cell? ⟨b, off + k * 5 + 3, none⟩ = some (.int .i64 x.v) ∧ w.cell? ⟨b, off + k * 5 + 4, none⟩ = some (.int .i64 x.t)
theorem OffC.flt {w : World} {b off : Nat} {l : List Flt} (h : OffC w b off (fltCs l)) (k : Nat) (hk : k < l.length) (x : Flt) (hx : l.getD k flt0 = x) : FiveO w b off k x := by
  subst hx
  have q := fun j (hj : j < 5) => fltCs_get l k j hj hk
  exact ⟨h.at _ ((q 0 (by decide)).trans rfl), h.at _ ((q 1 (by decide)).trans rfl), h.at _ ((q 2 (by decide)).trans rfl), h.at _ ((q 3 (by decide)).trans rfl), h.at _ ((q 4 (by decide)).trans rfl)⟩
section
variable {H : Type} {enc : TypeId × Value → H} {w : World} {base : Nat} {spare : Nat → Bool} {held : Bool}
theorem open_clss {fuel : Nat} {cs : List Value} {x : DataW H × List MemPlace} (h : DataW.trod enc Tryd.prog w base spare held fuel 35 cs = some x) :
    ∃ (a : Option Addr) (len cap : Nat) (l : List Cls), cs = [.slice a len cap] ∧ len ≤ maxLen ∧ l.length = len ∧ ArgX w a len (clsCs l) := by
  obtain ⟨a, len, cap, F, hcs, hm, hF⟩ := open_rows (z := 8) Tryd.underlying35 (by kernel_rfl) rfl (by decide) Tryd.underlying23 (by
    intro i hi
    rcases (show i = 0 ∨ i = 1 ∨ i = 2 ∨ i = 3 ∨ i = 4 ∨ i = 5 ∨ i = 6 ∨ i = 7 by simp at hi; omega) with rfl | rfl | rfl | rfl | rfl | rfl | rfl | rfl <;> exact ⟨_, rfl, rfl, rfl⟩) h
  refine ⟨a, len, cap, (List.range len).map (fun i => ⟨F i 0, F i 1, F i 2, F i 3, F i 4, F i 5, F i 6, F i 7⟩), hcs, hm, by simp, fun hn => ?_⟩
  obtain ⟨b, off, ha, hc, hb⟩ := hF hn
  refine ⟨b, off, ha, fun j hj => ?_, hb⟩
  rw [clsCs_length, List.length_map, List.length_range] at hj
  have q := hc (j / 8) (j % 8) (by omega) (by omega)
  rw [show j / 8 * 8 + j % 8 = j by omega] at q
  have g := clsCs_get ((List.range len).map (fun i => (⟨F i 0, F i 1, F i 2, F i 3, F i 4, F i 5, F i 6, F i 7⟩ : Cls))) (j / 8) (j % 8) (by omega) (by simp; omega)
  rw [show j / 8 * 8 + j % 8 = j by omega] at g
  rw [q, g]
  have e : ((List.range len).map (fun i => (⟨F i 0, F i 1, F i 2, F i 3, F i 4, F i 5, F i 6, F i 7⟩ : Cls))).getD (j / 8) cls0 = ⟨F (j / 8) 0, F (j / 8) 1, F (j / 8) 2, F (j / 8) 3, F (j / 8) 4, F (j / 8) 5, F (j / 8) 6, F (j / 8) 7⟩ := by
    simp [List.getD_eq_getElem?_getD, show j / 8 < len by omega]
  rw [e]
  rcases (show j % 8 = 0 ∨ j % 8 = 1 ∨ j % 8 = 2 ∨ j % 8 = 3 ∨ j % 8 = 4 ∨ j % 8 = 5 ∨ j % 8 = 6 ∨ j % 8 = 7 by omega) with h | h | h | h | h | h | h | h <;> rw [h] <;> rfl
theorem open_flts {fuel : Nat} {cs : List Value} {x : DataW H × List MemPlace} (h : DataW.trod enc Tryd.prog w base spare held fuel 36 cs = some x) :
    ∃ (a : Option Addr) (len cap : Nat) (l : List Flt), cs = [.slice a len cap] ∧ len ≤ maxLen ∧ l.length = len ∧ ArgX w a len (fltCs l) := by
  obtain ⟨a, len, cap, F, hcs, hm, hF⟩ := open_rows (z := 5) Tryd.underlying36 (by kernel_rfl) rfl (by decide) Tryd.underlying30 (by
    intro i hi
    rcases (show i = 0 ∨ i = 1 ∨ i = 2 ∨ i = 3 ∨ i = 4 by simp at hi; omega) with rfl | rfl | rfl | rfl | rfl <;> exact ⟨_, rfl, rfl, rfl⟩) h
  refine ⟨a, len, cap, (List.range len).map (fun i => ⟨F i 0, F i 1, F i 2, F i 3, F i 4⟩), hcs, hm, by simp, fun hn => ?_⟩
  obtain ⟨b, off, ha, hc, hb⟩ := hF hn
  refine ⟨b, off, ha, fun j hj => ?_, hb⟩
  rw [fltCs_length, List.length_map, List.length_range] at hj
  have q := hc (j / 5) (j % 5) (by omega) (by omega)
  rw [show j / 5 * 5 + j % 5 = j by omega] at q
  have g := fltCs_get ((List.range len).map (fun i => (⟨F i 0, F i 1, F i 2, F i 3, F i 4⟩ : Flt))) (j / 5) (j % 5) (by omega) (by simp; omega)
  rw [show j / 5 * 5 + j % 5 = j by omega] at g
  rw [q, g]
  have e : ((List.range len).map (fun i => (⟨F i 0, F i 1, F i 2, F i 3, F i 4⟩ : Flt))).getD (j / 5) flt0 = ⟨F (j / 5) 0, F (j / 5) 1, F (j / 5) 2, F (j / 5) 3, F (j / 5) 4⟩ := by
    simp [List.getD_eq_getElem?_getD, show j / 5 < len by omega]
  rw [e]
  rcases (show j % 5 = 0 ∨ j % 5 = 1 ∨ j % 5 = 2 ∨ j % 5 = 3 ∨ j % 5 = 4 by omega) with h | h | h | h | h <;> rw [h] <;> rfl
/-- an argument that is a configuration -/
def ArgCfg (w : World) (v : Value) (c : Cfg) : Prop :=
  ∃ ac cc af cf, v = .agg #[.string c.s, .slice ac c.cs.length cc, .slice af c.fs.length cf, .int .i64 c.d] ∧ c.s.size ≤ maxLen ∧ c.cs.length ≤ maxLen ∧ c.fs.length ≤ maxLen ∧ ArgX w ac c.cs.length (clsCs c.cs) ∧ ArgX w af c.fs.length (fltCs c.fs)
theorem ArgCfg.below {w w' : World} {v : Value} {c : Cfg} (h : ArgCfg w v c) (hb : Below w.heap.size w w') : ArgCfg w' v c := by
  obtain ⟨ac, cc, af, cf, hv, m0, m1, m2, hc, hf⟩ := h
  exact ⟨ac, cc, af, cf, hv, m0, m1, m2, hc.below hb, hf.below hb⟩
theorem open_cfg {r : Reach} {b0 : Nat} {v : Value} {d : DataW H} {p : List MemPlace} (hv : Value.okWide Tryd.prog w r b0 38 v) (h : DataW.Trod enc Tryd.prog w base spare held 38 v d p) : ∃ c, ArgCfg w v c := by
  obtain ⟨v0, v1, v2, v3, y0, y1, y2, y3, n, rfl, _, _, h0, h1, h2, h3⟩ := open_agg4 Tryd.underlying38 (by kernel_rfl) (by kernel_rfl) hv h
  obtain ⟨s, e0, _, w0⟩ := DataW.trod_string Tryd.underlying9 h0
  obtain ⟨a1, n1, c1, cs, e1, m1, l1, i1⟩ := open_clss h1
  obtain ⟨a2, n2, c2, fs, e2, m2, l2, i2⟩ := open_flts h2
  obtain ⟨x, e3, _, _⟩ := DataW.trod_int Tryd.underlying3 h3
  obtain rfl := (List.cons.inj e0).1
  obtain rfl := (List.cons.inj e1).1
  obtain rfl := (List.cons.inj e2).1
  obtain rfl := (List.cons.inj e3).1
  subst l1 l2
  exact ⟨⟨s, cs, fs, x⟩, a1, c1, a2, c2, rfl, w0, m1, m2, i1, i2⟩
theorem array8 {α : Type} {cs : Array α} (h : cs.size = 8) : ∃ c0 c1 c2 c3 c4 c5 c6 c7, cs = #[c0, c1, c2, c3, c4, c5, c6, c7] := by
  obtain ⟨l⟩ := cs
  match l, h with
  | [c0, c1, c2, c3, c4, c5, c6, c7], _ => exact ⟨c0, c1, c2, c3, c4, c5, c6, c7, rfl⟩
theorem open_cls {r : Reach} {b0 : Nat} {v : Value} {d : DataW H} {p : List MemPlace} (hv : Value.okWide Tryd.prog w r b0 23 v) (h : DataW.Trod enc Tryd.prog w base spare held 23 v d p) : ∃ x : Cls, v = clsV x := by
  obtain ⟨cs, rfl, hsz⟩ := okWide_struct Tryd.underlying23 hv
  obtain ⟨c0, c1, c2, c3, c4, c5, c6, c7, rfl⟩ := array8 (hsz.trans (show Tryd.prog.cellsOf 23 = 8 by kernel_rfl))
  obtain ⟨fuel, hf⟩ := h
  obtain ⟨f, hfj⟩ := open_ints_struct Tryd.underlying23 (by
    intro i hi
    rcases (show i = 0 ∨ i = 1 ∨ i = 2 ∨ i = 3 ∨ i = 4 ∨ i = 5 ∨ i = 6 ∨ i = 7 by simp at hi; omega) with rfl | rfl | rfl | rfl | rfl | rfl | rfl | rfl <;> exact ⟨_, rfl, rfl, rfl⟩) hf
  have q := fun j (hj : j < 8) => hfj j hj
  refine ⟨⟨f 0, f 1, f 2, f 3, f 4, f 5, f 6, f 7⟩, ?_⟩
  have q0 := Option.some.inj (q 0 (by decide))
  have q1 := Option.some.inj (q 1 (by decide))
  have q2 := Option.some.inj (q 2 (by decide))
  have q3 := Option.some.inj (q 3 (by decide))
  have q4 := Option.some.inj (q 4 (by decide))
  have q5 := Option.some.inj (q 5 (by decide))
  have q6 := Option.some.inj (q 6 (by decide))
  have q7 := Option.some.inj (q 7 (by decide))
  rw [q0, q1, q2, q3, q4, q5, q6, q7]
  rfl
end
end Go.Proofs.YtkpocljlmbihcaaDoor

/- What the laws do with configurations: measured, made of arguments, compared. -/
namespace Go.Proofs.YtkpocljlmbihcaaDoor
set_option maxRecDepth 100000
open Go.RowKit
set_option linter.unusedVariables false

def CfgM (c : Cfg) : Prop := c.s.size ≤ 1048576 ∧ c.cs.length ≤ 1048576 ∧ c.fs.length ≤ 1048576
theorem szClassS_any (a : Option Addr) (n c : Nat) (r : Int) (w : World) (hn : n ≤ 9223372036854775807) (h0 : 0 ≤ r) (h1 : r ≤ 1048576) :
    Calls Tryd.prog 30 #[.slice a n c, .int .i64 r] w (SaysI w (lessN r n)) := by
  by_cases h : r - (n : Int) < 0
  · have d := is_lt h
    have e : lessN r n = -1 := if_pos h
    rw [e]
    clear e h
    go_enter Tryd.func30, Tryd.ntmps30
    go_wp2
    go_ret
    exact ⟨rfl, Below.refl _ _⟩
  · have d := not_lt (Int.not_lt.1 h)
    have e : lessN r n = r - n := if_neg h
    rw [e]
    clear e h
    go_enter Tryd.func30, Tryd.ntmps30
    go_wp2
    go_ret
    exact ⟨rfl, Below.refl _ _⟩
theorem szFilterS_any (a : Option Addr) (n c : Nat) (r : Int) (w : World) (hn : n ≤ 9223372036854775807) (h0 : 0 ≤ r) (h1 : r ≤ 1048576) :
    Calls Tryd.prog 31 #[.slice a n c, .int .i64 r] w (SaysI w (lessN r n)) := by
  by_cases h : r - (n : Int) < 0
  · have d := is_lt h
    have e : lessN r n = -1 := if_pos h
    rw [e]
    clear e h
    go_enter Tryd.func31, Tryd.ntmps31
    go_wp2
    go_ret
    exact ⟨rfl, Below.refl _ _⟩
  · have d := not_lt (Int.not_lt.1 h)
    have e : lessN r n = r - n := if_neg h
    rw [e]
    clear e h
    go_enter Tryd.func31, Tryd.ntmps31
    go_wp2
    go_ret
    exact ⟨rfl, Below.refl _ _⟩
def SaysZC (w : World) (c : Cfg) (e : Ending) (w' : World) : Prop := ∃ r : Int, e = .returned (.int .i64 r) ∧ Below w.heap.size w w' ∧ (0 ≤ r → CfgM c)
set_option maxHeartbeats 1600000 in
theorem szConfig_any (v : Value) (c : Cfg) (w : World) (HA : Hid (ArgCfg w v c)) :
    Calls Tryd.prog 12 #[v, .int .i64 1048576] w (SaysZC w c) := by
  obtain ⟨ac, cc, af, cf, rfl, m0, m1, m2, _, _⟩ := HA.out
  obtain ⟨s, cs, fs, d⟩ := c
  obtain ⟨n, hn⟩ : ∃ n, cs.length = n := ⟨_, rfl⟩
  obtain ⟨m, hm⟩ : ∃ m, fs.length = m := ⟨_, rfl⟩
  have HN := Lib.hid hn
  have HM := Lib.hid hm
  simp only [hn, hm] at m1 m2 ⊢
  unfold maxLen at m0 m1 m2
  simp only at m0
  clear HA hn hm
  by_cases h : (1048576 : Int) - s.size < 0
  · have d := is_lt h
    clear h
    go_enter Tryd.func12, Tryd.ntmps12
    go_wp2_with fail
    go_ret
    exact ⟨-1, rfl, one_new2 _ _, fun h => absurd h (by omega)⟩
  · have d0 := not_lt (Int.not_lt.1 h)
    have hs : 0 ≤ (1048576 : Int) - s.size := by omega
    have hs1 : (1048576 : Int) - s.size ≤ 1048576 := by omega
    have HZ := Lib.hid (fun w => szClassS_any ac n cc ((1048576 : Int) - s.size) w (by omega) hs hs1)
    clear h
    by_cases h : (1048576 : Int) - s.size - (n : Int) < 0
    · rw [lessN_neg h] at HZ
      clear h
      go_enter Tryd.func12, Tryd.ntmps12
      go_wp2_with (go_at_call 30; refine (HZ.out _).mono ?_; rintro e w1 ⟨rfl, b1⟩; have B1 := Lib.hid ((one_new2 _ _).trans (b1.mono (by simp))); clear b1)
      go_ret
      exact ⟨-1, rfl, B1.out, fun h => absurd h (by omega)⟩
    · rw [lessN_pos h] at HZ
      have d1 := not_lt (Int.not_lt.1 h)
      have hr : 0 ≤ (1048576 : Int) - s.size - n := by omega
      have hr1 : (1048576 : Int) - s.size - n ≤ 1048576 := by omega
      have HY := Lib.hid (fun w => szFilterS_any af m cf ((1048576 : Int) - s.size - n) w (by omega) hr hr1)
      clear h
      by_cases h : (1048576 : Int) - s.size - (n : Int) - (m : Int) < 0
      · rw [lessN_neg h] at HY
        clear h
        go_enter Tryd.func12, Tryd.ntmps12
        go_wp2_with (go_at_call 30; refine (HZ.out _).mono ?_; rintro e w1 ⟨rfl, b1⟩; have B1 := Lib.hid (box_four b1).2; obtain ⟨c0, c1, c2, c3, cl⟩ := (box_four b1).1; clear b1 cl)
        go_wp2_with (go_at_call 31; refine (HY.out _).mono ?_; rintro e w2 ⟨rfl, b2⟩; have B2 := Lib.hid (B1.out.trans (b2.mono B1.out.size)); clear b2 c0 c1 c2 c3)
        go_ret
        exact ⟨-1, rfl, B2.out, fun h => absurd h (by omega)⟩
      · rw [lessN_pos h] at HY
        have d2 := not_lt (Int.not_lt.1 h)
        have HF : Hid (CfgM ⟨s, cs, fs, d⟩) := Lib.hid ⟨by show s.size ≤ 1048576; omega, by show cs.length ≤ 1048576; rw [HN.out]; omega, by show fs.length ≤ 1048576; rw [HM.out]; omega⟩
        clear h
        go_enter Tryd.func12, Tryd.ntmps12
        go_wp2_with (go_at_call 30; refine (HZ.out _).mono ?_; rintro e w1 ⟨rfl, b1⟩; have B1 := Lib.hid (box_four b1).2; obtain ⟨c0, c1, c2, c3, cl⟩ := (box_four b1).1; clear b1 cl)
        go_wp2_with (go_at_call 31; refine (HY.out _).mono ?_; rintro e w2 ⟨rfl, b2⟩; have B2 := Lib.hid (B1.out.trans (b2.mono B1.out.size)); clear b2 c0 c1 c2 c3)
        go_ret
        exact ⟨_, rfl, B2.out, fun _ => HF.out⟩
end Go.Proofs.YtkpocljlmbihcaaDoor

/- Lists of classes and of filters made of arguments; configurations made. -/
namespace Go.Proofs.YtkpocljlmbihcaaDoor
set_option maxRecDepth 100000
open Go.RowKit
set_option linter.unusedVariables false

theorem infoCls : (Tryd.prog.info? 26).map (fun i => (i.zero, i.size, i.bytes)) = some (some (.agg #[.int .i64 0, .int .i64 0, .int .i64 0, .int .i64 0, .int .i64 0, .int .i64 0, .int .i64 0, .int .i64 0]), 8, 64) := by kernel_rfl
theorem infoFlt : (Tryd.prog.info? 32).map (fun i => (i.zero, i.size, i.bytes)) = some (some (.agg #[.int .i64 0, .int .i64 0, .int .i64 0, .int .i64 0, .int .i64 0]), 5, 40) := by kernel_rfl
theorem set_cls {n : Nat} {w w1 : World} (h : Below n w w1) (b : Nat) (hb : n ≤ b) (j0 j1 j2 j3 j4 j5 j6 j7 : Nat) (v0 v1 v2 v3 v4 v5 v6 v7 : Value) : Below n w ((((((((w1.setCell ⟨b, j0, none⟩ v0).setCell ⟨b, j1, none⟩ v1).setCell ⟨b, j2, none⟩ v2).setCell ⟨b, j3, none⟩ v3).setCell ⟨b, j4, none⟩ v4).setCell ⟨b, j5, none⟩ v5).setCell ⟨b, j6, none⟩ v6).setCell ⟨b, j7, none⟩ v7) := (((((((h.setCell hb _).setCell hb _).setCell hb _).setCell hb _).setCell hb _).setCell hb _).setCell hb _).setCell hb _
theorem got_cls {l : List Cls} {xs : List Value} {k n : Nat} (h : GotX (clsCs l) xs (k * 8)) (hl : xs.length = n * 8) (hk : k < n) (hn : l.length = n) (x : Cls) (hx : l.getD k cls0 = x) :
    GotX (clsCs l) ((((((((xs.set (k * 8) (.int .i64 x.i)).set (k * 8 + 1) (.int .i64 x.p)).set (k * 8 + 2) (.int .i64 x.r)).set (k * 8 + 3) (.int .i64 x.e)).set (k * 8 + 4) (.int .i64 x.b)).set (k * 8 + 5) (.int .i64 x.u)).set (k * 8 + 6) (.int .i64 x.o)).set (k * 8 + 7) (.int .i64 x.l)) ((k + 1) * 8) := by
  intro m hm
  by_cases hmk : m < k * 8
  · rw [List.getElem?_set_ne (by omega), List.getElem?_set_ne (by omega), List.getElem?_set_ne (by omega), List.getElem?_set_ne (by omega), List.getElem?_set_ne (by omega), List.getElem?_set_ne (by omega), List.getElem?_set_ne (by omega), List.getElem?_set_ne (by omega)]
    exact h m hmk
  · obtain ⟨j, hj, hm2⟩ : ∃ j, j < 8 ∧ m = k * 8 + j := ⟨m - k * 8, by omega, by omega⟩
    have q := clsCs_get l k j hj (by omega)
    rw [← hm2, hx] at q
    rw [q]
    match j, hj with
    | 0, _ => rw [hm2]; simp [List.getElem?_set, clsC]; omega
    | 1, _ => rw [hm2]; simp [List.getElem?_set, clsC]; omega
    | 2, _ => rw [hm2]; simp [List.getElem?_set, clsC]; omega
    | 3, _ => rw [hm2]; simp [List.getElem?_set, clsC]; omega
    | 4, _ => rw [hm2]; simp [List.getElem?_set, clsC]; omega
    | 5, _ => rw [hm2]; simp [List.getElem?_set, clsC]; omega
    | 6, _ => rw [hm2]; simp [List.getElem?_set, clsC]; omega
    | 7, _ => rw [hm2]; simp [List.getElem?_set, clsC]; omega
set_option maxHeartbeats 1600000 in
theorem toClass_any (x : Cls) (w : World) :
    Calls Tryd.prog 7 #[clsV x] w (SaysV w (clsV x)) := by
  obtain ⟨xi, xp, xr, xe, xb, xu, xo, xl⟩ := x
  unfold clsV
  simp only
  go_enter Tryd.func7, Tryd.ntmps7
  go_wp2
  exact bodyPost_ret (v := .agg #[.int .i64 xi, .int .i64 xp, .int .i64 xr, .int .i64 xe, .int .i64 xb, .int .i64 xu, .int .i64 xo, .int .i64 xl]) (by simp [results, Tryd.results7, go_sem]) rfl ⟨rfl, (two_new _ _ _).alloc (by simp; omega) _⟩
def clsRel (w : World) (l : List Cls) (n : Nat) (i : Value) (wr : World) : Prop :=
  ∃ (k : Nat) (xs : List Value), k ≤ n ∧ i = .int .i64 k ∧ wr.ownsRow w.heap.size 26 8 (.slice (some ⟨w.heap.size, 0, none⟩) n n) n xs ∧ Below w.heap.size w wr ∧ GotX (clsCs l) xs (k * 8)
def SaysClassS (w : World) (l : List Cls) (e : Ending) (w' : World) : Prop := e = .returned (.slice (some ⟨w.heap.size, 0, none⟩) l.length l.length) ∧ Below w.heap.size w w' ∧ w'.ownsRow w.heap.size 26 8 (.slice (some ⟨w.heap.size, 0, none⟩) l.length l.length) l.length (clsCs l)
set_option maxHeartbeats 6400000 in
theorem toClassS_any (ad : Option Addr) (n c : Nat) (l : List Cls) (w : World) (HI : Hid (ArgX w ad n (clsCs l))) (hn : Hid (l.length = n)) (hm : n ≤ 1048576) :
    Calls Tryd.prog 38 #[.slice ad n c] w (SaysClassS w l) := by
  obtain ⟨i0, hi, hz0, hz1, hz2⟩ := info_parts infoCls
  have H0 : GotX (clsCs l) (madeCells (Value.agg #[.int .i64 0, .int .i64 0, .int .i64 0, .int .i64 0, .int .i64 0, .int .i64 0, .int .i64 0, .int .i64 0]).cells (n * 8)).toList (0 * 8) := fun j hj => absurd hj (by omega)
  have HG0 := Lib.hid H0
  clear H0
  go_enter Tryd.func38, Tryd.ntmps38
  go_wp2_with (at_make; refine wpList_make_full _ rfl _ _ 41 rfl w.heap.size 26 i0 (.agg #[.int .i64 0, .int .i64 0, .int .i64 0, .int .i64 0, .int .i64 0, .int .i64 0, .int .i64 0, .int .i64 0]) 8 Tryd.underlying41 hi hz0 hz1 .i64 .i64 _ _ n rfl rfl (by omega) (by omega) (by rw [hz2]; omega) (by unfold maxLen; omega) (Nat.le_refl _) ?_; intro w0 hown0 hgrow0; have HO := Lib.hid hown0; clear hown0)
  go_loopw [4] (fun i wr => clsRel w l n i wr) (fun i _ => n - (intOf i).toNat)
  case atStart => exact ⟨0, _, Nat.zero_le _, rfl, HO.out, (Below.refl _ _).grown hgrow0 (Nat.le_refl _) (by intro k h; cases h), HG0.out⟩
  case round =>
    obtain ⟨k, xs, hk, rfl, ho, hb, hg⟩ := hrel
    have HO1 := Lib.hid ho
    have HB1 := Lib.hid hb
    have HG := Lib.hid hg
    clear hg hgrow0
    by_cases hlt : k < n
    · obtain ⟨b, off, rfl, HR, hbw⟩ := HI.out (by omega)
      obtain ⟨x, hx⟩ : ∃ x, l.getD k cls0 = x := ⟨_, rfl⟩
      have hl1 : k < l.length := by rw [hn.out]; exact hlt
      obtain ⟨a0, a1, a2, a3, a4, a5, a6, a7⟩ := (HR.below hb hbw).cls k hl1 x hx
      have HX := Lib.hid (got_cls HG.out ho.1 hlt hn.out x hx)
      have hgl := (World.ownsRow.lt ho _ rfl).2
      have HS : Hid (∀ w, Calls Tryd.prog 7 #[clsV x] w (SaysV w (clsV x))) := Lib.hid (fun w => toClass_any x w)
      obtain ⟨xi, xp, xr, xe, xb, xu, xo, xl⟩ := x
      unfold clsV at HS
      simp only at HS a0 a1 a2 a3 a4 a5 a6 a7
      clear hb hx hl1 ho HR
      go_wp2_with (go_at_call 7; refine (HS.out _).mono ?_; rintro e w1 ⟨rfl, b1⟩; have B1 := Lib.hid b1; have O1 := Lib.hid (own_low HO1.out b1 (Nat.le_refl _)); obtain ⟨u0, c0⟩ := own_cell O1.out (k * 8) (by omega); obtain ⟨u1, c1⟩ := own_cell O1.out (k * 8 + 1) (by omega); obtain ⟨u2, c2⟩ := own_cell O1.out (k * 8 + 2) (by omega); obtain ⟨u3, c3⟩ := own_cell O1.out (k * 8 + 3) (by omega); obtain ⟨u4, c4⟩ := own_cell O1.out (k * 8 + 4) (by omega); obtain ⟨u5, c5⟩ := own_cell O1.out (k * 8 + 5) (by omega); obtain ⟨u6, c6⟩ := own_cell O1.out (k * 8 + 6) (by omega); obtain ⟨u7, c7⟩ := own_cell O1.out (k * 8 + 7) (by omega); have f0 := World.ownsRow.frozenAt O1.out (k * 8); have f1 := World.ownsRow.frozenAt O1.out (k * 8 + 1); have f2 := World.ownsRow.frozenAt O1.out (k * 8 + 2); have f3 := World.ownsRow.frozenAt O1.out (k * 8 + 3); have f4 := World.ownsRow.frozenAt O1.out (k * 8 + 4); have f5 := World.ownsRow.frozenAt O1.out (k * 8 + 5); have f6 := World.ownsRow.frozenAt O1.out (k * 8 + 6); have f7 := World.ownsRow.frozenAt O1.out (k * 8 + 7); clear b1)
      go_roundw
      case rel => exact ⟨k + 1, _, by omega, by go_num, (own_store (own_store (own_store (own_store (own_store (own_store (own_store (own_store O1.out _ _) _ _) _ _) _ _) _ _) _ _) _ _) _ _), set_cls (HB1.out.trans (B1.out.mono HB1.out.size)) _ (Nat.le_refl _) _ _ _ _ _ _ _ _ _ _ _ _ _ _ _ _, HX.out⟩
      case measure => simp [intOf]; omega
    · have hkn : k = n := by omega
      subst hkn
      clear hb
      go_wp2_with fail
      go_ret
      have e := got_all (ys := clsCs l) (xs := xs) (by rw [clsCs_length, hn.out]; exact HG.out) (by rw [clsCs_length, hn.out]; exact ho.1)
      subst e
      exact ⟨by rw [hn.out]; rfl, HB1.out, by rw [hn.out]; exact HO1.out⟩
theorem set_flt {n : Nat} {w w1 : World} (h : Below n w w1) (b : Nat) (hb : n ≤ b) (j0 j1 j2 j3 j4 : Nat) (v0 v1 v2 v3 v4 : Value) : Below n w (((((w1.setCell ⟨b, j0, none⟩ v0).setCell ⟨b, j1, none⟩ v1).setCell ⟨b, j2, none⟩ v2).setCell ⟨b, j3, none⟩ v3).setCell ⟨b, j4, none⟩ v4) := ((((h.setCell hb _).setCell hb _).setCell hb _).setCell hb _).setCell hb _
theorem got_flt {l : List Flt} {xs : List Value} {k n : Nat} (h : GotX (fltCs l) xs (k * 5)) (hl : xs.length = n * 5) (hk : k < n) (hn : l.length = n) (x : Flt) (hx : l.getD k flt0 = x) :
    GotX (fltCs l) (((((xs.set (k * 5) (.int .i64 x.o)).set (k * 5 + 1) (.int .i64 x.f)).set (k * 5 + 2) (.int .i64 x.m)).set (k * 5 + 3) (.int .i64 x.v)).set (k * 5 + 4) (.int .i64 x.t)) ((k + 1) * 5) := by
  intro m hm
  by_cases hmk : m < k * 5
  · rw [List.getElem?_set_ne (by omega), List.getElem?_set_ne (by omega), List.getElem?_set_ne (by omega), List.getElem?_set_ne (by omega), List.getElem?_set_ne (by omega)]
    exact h m hmk
  · obtain ⟨j, hj, hm2⟩ : ∃ j, j < 5 ∧ m = k * 5 + j := ⟨m - k * 5, by omega, by omega⟩
    have q := fltCs_get l k j hj (by omega)
    rw [← hm2, hx] at q
    rw [q]
    match j, hj with
    | 0, _ => rw [hm2]; simp [List.getElem?_set, fltC]; omega
    | 1, _ => rw [hm2]; simp [List.getElem?_set, fltC]; omega
    | 2, _ => rw [hm2]; simp [List.getElem?_set, fltC]; omega
    | 3, _ => rw [hm2]; simp [List.getElem?_set, fltC]; omega
    | 4, _ => rw [hm2]; simp [List.getElem?_set, fltC]; omega
set_option maxHeartbeats 1600000 in
theorem toFilter_any (x : Flt) (w : World) :
    Calls Tryd.prog 10 #[fltV x] w (SaysV w (fltV x)) := by
  obtain ⟨xo, xf, xm, xv, xt⟩ := x
  unfold fltV
  simp only
  go_enter Tryd.func10, Tryd.ntmps10
  go_wp2
  exact bodyPost_ret (v := .agg #[.int .i64 xo, .int .i64 xf, .int .i64 xm, .int .i64 xv, .int .i64 xt]) (by simp [results, Tryd.results10, go_sem]) rfl ⟨rfl, (two_new _ _ _).alloc (by simp; omega) _⟩
def fltRel (w : World) (l : List Flt) (n : Nat) (i : Value) (wr : World) : Prop :=
  ∃ (k : Nat) (xs : List Value), k ≤ n ∧ i = .int .i64 k ∧ wr.ownsRow w.heap.size 32 5 (.slice (some ⟨w.heap.size, 0, none⟩) n n) n xs ∧ Below w.heap.size w wr ∧ GotX (fltCs l) xs (k * 5)
def SaysFilterS (w : World) (l : List Flt) (e : Ending) (w' : World) : Prop := e = .returned (.slice (some ⟨w.heap.size, 0, none⟩) l.length l.length) ∧ Below w.heap.size w w' ∧ w'.ownsRow w.heap.size 32 5 (.slice (some ⟨w.heap.size, 0, none⟩) l.length l.length) l.length (fltCs l)
set_option maxHeartbeats 6400000 in
theorem toFilterS_any (ad : Option Addr) (n c : Nat) (l : List Flt) (w : World) (HI : Hid (ArgX w ad n (fltCs l))) (hn : Hid (l.length = n)) (hm : n ≤ 1048576) :
    Calls Tryd.prog 39 #[.slice ad n c] w (SaysFilterS w l) := by
  obtain ⟨i0, hi, hz0, hz1, hz2⟩ := info_parts infoFlt
  have H0 : GotX (fltCs l) (madeCells (Value.agg #[.int .i64 0, .int .i64 0, .int .i64 0, .int .i64 0, .int .i64 0]).cells (n * 5)).toList (0 * 5) := fun j hj => absurd hj (by omega)
  have HG0 := Lib.hid H0
  clear H0
  go_enter Tryd.func39, Tryd.ntmps39
  go_wp2_with (at_make; refine wpList_make_full _ rfl _ _ 42 rfl w.heap.size 32 i0 (.agg #[.int .i64 0, .int .i64 0, .int .i64 0, .int .i64 0, .int .i64 0]) 5 Tryd.underlying42 hi hz0 hz1 .i64 .i64 _ _ n rfl rfl (by omega) (by omega) (by rw [hz2]; omega) (by unfold maxLen; omega) (Nat.le_refl _) ?_; intro w0 hown0 hgrow0; have HO := Lib.hid hown0; clear hown0)
  go_loopw [4] (fun i wr => fltRel w l n i wr) (fun i _ => n - (intOf i).toNat)
  case atStart => exact ⟨0, _, Nat.zero_le _, rfl, HO.out, (Below.refl _ _).grown hgrow0 (Nat.le_refl _) (by intro k h; cases h), HG0.out⟩
  case round =>
    obtain ⟨k, xs, hk, rfl, ho, hb, hg⟩ := hrel
    have HO1 := Lib.hid ho
    have HB1 := Lib.hid hb
    have HG := Lib.hid hg
    clear hg hgrow0
    by_cases hlt : k < n
    · obtain ⟨b, off, rfl, HR, hbw⟩ := HI.out (by omega)
      obtain ⟨x, hx⟩ : ∃ x, l.getD k flt0 = x := ⟨_, rfl⟩
      have hl1 : k < l.length := by rw [hn.out]; exact hlt
      obtain ⟨a0, a1, a2, a3, a4⟩ := (HR.below hb hbw).flt k hl1 x hx
      have HX := Lib.hid (got_flt HG.out ho.1 hlt hn.out x hx)
      have hgl := (World.ownsRow.lt ho _ rfl).2
      have HS : Hid (∀ w, Calls Tryd.prog 10 #[fltV x] w (SaysV w (fltV x))) := Lib.hid (fun w => toFilter_any x w)
      obtain ⟨xo, xf, xm, xv, xt⟩ := x
      unfold fltV at HS
      simp only at HS a0 a1 a2 a3 a4
      clear hb hx hl1 ho HR
      go_wp2_with (go_at_call 10; refine (HS.out _).mono ?_; rintro e w1 ⟨rfl, b1⟩; have B1 := Lib.hid b1; have O1 := Lib.hid (own_low HO1.out b1 (Nat.le_refl _)); obtain ⟨u0, c0⟩ := own_cell O1.out (k * 5) (by omega); obtain ⟨u1, c1⟩ := own_cell O1.out (k * 5 + 1) (by omega); obtain ⟨u2, c2⟩ := own_cell O1.out (k * 5 + 2) (by omega); obtain ⟨u3, c3⟩ := own_cell O1.out (k * 5 + 3) (by omega); obtain ⟨u4, c4⟩ := own_cell O1.out (k * 5 + 4) (by omega); have f0 := World.ownsRow.frozenAt O1.out (k * 5); have f1 := World.ownsRow.frozenAt O1.out (k * 5 + 1); have f2 := World.ownsRow.frozenAt O1.out (k * 5 + 2); have f3 := World.ownsRow.frozenAt O1.out (k * 5 + 3); have f4 := World.ownsRow.frozenAt O1.out (k * 5 + 4); clear b1)
      go_roundw
      case rel => exact ⟨k + 1, _, by omega, by go_num, (own_store (own_store (own_store (own_store (own_store O1.out _ _) _ _) _ _) _ _) _ _), set_flt (HB1.out.trans (B1.out.mono HB1.out.size)) _ (Nat.le_refl _) _ _ _ _ _ _ _ _ _ _, HX.out⟩
      case measure => simp [intOf]; omega
    · have hkn : k = n := by omega
      subst hkn
      clear hb
      go_wp2_with fail
      go_ret
      have e := got_all (ys := fltCs l) (xs := xs) (by rw [fltCs_length, hn.out]; exact HG.out) (by rw [fltCs_length, hn.out]; exact ho.1)
      subst e
      exact ⟨by rw [hn.out]; rfl, HB1.out, by rw [hn.out]; exact HO1.out⟩
/-- a configuration of the call's own -/
def OwnCfg (w : World) (B : Nat) (v : Value) (c : Cfg) : Prop :=
  ∃ vc vf, v = .agg #[.string c.s, vc, vf, .int .i64 c.d] ∧ w.ownsRow B 26 8 vc c.cs.length (clsCs c.cs) ∧ w.ownsRow B 32 5 vf c.fs.length (fltCs c.fs) ∧ ∀ g, vc.ownBlock = some g → vf.ownBlock ≠ some g
theorem OwnCfg.cfg {w : World} {B : Nat} {v : Value} {c : Cfg} (h : OwnCfg w B v c) : CfgV w v c := by
  obtain ⟨vc, vf, hv, h1, h2, _⟩ := h
  obtain ⟨ac, cc, e1, i1⟩ := own_in h1
  obtain ⟨af, cf, e2, i2⟩ := own_in h2
  exact ⟨ac, cc, af, cf, by rw [hv, e1, e2], i1, i2⟩
theorem OwnCfg.low {w w' : World} {B B' : Nat} {v : Value} {c : Cfg} (h : OwnCfg w B v c) (hb : Below B' w w') (hB : w.heap.size ≤ B') : OwnCfg w' B v c := by
  obtain ⟨vc, vf, hv, h1, h2, h3⟩ := h
  exact ⟨vc, vf, hv, own_low h1 hb hB, own_low h2 hb hB, h3⟩
def SaysCfgN (w : World) (c : Cfg) (e : Ending) (w' : World) : Prop := ∃ v, e = .returned v ∧ OwnCfg w' w.heap.size v c ∧ Below w.heap.size w w'
end Go.Proofs.YtkpocljlmbihcaaDoor
