import Derived.Test.YthgbhnedfdnfpaaDoorPkh
import Derived.Test.YthgbhnedfdnfpaaDoorPkf
import Derived.Lib.SmallJoins
import Derived.Deep.Slices
import Derived.Test.YthgbhnedfdnfpaaDoorPkb
import Derived.Deep.OwnRows
/- The program's small functions over classes. -/
namespace Go.Proofs.YthgbhnedfdnfpaaDoor
set_option maxRecDepth 100000
open Go.RowKit
set_option linter.unusedVariables false

theorem isTop_any (x : Cls) (w : World) : Calls Tryd.prog 22 #[clsV x] w (SaysB w (x.p == 0)) := by
  obtain ⟨b, hb⟩ : ∃ b, (x.p == 0) = b := ⟨_, rfl⟩
  rw [hb]
  obtain ⟨xi, xp, xr, xe, xb, xu, xo, xl⟩ := x
  unfold clsV
  simp only at hb ⊢
  go_enter Tryd.func22, Tryd.ntmps22
  go_wp2
  go_ret
  exact ⟨ret_bool rfl, one_new2 _ _⟩
set_option maxHeartbeats 1600000 in
theorem hasRates_any (x : Cls) (w : World) : Calls Tryd.prog 64 #[clsV x] w (SaysB w (rateOk x)) := by
  have HX : Hid (rateOk x = (inB x.r 1 100000 && (inB x.e x.r 100000 && (inB x.b 1500 1000000 && (inB x.u 1500 1000000 && inB x.o 0 7))))) := Lib.hid rfl
  have H2 := Lib.hid (fun w => isIn_any x.r 1 100000 w)
  have H3 := Lib.hid (fun w => isIn_any x.e x.r 100000 w)
  have H4 := Lib.hid (fun w => isIn_any x.b 1500 1000000 w)
  have H5 := Lib.hid (fun w => isIn_any x.u 1500 1000000 w)
  have H6 := Lib.hid (fun w => isIn_any x.o 0 7 w)
  generalize inB x.r 1 100000 = b2 at HX H2
  generalize inB x.e x.r 100000 = b3 at HX H3
  generalize inB x.b 1500 1000000 = b4 at HX H4
  generalize inB x.u 1500 1000000 = b5 at HX H5
  generalize inB x.o 0 7 = b6 at HX H6
  generalize rateOk x = B at HX ⊢
  obtain ⟨xi, xp, xr, xe, xb, xu, xo, xl⟩ := x
  unfold clsV
  simp only at H2 H3 H4 H5 H6 ⊢
  go_enter Tryd.func64, Tryd.ntmps64
  go_wp2_with (first | (go_at_call 66; (with_reducible refine (H2.out _).mono ?_); rintro e w' ⟨rfl, rfl⟩) | (go_at_call 66; (with_reducible refine (H3.out _).mono ?_); rintro e w' ⟨rfl, rfl⟩) | (go_at_call 66; (with_reducible refine (H4.out _).mono ?_); rintro e w' ⟨rfl, rfl⟩) | (go_at_call 66; (with_reducible refine (H5.out _).mono ?_); rintro e w' ⟨rfl, rfl⟩) | (go_at_call 66; (with_reducible refine (H6.out _).mono ?_); rintro e w' ⟨rfl, rfl⟩))
  all_goals
    go_ret
    exact ⟨ret_bool (by rw [HX.out]; simp_all), one_new2 _ _⟩
set_option maxHeartbeats 1600000 in
theorem isPattern_any (x : Flt) (w : World) : Calls Tryd.prog 67 #[fltV x] w (SaysB w (patOk x)) := by
  obtain ⟨b7, d7⟩ : ∃ b, (bits .andNot .i64 x.v x.m == 0) = b := ⟨_, rfl⟩
  have HX : Hid (patOk x = (inB x.f 0 3 && (inB x.m 0 65535 && (inB x.v 0 65535 && b7)))) := Lib.hid (by
    unfold patOk
    cases hm : inB x.m 0 65535
    · rfl
    cases hv : inB x.v 0 65535
    · rfl
    rw [← d7, andNot_bits (inBR_iff.1 hv) (inBR_iff.1 hm)])
  have H2 := Lib.hid (fun w => isIn_any x.f 0 3 w)
  have H3 := Lib.hid (fun w => isIn_any x.m 0 65535 w)
  have H4 := Lib.hid (fun w => isIn_any x.v 0 65535 w)
  generalize inB x.f 0 3 = b2 at HX H2
  generalize inB x.m 0 65535 = b3 at HX H3
  generalize inB x.v 0 65535 = b4 at HX H4
  generalize patOk x = B at HX ⊢
  obtain ⟨xo, xf, xm, xv, xt⟩ := x
  unfold fltV
  simp only at d7 H2 H3 H4 ⊢
  go_enter Tryd.func67, Tryd.ntmps67
  go_wp2_with (first | (go_at_call 66; (with_reducible refine (H2.out _).mono ?_); rintro e w' ⟨rfl, rfl⟩) | (go_at_call 66; (with_reducible refine (H3.out _).mono ?_); rintro e w' ⟨rfl, rfl⟩) | (go_at_call 66; (with_reducible refine (H4.out _).mono ?_); rintro e w' ⟨rfl, rfl⟩))
  all_goals
    go_ret
    exact ⟨ret_bool (by rw [HX.out]; simp_all), one_new2 _ _⟩
theorem placeCmp_any (x : Cls) (id : Int) (w : World) : Calls Tryd.prog 40 #[clsV x, .int .i64 id] w (SaysI w (cmpI x.i id)) := by
  have HC := Lib.hid (fun w => cmpInt_any x.i id w)
  obtain ⟨r, hr⟩ : ∃ r, cmpI x.i id = r := ⟨_, rfl⟩
  rw [hr] at HC ⊢
  clear hr
  obtain ⟨xi, xp, xr, xe, xb, xu, xo, xl⟩ := x
  unfold clsV
  simp only at HC ⊢
  go_enter Tryd.func40, Tryd.ntmps40
  go_wp2_with (go_at_call 41; refine (HC.out _).mono ?_; rintro e w' ⟨rfl, rfl⟩)
  go_ret
  exact ⟨rfl, one_new2 _ _⟩
/-- an index and whether there is a class -/
def SaysP (w : World) (k : Nat) (b : Bool) (e : Ending) (w' : World) : Prop := e = .returned (.tuple #[.int .i64 (k : Int), .bool b]) ∧ Below w.heap.size w w'
def BsRel (w : World) (n : Nat) (cs : List Cls) (id : Int) (i j : Value) (wr : World) : Prop := ∃ a b : Nat, a ≤ b ∧ b ≤ n ∧ i = .int .i64 a ∧ j = .int .i64 b ∧ Below w.heap.size w wr ∧ Hid (∀ t, t < a → (cs.getD t cls0).i < id) ∧ Hid (b < n → id ≤ (cs.getD b cls0).i)
theorem bs_less {cs : List Cls} {id : Int} {h : Nat} (hi : IncC cs) (hh : h < cs.length) (hx : (cs.getD h cls0).i < id) : ∀ t, t < h + 1 → (cs.getD t cls0).i < id := fun t ht => by
  rcases Nat.lt_succ_iff_lt_or_eq.1 ht with q | q
  · have := hi t h q hh; omega
  · rw [q]; exact hx
theorem bs_mid (a b : Nat) (h : b ≤ 1048576) (hab : a < b) : a ≤ (a + b) / 2 ∧ (a + b) / 2 < b := by omega
def plcB (cs : List Cls) (id : Int) : Bool := decide (plc cs id < cs.length) && ((cs.getD (plc cs id) cls0).i == id)
theorem plcB_fnd {cs : List Cls} (hi : IncC cs) (id : Int) : plcB cs id = (fnd cs id).isSome := by
  rw [fnd_plc hi]
  unfold plcB
  by_cases h : plc cs id < cs.length ∧ (cs.getD (plc cs id) cls0).i = id
  · rw [if_pos h]; rw [h.2]; simp [h.1]
  · rw [if_neg h]
    by_cases h1 : plc cs id < cs.length
    · have h2 : (cs.getD (plc cs id) cls0).i ≠ id := fun q => h ⟨h1, q⟩
      rw [beq_eq_false_iff_ne.2 h2]; simp
    · simp [h1]
set_option maxHeartbeats 3200000 in
theorem search_any (ac : Option Addr) (n cc : Nat) (cs : List Cls) (id : Int) (w : World) (HI : Hid (InX w ac n (clsCs cs))) (hn : Hid (cs.length = n)) (hm : n ≤ 1048576) (hi : Hid (IncC cs)) :
    Calls Tryd.prog 39 #[(.slice ac n cc), .int .i64 id, .func (Fn.func 40) #[] #[]] w (SaysP w (plc cs id) (plcB cs id)) := by
  go_enter Tryd.func39, Tryd.ntmps39
  go_wp2_with fail
  go_loopw [9, 10] (fun i j wr => BsRel w n cs id i j wr) (fun i j _ => (intOf j).toNat - (intOf i).toNat)
  case atStart => exact ⟨0, n, Nat.zero_le _, Nat.le_refl _, rfl, rfl, Below.refl _ _, Lib.hid (fun t ht => absurd ht (Nat.not_lt_zero t)), Lib.hid (fun h => absurd h (by omega))⟩
  case round =>
    obtain ⟨a, b, hab, hbn, rfl, rfl, hb, HL, HG⟩ := hrel
    have HB := Lib.hid hb
    by_cases hlt : a < b
    · obtain ⟨g, rfl, ht, hg⟩ := HI.out (by omega)
      have hm2 := bs_mid a b (by omega) hlt
      obtain ⟨x, hx⟩ : ∃ x, cs.getD ((a + b) / 2) cls0 = x := ⟨_, rfl⟩
      have hl1 : (a + b) / 2 < cs.length := by rw [hn.out]; omega
      obtain ⟨a0, a1, a2, a3, a4, a5, a6, a7⟩ := (ht.below hb hg).cls _ hl1 x hx
      have HC := Lib.hid (fun w => placeCmp_any x id w)
      rcases Int.lt_or_le x.i id with hq | hq
      · have HX := Lib.hid (bs_less hi.out hl1 (by rw [hx]; exact hq))
        rw [cmpI_lt hq] at HC
        obtain ⟨xi, xp, xr, xe, xb, xu, xo, xl⟩ := x
        simp only at a0 a1 a2 a3 a4 a5 a6 a7 HC
        unfold clsV at HC
        simp only at HC
        clear hb ht hx hl1 hq HI
        go_wp2_with (go_at_call 40; refine (HC.out _).mono ?_; rintro e w1 ⟨rfl, b1⟩; have B1 := Lib.hid (HB.out.trans (b1.mono HB.out.size)); clear b1)
        go_roundw
        case rel => exact ⟨(a + b) / 2 + 1, b, by omega, hbn, by go_num, rfl, B1.out, HX, HG⟩
        case measure => simp [intOf]; omega
      · have HX : Hid ((a + b) / 2 < n → id ≤ (cs.getD ((a + b) / 2) cls0).i) := Lib.hid (fun _ => by rw [hx]; exact hq)
        have hc0 : ∃ r, 0 ≤ r ∧ cmpI x.i id = r := ⟨_, by unfold cmpI; split; omega; split <;> omega, rfl⟩
        obtain ⟨r, hr0, hr⟩ := hc0
        rw [hr] at HC
        have dr := not_lt hr0
        obtain ⟨xi, xp, xr, xe, xb, xu, xo, xl⟩ := x
        simp only at a0 a1 a2 a3 a4 a5 a6 a7 HC
        unfold clsV at HC
        simp only at HC
        clear hb ht hx hl1 hq HI hr
        go_wp2_with (go_at_call 40; refine (HC.out _).mono ?_; rintro e w1 ⟨rfl, b1⟩; have B1 := Lib.hid (HB.out.trans (b1.mono HB.out.size)); clear b1)
        go_roundw
        case rel => exact ⟨a, (a + b) / 2, by omega, by omega, rfl, by go_num, B1.out, HL, HX⟩
        case measure => simp [intOf]; omega
    · have hab2 : a = b := by omega
      subst hab2
      have HP := Lib.hid (plc_eq cs id a (by rw [hn.out]; omega) HL.out (by rw [hn.out]; exact HG.out))
      by_cases hl : a < n
      · obtain ⟨g, rfl, ht, hg⟩ := HI.out (by omega)
        obtain ⟨x, hx⟩ : ∃ x, cs.getD a cls0 = x := ⟨_, rfl⟩
        have hl1 : a < cs.length := by rw [hn.out]; omega
        obtain ⟨a0, a1, a2, a3, a4, a5, a6, a7⟩ := (ht.below hb hg).cls _ hl1 x hx
        have HC := Lib.hid (fun w => placeCmp_any x id w)
        obtain ⟨q, hq⟩ : ∃ q, (cmpI x.i id == 0) = q := ⟨_, rfl⟩
        have HE : Hid (plcB cs id = q) := Lib.hid (by
          unfold plcB
          rw [HP.out, hx, ← hq, decide_eq_true hl1, Bool.true_and]
          unfold cmpI
          apply Bool.eq_iff_iff.2
          rw [beq_iff_eq, beq_iff_eq]
          split
          · constructor <;> intro h <;> omega
          · split
            · constructor <;> intro h <;> omega
            · constructor <;> intro h <;> omega)
        obtain ⟨r, hr⟩ : ∃ r, cmpI x.i id = r := ⟨_, rfl⟩
        rw [hr] at HC hq
        have D := hq
        obtain ⟨xi, xp, xr, xe, xb, xu, xo, xl⟩ := x
        simp only at a0 a1 a2 a3 a4 a5 a6 a7 HC
        unfold clsV at HC
        simp only at HC
        clear hb ht hx hl1 HI hr hq
        go_wp2_with (go_at_call 40; refine (HC.out _).mono ?_; rintro e w1 ⟨rfl, b1⟩; have B1 := Lib.hid (HB.out.trans (b1.mono HB.out.size)); clear b1)
        go_ret2
        exact ⟨by rw [HP.out, HE.out]; rfl, B1.out⟩
      · have HE : Hid (plcB cs id = false) := Lib.hid (by unfold plcB; rw [HP.out, decide_eq_false (by rw [hn.out]; exact hl)]; rfl)
        clear hb
        go_wp2_with fail
        go_ret2
        exact ⟨by rw [HP.out, HE.out]; rfl, HB.out⟩
theorem placeOf_any (ac : Option Addr) (n cc : Nat) (cs : List Cls) (id : Int) (w : World) (HI : Hid (InX w ac n (clsCs cs))) (hn : Hid (cs.length = n)) (hm : n ≤ 1048576) (hi : Hid (IncC cs)) :
    Calls Tryd.prog 23 #[(.slice ac n cc), .int .i64 id] w (SaysP w (plc cs id) (plcB cs id)) := by
  have HS := Lib.hid (search_any ac n cc cs id w HI hn hm hi)
  generalize plc cs id = k at HS ⊢
  generalize plcB cs id = b at HS ⊢
  go_enter Tryd.func23, Tryd.ntmps23
  go_wp2_with (go_at_call 39; refine HS.out.mono ?_; rintro e w1 ⟨rfl, b1⟩; have B1 := Lib.hid b1; clear b1)
  go_ret2
  exact ⟨rfl, B1.out⟩
end Go.Proofs.YthgbhnedfdnfpaaDoor

/- Arguments that are configurations or classes: opened. -/
namespace Go.Proofs.YthgbhnedfdnfpaaDoor
set_option maxRecDepth 100000
open Go.RowKit Go.Joins Go.ChangeShapes Go.WideShapes Go.Deep
set_option linter.unusedVariables false

def EightO (w : World) (b off k : Nat) (x : Cls) : Prop := w.cell? ⟨b, off + k * 8, none⟩ = some (.int .i64 x.i) ∧ w.cell? ⟨b, off + k * 8 + 1, none⟩ = some (.int .i64 x.p) ∧ w.cell? ⟨b, off + k * 8 + 2, none⟩ = some (.int .i64 x.r) ∧ w.cell? ⟨b, off + k * 8 + 3, none⟩ = some (.int .i64 x.e) ∧
  w.cell? ⟨b, off + k * 8 + 4, none⟩ = some (.int .i64 x.b) ∧ w.cell? ⟨b, off + k * 8 + 5, none⟩ = some (.int .i64 x.u) ∧ w.cell? ⟨b, off + k * 8 + 6, none⟩ = some (.int .i64 x.o) ∧ w.cell? ⟨b, off + k * 8 + 7, none⟩ = some (.int .i64 x.l)
theorem OffC.cls {w : World} {b off : Nat} {l : List Cls} (h : OffC w b off (clsCs l)) (k : Nat) (hk : k < l.length) (x : Cls) (hx : l.getD k cls0 = x) : EightO w b off k x := by
  subst hx
  have q := fun j (hj : j < 8) => clsCs_get l k j hj hk
  exact ⟨h.at _ ((q 0 (by decide)).trans rfl), h.at _ ((q 1 (by decide)).trans rfl), h.at _ ((q 2 (by decide)).trans rfl), h.at _ ((q 3 (by decide)).trans rfl), h.at _ ((q 4 (by decide)).trans rfl), h.at _ ((q 5 (by decide)).trans rfl), h.at _ ((q 6 (by decide)).trans rfl), h.at _ ((q 7 (by decide)).trans rfl)⟩
def FiveO (w : World) (b off k : Nat) (x : Flt) : Prop := w.cell? ⟨b, off + k * 5, none⟩ = some (.int .i64 x.o) ∧ w.cell? ⟨b, off + k * 5 + 1, none⟩ = some (.int .i64 x.f) ∧ w.cell? ⟨b, off + k * 5 + 2, none⟩ = some (.int .i64 x.m) ∧ w.cell? ⟨b, off + k * 5 + 3, none⟩ = some (.int .i64 x.v) ∧ w.cell? ⟨b, off + k * 5 + 4, none⟩ = some (.int .i64 x.t)
theorem OffC.flt {w : World} {b off : Nat} {l : List Flt} (h : OffC w b off (fltCs l)) (k : Nat) (hk : k < l.length) (x : Flt) (hx : l.getD k flt0 = x) : FiveO w b off k x := by
  subst hx
  have q := fun j (hj : j < 5) => fltCs_get l k j hj hk
  exact ⟨h.at _ ((q 0 (by decide)).trans rfl), h.at _ ((q 1 (by decide)).trans rfl), h.at _ ((q 2 (by decide)).trans rfl), h.at _ ((q 3 (by decide)).trans rfl), h.at _ ((q 4 (by decide)).trans rfl)⟩
section
variable {H : Type} {enc : TypeId × Value → H} {w : World} {base : Nat} {spare : Nat → Bool} {held : Bool}
/-- an argument that is a configuration -/
def ArgCfg (w : World) (v : Value) (c : Cfg) : Prop :=
  ∃ ac cc af cf, v = .agg #[.string c.s, .slice ac c.cs.length cc, .slice af c.fs.length cf, .int .i64 c.d] ∧ c.s.size ≤ maxLen ∧ c.cs.length ≤ maxLen ∧ c.fs.length ≤ maxLen ∧ ArgX w ac c.cs.length (clsCs c.cs) ∧ ArgX w af c.fs.length (fltCs c.fs)
theorem ArgCfg.below {w w' : World} {v : Value} {c : Cfg} (h : ArgCfg w v c) (hb : Below w.heap.size w w') : ArgCfg w' v c := by
  obtain ⟨ac, cc, af, cf, hv, m0, m1, m2, hc, hf⟩ := h
  exact ⟨ac, cc, af, cf, hv, m0, m1, m2, hc.below hb, hf.below hb⟩
theorem array8 {α : Type} {cs : Array α} (h : cs.size = 8) : ∃ c0 c1 c2 c3 c4 c5 c6 c7, cs = #[c0, c1, c2, c3, c4, c5, c6, c7] := by
  obtain ⟨l⟩ := cs
  match l, h with
  | [c0, c1, c2, c3, c4, c5, c6, c7], _ => exact ⟨c0, c1, c2, c3, c4, c5, c6, c7, rfl⟩
end
end Go.Proofs.YthgbhnedfdnfpaaDoor

/- What the laws do with configurations: measured, made of arguments, compared. -/
namespace Go.Proofs.YthgbhnedfdnfpaaDoor
set_option maxRecDepth 100000
open Go.RowKit
set_option linter.unusedVariables false

def CfgM (c : Cfg) : Prop := c.s.size ≤ 1048576 ∧ c.cs.length ≤ 1048576 ∧ c.fs.length ≤ 1048576
def SaysZC (w : World) (c : Cfg) (e : Ending) (w' : World) : Prop := ∃ r : Int, e = .returned (.int .i64 r) ∧ Below w.heap.size w w' ∧ (0 ≤ r → CfgM c)
end Go.Proofs.YthgbhnedfdnfpaaDoor

/- Lists of classes and of filters made of arguments; configurations made. -/
namespace Go.Proofs.YthgbhnedfdnfpaaDoor
set_option maxRecDepth 100000
open Go.RowKit
set_option linter.unusedVariables false

theorem infoCls : (Tryd.prog.info? 43).map (fun i => (i.zero, i.size, i.bytes)) = some (some (.agg #[.int .i64 0, .int .i64 0, .int .i64 0, .int .i64 0, .int .i64 0, .int .i64 0, .int .i64 0, .int .i64 0]), 8, 64) := by kernel_rfl
theorem infoFlt : (Tryd.prog.info? 77).map (fun i => (i.zero, i.size, i.bytes)) = some (some (.agg #[.int .i64 0, .int .i64 0, .int .i64 0, .int .i64 0, .int .i64 0]), 5, 40) := by kernel_rfl
theorem set_cls {n : Nat} {w w1 : World} (h : Below n w w1) (b : Nat) (hb : n ≤ b) (j0 j1 j2 j3 j4 j5 j6 j7 : Nat) (v0 v1 v2 v3 v4 v5 v6 v7 : Value) : Below n w ((((((((w1.setCell ⟨b, j0, none⟩ v0).setCell ⟨b, j1, none⟩ v1).setCell ⟨b, j2, none⟩ v2).setCell ⟨b, j3, none⟩ v3).setCell ⟨b, j4, none⟩ v4).setCell ⟨b, j5, none⟩ v5).setCell ⟨b, j6, none⟩ v6).setCell ⟨b, j7, none⟩ v7) := (((((((h.setCell hb _).setCell hb _).setCell hb _).setCell hb _).setCell hb _).setCell hb _).setCell hb _).setCell hb _
theorem got_cls {l : List Cls} {xs : List Value} {k n : Nat} (h : GotX (clsCs l) xs (k * 8)) (hl : xs.length = n * 8) (hk : k < n) (hn : l.length = n) (x : Cls) (hx : l.getD k cls0 = x) :
    GotX (clsCs l) ((((((((xs.set (k * 8) (.int .i64 x.i)).set (k * 8 + 1) (.int .i64 x.p)).set (k * 8 + 2) (.int .i64 x.r)).set (k * 8 + 3) (.int .i64 x.e)).set (k * 8 + 4) (.int .i64 x.b)).set (k * 8 + 5) (.int .i64 x.u)).set (k * 8 + 6) (.int .i64 x.o)).set (k * 8 + 7) (.int .i64 x.l)) ((k + 1) * 8) := by
  intro m hm
  by_cases hmk : m < k * 8
  · rw [List.getElem?_set_ne (by omega), List.getElem?_set_ne (by omega), List.getElem?_set_ne (by omega), List.getElem?_set_ne (by omega), List.getElem?_set_ne (by omega), List.getElem?_set_ne (by omega), List.getElem?_set_ne (by omega), List.getElem?_set_ne (by omega)]
    exact h m hmk
  · obtain ⟨j, hj, hm2⟩ : ∃ j, j < 8 ∧ m = k * 8 + j := ⟨m - k * 8, by omega, by omega⟩
    have q := clsCs_get l k j hj (by omega)
    rw [← hm2, hx] at q
    rw [q]
    match j, hj with
    | 0, _ => rw [hm2]; simp [List.getElem?_set, clsC]; omega
    | 1, _ => rw [hm2]; simp [List.getElem?_set, clsC]; omega
    | 2, _ => rw [hm2]; simp [List.getElem?_set, clsC]; omega
    | 3, _ => rw [hm2]; simp [List.getElem?_set, clsC]; omega
    | 4, _ => rw [hm2]; simp [List.getElem?_set, clsC]; omega
    | 5, _ => rw [hm2]; simp [List.getElem?_set, clsC]; omega
    | 6, _ => rw [hm2]; simp [List.getElem?_set, clsC]; omega
    | 7, _ => rw [hm2]; simp [List.getElem?_set, clsC]; omega
def clsRel (w : World) (l : List Cls) (n : Nat) (i : Value) (wr : World) : Prop :=
  ∃ (k : Nat) (xs : List Value), k ≤ n ∧ i = .int .i64 k ∧ wr.ownsRow w.heap.size 43 8 (.slice (some ⟨w.heap.size, 0, none⟩) n n) n xs ∧ Below w.heap.size w wr ∧ GotX (clsCs l) xs (k * 8)
def SaysClassS (w : World) (l : List Cls) (e : Ending) (w' : World) : Prop := e = .returned (.slice (some ⟨w.heap.size, 0, none⟩) l.length l.length) ∧ Below w.heap.size w w' ∧ w'.ownsRow w.heap.size 43 8 (.slice (some ⟨w.heap.size, 0, none⟩) l.length l.length) l.length (clsCs l)
theorem set_flt {n : Nat} {w w1 : World} (h : Below n w w1) (b : Nat) (hb : n ≤ b) (j0 j1 j2 j3 j4 : Nat) (v0 v1 v2 v3 v4 : Value) : Below n w (((((w1.setCell ⟨b, j0, none⟩ v0).setCell ⟨b, j1, none⟩ v1).setCell ⟨b, j2, none⟩ v2).setCell ⟨b, j3, none⟩ v3).setCell ⟨b, j4, none⟩ v4) := ((((h.setCell hb _).setCell hb _).setCell hb _).setCell hb _).setCell hb _
theorem got_flt {l : List Flt} {xs : List Value} {k n : Nat} (h : GotX (fltCs l) xs (k * 5)) (hl : xs.length = n * 5) (hk : k < n) (hn : l.length = n) (x : Flt) (hx : l.getD k flt0 = x) :
    GotX (fltCs l) (((((xs.set (k * 5) (.int .i64 x.o)).set (k * 5 + 1) (.int .i64 x.f)).set (k * 5 + 2) (.int .i64 x.m)).set (k * 5 + 3) (.int .i64 x.v)).set (k * 5 + 4) (.int .i64 x.t)) ((k + 1) * 5) := by
  intro m hm
  by_cases hmk : m < k * 5
  · rw [List.getElem?_set_ne (by omega), List.getElem?_set_ne (by omega), List.getElem?_set_ne (by omega), List.getElem?_set_ne (by omega), List.getElem?_set_ne (by omega)]
    exact h m hmk
  · obtain ⟨j, hj, hm2⟩ : ∃ j, j < 5 ∧ m = k * 5 + j := ⟨m - k * 5, by omega, by omega⟩
    have q := fltCs_get l k j hj (by omega)
    rw [← hm2, hx] at q
    rw [q]
    match j, hj with
    | 0, _ => rw [hm2]; simp [List.getElem?_set, fltC]; omega
    | 1, _ => rw [hm2]; simp [List.getElem?_set, fltC]; omega
    | 2, _ => rw [hm2]; simp [List.getElem?_set, fltC]; omega
    | 3, _ => rw [hm2]; simp [List.getElem?_set, fltC]; omega
    | 4, _ => rw [hm2]; simp [List.getElem?_set, fltC]; omega
def fltRel (w : World) (l : List Flt) (n : Nat) (i : Value) (wr : World) : Prop :=
  ∃ (k : Nat) (xs : List Value), k ≤ n ∧ i = .int .i64 k ∧ wr.ownsRow w.heap.size 77 5 (.slice (some ⟨w.heap.size, 0, none⟩) n n) n xs ∧ Below w.heap.size w wr ∧ GotX (fltCs l) xs (k * 5)
def SaysFilterS (w : World) (l : List Flt) (e : Ending) (w' : World) : Prop := e = .returned (.slice (some ⟨w.heap.size, 0, none⟩) l.length l.length) ∧ Below w.heap.size w w' ∧ w'.ownsRow w.heap.size 77 5 (.slice (some ⟨w.heap.size, 0, none⟩) l.length l.length) l.length (fltCs l)
/-- a configuration of the call's own -/
def OwnCfg (w : World) (B : Nat) (v : Value) (c : Cfg) : Prop :=
  ∃ vc vf, v = .agg #[.string c.s, vc, vf, .int .i64 c.d] ∧ w.ownsRow B 43 8 vc c.cs.length (clsCs c.cs) ∧ w.ownsRow B 77 5 vf c.fs.length (fltCs c.fs) ∧ ∀ g, vc.ownBlock = some g → vf.ownBlock ≠ some g
theorem OwnCfg.cfg {w : World} {B : Nat} {v : Value} {c : Cfg} (h : OwnCfg w B v c) : CfgV w v c := by
  obtain ⟨vc, vf, hv, h1, h2, _⟩ := h
  obtain ⟨ac, cc, e1, i1⟩ := own_in h1
  obtain ⟨af, cf, e2, i2⟩ := own_in h2
  exact ⟨ac, cc, af, cf, by rw [hv, e1, e2], i1, i2⟩
theorem OwnCfg.low {w w' : World} {B B' : Nat} {v : Value} {c : Cfg} (h : OwnCfg w B v c) (hb : Below B' w w') (hB : w.heap.size ≤ B') : OwnCfg w' B v c := by
  obtain ⟨vc, vf, hv, h1, h2, h3⟩ := h
  exact ⟨vc, vf, hv, own_low h1 hb hB, own_low h2 hb hB, h3⟩
def SaysCfgN (w : World) (c : Cfg) (e : Ending) (w' : World) : Prop := ∃ v, e = .returned v ∧ OwnCfg w' w.heap.size v c ∧ Below w.heap.size w w'
end Go.Proofs.YthgbhnedfdnfpaaDoor
