import Derived.Test.YthgbhnedfdnfpaaGreatDoorPkl
import Derived.Test.YthgbhnedfdnfpaaGreatDoorPkn
/- The program's functions over classes: parents, spare rates, single conditions. -/
namespace Go.Proofs.YthgbhnedfdnfpaaGreatDoor
set_option maxRecDepth 100000
open Go.RowKit
set_option linter.unusedVariables false

theorem plc_of_fnd {cs : List Cls} (hi : IncC cs) {id : Int} {j : Nat} (h : fnd cs id = Option.some j) : plc cs id = j ∧ plcB cs id = true := by
  rw [plcB_fnd hi, h]
  rw [fnd_plc hi] at h
  by_cases q : plc cs id < cs.length ∧ (cs.getD (plc cs id) cls0).i = id
  · rw [if_pos q] at h; exact ⟨Option.some.inj h, rfl⟩
  · rw [if_neg q] at h; cases h
theorem plc_of_none {cs : List Cls} (hi : IncC cs) {id : Int} (h : fnd cs id = Option.none) : plcB cs id = false := by
  rw [plcB_fnd hi, h]; rfl
def EightS (w : World) (b : Nat) : Prop := (w.cell? ⟨b, 0, none⟩).isSome = true ∧ (w.cell? ⟨b, 1, none⟩).isSome = true ∧ (w.cell? ⟨b, 2, none⟩).isSome = true ∧ (w.cell? ⟨b, 3, none⟩).isSome = true ∧ (w.cell? ⟨b, 4, none⟩).isSome = true ∧ (w.cell? ⟨b, 5, none⟩).isSome = true ∧ (w.cell? ⟨b, 6, none⟩).isSome = true ∧ (w.cell? ⟨b, 7, none⟩).isSome = true
theorem EightB.some {w : World} {b : Nat} {x : Cls} (h : EightB w b x) : EightS w b := by
  obtain ⟨h0, h1, h2, h3, h4, h5, h6, h7⟩ := h
  exact ⟨by rw [h0]; rfl, by rw [h1]; rfl, by rw [h2]; rfl, by rw [h3]; rfl, by rw [h4]; rfl, by rw [h5]; rfl, by rw [h6]; rfl, by rw [h7]; rfl⟩
theorem read8 {w1 : World} {b : Nat} (h : EightS w1 b) (x : Cls) (W : World) (hW : W = ((((((((w1.setCell ⟨b, 0, none⟩ (.int .i64 x.i)).setCell ⟨b, 1, none⟩ (.int .i64 x.p)).setCell ⟨b, 2, none⟩ (.int .i64 x.r)).setCell ⟨b, 3, none⟩ (.int .i64 x.e)).setCell ⟨b, 4, none⟩ (.int .i64 x.b)).setCell ⟨b, 5, none⟩ (.int .i64 x.u)).setCell ⟨b, 6, none⟩ (.int .i64 x.o)).setCell ⟨b, 7, none⟩ (.int .i64 x.l))) : EightB W b x := by
  obtain ⟨h0, h1, h2, h3, h4, h5, h6, h7⟩ := h
  subst hW
  refine ⟨?_, ?_, ?_, ?_, ?_, ?_, ?_, ?_⟩ <;> simp [go_sem, World.cell?_setCell_other, World.cell?_setCell_same', h0, h1, h2, h3, h4, h5, h6, h7]
theorem EightB.on {w w1 : World} {b B : Nat} {x : Cls} (h : EightB w b x) (hb : Below B w w1) (hB : b < B) : EightB w1 b x := by
  obtain ⟨h0, h1, h2, h3, h4, h5, h6, h7⟩ := h
  exact ⟨(hb.cell (p := ⟨b, 0, none⟩) hB).trans h0, (hb.cell (p := ⟨b, 1, none⟩) hB).trans h1, (hb.cell (p := ⟨b, 2, none⟩) hB).trans h2, (hb.cell (p := ⟨b, 3, none⟩) hB).trans h3, (hb.cell (p := ⟨b, 4, none⟩) hB).trans h4, (hb.cell (p := ⟨b, 5, none⟩) hB).trans h5, (hb.cell (p := ⟨b, 6, none⟩) hB).trans h6, (hb.cell (p := ⟨b, 7, none⟩) hB).trans h7⟩
theorem set8 {n : Nat} {w w1 : World} (h : Below n w w1) (b : Nat) (hb : n ≤ b) (v0 v1 v2 v3 v4 v5 v6 v7 : Value) : Below n w ((((((((w1.setCell ⟨b, 0, none⟩ v0).setCell ⟨b, 1, none⟩ v1).setCell ⟨b, 2, none⟩ v2).setCell ⟨b, 3, none⟩ v3).setCell ⟨b, 4, none⟩ v4).setCell ⟨b, 5, none⟩ v5).setCell ⟨b, 6, none⟩ v6).setCell ⟨b, 7, none⟩ v7) := set_cls h b hb 0 1 2 3 4 5 6 7 v0 v1 v2 v3 v4 v5 v6 v7
set_option maxHeartbeats 3200000 in
theorem parentOf_any (ac : Option Addr) (n cc : Nat) (cs : List Cls) (y : Cls) (j : Nat) (w : World) (HI : Hid (InX w ac n (clsCs cs))) (hn : Hid (cs.length = n)) (hm : n ≤ 1048576) (hi : Hid (IncC cs)) (hj : Hid (fnd cs y.p = Option.some j)) :
    Calls Tryz.prog 111 #[(.slice ac n cc), clsV y] w (SaysV w (clsV (cs.getD j cls0))) := by
  have hp := plc_of_fnd hi.out hj.out
  have hjl : j < cs.length := (fnd_get cs _ j hj.out).1
  have hjn : j < n := by rw [← hn.out]; exact hjl
  have HS := Lib.hid (fun w HI => placeOf_any ac n cc cs y.p w HI hn hm hi)
  rw [hp.1, hp.2] at HS
  obtain ⟨g, rfl, ht, hg⟩ := HI.out (by omega)
  have HT := Lib.hid ht
  obtain ⟨x, hx⟩ : ∃ x, cs.getD j cls0 = x := ⟨_, rfl⟩
  have HX := Lib.hid hx
  rw [hx]
  obtain ⟨xi, xp, xr, xe, xb, xu, xo, xl⟩ := x
  obtain ⟨yi, yp, yr, ye, yb, yu, yo, yl⟩ := y
  unfold clsV
  simp only at HS ⊢
  clear hp ht hx hj
  go_enter Tryz.func111, Tryz.ntmps111
  go_wp2_with (go_at_call 41; refine (HS.out _ (Lib.hid (HI.out.below (two_new _ _ _)))).mono ?_; rintro e w1 ⟨rfl, b1⟩; have B1 := Lib.hid (two_below b1); have hz1 := two_size b1; obtain ⟨hc1, hf1⟩ := bcell b1; obtain ⟨a0, a1, a2, a3, a4, a5, a6, a7⟩ := (HT.out.below (two_below b1) hg).cls j hjl _ HX.out; clear b1)
  have E1 : EightS w1 (w.heap.size + 1) := by
    refine ⟨?_, ?_, ?_, ?_, ?_, ?_, ?_, ?_⟩ <;> rw [hc1 _ _ (by simp)] <;> simp [go_sem]
  obtain ⟨r0, r1, r2, r3, r4, r5, r6, r7⟩ := read8 E1 ⟨xi, xp, xr, xe, xb, xu, xo, xl⟩ _ rfl
  exact bodyPost_ret (v := .agg #[.int .i64 xi, .int .i64 xp, .int .i64 xr, .int .i64 xe, .int .i64 xb, .int .i64 xu, .int .i64 xo, .int .i64 xl]) (by simp [results, Tryz.results111, go_sem, r0, r1, r2, r3, r4, r5, r6, r7]) rfl ⟨rfl, set8 B1.out _ (Nat.le_succ _) _ _ _ _ _ _ _ _⟩
def SpRelW (w : World) (o : Obj) (n : Nat) (cs : List Cls) (id S : Int) (a i : Value) (wr : World) : Prop :=
  ∃ (k : Nat) (z : Int), k ≤ n ∧ i = .int .i64 k ∧ a = .int .i64 z ∧ z ≤ 100000 ∧ -(100000 * (k : Int)) ≤ z ∧ Aft w o wr ∧ Hid (spF id z (cs.drop k) = S)
set_option maxHeartbeats 3200000 in
theorem spareRate_any (ac : Option Addr) (n cc : Nat) (cs : List Cls) (y : Cls) (w : World) (HI : Hid (InX w ac n (clsCs cs))) (hn : Hid (cs.length = n)) (hm : n ≤ 1048576) (h24 : n ≤ 24) (HR : Hid (RatesIn cs)) (hyr : 1 ≤ y.r ∧ y.r ≤ 100000) :
    Calls Tryz.prog 88 #[(.slice ac n cc), clsV y] w (SaysI w (spare cs y)) := by
  obtain ⟨S, hS⟩ : ∃ S, spare cs y = S := ⟨_, rfl⟩
  have H0 : Hid (spF y.i y.r (cs.drop 0) = S) := Lib.hid hS
  rw [hS]
  clear hS
  obtain ⟨yi, yp, yr, ye, yb, yu, yo, yl⟩ := y
  unfold clsV
  simp only at H0 hyr ⊢
  go_enter Tryz.func88, Tryz.ntmps88
  go_wp2_with fail
  go_loopw [5, 12] (fun a i wr => SpRelW w (Obj.cells #[.int .i64 yi, .int .i64 yp, .int .i64 yr, .int .i64 ye, .int .i64 yb, .int .i64 yu, .int .i64 yo, .int .i64 yl] 41) n cs yi S a i wr) (fun _ i _ => n - (intOf i).toNat)
  case atStart => exact ⟨0, yr, Nat.zero_le _, rfl, rfl, by omega, by omega, Aft.refl _ _, H0⟩
  case round =>
    obtain ⟨k, z, hk, rfl, rfl, z1, z2, hb, HP⟩ := hrel
    have HB := Lib.hid hb
    obtain ⟨⟨e0, _, _, _, _, _, _, _⟩, hbw⟩ := box_eight hb
    have HW := Lib.hid hbw
    have hgw : w.heap.size < wr.heap.size := by have := (show Below (w.alloc (Obj.cells #[.int .i64 yi, .int .i64 yp, .int .i64 yr, .int .i64 ye, .int .i64 yb, .int .i64 yu, .int .i64 yo, .int .i64 yl] 41)).heap.size (w.alloc (Obj.cells #[.int .i64 yi, .int .i64 yp, .int .i64 yr, .int .i64 ye, .int .i64 yb, .int .i64 yu, .int .i64 yo, .int .i64 yl] 41)) wr from hb).size; simp at this; omega
    by_cases hlt : k < n
    · obtain ⟨g, rfl, ht, hg⟩ := HI.out (by omega)
      obtain ⟨x, hx⟩ : ∃ x, cs.getD k cls0 = x := ⟨_, rfl⟩
      have hl1 : k < cs.length := by rw [hn.out]; exact hlt
      obtain ⟨a0, a1, a2, a3, a4, a5, a6, a7⟩ := (ht.below hbw hg).cls k hl1 x hx
      have hxr := HR.out k hl1
      rw [hx] at hxr
      have HE := Lib.hid (spF_at yi z cs k hl1 x hx)
      have e0' := fun o => ((bcell (one_new2 wr o)).1 _ 0 hgw).trans e0
      have k24 : (k : Int) < 24 := by omega
      obtain ⟨xi, xp, xr, xe, xb, xu, xo, xl⟩ := x
      simp only at a0 a1 a2 a3 a4 a5 a6 a7 hxr HE
      clear hb hx hl1 ht hbw e0
      by_cases he : xp = yi
      · have dq : (xp == yi) = true := by simpa using he
        have HX : Hid (spF yi (z - xr) (cs.drop (k + 1)) = S) := Lib.hid (by rw [← HP.out, HE.out, if_pos he])
        clear he
        go_wp2_with fail
        go_roundw
        case rel => exact ⟨k + 1, z - xr, by omega, by go_num, rfl, by omega, by omega, HB.out.alloc _, HX⟩
        case measure => simp [intOf]; omega
      · have dq : (xp == yi) = false := by simpa using he
        have HX : Hid (spF yi z (cs.drop (k + 1)) = S) := Lib.hid (by rw [← HP.out, HE.out, if_neg he])
        clear he
        go_wp2_with fail
        go_roundw
        case rel => exact ⟨k + 1, z, by omega, by go_num, rfl, by omega, by omega, HB.out.alloc _, HX⟩
        case measure => simp [intOf]; omega
    · have HX : Hid (z = S) := Lib.hid (by rw [← HP.out, spF_end _ z cs k (by rw [hn.out]; omega)])
      clear hb hbw
      go_wp2_with fail
      go_ret
      exact ⟨ret_int HX.out, HW.out⟩
def AllRel (w : World) (n : Nat) (P : Nat → Bool) (B : Bool) (i : Value) (wr : World) : Prop := ∃ k : Nat, k ≤ n ∧ i = .int .i64 k ∧ Below w.heap.size w wr ∧ Hid (fromK P n k = B)
set_option maxHeartbeats 3200000 in
theorem ratesFit_any (ac : Option Addr) (n cc : Nat) (cs : List Cls) (w : World) (HI : Hid (InX w ac n (clsCs cs))) (hn : Hid (cs.length = n)) (hm : n ≤ 1048576) (h24 : n ≤ 24) (HR : Hid (RatesIn cs)) :
    Calls Tryz.prog 59 #[(.slice ac n cc)] w (SaysB w (rfG cs)) := by
  obtain ⟨B, hB⟩ : ∃ B, rfG cs = B := ⟨_, rfl⟩
  have H0 : Hid (fromK (fun k => decide (0 ≤ spare cs (cs.getD k cls0))) n 0 = B) := Lib.hid (by rw [← hB]; unfold rfG; rw [hn.out])
  have HS := Lib.hid (fun y w HI => spareRate_any ac n cc cs y w HI hn hm h24 HR)
  rw [hB]
  clear hB
  go_enter Tryz.func59, Tryz.ntmps59
  go_wp2_with fail
  go_loopw [7] (fun i wr => AllRel w n (fun k => decide (0 ≤ spare cs (cs.getD k cls0))) B i wr) (fun i _ => n - (intOf i).toNat)
  case atStart => exact ⟨0, Nat.zero_le _, rfl, Below.refl _ _, H0⟩
  case round =>
    obtain ⟨k, hk, rfl, hb, HP⟩ := hrel
    have HB := Lib.hid hb
    by_cases hlt : k < n
    · obtain ⟨g, rfl, ht, hg⟩ := HI.out (by omega)
      obtain ⟨x, hx⟩ : ∃ x, cs.getD k cls0 = x := ⟨_, rfl⟩
      have hl1 : k < cs.length := by rw [hn.out]; exact hlt
      obtain ⟨a0, a1, a2, a3, a4, a5, a6, a7⟩ := (ht.below hb hg).cls k hl1 x hx
      have HSx := Lib.hid (HS.out x)
      have hxr := HR.out k hl1
      rw [hx] at hxr
      have HE := Lib.hid (fromK_at (fun k => decide (0 ≤ spare cs (cs.getD k cls0))) n k hlt)
      have HE2 : Hid (decide (0 ≤ spare cs (cs.getD k cls0)) = decide (0 ≤ spare cs x)) := Lib.hid (by rw [hx])
      have HRx := Lib.hid hxr
      obtain ⟨z, hz⟩ : ∃ z, spare cs x = z := ⟨_, rfl⟩
      rw [hz] at HSx HE2
      obtain ⟨xi, xp, xr, xe, xb, xu, xo, xl⟩ := x
      unfold clsV at HSx
      simp only at a0 a1 a2 a3 a4 a5 a6 a7 HSx HRx
      clear hb hx hl1 ht hz hxr
      rcases Int.lt_or_le z 0 with hz | hz
      · have dz := is_lt hz
        have HX : Hid (B = false) := Lib.hid (by rw [← HP.out, HE.out, HE2.out, decide_eq_false (by omega)]; rfl)
        clear hz
        go_wp2_with (go_at_call 88; refine (HSx.out _ (Lib.hid (HI.out.below (HB.out.trans ((one_new2 _ _).mono HB.out.size)))) HRx.out).mono ?_; rintro e w1 ⟨rfl, b1⟩; have B1 := Lib.hid ((HB.out.trans ((one_new2 _ _).mono HB.out.size)).trans (b1.mono (Nat.le_trans HB.out.size (by simp)))); clear b1)
        go_ret
        exact ⟨ret_bool HX.out.symm, B1.out⟩
      · have dz := not_lt hz
        have HX := Lib.hid (show fromK (fun k => decide (0 ≤ spare cs (cs.getD k cls0))) n (k + 1) = B by rw [← HP.out, HE.out, HE2.out, decide_eq_true hz, Bool.true_and])
        clear hz
        go_wp2_with (go_at_call 88; refine (HSx.out _ (Lib.hid (HI.out.below (HB.out.trans ((one_new2 _ _).mono HB.out.size)))) HRx.out).mono ?_; rintro e w1 ⟨rfl, b1⟩; have B1 := Lib.hid ((HB.out.trans ((one_new2 _ _).mono HB.out.size)).trans (b1.mono (Nat.le_trans HB.out.size (by simp)))); clear b1)
        go_roundw
        case rel => exact ⟨k + 1, by omega, by go_num, B1.out, HX.out⟩
        case measure => simp [intOf]; omega
    · have HX : Hid (true = B) := Lib.hid (by rw [← HP.out, fromK_end _ n k (by omega)])
      clear hb
      go_wp2_with fail
      go_ret
      exact ⟨ret_bool HX.out, HB.out⟩
end Go.Proofs.YthgbhnedfdnfpaaGreatDoor

/- The program's checks: names, classes and filters by themselves, the tree. -/
namespace Go.Proofs.YthgbhnedfdnfpaaGreatDoor
set_option maxRecDepth 100000
open Go.RowKit
set_option linter.unusedVariables false

def OkRel (w : World) (n : Nat) (cs : List Cls) (B : Bool) (a i : Value) (wr : World) : Prop := ∃ (k : Nat) (b : Int), k ≤ n ∧ i = .int .i64 k ∧ a = .int .i64 b ∧ Below w.heap.size w wr ∧ Hid (okL b (cs.drop k) = B)
set_option maxHeartbeats 3200000 in
theorem areClasses_any (ac : Option Addr) (n cc : Nat) (cs : List Cls) (w : World) (HI : Hid (InX w ac n (clsCs cs))) (hn : Hid (cs.length = n)) (hm : n ≤ 1048576) :
    Calls Tryz.prog 57 #[(.slice ac n cc)] w (SaysB w (arG cs)) := by
  obtain ⟨B, hB⟩ : ∃ B, okL 0 cs = B := ⟨_, rfl⟩
  have H0 : Hid (okL 0 (cs.drop 0) = B) := Lib.hid hB
  have HA : Hid (arG cs = ((decide (1 ≤ n) && decide (n ≤ 24)) && B)) := Lib.hid (by unfold arG; rw [hB, hn.out])
  generalize arG cs = R at HA ⊢
  clear hB
  by_cases h1 : n < 1
  · have d1 := is_lt (show (n : Int) < 1 by omega)
    have HX : Hid (R = false) := Lib.hid (by rw [HA.out, decide_eq_false (by omega)]; rfl)
    go_enter Tryz.func57, Tryz.ntmps57
    go_wp2_with fail
    go_ret
    exact ⟨ret_bool HX.out.symm, Below.refl _ _⟩
  have d1 := not_lt (show (1 : Int) ≤ n by omega)
  by_cases h2 : 24 < n
  · have d2 := is_lt (show (24 : Int) < n by omega)
    have HX : Hid (R = false) := Lib.hid (by rw [HA.out, decide_eq_false (show ¬ n ≤ 24 by omega), Bool.and_false]; rfl)
    go_enter Tryz.func57, Tryz.ntmps57
    go_wp2_with fail
    go_ret
    exact ⟨ret_bool HX.out.symm, Below.refl _ _⟩
  have d2 := not_lt (show (n : Int) ≤ 24 by omega)
  have HR : Hid (R = B) := Lib.hid (by rw [HA.out, decide_eq_true (by omega), decide_eq_true (by omega)]; rfl)
  go_enter Tryz.func57, Tryz.ntmps57
  go_wp2_with fail
  go_loopw [3, 16] (fun a i wr => OkRel w n cs B a i wr) (fun _ i _ => n - (intOf i).toNat)
  case atStart => exact ⟨0, 0, Nat.zero_le _, rfl, rfl, Below.refl _ _, H0⟩
  case round =>
    obtain ⟨k, b, hk, rfl, rfl, hb, HP⟩ := hrel
    have HB := Lib.hid hb
    by_cases hlt : k < n
    · obtain ⟨g, rfl, ht, hg⟩ := HI.out (by omega)
      obtain ⟨x, hx⟩ : ∃ x, cs.getD k cls0 = x := ⟨_, rfl⟩
      have hl1 : k < cs.length := by rw [hn.out]; exact hlt
      obtain ⟨a0, a1, a2, a3, a4, a5, a6, a7⟩ := (ht.below hb hg).cls k hl1 x hx
      have HE := Lib.hid (okL_at b cs k hl1 x hx)
      have HS := Lib.hid (fun w => hasRates_any x w)
      have BA := Lib.hid (hb.trans ((one_new2 wr (Obj.cells #[.int .i64 x.i, .int .i64 x.p, .int .i64 x.r, .int .i64 x.e, .int .i64 x.b, .int .i64 x.u, .int .i64 x.o, .int .i64 x.l] 41)).mono hb.size))
      clear hb hx hl1 ht
      by_cases q1 : x.i ≤ b
      · have e1 := is_le q1
        have HX : Hid (R = false) := Lib.hid (by rw [HR.out, ← HP.out, HE.out, not_lt q1]; rfl)
        obtain ⟨xi, xp, xr, xe, xb, xu, xo, xl⟩ := x
        simp only at a0 a1 a2 a3 a4 a5 a6 a7 e1 BA
        clear HS q1
        go_wp2_with fail
        go_ret
        exact ⟨ret_bool HX.out.symm, BA.out⟩
      have e1 := not_le (show b < x.i by omega)
      by_cases q2 : 999 < x.i
      · have e2 := is_lt q2
        have HX : Hid (R = false) := Lib.hid (by rw [HR.out, ← HP.out, HE.out, not_le q2, Bool.false_and, Bool.and_false]; rfl)
        obtain ⟨xi, xp, xr, xe, xb, xu, xo, xl⟩ := x
        simp only at a0 a1 a2 a3 a4 a5 a6 a7 e1 e2 BA
        clear HS q1 q2
        go_wp2_with fail
        go_ret
        exact ⟨ret_bool HX.out.symm, BA.out⟩
      have e2 := not_lt (show x.i ≤ 999 by omega)
      have HY : Hid (B = (rateOk x && okL x.i (cs.drop (k + 1)))) := Lib.hid (by rw [← HP.out, HE.out, is_lt (show b < x.i by omega), is_le (show x.i ≤ 999 by omega)]; rfl)
      rcases Bool.eq_false_or_eq_true (rateOk x) with q3 | q3
      · have HX := Lib.hid (show okL x.i (cs.drop (k + 1)) = B by rw [HY.out, q3, Bool.true_and])
        rw [q3] at HS
        obtain ⟨xi, xp, xr, xe, xb, xu, xo, xl⟩ := x
        unfold clsV at HS
        simp only at a0 a1 a2 a3 a4 a5 a6 a7 e1 e2 BA HS HX
        clear q1 q2 q3 HY HE
        go_wp2_with (go_at_call 36; refine (HS.out _).mono ?_; rintro e w1 ⟨rfl, b1⟩; have B1 := Lib.hid (BA.out.trans (b1.mono BA.out.size)); obtain ⟨f0, f1, f2, f3, f4, f5, f6, f7⟩ := (box_eight b1).1; clear b1)
        go_roundw
        case rel => exact ⟨k + 1, xi, by omega, by go_num, rfl, B1.out, HX⟩
        case measure => simp [intOf]; omega
      · have HX : Hid (R = false) := Lib.hid (by rw [HR.out, HY.out, q3, Bool.false_and])
        rw [q3] at HS
        obtain ⟨xi, xp, xr, xe, xb, xu, xo, xl⟩ := x
        unfold clsV at HS
        simp only at a0 a1 a2 a3 a4 a5 a6 a7 e1 e2 BA HS
        clear q1 q2 q3 HY HE
        go_wp2_with (go_at_call 36; refine (HS.out _).mono ?_; rintro e w1 ⟨rfl, b1⟩; have B1 := Lib.hid (BA.out.trans (b1.mono BA.out.size)); clear b1)
        go_ret
        exact ⟨ret_bool HX.out.symm, B1.out⟩
    · have HX : Hid (true = R) := Lib.hid (by rw [HR.out, ← HP.out, okL_end _ cs k (by rw [hn.out]; omega)])
      clear hb
      go_wp2_with fail
      go_ret
      exact ⟨ret_bool HX.out, HB.out⟩
def OkfRel (w : World) (m : Nat) (fs : List Flt) (B : Bool) (a i : Value) (wr : World) : Prop := ∃ (k : Nat) (b : Int), k ≤ m ∧ i = .int .i64 k ∧ a = .int .i64 b ∧ Below w.heap.size w wr ∧ Hid (okF b (fs.drop k) = B)
set_option maxHeartbeats 3200000 in
theorem areFilters_any (af : Option Addr) (m cf : Nat) (fs : List Flt) (w : World) (HJ : Hid (InX w af m (fltCs fs))) (hf : Hid (fs.length = m)) (hmf : m ≤ 1048576) :
    Calls Tryz.prog 61 #[(.slice af m cf)] w (SaysB w (afG fs)) := by
  obtain ⟨B, hB⟩ : ∃ B, okF 0 fs = B := ⟨_, rfl⟩
  have H0 : Hid (okF 0 (fs.drop 0) = B) := Lib.hid hB
  have HA : Hid (afG fs = (decide (m ≤ 16) && B)) := Lib.hid (by unfold afG; rw [hB, hf.out])
  generalize afG fs = R at HA ⊢
  clear hB
  by_cases h2 : 16 < m
  · have d2 := is_lt (show (16 : Int) < m by omega)
    have HX : Hid (R = false) := Lib.hid (by rw [HA.out, decide_eq_false (show ¬ m ≤ 16 by omega)]; rfl)
    go_enter Tryz.func61, Tryz.ntmps61
    go_wp2_with fail
    go_ret
    exact ⟨ret_bool HX.out.symm, Below.refl _ _⟩
  have d2 := not_lt (show (m : Int) ≤ 16 by omega)
  have HR : Hid (R = B) := Lib.hid (by rw [HA.out, decide_eq_true (by omega)]; rfl)
  go_enter Tryz.func61, Tryz.ntmps61
  go_wp2_with fail
  go_loopw [3, 11] (fun a i wr => OkfRel w m fs B a i wr) (fun _ i _ => m - (intOf i).toNat)
  case atStart => exact ⟨0, 0, Nat.zero_le _, rfl, rfl, Below.refl _ _, H0⟩
  case round =>
    obtain ⟨k, b, hk, rfl, rfl, hb, HP⟩ := hrel
    have HB := Lib.hid hb
    by_cases hlt : k < m
    · obtain ⟨g, rfl, ht, hg⟩ := HJ.out (by omega)
      obtain ⟨x, hx⟩ : ∃ x, fs.getD k flt0 = x := ⟨_, rfl⟩
      have hl1 : k < fs.length := by rw [hf.out]; exact hlt
      obtain ⟨a0, a1, a2, a3, a4⟩ := (ht.below hb hg).flt k hl1 x hx
      have HE := Lib.hid (okF_at b fs k hl1 x hx)
      have HS := Lib.hid (fun w => isPattern_any x w)
      have BA := Lib.hid (hb.trans ((one_new2 wr (Obj.cells #[.int .i64 x.o, .int .i64 x.f, .int .i64 x.m, .int .i64 x.v, .int .i64 x.t] 82)).mono hb.size))
      clear hb hx hl1 ht
      by_cases q1 : x.o ≤ b
      · have e1 := is_le q1
        have HX : Hid (R = false) := Lib.hid (by rw [HR.out, ← HP.out, HE.out, not_lt q1]; rfl)
        obtain ⟨xo, xf, xm, xv, xt⟩ := x
        simp only at a0 a1 a2 a3 a4 e1 BA
        clear HS q1
        go_wp2_with fail
        go_ret
        exact ⟨ret_bool HX.out.symm, BA.out⟩
      have e1 := not_le (show b < x.o by omega)
      by_cases q2 : 99 < x.o
      · have e2 := is_lt q2
        have HX : Hid (R = false) := Lib.hid (by rw [HR.out, ← HP.out, HE.out, not_le q2, Bool.false_and, Bool.and_false]; rfl)
        obtain ⟨xo, xf, xm, xv, xt⟩ := x
        simp only at a0 a1 a2 a3 a4 e1 e2 BA
        clear HS q1 q2
        go_wp2_with fail
        go_ret
        exact ⟨ret_bool HX.out.symm, BA.out⟩
      have e2 := not_lt (show x.o ≤ 99 by omega)
      have HY : Hid (B = (patOk x && okF x.o (fs.drop (k + 1)))) := Lib.hid (by rw [← HP.out, HE.out, is_lt (show b < x.o by omega), is_le (show x.o ≤ 99 by omega)]; rfl)
      rcases Bool.eq_false_or_eq_true (patOk x) with q3 | q3
      · have HX := Lib.hid (show okF x.o (fs.drop (k + 1)) = B by rw [HY.out, q3, Bool.true_and])
        rw [q3] at HS
        obtain ⟨xo, xf, xm, xv, xt⟩ := x
        unfold fltV at HS
        simp only at a0 a1 a2 a3 a4 e1 e2 BA HS HX
        clear q1 q2 q3 HY HE
        go_wp2_with (go_at_call 90; refine (HS.out _).mono ?_; rintro e w1 ⟨rfl, b1⟩; have B1 := Lib.hid (BA.out.trans (b1.mono BA.out.size)); obtain ⟨f0, f1, f2, f3, f4⟩ := (box_five b1).1; clear b1)
        go_roundw
        case rel => exact ⟨k + 1, xo, by omega, by go_num, rfl, B1.out, HX⟩
        case measure => simp [intOf]; omega
      · have HX : Hid (R = false) := Lib.hid (by rw [HR.out, HY.out, q3, Bool.false_and])
        rw [q3] at HS
        obtain ⟨xo, xf, xm, xv, xt⟩ := x
        unfold fltV at HS
        simp only at a0 a1 a2 a3 a4 e1 e2 BA HS
        clear q1 q2 q3 HY HE
        go_wp2_with (go_at_call 90; refine (HS.out _).mono ?_; rintro e w1 ⟨rfl, b1⟩; have B1 := Lib.hid (BA.out.trans (b1.mono BA.out.size)); clear b1)
        go_ret
        exact ⟨ret_bool HX.out.symm, B1.out⟩
    · have HX : Hid (true = R) := Lib.hid (by rw [HR.out, ← HP.out, okF_end _ fs k (by rw [hf.out]; omega)])
      clear hb
      go_wp2_with fail
      go_ret
      exact ⟨ret_bool HX.out, HB.out⟩
theorem reach_zero {cs : List Cls} {f : Nat} {x : Cls} (h : x.p = 0) : reach cs f x = true := by
  cases f <;> unfold reach <;> simp [h]
theorem reach_step {cs : List Cls} {f j : Nat} {x : Cls} (h : x.p ≠ 0) (hj : fnd cs x.p = Option.some j) : reach cs (f + 1) x = reach cs f (cs.getD j cls0) := by
  show ((x.p == 0) || (match fnd cs x.p with | .none => false | .some j => reach cs f (cs.getD j cls0))) = _
  rw [hj, beq_eq_false_iff_ne.2 h, Bool.false_or]
theorem par_some {cs : List Cls} {x : Cls} (h : parOk cs x = true) (hx : x.p ≠ 0) : ∃ j, fnd cs x.p = Option.some j := by
  unfold parOk at h
  rw [beq_eq_false_iff_ne.2 hx, Bool.false_or] at h
  exact Option.isSome_iff_exists.1 h
def ParAll (cs : List Cls) : Prop := ∀ k, k < cs.length → parOk cs (cs.getD k cls0) = true
def FroB (w : World) (g : Nat) : Prop := ∀ o, w.frozen? ⟨g, o, none⟩ = false
theorem FroB.on {w w1 : World} {g : Nat} (h : FroB w g) (b : Below w.heap.size w w1) (hg : g < w.heap.size) : FroB w1 g := fun o => ((bcell b).2 g o hg).trans (h o)
theorem FroB.new (w : World) (a : Array Value) (t : TypeId) : FroB (w.alloc (.cells a t)) w.heap.size := fun o => by simp
theorem FroB.set {w : World} {g : Nat} (h : FroB w g) (p : Addr) (v : Value) : FroB (w.setCell p v) g := fun o => by rw [World.frozen?_setCell]; exact h o
def RchRel (w : World) (cs : List Cls) (R : Bool) (i : Value) (wr : World) : Prop :=
  ∃ (k : Nat) (x : Cls), k ≤ 7 ∧ i = .int .i64 k ∧ parOk cs x = true ∧ EightB wr w.heap.size x ∧ w.heap.size < wr.heap.size ∧ FroB wr w.heap.size ∧ Below w.heap.size w wr ∧ Hid (reach cs (7 - k) x = R)
set_option maxHeartbeats 3200000 in
theorem reachesTop_any (ac : Option Addr) (n cc : Nat) (cs : List Cls) (y : Cls) (w : World) (HI : Hid (InX w ac n (clsCs cs))) (hn : Hid (cs.length = n)) (hm : n ≤ 1048576) (hi : Hid (IncC cs)) (HPA : Hid (ParAll cs)) (hy : parOk cs y = true) :
    Calls Tryz.prog 87 #[(.slice ac n cc), clsV y] w (SaysB w (reach cs 7 y)) := by
  obtain ⟨R, hR⟩ : ∃ R, reach cs 7 y = R := ⟨_, rfl⟩
  have H0 : Hid (reach cs (7 - 0) y = R) := Lib.hid hR
  have HY := Lib.hid hy
  rw [hR]
  clear hR hy
  obtain ⟨yi, yp, yr, ye, yb, yu, yo, yl⟩ := y
  unfold clsV
  simp only
  go_enter Tryz.func87, Tryz.ntmps87
  go_wp2_with fail
  go_loopw [5] (fun i wr => RchRel w cs R i wr) (fun i _ => 7 - (intOf i).toNat)
  case atStart => exact ⟨0, ⟨yi, yp, yr, ye, yb, yu, yo, yl⟩, Nat.zero_le _, rfl, HY.out, (box_eight (Below.refl _ _)).1, by simp, FroB.new _ _ _, one_new2 _ _, H0⟩
  case round =>
    obtain ⟨k, x, hk, rfl, hpx, he, hgw, hfr, hb, HP⟩ := hrel
    have HB := Lib.hid hb
    have HE := Lib.hid he
    have HFR := Lib.hid hfr
    clear hfr
    have HPX := Lib.hid hpx
    have HT := Lib.hid (fun w => isTop_any x w)
    obtain ⟨a0, a1, a2, a3, a4, a5, a6, a7⟩ := he
    by_cases hlt : k < 7
    · by_cases hz : x.p = 0
      · have HX : Hid (true = R) := Lib.hid (by rw [← HP.out, reach_zero hz])
        rw [show (x.p == 0) = true by rw [hz]; rfl] at HT
        obtain ⟨xi, xp, xr, xe, xb, xu, xo, xl⟩ := x
        unfold clsV at HT
        simp only at a0 a1 a2 a3 a4 a5 a6 a7 HT
        clear hb hz hpx
        go_wp2_with (go_at_call 86; refine (HT.out _).mono ?_; rintro e w1 ⟨rfl, b1⟩; have B1 := Lib.hid (HB.out.trans (b1.mono HB.out.size)); clear b1)
        go_ret
        exact ⟨ret_bool HX.out, B1.out⟩
      · obtain ⟨j, hj⟩ := par_some hpx hz
        have hjl := (fnd_get cs _ j hj).1
        have HX : Hid (reach cs (7 - (k + 1)) (cs.getD j cls0) = R) := Lib.hid (by
          rw [← HP.out, show 7 - k = (7 - (k + 1)) + 1 by omega, reach_step hz hj])
        have HQ := Lib.hid (HPA.out j hjl)
        have HS := Lib.hid (fun w HI => parentOf_any ac n cc cs x j w HI hn hm hi (Lib.hid hj))
        rw [show (x.p == 0) = false from beq_eq_false_iff_ne.2 hz] at HT
        generalize cs.getD j cls0 = z at HX HQ HS
        obtain ⟨xi, xp, xr, xe, xb, xu, xo, xl⟩ := x
        obtain ⟨zi, zp, zr, ze, zb, zu, zo, zl⟩ := z
        unfold clsV at HT HS
        simp only at a0 a1 a2 a3 a4 a5 a6 a7 HT HS
        clear hb hz hpx hj
        go_wp2_with (go_at_call 86; refine (HT.out _).mono ?_; rintro e w1 ⟨rfl, b1⟩; have B1 := Lib.hid (HB.out.trans (b1.mono HB.out.size)); have hg1 := Nat.lt_of_lt_of_le hgw b1.size; have E1 := Lib.hid (HE.out.on b1 hgw); have F1 := Lib.hid (HFR.out.on b1 hgw); obtain ⟨c0, c1, c2, c3, c4, c5, c6, c7⟩ := E1.out; clear b1)
        go_wp2_with (go_at_call 111; refine (HS.out _ (Lib.hid (HI.out.below B1.out))).mono ?_; rintro e w2 ⟨rfl, b2⟩; have B2 := Lib.hid (B1.out.trans (b2.mono B1.out.size)); have hg2 := Nat.lt_of_lt_of_le hg1 b2.size; have E2 := Lib.hid (E1.out.on b2 hg1); have F2 := Lib.hid (F1.out.on b2 hg1); have hfz := fun o => F2.out o; obtain ⟨p0, p1, p2, p3, p4, p5, p6, p7⟩ := E2.out; clear b2)
        go_roundw
        case rel => exact ⟨k + 1, ⟨zi, zp, zr, ze, zb, zu, zo, zl⟩, by omega, by go_num, HQ.out, read8 E2.out.some _ _ rfl, by simpa using hg2, ((((((((F2.out.set _ _).set _ _).set _ _).set _ _).set _ _).set _ _).set _ _).set _ _), set8 B2.out _ (Nat.le_refl _) _ _ _ _ _ _ _ _, HX⟩
        case measure => simp [intOf]; omega
    · have hk7 : k = 7 := by omega
      subst hk7
      have HX : Hid ((x.p == 0) = R) := Lib.hid (by rw [← HP.out]; rfl)
      generalize (x.p == 0) = q at HT HX
      obtain ⟨xi, xp, xr, xe, xb, xu, xo, xl⟩ := x
      unfold clsV at HT
      simp only at a0 a1 a2 a3 a4 a5 a6 a7 HT
      clear hb hpx
      go_wp2_with (go_at_call 86; refine (HT.out _).mono ?_; rintro e w1 ⟨rfl, b1⟩; have B1 := Lib.hid (HB.out.trans (b1.mono HB.out.size)); clear b1)
      go_ret
      exact ⟨ret_bool HX.out, B1.out⟩
end Go.Proofs.YthgbhnedfdnfpaaGreatDoor
