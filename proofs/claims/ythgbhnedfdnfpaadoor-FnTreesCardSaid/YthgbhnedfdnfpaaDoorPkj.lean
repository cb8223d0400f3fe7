import Derived.Test.YthgbhnedfdnfpaaDoorPki
/- The program's functions over classes: parents, spare rates, single conditions. -/
namespace Go.Proofs.YthgbhnedfdnfpaaDoor
set_option maxRecDepth 100000
open Go.RowKit
set_option linter.unusedVariables false

theorem plc_of_fnd {cs : List Cls} (hi : IncC cs) {id : Int} {j : Nat} (h : fnd cs id = Option.some j) : plc cs id = j ∧ plcB cs id = true := by
  rw [plcB_fnd hi, h]
  rw [fnd_plc hi] at h
  by_cases q : plc cs id < cs.length ∧ (cs.getD (plc cs id) cls0).i = id
  · rw [if_pos q] at h; exact ⟨Option.some.inj h, rfl⟩
  · rw [if_neg q] at h; cases h
theorem plc_of_none {cs : List Cls} (hi : IncC cs) {id : Int} (h : fnd cs id = Option.none) : plcB cs id = false := by
  rw [plcB_fnd hi, h]; rfl
/-- the cells of a class's box are there -/
def EightS (w : World) (b : Nat) : Prop := (w.cell? ⟨b, 0, none⟩).isSome = true ∧ (w.cell? ⟨b, 1, none⟩).isSome = true ∧ (w.cell? ⟨b, 2, none⟩).isSome = true ∧ (w.cell? ⟨b, 3, none⟩).isSome = true ∧ (w.cell? ⟨b, 4, none⟩).isSome = true ∧ (w.cell? ⟨b, 5, none⟩).isSome = true ∧ (w.cell? ⟨b, 6, none⟩).isSome = true ∧ (w.cell? ⟨b, 7, none⟩).isSome = true
theorem EightB.some {w : World} {b : Nat} {x : Cls} (h : EightB w b x) : EightS w b := by
  obtain ⟨h0, h1, h2, h3, h4, h5, h6, h7⟩ := h
  exact ⟨by rw [h0]; rfl, by rw [h1]; rfl, by rw [h2]; rfl, by rw [h3]; rfl, by rw [h4]; rfl, by rw [h5]; rfl, by rw [h6]; rfl, by rw [h7]; rfl⟩
theorem read8 {w1 : World} {b : Nat} (h : EightS w1 b) (x : Cls) (W : World) (hW : W = ((((((((w1.setCell ⟨b, 0, none⟩ (.int .i64 x.i)).setCell ⟨b, 1, none⟩ (.int .i64 x.p)).setCell ⟨b, 2, none⟩ (.int .i64 x.r)).setCell ⟨b, 3, none⟩ (.int .i64 x.e)).setCell ⟨b, 4, none⟩ (.int .i64 x.b)).setCell ⟨b, 5, none⟩ (.int .i64 x.u)).setCell ⟨b, 6, none⟩ (.int .i64 x.o)).setCell ⟨b, 7, none⟩ (.int .i64 x.l))) : EightB W b x := by
  obtain ⟨h0, h1, h2, h3, h4, h5, h6, h7⟩ := h
  subst hW
  refine ⟨?_, ?_, ?_, ?_, ?_, ?_, ?_, ?_⟩ <;> simp [go_sem, World.cell?_setCell_other, World.cell?_setCell_same', h0, h1, h2, h3, h4, h5, h6, h7]
theorem EightB.on {w w1 : World} {b B : Nat} {x : Cls} (h : EightB w b x) (hb : Below B w w1) (hB : b < B) : EightB w1 b x := by
  obtain ⟨h0, h1, h2, h3, h4, h5, h6, h7⟩ := h
  exact ⟨(hb.cell (p := ⟨b, 0, none⟩) hB).trans h0, (hb.cell (p := ⟨b, 1, none⟩) hB).trans h1, (hb.cell (p := ⟨b, 2, none⟩) hB).trans h2, (hb.cell (p := ⟨b, 3, none⟩) hB).trans h3, (hb.cell (p := ⟨b, 4, none⟩) hB).trans h4, (hb.cell (p := ⟨b, 5, none⟩) hB).trans h5, (hb.cell (p := ⟨b, 6, none⟩) hB).trans h6, (hb.cell (p := ⟨b, 7, none⟩) hB).trans h7⟩
theorem set8 {n : Nat} {w w1 : World} (h : Below n w w1) (b : Nat) (hb : n ≤ b) (v0 v1 v2 v3 v4 v5 v6 v7 : Value) : Below n w ((((((((w1.setCell ⟨b, 0, none⟩ v0).setCell ⟨b, 1, none⟩ v1).setCell ⟨b, 2, none⟩ v2).setCell ⟨b, 3, none⟩ v3).setCell ⟨b, 4, none⟩ v4).setCell ⟨b, 5, none⟩ v5).setCell ⟨b, 6, none⟩ v6).setCell ⟨b, 7, none⟩ v7) := set_cls h b hb 0 1 2 3 4 5 6 7 v0 v1 v2 v3 v4 v5 v6 v7
set_option maxHeartbeats 3200000 in
theorem parentOf_any (ac : Option Addr) (n cc : Nat) (cs : List Cls) (y : Cls) (j : Nat) (w : World) (HI : Hid (InX w ac n (clsCs cs))) (hn : Hid (cs.length = n)) (hm : n ≤ 1048576) (hi : Hid (IncC cs)) (hj : Hid (fnd cs y.p = Option.some j)) :
    Calls Tryd.prog 37 #[(.slice ac n cc), clsV y] w (SaysV w (clsV (cs.getD j cls0))) := by
  have hp := plc_of_fnd hi.out hj.out
  have hjl : j < cs.length := (fnd_get cs _ j hj.out).1
  have hjn : j < n := by rw [← hn.out]; exact hjl
  have HS := Lib.hid (fun w HI => placeOf_any ac n cc cs y.p w HI hn hm hi)
  rw [hp.1, hp.2] at HS
  obtain ⟨g, rfl, ht, hg⟩ := HI.out (by omega)
  have HT := Lib.hid ht
  obtain ⟨x, hx⟩ : ∃ x, cs.getD j cls0 = x := ⟨_, rfl⟩
  have HX := Lib.hid hx
  rw [hx]
  obtain ⟨xi, xp, xr, xe, xb, xu, xo, xl⟩ := x
  obtain ⟨yi, yp, yr, ye, yb, yu, yo, yl⟩ := y
  unfold clsV
  simp only at HS ⊢
  clear hp ht hx hj
  go_enter Tryd.func37, Tryd.ntmps37
  go_wp2_with (go_at_call 23; refine (HS.out _ (Lib.hid (HI.out.below (two_new _ _ _)))).mono ?_; rintro e w1 ⟨rfl, b1⟩; have B1 := Lib.hid (two_below b1); have hz1 := two_size b1; obtain ⟨hc1, hf1⟩ := bcell b1; obtain ⟨a0, a1, a2, a3, a4, a5, a6, a7⟩ := (HT.out.below (two_below b1) hg).cls j hjl _ HX.out; clear b1)
  have E1 : EightS w1 (w.heap.size + 1) := by
    refine ⟨?_, ?_, ?_, ?_, ?_, ?_, ?_, ?_⟩ <;> rw [hc1 _ _ (by simp)] <;> simp [go_sem]
  obtain ⟨r0, r1, r2, r3, r4, r5, r6, r7⟩ := read8 E1 ⟨xi, xp, xr, xe, xb, xu, xo, xl⟩ _ rfl
  exact bodyPost_ret (v := .agg #[.int .i64 xi, .int .i64 xp, .int .i64 xr, .int .i64 xe, .int .i64 xb, .int .i64 xu, .int .i64 xo, .int .i64 xl]) (by simp [results, Tryd.results37, go_sem, r0, r1, r2, r3, r4, r5, r6, r7]) rfl ⟨rfl, set8 B1.out _ (Nat.le_succ _) _ _ _ _ _ _ _ _⟩
def SpRelW (w : World) (o : Obj) (n : Nat) (cs : List Cls) (id S : Int) (a i : Value) (wr : World) : Prop :=
  ∃ (k : Nat) (z : Int), k ≤ n ∧ i = .int .i64 k ∧ a = .int .i64 z ∧ z ≤ 100000 ∧ -(100000 * (k : Int)) ≤ z ∧ Aft w o wr ∧ Hid (spF id z (cs.drop k) = S)
set_option maxHeartbeats 3200000 in
theorem spareRate_any (ac : Option Addr) (n cc : Nat) (cs : List Cls) (y : Cls) (w : World) (HI : Hid (InX w ac n (clsCs cs))) (hn : Hid (cs.length = n)) (hm : n ≤ 1048576) (h24 : n ≤ 24) (HR : Hid (RatesIn cs)) (hyr : 1 ≤ y.r ∧ y.r ≤ 100000) :
    Calls Tryd.prog 27 #[(.slice ac n cc), clsV y] w (SaysI w (spare cs y)) := by
  obtain ⟨S, hS⟩ : ∃ S, spare cs y = S := ⟨_, rfl⟩
  have H0 : Hid (spF y.i y.r (cs.drop 0) = S) := Lib.hid hS
  rw [hS]
  clear hS
  obtain ⟨yi, yp, yr, ye, yb, yu, yo, yl⟩ := y
  unfold clsV
  simp only at H0 hyr ⊢
  go_enter Tryd.func27, Tryd.ntmps27
  go_wp2_with fail
  go_loopw [5, 12] (fun a i wr => SpRelW w (Obj.cells #[.int .i64 yi, .int .i64 yp, .int .i64 yr, .int .i64 ye, .int .i64 yb, .int .i64 yu, .int .i64 yo, .int .i64 yl] 43) n cs yi S a i wr) (fun _ i _ => n - (intOf i).toNat)
  case atStart => exact ⟨0, yr, Nat.zero_le _, rfl, rfl, by omega, by omega, Aft.refl _ _, H0⟩
  case round =>
    obtain ⟨k, z, hk, rfl, rfl, z1, z2, hb, HP⟩ := hrel
    have HB := Lib.hid hb
    obtain ⟨⟨e0, _, _, _, _, _, _, _⟩, hbw⟩ := box_eight hb
    have HW := Lib.hid hbw
    have hgw : w.heap.size < wr.heap.size := by have := (show Below (w.alloc (Obj.cells #[.int .i64 yi, .int .i64 yp, .int .i64 yr, .int .i64 ye, .int .i64 yb, .int .i64 yu, .int .i64 yo, .int .i64 yl] 43)).heap.size (w.alloc (Obj.cells #[.int .i64 yi, .int .i64 yp, .int .i64 yr, .int .i64 ye, .int .i64 yb, .int .i64 yu, .int .i64 yo, .int .i64 yl] 43)) wr from hb).size; simp at this; omega
    by_cases hlt : k < n
    · obtain ⟨g, rfl, ht, hg⟩ := HI.out (by omega)
      obtain ⟨x, hx⟩ : ∃ x, cs.getD k cls0 = x := ⟨_, rfl⟩
      have hl1 : k < cs.length := by rw [hn.out]; exact hlt
      obtain ⟨a0, a1, a2, a3, a4, a5, a6, a7⟩ := (ht.below hbw hg).cls k hl1 x hx
      have hxr := HR.out k hl1
      rw [hx] at hxr
      have HE := Lib.hid (spF_at yi z cs k hl1 x hx)
      have e0' := fun o => ((bcell (one_new2 wr o)).1 _ 0 hgw).trans e0
      have k24 : (k : Int) < 24 := by omega
      obtain ⟨xi, xp, xr, xe, xb, xu, xo, xl⟩ := x
      simp only at a0 a1 a2 a3 a4 a5 a6 a7 hxr HE
      clear hb hx hl1 ht hbw e0
      by_cases he : xp = yi
      · have dq : (xp == yi) = true := by simpa using he
        have HX : Hid (spF yi (z - xr) (cs.drop (k + 1)) = S) := Lib.hid (by rw [← HP.out, HE.out, if_pos he])
        clear he
        go_wp2_with fail
        go_roundw
        case rel => exact ⟨k + 1, z - xr, by omega, by go_num, rfl, by omega, by omega, HB.out.alloc _, HX⟩
        case measure => simp [intOf]; omega
      · have dq : (xp == yi) = false := by simpa using he
        have HX : Hid (spF yi z (cs.drop (k + 1)) = S) := Lib.hid (by rw [← HP.out, HE.out, if_neg he])
        clear he
        go_wp2_with fail
        go_roundw
        case rel => exact ⟨k + 1, z, by omega, by go_num, rfl, by omega, by omega, HB.out.alloc _, HX⟩
        case measure => simp [intOf]; omega
    · have HX : Hid (z = S) := Lib.hid (by rw [← HP.out, spF_end _ z cs k (by rw [hn.out]; omega)])
      clear hb hbw
      go_wp2_with fail
      go_ret
      exact ⟨ret_int HX.out, HW.out⟩
def AllRel (w : World) (n : Nat) (P : Nat → Bool) (B : Bool) (i : Value) (wr : World) : Prop := ∃ k : Nat, k ≤ n ∧ i = .int .i64 k ∧ Below w.heap.size w wr ∧ Hid (fromK P n k = B)
set_option maxHeartbeats 3200000 in
theorem ratesFit_any (ac : Option Addr) (n cc : Nat) (cs : List Cls) (w : World) (HI : Hid (InX w ac n (clsCs cs))) (hn : Hid (cs.length = n)) (hm : n ≤ 1048576) (h24 : n ≤ 24) (HR : Hid (RatesIn cs)) :
    Calls Tryd.prog 47 #[(.slice ac n cc)] w (SaysB w (rfG cs)) := by
  obtain ⟨B, hB⟩ : ∃ B, rfG cs = B := ⟨_, rfl⟩
  have H0 : Hid (fromK (fun k => decide (0 ≤ spare cs (cs.getD k cls0))) n 0 = B) := Lib.hid (by rw [← hB]; unfold rfG; rw [hn.out])
  have HS := Lib.hid (fun y w HI => spareRate_any ac n cc cs y w HI hn hm h24 HR)
  rw [hB]
  clear hB
  go_enter Tryd.func47, Tryd.ntmps47
  go_wp2_with fail
  go_loopw [7] (fun i wr => AllRel w n (fun k => decide (0 ≤ spare cs (cs.getD k cls0))) B i wr) (fun i _ => n - (intOf i).toNat)
  case atStart => exact ⟨0, Nat.zero_le _, rfl, Below.refl _ _, H0⟩
  case round =>
    obtain ⟨k, hk, rfl, hb, HP⟩ := hrel
    have HB := Lib.hid hb
    by_cases hlt : k < n
    · obtain ⟨g, rfl, ht, hg⟩ := HI.out (by omega)
      obtain ⟨x, hx⟩ : ∃ x, cs.getD k cls0 = x := ⟨_, rfl⟩
      have hl1 : k < cs.length := by rw [hn.out]; exact hlt
      obtain ⟨a0, a1, a2, a3, a4, a5, a6, a7⟩ := (ht.below hb hg).cls k hl1 x hx
      have HSx := Lib.hid (HS.out x)
      have hxr := HR.out k hl1
      rw [hx] at hxr
      have HE := Lib.hid (fromK_at (fun k => decide (0 ≤ spare cs (cs.getD k cls0))) n k hlt)
      have HE2 : Hid (decide (0 ≤ spare cs (cs.getD k cls0)) = decide (0 ≤ spare cs x)) := Lib.hid (by rw [hx])
      have HRx := Lib.hid hxr
      obtain ⟨z, hz⟩ : ∃ z, spare cs x = z := ⟨_, rfl⟩
      rw [hz] at HSx HE2
      obtain ⟨xi, xp, xr, xe, xb, xu, xo, xl⟩ := x
      unfold clsV at HSx
      simp only at a0 a1 a2 a3 a4 a5 a6 a7 HSx HRx
      clear hb hx hl1 ht hz hxr
      rcases Int.lt_or_le z 0 with hz | hz
      · have dz := is_lt hz
        have HX : Hid (B = false) := Lib.hid (by rw [← HP.out, HE.out, HE2.out, decide_eq_false (by omega)]; rfl)
        clear hz
        go_wp2_with (go_at_call 27; refine (HSx.out _ (Lib.hid (HI.out.below (HB.out.trans ((one_new2 _ _).mono HB.out.size)))) HRx.out).mono ?_; rintro e w1 ⟨rfl, b1⟩; have B1 := Lib.hid ((HB.out.trans ((one_new2 _ _).mono HB.out.size)).trans (b1.mono (Nat.le_trans HB.out.size (by simp)))); clear b1)
        go_ret
        exact ⟨ret_bool HX.out.symm, B1.out⟩
      · have dz := not_lt hz
        have HX := Lib.hid (show fromK (fun k => decide (0 ≤ spare cs (cs.getD k cls0))) n (k + 1) = B by rw [← HP.out, HE.out, HE2.out, decide_eq_true hz, Bool.true_and])
        clear hz
        go_wp2_with (go_at_call 27; refine (HSx.out _ (Lib.hid (HI.out.below (HB.out.trans ((one_new2 _ _).mono HB.out.size)))) HRx.out).mono ?_; rintro e w1 ⟨rfl, b1⟩; have B1 := Lib.hid ((HB.out.trans ((one_new2 _ _).mono HB.out.size)).trans (b1.mono (Nat.le_trans HB.out.size (by simp)))); clear b1)
        go_roundw
        case rel => exact ⟨k + 1, by omega, by go_num, B1.out, HX.out⟩
        case measure => simp [intOf]; omega
    · have HX : Hid (true = B) := Lib.hid (by rw [← HP.out, fromK_end _ n k (by omega)])
      clear hb
      go_wp2_with fail
      go_ret
      exact ⟨ret_bool HX.out, HB.out⟩
end Go.Proofs.YthgbhnedfdnfpaaDoor
