/- The model's check of a name, of the tree, and of a whole configuration. -/
import Derived.Test.YtfijhgggljaomaaDoorCfw
namespace Go.Proofs.YtfijhgggljaomaaDoor
set_option maxRecDepth 100000
open Go.RowKit
set_option linter.unusedVariables false

theorem let_in {y : Int} (h : letB y = true) : 97 ≤ y ∧ y ≤ 122 := by unfold letB at h; simpa using h
theorem let_out {y : Int} (h : letB y = false) : y < 97 ∨ 122 < y := by
  unfold letB at h
  simp only [Bool.and_eq_false_iff, decide_eq_false_iff_not] at h
  omega
set_option maxHeartbeats 1600000 in
theorem cfName_any (s : ByteArray) (w : World) (hs : s.size ≤ 1048576) :
    Calls Tryd.prog 29 #[.string s] w (SaysB w (nmG s)) := by
  have HX : Hid (nmG s = ((alB s.data.toList && inB (s.size : Int) 1 8) && !isKw s)) := Lib.hid (by
    have e : inB (s.size : Int) 1 8 = (decide (1 ≤ s.size) && decide (s.size ≤ 8)) := by
      unfold inB
      congr 1
      · apply Bool.eq_iff_iff.2; simp; omega
      · apply Bool.eq_iff_iff.2; simp; omega
    rw [e]; rfl)
  obtain ⟨b, hb⟩ : ∃ b, alB s.data.toList = b := ⟨_, rfl⟩
  have H0 : Hid (alB (s.data.toList.drop 0) = b) := Lib.hid (by rw [← hb]; rfl)
  rw [hb] at HX
  have HKY := Lib.hid (fun w => specIsKey_any s w)
  have HIN := Lib.hid (fun w => l1In_any (s.size : Int) 1 8 w)
  generalize inB (s.size : Int) 1 8 = q1 at HX HIN
  generalize isKw s = q2 at HX HKY
  generalize nmG s = R at HX ⊢
  clear hb
  go_enter Tryd.func29, Tryd.ntmps29
  go_wp2_with fail
  go_loop [3] (fun i => AlRel s b i) (fun i => s.size - (intOf i).toNat)
  case atStart => exact ⟨0, Nat.zero_le _, rfl, H0⟩
  case round =>
    obtain ⟨k, hk, rfl, HP⟩ := hrel
    by_cases hlt : k < s.size
    · rcases Bool.eq_false_or_eq_true (letB ((s[k]'hlt).toNat : Int)) with hl | hl
      · have HY : Hid (alB (s.data.toList.drop (k + 1)) = b) := Lib.hid ((al_more s k hlt hl).symm.trans HP.out)
        have hq := let_in hl
        have d1 := not_lt hq.1
        have d2 := not_lt hq.2
        clear hl
        go_wp2_with fail
        go_round
        case rel => exact ⟨k + 1, by omega, by go_num, HY⟩
        case measure => simp [intOf]; omega
      · have HY : Hid (b = false) := Lib.hid (HP.out.symm.trans (al_stop s k hlt hl))
        have HR : Hid (R = false) := Lib.hid (by rw [HX.out, HY.out]; rfl)
        rcases let_out hl with hq | hq
        · have d1 := is_lt hq
          clear hl
          go_wp2_with fail
          go_ret
          exact ⟨ret_bool HR.out.symm, Below.refl _ _⟩
        · have d1 := not_lt (show (97 : Int) ≤ ((s[k]'hlt).toNat : Int) by omega)
          have d2 := is_lt hq
          clear hl
          go_wp2_with fail
          go_ret
          exact ⟨ret_bool HR.out.symm, Below.refl _ _⟩
    · have HY : Hid (b = true) := Lib.hid (HP.out.symm.trans (al_end s k (by omega)))
      have HR : Hid (R = (q1 && !q2)) := Lib.hid (by rw [HX.out, HY.out, Bool.true_and])
      cases q1
      · go_wp2_with (go_at_call 19; refine (HIN.out _).mono ?_; rintro e w' ⟨rfl, rfl⟩)
        go_ret
        exact ⟨ret_bool HR.out.symm, Below.refl _ _⟩
      · go_wp2_with (first | (go_at_call 19; refine (HIN.out _).mono ?_; rintro e w' ⟨rfl, rfl⟩) | (go_at_call 64; refine (HKY.out _).mono ?_; rintro e w2 ⟨rfl, b2⟩; have B2 := Lib.hid b2; clear b2))
        go_ret
        exact ⟨ret_bool HR.out.symm, B2.out⟩
def TrRel (w : World) (o : Obj) (n : Nat) (cs : List Cls) (O : Bool) (t i : Value) (wr : World) : Prop :=
  ∃ (k : Nat) (b : Int), k ≤ n ∧ i = .int .i64 k ∧ t = .int .i64 (cT (cs.take k) : Nat) ∧ Aft w o wr ∧ 0 ≤ b ∧ (k = 0 → b = 0) ∧ (∀ j, k = j + 1 → b = (cs.getD j cls0).i) ∧ okL b (cs.drop k) = O
theorem tr_stop {cs : List Cls} {b : Int} {k : Nat} {O : Bool} (h : k < cs.length) (x : Cls) (hx : cs.getD k cls0 = x) (HP : okL b (cs.drop k) = O) (hf : (decide (b < x.i) && (decide (x.i ≤ 999) && rateOk x)) = false) : O = false := by
  rw [← HP, okL_at b cs k h x hx, hf]; rfl
theorem tr_next {cs : List Cls} {b : Int} {k : Nat} {O : Bool} (h : k < cs.length) (x : Cls) (hx : cs.getD k cls0 = x) (HP : okL b (cs.drop k) = O) (hf : (decide (b < x.i) && (decide (x.i ≤ 999) && rateOk x)) = true) : okL x.i (cs.drop (k + 1)) = O := by
  rw [← HP, okL_at b cs k h x hx, hf, Bool.true_and]
theorem cT_take_le2 (cs : List Cls) (k : Nat) : cT (cs.take k) ≤ k := Nat.le_trans (cT_le _) (List.length_take_le _ _)
theorem limOk_kid2 {cs : List Cls} {x : Cls} (h : hasK cs x.i = true) : limOk cs x = (x.l == 0) := by unfold limOk; rw [h]; rfl
theorem limOk_leaf2 {cs : List Cls} {x : Cls} (h : hasK cs x.i = false) : limOk cs x = inB x.l 1 60 := by unfold limOk; rw [h]; rfl
theorem EightB.on2 {w w1 : World} {b B : Nat} {x : Cls} (h : EightB w b x) (hb : Below B w w1) (hB : b < B) : EightB w1 b x := by
  obtain ⟨h0, h1, h2, h3, h4, h5, h6, h7⟩ := h
  exact ⟨(hb.cell (p := ⟨b, 0, none⟩) hB).trans h0, (hb.cell (p := ⟨b, 1, none⟩) hB).trans h1, (hb.cell (p := ⟨b, 2, none⟩) hB).trans h2, (hb.cell (p := ⟨b, 3, none⟩) hB).trans h3, (hb.cell (p := ⟨b, 4, none⟩) hB).trans h4, (hb.cell (p := ⟨b, 5, none⟩) hB).trans h5, (hb.cell (p := ⟨b, 6, none⟩) hB).trans h6, (hb.cell (p := ⟨b, 7, none⟩) hB).trans h7⟩
def NdRel (w : World) (o : Obj) (n : Nat) (cs : List Cls) (B : Bool) (i : Value) (wr : World) : Prop := ∃ k : Nat, k ≤ n ∧ i = .int .i64 k ∧ Aft w o wr ∧ Hid (fromK (nodeOk cs) n k = B)
end Go.Proofs.YtfijhgggljaomaaDoor
