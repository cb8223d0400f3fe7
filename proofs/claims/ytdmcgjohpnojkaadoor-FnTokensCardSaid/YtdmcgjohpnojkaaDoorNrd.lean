/- Decimal texts in the model: contracts of nuRead. -/
import Derived.Test.YtdmcgjohpnojkaaDoorNur
namespace Go.Proofs.YtdmcgjohpnojkaaDoor
set_option maxRecDepth 100000
open Go.RowKit

theorem unit_ways (o : Option Int) (f lim : Int) (h : ∀ v, o = Option.some v → 0 ≤ v) (h2 : ∀ v, o = Option.some v → v ≤ lim) :
    (optM o ≤ 0 ∧ optM (unitN o f) = -1) ∨ (0 < optM o ∧ optM o ≤ lim ∧ optM (unitN o f) = optM o * f) := by
  rcases opt_three o h with (rfl | rfl) | ⟨v, rfl, hv⟩
  · exact .inl ⟨by decide, rfl⟩
  · exact .inl ⟨by decide, rfl⟩
  · exact .inr ⟨hv, h2 v rfl, by rw [unitN_some f hv]; rfl⟩
set_option maxHeartbeats 3200000 in
theorem nuRead_m (s : ByteArray) (w : World) (hs : s.size ≤ 1048576) (h0 : 0 < s.size) (h : Hid (Lib.hasSuffix s.data.toList [109] = true)) :
    Calls Tryd.prog 146 #[.string s] w (SaysSz w (optM (rnr s.data.toList))) := by
  obtain ⟨t, u, ht, hul, hus, hex, hsl, hst⟩ := last_run s h0
  have q1 : (0 : Int) ≤ (s.size : Int) - 1 := by omega
  have q2 : (s.size : Int) - 1 ≤ s.size := by omega
  have q3 : (1 : Int) ≤ s.size := by omega
  have q6 : IntKind.i64.wrap ((s.size : Int) - 1) = (s.size : Int) - 1 := IntWalk.i64_in _ (by omega)
  have HR := Lib.hid (fun w => nuDigits_dec u 1000 w (sizes_init hus hs) (by omega) (by omega))
  rw [hul] at HR
  rw [rnr_m h.out]
  obtain ⟨o, ho⟩ : ∃ o, rdT 10 1000 (initL s.data.toList) = o := ⟨_, rfl⟩
  have hc := unit_ways o 1000000 1000 (fun v q => rdT_nonneg 10 1000 (by omega) _ v (ho.trans q)) (fun v q => rdT_le 10 1000 (by omega) _ v (ho.trans q))
  rw [ho] at HR ⊢
  obtain ⟨r, hr⟩ : ∃ r, optM o = r := ⟨_, rfl⟩
  rw [hr] at HR hc
  have HC := Lib.hid hc
  have t1 := ht 109
  have t2 := ht 107
  rw [h.out] at t1
  have d0 : decide ((0 : Int) < s.size) = true := by simp; omega
  clear ho hul hus ht hr hc
  go_enter Tryd.func146, Tryd.ntmps146
  go_wp2_with (go_at_call 155; refine (nuUnits_any _).mono ?_; rintro e w1 ⟨rfl, ⟨u0, u1, u2⟩, b1⟩; have B1 := Lib.hid b1; clear b1)
  refine wp_loop_rounds 1 ?_
  rw [rounds_succ]
  go_wp2_with fail
  go_region_with (first | (go_at_call 156; refine (nuSize_0 _).mono ?_; rintro e w2 ⟨rfl, b2⟩; have B2 := Lib.hid b2; clear b2) | (go_at_call 154; refine (HR.out _).mono ?_; rintro e w' ⟨rfl, rfl⟩))
  all_goals
    rcases HC.out with ⟨c, HE⟩ | ⟨c, c', HE⟩
    · have d := is_le c
      have HE' := Lib.hid HE
      clear HE
      go_wp2
      go_ret
      exact ⟨ret_int HE'.out.symm, (show Below w.heap.size w w1.drew from below_drewN B1.out 1).trans (B2.out.mono B1.out.size)⟩
    · have d := not_le c
      have HE' := Lib.hid HE
      clear HE
      have B12 := Lib.hid ((show Below w.heap.size w w1.drew from below_drewN B1.out 1).trans (B2.out.mono B1.out.size))
      go_wp2_with (go_at_call 156; refine (nuSize_0 _).mono ?_; rintro e w3 ⟨rfl, b3⟩; have B3 := Lib.hid b3; clear b3)
      go_ret
      exact ⟨ret_int HE'.out.symm, B12.out.trans (B3.out.mono B12.out.size)⟩
set_option maxHeartbeats 3200000 in
theorem nuRead_k (s : ByteArray) (w : World) (hs : s.size ≤ 1048576) (h0 : 0 < s.size) (h : Hid (Lib.hasSuffix s.data.toList [109] = false)) (h2 : Hid (Lib.hasSuffix s.data.toList [107] = true)) :
    Calls Tryd.prog 146 #[.string s] w (SaysSz w (optM (rnr s.data.toList))) := by
  obtain ⟨t, u, ht, hul, hus, hex, hsl, hst⟩ := last_run s h0
  have q1 : (0 : Int) ≤ (s.size : Int) - 1 := by omega
  have q2 : (s.size : Int) - 1 ≤ s.size := by omega
  have q3 : (1 : Int) ≤ s.size := by omega
  have q6 : IntKind.i64.wrap ((s.size : Int) - 1) = (s.size : Int) - 1 := IntWalk.i64_in _ (by omega)
  have HR := Lib.hid (fun w => nuDigits_dec u 1000000 w (sizes_init hus hs) (by omega) (by omega))
  rw [hul] at HR
  rw [rnr_k h.out h2.out]
  obtain ⟨o, ho⟩ : ∃ o, rdT 10 1000000 (initL s.data.toList) = o := ⟨_, rfl⟩
  have hc := unit_ways o 1000 1000000 (fun v q => rdT_nonneg 10 1000000 (by omega) _ v (ho.trans q)) (fun v q => rdT_le 10 1000000 (by omega) _ v (ho.trans q))
  rw [ho] at HR ⊢
  obtain ⟨r, hr⟩ : ∃ r, optM o = r := ⟨_, rfl⟩
  rw [hr] at HR hc
  have HC := Lib.hid hc
  have t1 := ht 109
  have t2 := ht 107
  rw [h.out] at t1
  rw [h2.out] at t2
  have d0 : decide ((0 : Int) < s.size) = true := by simp; omega
  clear ho hul hus ht hr hc
  go_enter Tryd.func146, Tryd.ntmps146
  go_wp2_with (go_at_call 155; refine (nuUnits_any _).mono ?_; rintro e w1 ⟨rfl, ⟨u0, u1, u2⟩, b1⟩; have B1 := Lib.hid b1; clear b1)
  refine wp_loop_rounds 2 ?_
  rw [rounds_succ]
  go_wp2_with fail
  rw [rounds_succ]
  go_wp2_with fail
  go_region_with (first | (go_at_call 156; refine (nuSize_1 _).mono ?_; rintro e w2 ⟨rfl, b2⟩; have B2 := Lib.hid b2; clear b2) | (go_at_call 154; refine (HR.out _).mono ?_; rintro e w' ⟨rfl, rfl⟩))
  all_goals
    rcases HC.out with ⟨c, HE⟩ | ⟨c, c', HE⟩
    · have d := is_le c
      have HE' := Lib.hid HE
      clear HE
      go_wp2
      go_ret
      exact ⟨ret_int HE'.out.symm, (show Below w.heap.size w w1.drew from below_drewN B1.out 1).trans (B2.out.mono B1.out.size)⟩
    · have d := not_le c
      have HE' := Lib.hid HE
      clear HE
      have B12 := Lib.hid ((show Below w.heap.size w w1.drew from below_drewN B1.out 1).trans (B2.out.mono B1.out.size))
      go_wp2_with (go_at_call 156; refine (nuSize_1 _).mono ?_; rintro e w3 ⟨rfl, b3⟩; have B3 := Lib.hid b3; clear b3)
      go_ret
      exact ⟨ret_int HE'.out.symm, B12.out.trans (B3.out.mono B12.out.size)⟩
set_option maxHeartbeats 3200000 in
theorem nuRead_n (s : ByteArray) (w : World) (hs : s.size ≤ 1048576) (h0 : 0 < s.size) (h : Hid (Lib.hasSuffix s.data.toList [109] = false)) (h2 : Hid (Lib.hasSuffix s.data.toList [107] = false)) :
    Calls Tryd.prog 146 #[.string s] w (SaysSz w (optM (rnr s.data.toList))) := by
  obtain ⟨t, u, ht, hul, hus, hex, hsl, hst⟩ := last_run s h0
  have HR := Lib.hid (fun w => nuDigits_dec s 1000000000 w hs (by omega) (by omega))
  rw [rnr_n h.out h2.out]
  obtain ⟨r, hr⟩ : ∃ r, optM (rdT 10 1000000000 s.data.toList) = r := ⟨_, rfl⟩
  rw [hr] at HR ⊢
  have t1 := ht 109
  have t2 := ht 107
  rw [h.out] at t1
  rw [h2.out] at t2
  have d0 : decide ((0 : Int) < s.size) = true := by simp; omega
  clear hr hul hus ht
  go_enter Tryd.func146, Tryd.ntmps146
  go_wp2_with (go_at_call 155; refine (nuUnits_any _).mono ?_; rintro e w1 ⟨rfl, ⟨u0, u1, u2⟩, b1⟩; have B1 := Lib.hid b1; clear b1)
  refine wp_loop_rounds 4 ?_
  rw [rounds_succ]
  go_wp2_with fail
  rw [rounds_succ]
  go_wp2_with fail
  rw [rounds_succ]
  go_wp2_with fail
  rw [rounds_succ]
  go_wp2_with (go_at_call 154; refine (HR.out _).mono ?_; rintro e w' ⟨rfl, rfl⟩)
  go_ret
  exact ⟨rfl, B1.out⟩
set_option maxHeartbeats 3200000 in
theorem nuRead_0 (s : ByteArray) (w : World) (h0 : s.size = 0) :
    Calls Tryd.prog 146 #[.string s] w (SaysSz w (optM (rnr s.data.toList))) := by
  have hl : s.data.toList = [] := List.eq_nil_of_length_eq_zero (by rw [← size_data]; exact h0)
  have HR := Lib.hid (fun w => nuDigits_dec s 1000000000 w (by omega) (by omega) (by omega))
  rw [rnr_n (by rw [hl]; rfl) (by rw [hl]; rfl)]
  obtain ⟨r, hr⟩ : ∃ r, optM (rdT 10 1000000000 s.data.toList) = r := ⟨_, rfl⟩
  rw [hr] at HR ⊢
  have d0 : decide ((0 : Int) < s.size) = false := decide_eq_false (by omega)
  clear hr hl
  go_enter Tryd.func146, Tryd.ntmps146
  go_wp2_with (go_at_call 155; refine (nuUnits_any _).mono ?_; rintro e w1 ⟨rfl, ⟨u0, u1, u2⟩, b1⟩; have B1 := Lib.hid b1; clear b1)
  refine wp_loop_rounds 4 ?_
  rw [rounds_succ]
  go_wp2_with fail
  rw [rounds_succ]
  go_wp2_with fail
  rw [rounds_succ]
  go_wp2_with fail
  rw [rounds_succ]
  go_wp2_with (go_at_call 154; refine (HR.out _).mono ?_; rintro e w' ⟨rfl, rfl⟩)
  go_ret
  exact ⟨rfl, B1.out⟩
theorem nuRead_any (s : ByteArray) (w : World) (hs : s.size ≤ 1048576) :
    Calls Tryd.prog 146 #[.string s] w (SaysSz w (optM (rnr s.data.toList))) := by
  rcases Nat.eq_zero_or_pos s.size with h0 | h0
  · exact nuRead_0 s w h0
  · rcases Bool.eq_false_or_eq_true (Lib.hasSuffix s.data.toList [109]) with h | h
    · exact nuRead_m s w hs h0 h
    · rcases Bool.eq_false_or_eq_true (Lib.hasSuffix s.data.toList [107]) with h2 | h2
      · exact nuRead_k s w hs h0 h h2
      · exact nuRead_n s w hs h0 h h2
end Go.Proofs.YtdmcgjohpnojkaaDoor
