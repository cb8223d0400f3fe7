/- DecimalAt: contracts of program and model. -/
import Derived.Test.YtniggnjnpapkeabDoorNumT
namespace Go.Proofs.YtniggnjnpapkeabDoor
set_option maxRecDepth 100000
open Go.RowKit

theorem ret_three {a a' b b' c c' : Value} (h : a = a') (h' : b = b') (h'' : c = c') : Ending.returned (.tuple #[a, b, c]) = .returned (.tuple #[a', b', c']) := by rw [h, h', h'']
theorem sub_run (s : ByteArray) (k0 c : Nat) (hc : k0 + c ≤ s.size) : ∃ u : ByteArray, u.size = c ∧ u.data.toList = (s.data.toList.drop k0).take c ∧
    ∀ w, (Instr.slice 9 (.string s) (some (.int .i64 (k0 : Int))) (some (.int .i64 ((k0 : Int) + (c : Int)))) none).run Tryd.prog w = .ok (.string u) w := by
  have hd := Lib.extract_data s k0 (k0 + c)
  rw [Nat.add_sub_cancel_left] at hd
  refine ⟨s.extract k0 (k0 + c), ?_, hd, fun w => ?_⟩
  · have := congrArg List.length hd
    simp at this
    simp
    omega
  · rw [run_slice_string w 9 s .i64 .i64 (k0 : Int) ((k0 : Int) + (c : Int)) Tryd.underlying9 (by omega) (by omega) (by omega)]
    rfl
theorem Drawn.dig {w w' : World} (h : Drawn w w') (hd : Dig w) : Dig w' := by obtain ⟨q, rfl⟩ := h; exact hd
theorem Drawn.trans {a b c : World} (h : Drawn a b) (k : Drawn b c) : Drawn a c := by
  obtain ⟨q, rfl⟩ := h
  obtain ⟨r, rfl⟩ := k
  exact ⟨q + r, by simp⟩
def SaysThree (w : World) (a b : Int) (ok : Bool) (e : Ending) (w' : World) : Prop := e = .returned (.tuple #[.int .i64 a, .int .i64 b, .bool ok]) ∧ Drawn w w'

/-! The program. -/
theorem implDec_bad (s : ByteArray) (at' : Int) (w : World) (h : 4000 < (s.size : Int) ∨ ((s.size : Int) ≤ 4000 ∧ at' < 0) ∨ ((s.size : Int) ≤ 4000 ∧ 0 ≤ at' ∧ (s.size : Int) < at')) :
    Calls Tryd.prog 8 #[.string s, .int .i64 at'] w (SaysThree w 0 0 false) := by
  rcases h with h | ⟨h, h1⟩ | ⟨h, h1, h2⟩
  · go_enter Tryd.func8, Tryd.ntmps8
    go_wp2_with (go_at_call 37; refine (isText_false _ _ h).mono ?_; rintro e w' ⟨rfl, rfl⟩)
    go_ret3
    exact ⟨rfl, 0, rfl⟩
  · have t0 := is_lt h1
    go_enter Tryd.func8, Tryd.ntmps8
    go_wp2_with (go_at_call 37; refine (isText_true _ _ h).mono ?_; rintro e w' ⟨rfl, rfl⟩)
    go_ret3
    exact ⟨rfl, 0, rfl⟩
  · have t0 := not_lt h1
    have t1 := is_lt h2
    go_enter Tryd.func8, Tryd.ntmps8
    go_wp2_with (go_at_call 37; refine (isText_true _ _ h).mono ?_; rintro e w' ⟨rfl, rfl⟩)
    go_ret3
    exact ⟨rfl, 0, rfl⟩
set_option maxHeartbeats 800000 in
theorem implDec_none (s : ByteArray) (k0 c : Nat) (w : World) (hD : Hid (Dig w)) (hs : (s.size : Int) ≤ 4000) (hk0 : k0 ≤ s.size) (HC : Hid (dlen 10 (s.data.toList.drop k0) = c)) (hc : k0 + c ≤ s.size) (h0 : c = 0) :
    Calls Tryd.prog 8 #[.string s, .int .i64 k0] w (SaysThree w 0 0 false) := by
  have t1 : decide (s.size < k0) = false := by simp; omega
  have hsub : (k0 : Int) + (c : Int) - (k0 : Int) = (c : Int) := by omega
  have b0 : ((c : Int) == 0) = true := by simp; omega
  have H0 := Lib.hid h0
  clear h0
  go_enter Tryd.func8, Tryd.ntmps8
  go_wp2_with (first | (go_at_call 37; refine (isText_true _ _ hs).mono ?_; rintro e w' ⟨rfl, rfl⟩) | (go_at_call 31; refine (digitsEnd_dec s k0 _ hD (by omega) hk0).mono ?_; rw [HC.out]; rintro e w1 ⟨rfl, q⟩; have Q1 := Lib.hid q; clear q))
  go_ret3
  exact ⟨rfl, Q1.out⟩
set_option maxHeartbeats 800000 in
theorem implDec_long (s : ByteArray) (k0 c : Nat) (w : World) (hD : Hid (Dig w)) (hs : (s.size : Int) ≤ 4000) (hk0 : k0 ≤ s.size) (HC : Hid (dlen 10 (s.data.toList.drop k0) = c)) (hc : k0 + c ≤ s.size) (h0 : 10 < c) :
    Calls Tryd.prog 8 #[.string s, .int .i64 k0] w (SaysThree w 0 0 false) := by
  have t1 : decide (s.size < k0) = false := by simp; omega
  have hsub : (k0 : Int) + (c : Int) - (k0 : Int) = (c : Int) := by omega
  have hlt : k0 < s.size := by omega
  have b0 : ((c : Int) == 0) = false := by simp; omega
  have b1 : decide ((10 : Int) < c) = true := by simp; omega
  go_enter Tryd.func8, Tryd.ntmps8
  go_wp2_with (first | (go_at_call 37; refine (isText_true _ _ hs).mono ?_; rintro e w' ⟨rfl, rfl⟩) | (go_at_call 31; refine (digitsEnd_dec s k0 _ hD (by omega) hk0).mono ?_; rw [HC.out]; rintro e w1 ⟨rfl, q⟩; have Q1 := Lib.hid q; clear q))
  go_ret3
  exact ⟨rfl, Q1.out⟩
set_option maxHeartbeats 800000 in
theorem implDec_zero (s : ByteArray) (k0 c : Nat) (w : World) (hD : Hid (Dig w)) (hs : (s.size : Int) ≤ 4000) (hk0 : k0 ≤ s.size) (HC : Hid (dlen 10 (s.data.toList.drop k0) = c)) (hc : k0 + c ≤ s.size) (h0 : 1 < c) (h1 : c ≤ 10) (hlt : k0 < s.size) (b3 : ((s[k0].toNat : Int) == 48) = true) :
    Calls Tryd.prog 8 #[.string s, .int .i64 k0] w (SaysThree w 0 0 false) := by
  have t1 : decide (s.size < k0) = false := by simp; omega
  have hsub : (k0 : Int) + (c : Int) - (k0 : Int) = (c : Int) := by omega
  have b0 : ((c : Int) == 0) = false := by simp; omega
  have b1 : decide ((10 : Int) < c) = false := by simp; omega
  have b2 : decide ((1 : Int) < c) = true := by simp; omega
  go_enter Tryd.func8, Tryd.ntmps8
  go_wp2_with (first | (go_at_call 37; refine (isText_true _ _ hs).mono ?_; rintro e w' ⟨rfl, rfl⟩) | (go_at_call 31; refine (digitsEnd_dec s k0 _ hD (by omega) hk0).mono ?_; rw [HC.out]; rintro e w1 ⟨rfl, q⟩; have Q1 := Lib.hid q; clear q))
  go_ret3
  exact ⟨rfl, Q1.out⟩
set_option maxHeartbeats 800000 in
theorem implDec_one_big (s : ByteArray) (k0 c : Nat) (w : World) (hD : Hid (Dig w)) (hs : (s.size : Int) ≤ 4000) (hk0 : k0 ≤ s.size) (HC : Hid (dlen 10 (s.data.toList.drop k0) = c)) (hc : k0 + c ≤ s.size) (h0 : c = 1) (v : Int) (HV0 : Hid (dvN 10 (s.data.toList.drop k0) 0 = v)) (hv : 1000000000 < v) :
    Calls Tryd.prog 8 #[.string s, .int .i64 k0] w (SaysThree w 0 0 false) := by
  have t1 : decide (s.size < k0) = false := by simp; omega
  have hsub : (k0 : Int) + (c : Int) - (k0 : Int) = (c : Int) := by omega
  obtain ⟨u, hus, hud, hsl⟩ := sub_run s k0 c hc
  have HUD := Lib.hid hud
  have HUS := Lib.hid hus
  clear hud hus
  have HDG : Hid (∀ x ∈ u.data.toList, 0 ≤ dg 10 (x.toNat : Int)) := Lib.hid (by rw [HUD.out, ← HC.out]; exact digits_of 10 _)
  have hu10 : u.size ≤ 10 := by have := HUS.out; omega
  have HV : Hid (dval 10 u.data.toList = v) := Lib.hid (by rw [dval_dvN 10 _ HDG.out, HUD.out, ← HC.out, dvN_take, HV0.out])
  have b0 : ((c : Int) == 0) = false := by simp; omega
  have b1 : decide ((10 : Int) < c) = false := by simp; omega
  have b2 : decide ((1 : Int) < c) = false := by simp; omega
  have H0 := Lib.hid h0
  clear h0
  have d9 := is_lt hv
  go_enter Tryd.func8, Tryd.ntmps8
  go_wp2_with (first | (go_at_call 37; refine (isText_true _ _ hs).mono ?_; rintro e w' ⟨rfl, rfl⟩) | (go_at_call 31; refine (digitsEnd_dec s k0 _ hD (by omega) hk0).mono ?_; rw [HC.out]; rintro e w1 ⟨rfl, q⟩; have Q1 := Lib.hid q; clear q) | (go_at_call 32; refine (digitsValue_dec u _ (Lib.hid (Q1.out.dig hD.out)) hu10 HDG).mono ?_; rw [HV.out]; rintro e w2 ⟨rfl, q2⟩; have Q2 := Lib.hid q2; clear q2))
  go_ret3
  exact ⟨rfl, Q1.out.trans Q2.out⟩
set_option maxHeartbeats 800000 in
theorem implDec_one_fine (s : ByteArray) (k0 c : Nat) (w : World) (hD : Hid (Dig w)) (hs : (s.size : Int) ≤ 4000) (hk0 : k0 ≤ s.size) (HC : Hid (dlen 10 (s.data.toList.drop k0) = c)) (hc : k0 + c ≤ s.size) (h0 : c = 1) (v : Int) (HV0 : Hid (dvN 10 (s.data.toList.drop k0) 0 = v)) (hv : v ≤ 1000000000) :
    Calls Tryd.prog 8 #[.string s, .int .i64 k0] w (SaysThree w v ((k0 + c : Nat) : Int) true) := by
  have t1 : decide (s.size < k0) = false := by simp; omega
  have hsub : (k0 : Int) + (c : Int) - (k0 : Int) = (c : Int) := by omega
  obtain ⟨u, hus, hud, hsl⟩ := sub_run s k0 c hc
  have HUD := Lib.hid hud
  have HUS := Lib.hid hus
  clear hud hus
  have HDG : Hid (∀ x ∈ u.data.toList, 0 ≤ dg 10 (x.toNat : Int)) := Lib.hid (by rw [HUD.out, ← HC.out]; exact digits_of 10 _)
  have hu10 : u.size ≤ 10 := by have := HUS.out; omega
  have HV : Hid (dval 10 u.data.toList = v) := Lib.hid (by rw [dval_dvN 10 _ HDG.out, HUD.out, ← HC.out, dvN_take, HV0.out])
  have b0 : ((c : Int) == 0) = false := by simp; omega
  have b1 : decide ((10 : Int) < c) = false := by simp; omega
  have b2 : decide ((1 : Int) < c) = false := by simp; omega
  have H0 := Lib.hid h0
  clear h0
  have d9 := not_lt hv
  go_enter Tryd.func8, Tryd.ntmps8
  go_wp2_with (first | (go_at_call 37; refine (isText_true _ _ hs).mono ?_; rintro e w' ⟨rfl, rfl⟩) | (go_at_call 31; refine (digitsEnd_dec s k0 _ hD (by omega) hk0).mono ?_; rw [HC.out]; rintro e w1 ⟨rfl, q⟩; have Q1 := Lib.hid q; clear q) | (go_at_call 32; refine (digitsValue_dec u _ (Lib.hid (Q1.out.dig hD.out)) hu10 HDG).mono ?_; rw [HV.out]; rintro e w2 ⟨rfl, q2⟩; have Q2 := Lib.hid q2; clear q2))
  go_ret3
  exact ⟨by simp, Q1.out.trans Q2.out⟩
set_option maxHeartbeats 800000 in
theorem implDec_more_big (s : ByteArray) (k0 c : Nat) (w : World) (hD : Hid (Dig w)) (hs : (s.size : Int) ≤ 4000) (hk0 : k0 ≤ s.size) (HC : Hid (dlen 10 (s.data.toList.drop k0) = c)) (hc : k0 + c ≤ s.size) (h0 : 1 < c) (h1 : c ≤ 10) (hlt : k0 < s.size) (b3 : ((s[k0].toNat : Int) == 48) = false) (v : Int) (HV0 : Hid (dvN 10 (s.data.toList.drop k0) 0 = v)) (hv : 1000000000 < v) :
    Calls Tryd.prog 8 #[.string s, .int .i64 k0] w (SaysThree w 0 0 false) := by
  have t1 : decide (s.size < k0) = false := by simp; omega
  have hsub : (k0 : Int) + (c : Int) - (k0 : Int) = (c : Int) := by omega
  obtain ⟨u, hus, hud, hsl⟩ := sub_run s k0 c hc
  have HUD := Lib.hid hud
  have HUS := Lib.hid hus
  clear hud hus
  have HDG : Hid (∀ x ∈ u.data.toList, 0 ≤ dg 10 (x.toNat : Int)) := Lib.hid (by rw [HUD.out, ← HC.out]; exact digits_of 10 _)
  have hu10 : u.size ≤ 10 := by have := HUS.out; omega
  have HV : Hid (dval 10 u.data.toList = v) := Lib.hid (by rw [dval_dvN 10 _ HDG.out, HUD.out, ← HC.out, dvN_take, HV0.out])
  have b0 : ((c : Int) == 0) = false := by simp; omega
  have b1 : decide ((10 : Int) < c) = false := by simp; omega
  have b2 : decide ((1 : Int) < c) = true := by simp; omega
  have d9 := is_lt hv
  go_enter Tryd.func8, Tryd.ntmps8
  go_wp2_with (first | (go_at_call 37; refine (isText_true _ _ hs).mono ?_; rintro e w' ⟨rfl, rfl⟩) | (go_at_call 31; refine (digitsEnd_dec s k0 _ hD (by omega) hk0).mono ?_; rw [HC.out]; rintro e w1 ⟨rfl, q⟩; have Q1 := Lib.hid q; clear q) | (go_at_call 32; refine (digitsValue_dec u _ (Lib.hid (Q1.out.dig hD.out)) hu10 HDG).mono ?_; rw [HV.out]; rintro e w2 ⟨rfl, q2⟩; have Q2 := Lib.hid q2; clear q2))
  go_ret3
  exact ⟨rfl, Q1.out.trans Q2.out⟩
set_option maxHeartbeats 800000 in
theorem implDec_more_fine (s : ByteArray) (k0 c : Nat) (w : World) (hD : Hid (Dig w)) (hs : (s.size : Int) ≤ 4000) (hk0 : k0 ≤ s.size) (HC : Hid (dlen 10 (s.data.toList.drop k0) = c)) (hc : k0 + c ≤ s.size) (h0 : 1 < c) (h1 : c ≤ 10) (hlt : k0 < s.size) (b3 : ((s[k0].toNat : Int) == 48) = false) (v : Int) (HV0 : Hid (dvN 10 (s.data.toList.drop k0) 0 = v)) (hv : v ≤ 1000000000) :
    Calls Tryd.prog 8 #[.string s, .int .i64 k0] w (SaysThree w v ((k0 + c : Nat) : Int) true) := by
  have t1 : decide (s.size < k0) = false := by simp; omega
  have hsub : (k0 : Int) + (c : Int) - (k0 : Int) = (c : Int) := by omega
  obtain ⟨u, hus, hud, hsl⟩ := sub_run s k0 c hc
  have HUD := Lib.hid hud
  have HUS := Lib.hid hus
  clear hud hus
  have HDG : Hid (∀ x ∈ u.data.toList, 0 ≤ dg 10 (x.toNat : Int)) := Lib.hid (by rw [HUD.out, ← HC.out]; exact digits_of 10 _)
  have hu10 : u.size ≤ 10 := by have := HUS.out; omega
  have HV : Hid (dval 10 u.data.toList = v) := Lib.hid (by rw [dval_dvN 10 _ HDG.out, HUD.out, ← HC.out, dvN_take, HV0.out])
  have b0 : ((c : Int) == 0) = false := by simp; omega
  have b1 : decide ((10 : Int) < c) = false := by simp; omega
  have b2 : decide ((1 : Int) < c) = true := by simp; omega
  have d9 := not_lt hv
  go_enter Tryd.func8, Tryd.ntmps8
  go_wp2_with (first | (go_at_call 37; refine (isText_true _ _ hs).mono ?_; rintro e w' ⟨rfl, rfl⟩) | (go_at_call 31; refine (digitsEnd_dec s k0 _ hD (by omega) hk0).mono ?_; rw [HC.out]; rintro e w1 ⟨rfl, q⟩; have Q1 := Lib.hid q; clear q) | (go_at_call 32; refine (digitsValue_dec u _ (Lib.hid (Q1.out.dig hD.out)) hu10 HDG).mono ?_; rw [HV.out]; rintro e w2 ⟨rfl, q2⟩; have Q2 := Lib.hid q2; clear q2))
  go_ret3
  exact ⟨by simp, Q1.out.trans Q2.out⟩
end Go.Proofs.YtniggnjnpapkeabDoor
