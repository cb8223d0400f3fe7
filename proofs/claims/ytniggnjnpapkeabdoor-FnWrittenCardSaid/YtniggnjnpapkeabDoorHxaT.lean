/- HexAt: contracts of program and model, and both together. -/
import Derived.Test.YtniggnjnpapkeabDoorDecS
namespace Go.Proofs.YtniggnjnpapkeabDoor
set_option maxRecDepth 100000
open Go.RowKit

theorem from_run (s : ByteArray) (k0 : Nat) (hk : k0 ≤ s.size) : ∃ u : ByteArray, Hid (u.data.toList = s.data.toList.drop k0) ∧
    ∀ w, (Instr.slice 9 (.string s) (some (.int .i64 (k0 : Int))) none none).run Tryd.prog w = .ok (.string u) w := by
  have hd := Lib.extract_data s k0 s.size
  refine ⟨s.extract k0 s.size, ?_, fun w => ?_⟩
  · unfold Hid
    rw [hd, List.take_of_length_le]
    simp
  · rw [run_slice_string_l w 9 s Tryd.underlying9 .i64 (k0 : Int) (by omega) (by omega)]
    rfl
/-- the prefix is there -/
def Pfx (s : ByteArray) (k0 : Nat) : Prop := Lib.hasPrefix (s.data.toList.drop k0) [48, 120] = true

theorem implHex_pfx (s : ByteArray) (k0 : Nat) (w : World) (hD : Hid (Dig w)) (hs : (s.size : Int) ≤ 4000) (hk0 : k0 ≤ s.size) (hp : Hid (¬ Pfx s k0)) :
    Calls Tryd.prog 11 #[.string s, .int .i64 k0] w (SaysThree w 0 0 false) := by
  have t1 : decide (s.size < k0) = false := by simp; omega
  obtain ⟨u, HU, hsl⟩ := from_run s k0 hk0
  have HP : Hid (Lib.hasPrefix u.data.toList [48, 120] = false) := by unfold Hid; rw [HU.out]; exact Bool.eq_false_iff.2 hp.out
  go_enter Tryd.func11, Tryd.ntmps11
  go_wp2_with (first | (go_at_call 37; refine (isText_true _ _ hs).mono ?_; rintro e w' ⟨rfl, rfl⟩) | (go_at_call 40; refine (Tryd.strings_HasPrefix _ _ _).mono ?_; rw [show (ByteArray.mk #[48, 120]).data.toList = [48, 120] from rfl, HP.out]; rintro e w' ⟨rfl, rfl⟩))
  go_ret3
  exact ⟨rfl, 0, rfl⟩

theorem digitsEnd_at2 (s : ByteArray) (k0 c : Nat) (w : World) (hD : Hid (Dig w)) (hs : (s.size : Int) ≤ 1048576) (hk0 : k0 + 2 ≤ s.size) (HC : Hid (dlen 16 (s.data.toList.drop (k0 + 2)) = c)) :
    Calls Tryd.prog 31 #[.string s, .int .i64 ((k0 : Int) + 2), .int .i64 1] w (SaysIntD w ((k0 : Int) + 2 + c)) := by
  have h := digitsEnd_hex s (k0 + 2) w hD hs hk0
  rw [HC.out] at h
  have e1 : ((k0 + 2 : Nat) : Int) = (k0 : Int) + 2 := by omega
  have e2 : ((k0 + 2 + c : Nat) : Int) = (k0 : Int) + 2 + c := by omega
  rw [e1, e2] at h
  exact h
theorem scNumber_at2 (s : ByteArray) (k0 c : Nat) (n : Int) (w : World) (hs : (s.size : Int) ≤ 1048576) (hk0 : k0 + 2 ≤ s.size) (HC : Hid (dlen 16 (s.data.toList.drop (k0 + 2)) = c)) (HS : Hid (satN 16 4294967295 (s.data.toList.drop (k0 + 2)) 0 = n)) :
    Calls Tryd.prog 54 #[.string s, .int .i64 ((k0 : Int) + 2), .int .i64 16, .int .i64 4294967295] w (SaysTwoI w n ((k0 : Int) + 2 + c)) := by
  have h := scNumber_hex s (k0 + 2) w hs hk0
  rw [HC.out, HS.out] at h
  have e1 : ((k0 + 2 : Nat) : Int) = (k0 : Int) + 2 := by omega
  have e2 : ((k0 + 2 + c : Nat) : Int) = (k0 : Int) + 2 + c := by omega
  rw [e1] at h
  exact h.mono fun e w' ⟨a, b⟩ => ⟨by rw [a, e2], b⟩
theorem sub_run2 (s : ByteArray) (k0 c : Nat) (hc : k0 + 2 + c ≤ s.size) : ∃ u : ByteArray, u.size = c ∧ u.data.toList = (s.data.toList.drop (k0 + 2)).take c ∧
    ∀ w, (Instr.slice 9 (.string s) (some (.int .i64 ((k0 : Int) + 2))) (some (.int .i64 ((k0 : Int) + 2 + (c : Int)))) none).run Tryd.prog w = .ok (.string u) w := by
  obtain ⟨u, a, b, h⟩ := sub_run s (k0 + 2) c hc
  have e1 : ((k0 + 2 : Nat) : Int) = (k0 : Int) + 2 := by omega
  rw [e1] at h
  exact ⟨u, a, b, h⟩
theorem pfx_two (s : ByteArray) (k0 : Nat) (u : ByteArray) (hu : u.data.toList = (s.data.toList.drop k0).take 2) : (u.toList == [48, 120]) = Lib.hasPrefix (s.data.toList.drop k0) [48, 120] := by
  rw [ByteArray.toList_eq, hu]
  unfold Lib.hasPrefix
  generalize s.data.toList.drop k0 = l
  match l with
  | [] => rfl
  | [a] => simp [List.isPrefixOf]
  | a :: b :: r =>
    simp only [List.take_succ_cons, List.take_zero, List.isPrefixOf]
    rw [Bool.eq_iff_iff]
    simp
    constructor
    · rintro ⟨rfl, rfl⟩; exact ⟨rfl, rfl⟩
    · rintro ⟨rfl, rfl⟩; exact ⟨rfl, rfl⟩
theorem pfx_size (s : ByteArray) (k0 : Nat) (h : Pfx s k0) : k0 + 2 ≤ s.size := by
  unfold Pfx Lib.hasPrefix at h
  have := (List.isPrefixOf_iff_prefix.1 h).length_le
  simp at this
  omega

/-! The program. -/
theorem implHex_bad (s : ByteArray) (at' : Int) (w : World) (h : AtBad s.size at') :
    Calls Tryd.prog 11 #[.string s, .int .i64 at'] w (SaysThree w 0 0 false) := by
  rcases h with h | ⟨h, h1⟩ | ⟨h, h1, h2⟩
  · go_enter Tryd.func11, Tryd.ntmps11
    go_wp2_with (go_at_call 37; refine (isText_false _ _ h).mono ?_; rintro e w' ⟨rfl, rfl⟩)
    go_ret3
    exact ⟨rfl, 0, rfl⟩
  · have t0 := is_lt h1
    go_enter Tryd.func11, Tryd.ntmps11
    go_wp2_with (go_at_call 37; refine (isText_true _ _ h).mono ?_; rintro e w' ⟨rfl, rfl⟩)
    go_ret3
    exact ⟨rfl, 0, rfl⟩
  · have t0 := not_lt h1
    have t1 := is_lt h2
    go_enter Tryd.func11, Tryd.ntmps11
    go_wp2_with (go_at_call 37; refine (isText_true _ _ h).mono ?_; rintro e w' ⟨rfl, rfl⟩)
    go_ret3
    exact ⟨rfl, 0, rfl⟩
set_option maxHeartbeats 800000 in
theorem implHex_none (s : ByteArray) (k0 c : Nat) (w : World) (hD : Hid (Dig w)) (hs : (s.size : Int) ≤ 4000) (hk0 : k0 + 2 ≤ s.size) (hp : Hid (Pfx s k0)) (HC : Hid (dlen 16 (s.data.toList.drop (k0 + 2)) = c)) (hc : k0 + 2 + c ≤ s.size) (h0 : c = 0) :
    Calls Tryd.prog 11 #[.string s, .int .i64 k0] w (SaysThree w 0 0 false) := by
  have t1 : decide (s.size < k0) = false := by simp; omega
  obtain ⟨u0, HU0, hsl0⟩ := from_run s k0 (by omega)
  have HP : Hid (Lib.hasPrefix u0.data.toList [48, 120] = true) := by unfold Hid; rw [HU0.out]; exact hp.out
  have hsub : (k0 : Int) + 2 + (c : Int) - ((k0 : Int) + 2) = (c : Int) := by omega
  have b0 : ((k0 : Int) + 2 + (c : Int) == (k0 : Int) + 2) = true := by simp; omega
  have b9 : ((c : Int) == 0) = true := by simp; omega
  have H0 := Lib.hid h0
  clear h0
  go_enter Tryd.func11, Tryd.ntmps11
  go_wp2_with (first | (go_at_call 37; refine (isText_true _ _ hs).mono ?_; rintro e w' ⟨rfl, rfl⟩) | (go_at_call 40; refine (Tryd.strings_HasPrefix _ _ _).mono ?_; rw [show (ByteArray.mk #[48, 120]).data.toList = [48, 120] from rfl, HP.out]; rintro e w' ⟨rfl, rfl⟩) | (go_at_call 31; refine (digitsEnd_at2 s k0 c _ hD (by omega) hk0 HC).mono ?_; rintro e w1 ⟨rfl, q⟩; have Q1 := Lib.hid q; clear q))
  go_ret3
  exact ⟨rfl, Q1.out⟩
set_option maxHeartbeats 800000 in
theorem implHex_long (s : ByteArray) (k0 c : Nat) (w : World) (hD : Hid (Dig w)) (hs : (s.size : Int) ≤ 4000) (hk0 : k0 + 2 ≤ s.size) (hp : Hid (Pfx s k0)) (HC : Hid (dlen 16 (s.data.toList.drop (k0 + 2)) = c)) (hc : k0 + 2 + c ≤ s.size) (h0 : 8 < c) :
    Calls Tryd.prog 11 #[.string s, .int .i64 k0] w (SaysThree w 0 0 false) := by
  have t1 : decide (s.size < k0) = false := by simp; omega
  obtain ⟨u0, HU0, hsl0⟩ := from_run s k0 (by omega)
  have HP : Hid (Lib.hasPrefix u0.data.toList [48, 120] = true) := by unfold Hid; rw [HU0.out]; exact hp.out
  have hsub : (k0 : Int) + 2 + (c : Int) - ((k0 : Int) + 2) = (c : Int) := by omega
  have b0 : ((k0 : Int) + 2 + (c : Int) == (k0 : Int) + 2) = false := by simp; omega
  have b1 : decide ((8 : Int) < c) = true := by simp; omega
  go_enter Tryd.func11, Tryd.ntmps11
  go_wp2_with (first | (go_at_call 37; refine (isText_true _ _ hs).mono ?_; rintro e w' ⟨rfl, rfl⟩) | (go_at_call 40; refine (Tryd.strings_HasPrefix _ _ _).mono ?_; rw [show (ByteArray.mk #[48, 120]).data.toList = [48, 120] from rfl, HP.out]; rintro e w' ⟨rfl, rfl⟩) | (go_at_call 31; refine (digitsEnd_at2 s k0 c _ hD (by omega) hk0 HC).mono ?_; rintro e w1 ⟨rfl, q⟩; have Q1 := Lib.hid q; clear q))
  go_ret3
  exact ⟨rfl, Q1.out⟩
set_option maxHeartbeats 800000 in
theorem implHex_fine (s : ByteArray) (k0 c : Nat) (w : World) (hD : Hid (Dig w)) (hs : (s.size : Int) ≤ 4000) (hk0 : k0 + 2 ≤ s.size) (hp : Hid (Pfx s k0)) (HC : Hid (dlen 16 (s.data.toList.drop (k0 + 2)) = c)) (hc : k0 + 2 + c ≤ s.size) (h0 : 0 < c) (h1 : c ≤ 8) (v : Int) (HV0 : Hid (dvN 16 (s.data.toList.drop (k0 + 2)) 0 = v)) :
    Calls Tryd.prog 11 #[.string s, .int .i64 k0] w (SaysThree w v ((k0 : Int) + 2 + c) true) := by
  have t1 : decide (s.size < k0) = false := by simp; omega
  obtain ⟨u0, HU0, hsl0⟩ := from_run s k0 (by omega)
  have HP : Hid (Lib.hasPrefix u0.data.toList [48, 120] = true) := by unfold Hid; rw [HU0.out]; exact hp.out
  have hsub : (k0 : Int) + 2 + (c : Int) - ((k0 : Int) + 2) = (c : Int) := by omega
  obtain ⟨u, hus, hud, hsl⟩ := sub_run2 s k0 c hc
  have HUD := Lib.hid hud
  have HUS := Lib.hid hus
  clear hud hus
  have HDG : Hid (∀ x ∈ u.data.toList, 0 ≤ dg 16 (x.toNat : Int)) := Lib.hid (by rw [HUD.out, ← HC.out]; exact digits_of 16 _)
  have hu10 : u.size ≤ 10 := by have := HUS.out; omega
  have HV : Hid (dval 16 u.data.toList = v) := Lib.hid (by rw [dval_dvN 16 _ HDG.out, HUD.out, ← HC.out, dvN_take, HV0.out])
  have b0 : ((k0 : Int) + 2 + (c : Int) == (k0 : Int) + 2) = false := by simp; omega
  have b1 : decide ((8 : Int) < c) = false := by simp; omega
  go_enter Tryd.func11, Tryd.ntmps11
  go_wp2_with (first | (go_at_call 37; refine (isText_true _ _ hs).mono ?_; rintro e w' ⟨rfl, rfl⟩) | (go_at_call 40; refine (Tryd.strings_HasPrefix _ _ _).mono ?_; rw [show (ByteArray.mk #[48, 120]).data.toList = [48, 120] from rfl, HP.out]; rintro e w' ⟨rfl, rfl⟩) | (go_at_call 31; refine (digitsEnd_at2 s k0 c _ hD (by omega) hk0 HC).mono ?_; rintro e w1 ⟨rfl, q⟩; have Q1 := Lib.hid q; clear q) | (go_at_call 32; refine (digitsValue_hex u _ (Lib.hid (Q1.out.dig hD.out)) hu10 HDG).mono ?_; rw [HV.out]; rintro e w2 ⟨rfl, q2⟩; have Q2 := Lib.hid q2; clear q2))
  go_ret3
  exact ⟨rfl, Q1.out.trans Q2.out⟩

/-! The model. -/
theorem scHex_short (s : ByteArray) (k0 : Nat) (w : World) (hs : (s.size : Int) ≤ 4000) (hk : k0 ≤ s.size) (hk0 : s.size < k0 + 2) :
    Calls Tryd.prog 41 #[.string s, .int .i64 k0] w (SaysTwoI w 0 (-1)) := by
  have t := is_lt (show (s.size : Int) < (k0 : Int) + 2 by omega)
  go_enter Tryd.func41, Tryd.ntmps41
  go_wp2
  go_ret2
  exact ⟨rfl, rfl⟩
theorem scHex_pfx (s : ByteArray) (k0 : Nat) (w : World) (hs : (s.size : Int) ≤ 4000) (hk0 : k0 + 2 ≤ s.size) (hp : Hid (¬ Pfx s k0)) :
    Calls Tryd.prog 41 #[.string s, .int .i64 k0] w (SaysTwoI w 0 (-1)) := by
  obtain ⟨u, hus, hud, hsl⟩ := sub_run s k0 2 hk0
  have h2 : ((2 : Nat) : Int) = 2 := rfl
  rw [h2] at hsl
  have hb : (u.toList == [48, 120]) = false := by rw [pfx_two s k0 u hud]; exact Bool.eq_false_iff.2 hp.out
  clear h2 hud hus
  have t := not_lt (show (k0 : Int) + 2 ≤ (s.size : Int) by omega)
  go_enter Tryd.func41, Tryd.ntmps41
  go_wp2
  go_ret2
  exact ⟨rfl, rfl⟩
theorem scHex_go (s : ByteArray) (k0 c : Nat) (n : Int) (w : World) (hs : (s.size : Int) ≤ 4000) (hk0 : k0 + 2 ≤ s.size) (hp : Hid (Pfx s k0)) (HC : Hid (dlen 16 (s.data.toList.drop (k0 + 2)) = c)) (hc : k0 + 2 + c ≤ s.size) (HS : Hid (satN 16 4294967295 (s.data.toList.drop (k0 + 2)) 0 = n)) :
    (c = 0 ∨ 8 < c → Calls Tryd.prog 41 #[.string s, .int .i64 k0] w (SaysTwoI w 0 (-1))) ∧ (0 < c → c ≤ 8 → Calls Tryd.prog 41 #[.string s, .int .i64 k0] w (SaysTwoI w n ((k0 : Int) + 2 + c))) := by
  obtain ⟨u, hus, hud, hsl⟩ := sub_run s k0 2 hk0
  have h2 : ((2 : Nat) : Int) = 2 := rfl
  rw [h2] at hsl
  have hb : (u.toList == [48, 120]) = true := by rw [pfx_two s k0 u hud]; exact hp.out
  clear h2 hud hus
  have t := not_lt (show (k0 : Int) + 2 ≤ (s.size : Int) by omega)
  have hsub : (k0 : Int) + 2 + (c : Int) - (k0 : Int) - 2 = (c : Int) := by omega
  refine ⟨fun h => ?_, fun h0 h8 => ?_⟩
  · have H := Lib.hid h
    clear h
    go_enter Tryd.func41, Tryd.ntmps41
    go_wp2_with (first | (go_at_call 54; refine (scNumber_at2 s k0 c n _ (by omega) hk0 HC HS).mono ?_; rintro e w' ⟨rfl, rfl⟩) | (go_at_call 47; refine (l1In_false _ _ _ _ (by have := H.out; omega)).mono ?_; rintro e w' ⟨rfl, rfl⟩))
    go_ret2
    exact ⟨rfl, rfl⟩
  · go_enter Tryd.func41, Tryd.ntmps41
    go_wp2_with (first | (go_at_call 54; refine (scNumber_at2 s k0 c n _ (by omega) hk0 HC HS).mono ?_; rintro e w' ⟨rfl, rfl⟩) | (go_at_call 47; refine (l1In_true _ _ _ _ (by omega) (by omega)).mono ?_; rintro e w' ⟨rfl, rfl⟩))
    go_ret2
    exact ⟨rfl, rfl⟩
theorem specHex_bad (s : ByteArray) (a : Int) (w : World) (h : AtBad s.size a) :
    Calls Tryd.prog 12 #[.string s, .int .i64 a] w (SaysThreeS w 0 0 false) := by
  have H := Lib.hid h
  clear h
  go_enter Tryd.func12, Tryd.ntmps12
  go_wp2_with (go_at_call 38; refine (scIndex_false _ _ _ H.out).mono ?_; rintro e w' ⟨rfl, rfl⟩)
  go_ret3
  exact ⟨rfl, rfl⟩
theorem specHex_no (s : ByteArray) (k0 : Nat) (w : World) (hs : (s.size : Int) ≤ 4000) (hk0 : k0 ≤ s.size) (H : Hid (∀ w, Calls Tryd.prog 41 #[.string s, .int .i64 k0] w (SaysTwoI w 0 (-1)))) :
    Calls Tryd.prog 12 #[.string s, .int .i64 k0] w (SaysThreeS w 0 0 false) := by
  go_enter Tryd.func12, Tryd.ntmps12
  go_wp2_with (first | (go_at_call 38; refine (scIndex_true _ _ _ hs hk0).mono ?_; rintro e w' ⟨rfl, rfl⟩) | (go_at_call 41; refine (H.out _).mono ?_; rintro e w' ⟨rfl, rfl⟩))
  go_ret3
  exact ⟨rfl, rfl⟩
theorem specHex_yes (s : ByteArray) (k0 c : Nat) (n : Int) (w : World) (hs : (s.size : Int) ≤ 4000) (hk0 : k0 ≤ s.size) (H : Hid (∀ w, Calls Tryd.prog 41 #[.string s, .int .i64 k0] w (SaysTwoI w n ((k0 : Int) + 2 + c)))) :
    Calls Tryd.prog 12 #[.string s, .int .i64 k0] w (SaysThreeS w n ((k0 : Int) + 2 + c) true) := by
  have f1 : decide ((k0 : Int) + 2 + (c : Int) < 0) = false := by simp; omega
  go_enter Tryd.func12, Tryd.ntmps12
  go_wp2_with (first | (go_at_call 38; refine (scIndex_true _ _ _ hs hk0).mono ?_; rintro e w' ⟨rfl, rfl⟩) | (go_at_call 41; refine (H.out _).mono ?_; rintro e w' ⟨rfl, rfl⟩))
  go_ret3
  exact ⟨rfl, rfl⟩

/-- both functions answer the same -/
theorem hexAt_both (s : ByteArray) (a : Int) : ∃ (x y : Int) (ok : Bool),
    Hid (∀ w, Hid (Dig w) → Calls Tryd.prog 11 #[.string s, .int .i64 a] w (SaysThree w x y ok)) ∧
    Hid (∀ w, Calls Tryd.prog 12 #[.string s, .int .i64 a] w (SaysThreeS w x y ok)) := by
  by_cases hb : AtBad s.size a
  · exact ⟨0, 0, false, fun w _ => implHex_bad s a w hb, fun w => specHex_bad s a w hb⟩
  · have h' : (s.size : Int) ≤ 4000 ∧ 0 ≤ a ∧ a ≤ s.size := by unfold AtBad at hb; omega
    obtain ⟨hs, ha, has⟩ := h'
    obtain ⟨k0, rfl⟩ := Int.eq_ofNat_of_zero_le ha
    have hk0 : k0 ≤ s.size := by omega
    by_cases hp : Pfx s k0
    · have hk2 := pfx_size s k0 hp
      obtain ⟨c, HC⟩ : ∃ c, Hid (dlen 16 (s.data.toList.drop (k0 + 2)) = c) := ⟨_, rfl⟩
      obtain ⟨v, HV⟩ : ∃ v, Hid (dvN 16 (s.data.toList.drop (k0 + 2)) 0 = v) := ⟨_, rfl⟩
      obtain ⟨n, HS⟩ : ∃ n, Hid (satN 16 4294967295 (s.data.toList.drop (k0 + 2)) 0 = n) := ⟨_, rfl⟩
      have hc : k0 + 2 + c ≤ s.size := by rw [← HC.out]; exact dlen_room 16 s (k0 + 2) hk2
      by_cases h0 : c = 0 ∨ 8 < c
      · refine ⟨0, 0, false, fun w hD => ?_, fun w => specHex_no s k0 w hs hk0 fun w => (scHex_go s k0 c n w hs hk2 hp HC hc HS).1 h0⟩
        rcases h0 with h0 | h0
        · exact implHex_none s k0 c w hD hs hk2 hp HC hc h0
        · exact implHex_long s k0 c w hD hs hk2 hp HC hc h0
      · have hsv := sat_or 16 4294967295 (by omega) (s.data.toList.drop (k0 + 2)) 0 (by omega)
        rw [HS.out, HV.out] at hsv
        have hv9 : v < (0 + 1) * 16 ^ (dlen 16 (s.data.toList.drop (k0 + 2))) := by rw [← HV.out]; exact dvN_lt 16 (by omega) _ 0 (by omega)
        rw [HC.out] at hv9
        have hp8 : ((16 ^ c : Nat) : Int) ≤ ((16 ^ 8 : Nat) : Int) := Int.ofNat_le.2 (Nat.pow_le_pow_right (by omega) (by omega))
        rw [Int.natCast_pow, Int.natCast_pow] at hp8
        have e8 : ((16 : Nat) : Int) ^ 8 = 4294967296 := rfl
        have e16 : ((16 : Nat) : Int) = 16 := rfl
        rw [e8, e16] at hp8
        have hn : n = v := by omega
        have HV' : Hid (dvN 16 (s.data.toList.drop (k0 + 2)) 0 = n) := by rw [hn]; exact HV
        exact ⟨n, (k0 : Int) + 2 + c, true, fun w hD => implHex_fine s k0 c w hD hs hk2 hp HC hc (by omega) (by omega) n HV', fun w => specHex_yes s k0 c n w hs hk0 fun w => (scHex_go s k0 c n w hs hk2 hp HC hc HS).2 (by omega) (by omega)⟩
    · refine ⟨0, 0, false, fun w hD => implHex_pfx s k0 w hD hs hk0 hp, fun w => specHex_no s k0 w hs hk0 fun w => ?_⟩
      by_cases hk2 : k0 + 2 ≤ s.size
      · exact scHex_pfx s k0 w hs hk2 hp
      · exact scHex_short s k0 w hs hk0 (by omega)
end Go.Proofs.YtniggnjnpapkeabDoor
