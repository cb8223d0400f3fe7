/- DecimalAt: the model's side, and both together. -/
import Derived.Test.YtniggnjnpapkeabDoorDecT
namespace Go.Proofs.YtniggnjnpapkeabDoor
set_option maxRecDepth 100000
open Go.RowKit

def AtBad (n a : Int) : Prop := 4000 < n ∨ (n ≤ 4000 ∧ a < 0) ∨ (n ≤ 4000 ∧ 0 ≤ a ∧ n < a)
theorem scIndex_false (s : ByteArray) (a : Int) (w : World) (h : AtBad s.size a) :
    Calls Tryd.prog 38 #[.string s, .int .i64 a] w fun e w' => e = .returned (.bool false) ∧ w = w' := by
  rcases h with h | ⟨h, h1⟩ | ⟨h, h1, h2⟩
  · go_enter Tryd.func38, Tryd.ntmps38
    go_wp2_with (go_at_call 43; refine (scBytes_false _ _ h).mono ?_; rintro e w' ⟨rfl, rfl⟩)
    go_ret
    exact ⟨rfl, rfl⟩
  all_goals
    go_enter Tryd.func38, Tryd.ntmps38
    go_wp2_with (first | (go_at_call 43; refine (scBytes_true _ _ h).mono ?_; rintro e w' ⟨rfl, rfl⟩) | (go_at_call 47; refine (l1In_false _ _ _ _ (by omega)).mono ?_; rintro e w' ⟨rfl, rfl⟩))
    go_ret
    exact ⟨rfl, rfl⟩
theorem scIndex_true (s : ByteArray) (k : Nat) (w : World) (h : (s.size : Int) ≤ 4000) (hk : k ≤ s.size) :
    Calls Tryd.prog 38 #[.string s, .int .i64 k] w fun e w' => e = .returned (.bool true) ∧ w = w' := by
  go_enter Tryd.func38, Tryd.ntmps38
  go_wp2_with (first | (go_at_call 43; refine (scBytes_true _ _ h).mono ?_; rintro e w' ⟨rfl, rfl⟩) | (go_at_call 47; refine (l1In_true _ _ _ _ (by omega) (by omega)).mono ?_; rintro e w' ⟨rfl, rfl⟩))
  go_ret
  exact ⟨rfl, rfl⟩

def SaysTwoI (w : World) (n k : Int) (e : Ending) (w' : World) : Prop := e = .returned (.tuple #[.int .i64 n, .int .i64 k]) ∧ w = w'
theorem scDec_none (s : ByteArray) (k0 c : Nat) (n : Int) (w : World) (hs : (s.size : Int) ≤ 4000) (hk0 : k0 ≤ s.size) (HC : Hid (dlen 10 (s.data.toList.drop k0) = c)) (HS : Hid (satN 10 1000000000 (s.data.toList.drop k0) 0 = n)) (h0 : c = 0) :
    Calls Tryd.prog 39 #[.string s, .int .i64 k0] w (SaysTwoI w 0 (-1)) := by
  subst h0
  go_enter Tryd.func39, Tryd.ntmps39
  go_wp2_with (go_at_call 54; refine (scNumber_dec s k0 _ (by omega) hk0).mono ?_; rw [HC.out, HS.out]; rintro e w' ⟨rfl, rfl⟩)
  go_ret2
  exact ⟨rfl, rfl⟩
theorem scDec_zero (s : ByteArray) (k0 c : Nat) (n : Int) (w : World) (hs : (s.size : Int) ≤ 4000) (hk0 : k0 < s.size) (HC : Hid (dlen 10 (s.data.toList.drop k0) = c)) (HS : Hid (satN 10 1000000000 (s.data.toList.drop k0) 0 = n)) (h0 : 1 < c) (hc : k0 + c ≤ s.size) (b3 : ((s[k0].toNat : Int) == 48) = true) :
    Calls Tryd.prog 39 #[.string s, .int .i64 k0] w (SaysTwoI w 0 (-1)) := by
  have f1 : ((k0 : Int) + (c : Int) == (k0 : Int)) = false := by simp; omega
  have f2 : decide ((k0 : Int) + 1 < (k0 : Int) + (c : Int)) = true := by simp; omega
  go_enter Tryd.func39, Tryd.ntmps39
  go_wp2_with (go_at_call 54; refine (scNumber_dec s k0 _ (by omega) (by omega)).mono ?_; rw [HC.out, HS.out]; rintro e w' ⟨rfl, rfl⟩)
  go_ret2
  exact ⟨rfl, rfl⟩
theorem scDec_one (s : ByteArray) (k0 c : Nat) (n : Int) (w : World) (hs : (s.size : Int) ≤ 4000) (hk0 : k0 < s.size) (HC : Hid (dlen 10 (s.data.toList.drop k0) = c)) (HS : Hid (satN 10 1000000000 (s.data.toList.drop k0) 0 = n)) (h0 : c = 1) (hc : k0 + c ≤ s.size) (b3 : ((s[k0].toNat : Int) == 48) = true) (hn : n ≤ 1000000000) :
    Calls Tryd.prog 39 #[.string s, .int .i64 k0] w (SaysTwoI w n ((k0 + c : Nat) : Int)) := by
  have f1 : ((k0 : Int) + (c : Int) == (k0 : Int)) = false := by simp; omega
  have f2 : decide ((k0 : Int) + 1 < (k0 : Int) + (c : Int)) = false := by simp; omega
  have f4 : decide ((1 : Int) < (c : Int)) = false := by simp; omega
  have f3 := not_lt hn
  have H0 := Lib.hid h0
  clear h0
  go_enter Tryd.func39, Tryd.ntmps39
  go_wp2_with (go_at_call 54; refine (scNumber_dec s k0 _ (by omega) (by omega)).mono ?_; rw [HC.out, HS.out]; rintro e w' ⟨rfl, rfl⟩)
  go_ret2
  exact ⟨by simp, rfl⟩
theorem scDec_big (s : ByteArray) (k0 c : Nat) (n : Int) (w : World) (hs : (s.size : Int) ≤ 4000) (hk0 : k0 < s.size) (HC : Hid (dlen 10 (s.data.toList.drop k0) = c)) (HS : Hid (satN 10 1000000000 (s.data.toList.drop k0) 0 = n)) (h0 : 0 < c) (hc : k0 + c ≤ s.size) (b3 : ((s[k0].toNat : Int) == 48) = false) (hn : 1000000000 < n) :
    Calls Tryd.prog 39 #[.string s, .int .i64 k0] w (SaysTwoI w 0 (-1)) := by
  have f1 : ((k0 : Int) + (c : Int) == (k0 : Int)) = false := by simp; omega
  have f3 := is_lt hn
  go_enter Tryd.func39, Tryd.ntmps39
  go_wp2_with (go_at_call 54; refine (scNumber_dec s k0 _ (by omega) (by omega)).mono ?_; rw [HC.out, HS.out]; rintro e w' ⟨rfl, rfl⟩)
  go_ret2
  exact ⟨rfl, rfl⟩
theorem scDec_fine (s : ByteArray) (k0 c : Nat) (n : Int) (w : World) (hs : (s.size : Int) ≤ 4000) (hk0 : k0 < s.size) (HC : Hid (dlen 10 (s.data.toList.drop k0) = c)) (HS : Hid (satN 10 1000000000 (s.data.toList.drop k0) 0 = n)) (h0 : 0 < c) (hc : k0 + c ≤ s.size) (b3 : ((s[k0].toNat : Int) == 48) = false) (hn : n ≤ 1000000000) :
    Calls Tryd.prog 39 #[.string s, .int .i64 k0] w (SaysTwoI w n ((k0 + c : Nat) : Int)) := by
  have f1 : ((k0 : Int) + (c : Int) == (k0 : Int)) = false := by simp; omega
  have f3 := not_lt hn
  go_enter Tryd.func39, Tryd.ntmps39
  go_wp2_with (go_at_call 54; refine (scNumber_dec s k0 _ (by omega) (by omega)).mono ?_; rw [HC.out, HS.out]; rintro e w' ⟨rfl, rfl⟩)
  go_ret2
  exact ⟨by simp, rfl⟩

def SaysThreeS (w : World) (a b : Int) (ok : Bool) (e : Ending) (w' : World) : Prop := e = .returned (.tuple #[.int .i64 a, .int .i64 b, .bool ok]) ∧ w = w'
theorem specDec_bad (s : ByteArray) (a : Int) (w : World) (h : AtBad s.size a) :
    Calls Tryd.prog 9 #[.string s, .int .i64 a] w (SaysThreeS w 0 0 false) := by
  have H := Lib.hid h
  clear h
  go_enter Tryd.func9, Tryd.ntmps9
  go_wp2_with (go_at_call 38; refine (scIndex_false _ _ _ H.out).mono ?_; rintro e w' ⟨rfl, rfl⟩)
  go_ret3
  exact ⟨rfl, rfl⟩
theorem specDec_no (s : ByteArray) (k0 : Nat) (w : World) (hs : (s.size : Int) ≤ 4000) (hk0 : k0 ≤ s.size) (H : Hid (∀ w, Calls Tryd.prog 39 #[.string s, .int .i64 k0] w (SaysTwoI w 0 (-1)))) :
    Calls Tryd.prog 9 #[.string s, .int .i64 k0] w (SaysThreeS w 0 0 false) := by
  go_enter Tryd.func9, Tryd.ntmps9
  go_wp2_with (first | (go_at_call 38; refine (scIndex_true _ _ _ hs hk0).mono ?_; rintro e w' ⟨rfl, rfl⟩) | (go_at_call 39; refine (H.out _).mono ?_; rintro e w' ⟨rfl, rfl⟩))
  go_ret3
  exact ⟨rfl, rfl⟩
theorem specDec_yes (s : ByteArray) (k0 c : Nat) (n : Int) (w : World) (hs : (s.size : Int) ≤ 4000) (hk0 : k0 ≤ s.size) (H : Hid (∀ w, Calls Tryd.prog 39 #[.string s, .int .i64 k0] w (SaysTwoI w n ((k0 + c : Nat) : Int)))) :
    Calls Tryd.prog 9 #[.string s, .int .i64 k0] w (SaysThreeS w n ((k0 + c : Nat) : Int) true) := by
  have f1 : decide ((k0 : Int) + (c : Int) < 0) = false := by simp; omega
  go_enter Tryd.func9, Tryd.ntmps9
  go_wp2_with (first | (go_at_call 38; refine (scIndex_true _ _ _ hs hk0).mono ?_; rintro e w' ⟨rfl, rfl⟩) | (go_at_call 39; refine (H.out _).mono ?_; rintro e w' ⟨rfl, rfl⟩))
  go_ret3
  exact ⟨by simp, rfl⟩

/-- the first digit is not 0: as many digits, so great a number -/
theorem first_ge (s : ByteArray) (k0 c : Nat) (hk0 : k0 < s.size) (HC : dlen 10 (s.data.toList.drop k0) = c) (h0 : 10 < c) (b3 : (s[k0].toNat : Int) ≠ 48) : 1000000000 < dvN 10 (s.data.toList.drop k0) 0 := by
  rw [drop_at s k0 hk0] at HC ⊢
  unfold dlen at HC
  unfold dvN
  by_cases hd : 0 ≤ dg 10 (s[k0].toNat : Int)
  · rw [if_pos hd] at HC ⊢
    have h1 := (dvN_ge 10 (by omega) (s.data.toList.drop (k0 + 1)) (0 * 10 + dg 10 (s[k0].toNat : Int)) (by omega)).1
    have hne : 1 ≤ dg 10 (s[k0].toNat : Int) := by
      unfold dg at hd ⊢
      have := dv_cases (s[k0].toNat : Int)
      split at hd
      · rename_i h
        rw [if_pos h]
        omega
      · omega
    have hp : ((10 ^ 10 : Nat) : Int) ≤ ((10 ^ (dlen 10 (s.data.toList.drop (k0 + 1))) : Nat) : Int) := Int.ofNat_le.2 (Nat.pow_le_pow_right (by omega) (by omega))
    rw [Int.natCast_pow, Int.natCast_pow] at hp
    have e10 : ((10 : Nat) : Int) ^ 10 = 10000000000 := rfl
    rw [e10] at hp
    have hc10 : ((10 : Nat) : Int) = 10 := rfl
    rw [hc10] at hp
    have hm : 1 * (10 : Int) ^ (dlen 10 (s.data.toList.drop (k0 + 1))) ≤ dg 10 (s[k0].toNat : Int) * 10 ^ (dlen 10 (s.data.toList.drop (k0 + 1))) := Int.mul_le_mul_of_nonneg_right hne (by omega)
    rw [Int.zero_mul, Int.zero_add] at h1 ⊢
    omega
  · rw [if_neg hd] at HC
    omega

theorem dlen_room (b : Int) (s : ByteArray) (k : Nat) (h : k ≤ s.size) : k + dlen b (s.data.toList.drop k) ≤ s.size := by
  have := dlen_le b (s.data.toList.drop k)
  simp at this
  omega
/-- both functions answer the same; a number is not negative and ends behind its index -/
theorem decimalAt_got (s : ByteArray) (a : Int) : ∃ (x y : Int) (ok : Bool), Hid (ok = true → a < y ∧ 0 ≤ x) ∧
    Hid (∀ w, Hid (Dig w) → Calls Tryd.prog 8 #[.string s, .int .i64 a] w (SaysThree w x y ok)) ∧
    Hid (∀ w, Calls Tryd.prog 9 #[.string s, .int .i64 a] w (SaysThreeS w x y ok)) := by
  by_cases hb : AtBad s.size a
  · exact ⟨0, 0, false, Lib.hid (fun h => by cases h), fun w _ => implDec_bad s a w hb, fun w => specDec_bad s a w hb⟩
  · have h' : (s.size : Int) ≤ 4000 ∧ 0 ≤ a ∧ a ≤ s.size := by unfold AtBad at hb; omega
    obtain ⟨hs, ha, has⟩ := h'
    obtain ⟨k0, rfl⟩ := Int.eq_ofNat_of_zero_le ha
    have hk0 : k0 ≤ s.size := by omega
    obtain ⟨c, HC⟩ : ∃ c, Hid (dlen 10 (s.data.toList.drop k0) = c) := ⟨_, rfl⟩
    obtain ⟨v, HV⟩ : ∃ v, Hid (dvN 10 (s.data.toList.drop k0) 0 = v) := ⟨_, rfl⟩
    obtain ⟨n, HS⟩ : ∃ n, Hid (satN 10 1000000000 (s.data.toList.drop k0) 0 = n) := ⟨_, rfl⟩
    have hc : k0 + c ≤ s.size := by rw [← HC.out]; exact dlen_room 10 s k0 hk0
    have hsv := sat_or 10 1000000000 (by omega) (s.data.toList.drop k0) 0 (by omega)
    rw [HS.out, HV.out] at hsv
    have hv0 : 0 ≤ v := by rw [← HV.out]; exact (dvN_ge 10 (by omega) _ 0 (by omega)).2
    by_cases h0 : c = 0
    · exact ⟨0, 0, false, Lib.hid (fun h => by cases h), fun w hD => implDec_none s k0 c w hD hs hk0 HC hc h0, fun w => specDec_no s k0 w hs hk0 fun w => scDec_none s k0 c n w hs hk0 HC HS h0⟩
    · have hlt : k0 < s.size := by omega
      by_cases hz : (s[k0].toNat : Int) = 48
      · have b3 : ((s[k0].toNat : Int) == 48) = true := by simp [hz]
        by_cases h1 : c = 1
        · have hv9 : v < (0 + 1) * 10 ^ (dlen 10 (s.data.toList.drop k0)) := by rw [← HV.out]; exact dvN_lt 10 (by omega) _ 0 (by omega)
          rw [HC.out, h1] at hv9
          have e : ((0 : Int) + 1) * 10 ^ 1 = 10 := rfl
          rw [e] at hv9
          have hn : n = v := by omega
          have HV' : Hid (dvN 10 (s.data.toList.drop k0) 0 = n) := by rw [hn]; exact HV
          exact ⟨n, ((k0 + c : Nat) : Int), true, Lib.hid (fun _ => ⟨by omega, by omega⟩), fun w hD => implDec_one_fine s k0 c w hD hs hk0 HC hc h1 n HV' (by omega), fun w => specDec_yes s k0 c n w hs hk0 fun w => scDec_one s k0 c n w hs hlt HC HS h1 hc b3 (by omega)⟩
        · refine ⟨0, 0, false, Lib.hid (fun h => by cases h), fun w hD => ?_, fun w => specDec_no s k0 w hs hk0 fun w => scDec_zero s k0 c n w hs hlt HC HS (by omega) hc b3⟩
          by_cases h10 : c ≤ 10
          · exact implDec_zero s k0 c w hD hs hk0 HC hc (by omega) h10 hlt b3
          · exact implDec_long s k0 c w hD hs hk0 HC hc (by omega)
      · have b3 : ((s[k0].toNat : Int) == 48) = false := by simp [hz]
        by_cases hn : n ≤ 1000000000
        · have hnv : n = v := by omega
          have h10 : c ≤ 10 := by
            apply Decidable.byContradiction
            intro h
            have := first_ge s k0 c hlt HC.out (by omega) hz
            rw [HV.out] at this
            omega
          have HV' : Hid (dvN 10 (s.data.toList.drop k0) 0 = n) := by rw [hnv]; exact HV
          refine ⟨n, ((k0 + c : Nat) : Int), true, Lib.hid (fun _ => ⟨by omega, by omega⟩), fun w hD => ?_, fun w => specDec_yes s k0 c n w hs hk0 fun w => scDec_fine s k0 c n w hs hlt HC HS (by omega) hc b3 hn⟩
          by_cases h1 : c = 1
          · exact implDec_one_fine s k0 c w hD hs hk0 HC hc h1 n HV' hn
          · exact implDec_more_fine s k0 c w hD hs hk0 HC hc (by omega) h10 hlt b3 n HV' hn
        · have hv : 1000000000 < v := by omega
          refine ⟨0, 0, false, Lib.hid (fun h => by cases h), fun w hD => ?_, fun w => specDec_no s k0 w hs hk0 fun w => scDec_big s k0 c n w hs hlt HC HS (by omega) hc b3 (by omega)⟩
          by_cases h10 : c ≤ 10
          · by_cases h1 : c = 1
            · exact implDec_one_big s k0 c w hD hs hk0 HC hc h1 v HV hv
            · exact implDec_more_big s k0 c w hD hs hk0 HC hc (by omega) h10 hlt b3 v HV hv
          · exact implDec_long s k0 c w hD hs hk0 HC hc (by omega)
/-- both functions answer the same -/
theorem decimalAt_both (s : ByteArray) (a : Int) : ∃ (x y : Int) (ok : Bool),
    Hid (∀ w, Hid (Dig w) → Calls Tryd.prog 8 #[.string s, .int .i64 a] w (SaysThree w x y ok)) ∧
    Hid (∀ w, Calls Tryd.prog 9 #[.string s, .int .i64 a] w (SaysThreeS w x y ok)) := by
  obtain ⟨x, y, ok, _, h1, h2⟩ := decimalAt_got s a
  exact ⟨x, y, ok, h1, h2⟩
end Go.Proofs.YtniggnjnpapkeabDoor
