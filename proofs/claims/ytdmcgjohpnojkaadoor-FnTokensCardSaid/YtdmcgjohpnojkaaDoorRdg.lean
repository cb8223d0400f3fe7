/- Digits of a row: contracts of readDigits. -/
import Derived.Test.YtdmcgjohpnojkaaDoorRdl
namespace Go.Proofs.YtdmcgjohpnojkaaDoor
set_option maxRecDepth 100000
open Go.RowKit

set_option maxHeartbeats 3200000 in
theorem readDigits_dec_go (s : ByteArray) (lim : Int) (w : World) (hD : Hid (Dig w)) (hs : s.size ≤ 1048576) (l0 : 0 ≤ lim) (l1 : lim ≤ 1000000000) (o : Option Int) (h : 0 < s.size) (e : 1 < s.size → (s[0]'h).toNat ≠ 48) (HO : Hid (rdN 10 lim (s.data.toList.drop 0) 0 = o)) :
    Calls Tryd.prog 134 #[.string s, .int .i64 0, .int .i64 lim] w (SaysRd w o) := by
  obtain ⟨f1, f2⟩ := full_tests h
  obtain ⟨x, hx⟩ : ∃ x : Int, ((s[0]'h).toNat : Int) = x := ⟨_, rfl⟩
  have hix := first_byte s h
  rw [hx] at hix
  have H1 : Hid (1 < s.size → x ≠ 48) := Lib.hid (by intro q; have := e q; omega)
  have hsz : decB.size = 10 := rfl
  clear e hx
  rcases Nat.lt_or_ge 1 s.size with hc | hc
  all_goals
    have d1 : decide ((1 : Int) < s.size) = decide (1 < s.size) := by rw [decide_eq_decide]; omega
    first
      | (rw [decide_eq_true hc] at d1; have d2 : (x == 48) = false := by have := H1.out hc; simpa using this)
      | (rw [decide_eq_false (show ¬ 1 < s.size by omega)] at d1)
    clear hc
    go_enter Tryd.func134, Tryd.ntmps134
    go_wp2_with fail
    go_loopw [8] (fun n wr => RdRel w 10 lim s o n wr) (fun _ wr => s.size - wr.iterPos w.heap.size)
    case atStart => exact ⟨0, 0, Nat.zero_le _, rfl, rfl, by omega, l0, HO⟩
    case round =>
      obtain ⟨k, t, hk, rfl, hw, t0, t1, HP⟩ := hrel
      subst hw
      have hc := (hD.out.iter s k).1
      have hc' := (hD.out.iter s (k + 1)).1
      by_cases hlt : k < s.size
      · obtain ⟨y, hy⟩ : ∃ y : UInt8, s[k]'hlt = y := ⟨_, rfl⟩
        obtain ⟨d, hd⟩ : ∃ d : Int, dg 10 (y.toNat : Int) = d := ⟨_, rfl⟩
        have HDD : Hid (dg 10 ((s[k]'hlt).toNat : Int) = d) := Lib.hid (by rw [hy]; exact hd)
        rcases Nat.lt_or_ge y.toNat 128 with ha | ha
        · have hnx := fun ty => run_next_ascii (P := Tryd.prog) w s k ty hlt (by rw [hy]; exact ha)
          rw [hy] at hnx
          have HI := Lib.hid (fun w => rune_dec y.toNat ha w)
          rw [hd] at HI
          have hb := dg_lt 10 (y.toNat : Int) (by omega)
          rw [hd] at hb
          obtain ⟨b0, b1⟩ := hb
          clear hy hd ha
          rcases Int.lt_or_le d 0 with c0 | c0
          · have HN := Lib.hid (opt_none (HP.out.symm.trans (rdN_no 10 lim s k t d hlt HDD.out (by omega))))
            have t9 := is_lt c0
            go_wp2_with (go_at_call 142; refine (HI.out _).mono ?_; rintro e w' ⟨rfl, rfl⟩)
            go_ret2
            exact ⟨ret_pair (by rw [HN.out.1]; rfl) (by rw [HN.out.2]; rfl), iter_below _ _ _⟩
          · have t9 := not_lt c0
            rcases Int.lt_or_le lim (t * 10 + d) with c1 | c1
            · have HN := Lib.hid (opt_none (HP.out.symm.trans (rdN_no 10 lim s k t d hlt HDD.out (by omega))))
              have t8 := is_lt c1
              go_wp2_with (go_at_call 142; refine (HI.out _).mono ?_; rintro e w' ⟨rfl, rfl⟩)
              go_ret2
              exact ⟨ret_pair (by rw [HN.out.1]; rfl) (by rw [HN.out.2]; rfl), iter_below _ _ _⟩
            · have t8 := not_lt c1
              have HY := Lib.hid (rdN_yes 10 lim s k t d hlt HDD.out ⟨c0, c1⟩)
              go_wp2_with (go_at_call 142; refine (HI.out _).mono ?_; rintro e w' ⟨rfl, rfl⟩)
              go_roundw
              case rel => exact ⟨k + 1, t * 10 + d, by omega, rfl, rfl, by omega, c1, by unfold Hid; rw [← HY.out]; exact HP.out⟩
              case measure => simp; omega
        · obtain ⟨r0, h0⟩ : ∃ r0 : Nat, (Utf8.decode s k).1 = r0 := ⟨_, rfl⟩
          obtain ⟨wd, h1⟩ : ∃ wd : Nat, (Utf8.decode s k).2 = wd := ⟨_, rfl⟩
          have hnx := fun ty => run_next_any (P := Tryd.prog) w s k ty hlt
          have hh := decode_high s k hlt (by rw [hy]; exact ha)
          rw [h0] at hh
          rw [h0, h1] at hnx
          have HI := Lib.hid (fun w => rune_none decB (r0 : Int) w asc_dec (by decide) (by decide) (by omega))
          have HN := Lib.hid (opt_none (HP.out.symm.trans (rdN_no 10 lim s k t (-1) hlt (by rw [hy]; exact dg_high 10 _ (by omega)) (by omega))))
          have hc' := (hD.out.iter s (k + wd)).1
          clear hy hd ha hh h0 h1 HDD
          go_wp2_with (go_at_call 142; refine (HI.out _).mono ?_; rintro e w1 ⟨rfl, b1⟩; have B1 := Lib.hid b1; clear b1)
          go_ret2
          exact ⟨ret_pair (by rw [HN.out.1]; rfl) (by rw [HN.out.2]; rfl), (iter_below _ _ _).trans (B1.out.mono (iter_below w s _).size)⟩
      · have hnx := fun ty => run_next_end (P := Tryd.prog) w s k ty hlt
        have HS := Lib.hid (opt_some (HP.out.symm.trans (rdN_end 10 lim s k t (by omega))))
        go_wp2
        go_ret2
        exact ⟨ret_pair (by rw [HS.out.1]; rfl) (by rw [HS.out.2]; rfl), iter_below _ _ _⟩
theorem readDigits_dec (s : ByteArray) (lim : Int) (w : World) (hD : Hid (Dig w)) (hs : s.size ≤ 1048576) (l0 : 0 ≤ lim) (l1 : lim ≤ 1000000000) :
    Calls Tryd.prog 134 #[.string s, .int .i64 0, .int .i64 lim] w (SaysRd w (rdT 10 lim s.data.toList)) := by
  rcases dig_head s with h | ⟨h, e⟩ | h | ⟨h, e⟩
  · have HN := Lib.hid (opt_none (rdT_nil 10 lim s h))
    obtain ⟨f1, f2⟩ := empty_tests h
    clear h
    go_enter Tryd.func134, Tryd.ntmps134
    go_wp2
    go_ret2
    exact ⟨ret_pair (by rw [HN.out.1]; rfl) (by rw [HN.out.2]; rfl), Below.refl _ _⟩
  · have HN := Lib.hid (opt_none (rdT_zero 10 lim s h e))
    obtain ⟨f1, f2⟩ := full_tests (show 0 < s.size by omega)
    have hix := first_byte s (by omega)
    rw [e] at hix
    have d1 : decide ((1 : Int) < s.size) = true := by simp; omega
    clear e
    go_enter Tryd.func134, Tryd.ntmps134
    go_wp2
    go_ret2
    exact ⟨ret_pair (by rw [HN.out.1]; rfl) (by rw [HN.out.2]; rfl), Below.refl _ _⟩
  · have e : 1 < s.size → (s[0]'(by omega)).toNat ≠ 48 := fun q => by omega
    rw [rdT_go 10 lim s (by omega) e]
    exact readDigits_dec_go s lim w hD hs l0 l1 _ (by omega) e rfl
  · rw [rdT_go 10 lim s (by omega) (fun _ => e)]
    exact readDigits_dec_go s lim w hD hs l0 l1 _ (by omega) (fun _ => e) rfl
set_option maxHeartbeats 3200000 in
theorem readDigits_hex_go (s : ByteArray) (lim : Int) (w : World) (hD : Hid (Dig w)) (hs : s.size ≤ 1048576) (l0 : 0 ≤ lim) (l1 : lim ≤ 1000000000) (o : Option Int) (h : 0 < s.size) (e : 1 < s.size → (s[0]'h).toNat ≠ 48) (HO : Hid (rdN 16 lim (s.data.toList.drop 0) 0 = o)) :
    Calls Tryd.prog 134 #[.string s, .int .i64 1, .int .i64 lim] w (SaysRd w o) := by
  obtain ⟨f1, f2⟩ := full_tests h
  obtain ⟨x, hx⟩ : ∃ x : Int, ((s[0]'h).toNat : Int) = x := ⟨_, rfl⟩
  have hix := first_byte s h
  rw [hx] at hix
  have H1 : Hid (1 < s.size → x ≠ 48) := Lib.hid (by intro q; have := e q; omega)
  have hsz : hexB.size = 16 := rfl
  clear e hx
  rcases Nat.lt_or_ge 1 s.size with hc | hc
  all_goals
    have d1 : decide ((1 : Int) < s.size) = decide (1 < s.size) := by rw [decide_eq_decide]; omega
    first
      | (rw [decide_eq_true hc] at d1; have d2 : (x == 48) = false := by have := H1.out hc; simpa using this)
      | (rw [decide_eq_false (show ¬ 1 < s.size by omega)] at d1)
    clear hc
    go_enter Tryd.func134, Tryd.ntmps134
    go_wp2_with fail
    go_loopw [8] (fun n wr => RdRel w 16 lim s o n wr) (fun _ wr => s.size - wr.iterPos w.heap.size)
    case atStart => exact ⟨0, 0, Nat.zero_le _, rfl, rfl, by omega, l0, HO⟩
    case round =>
      obtain ⟨k, t, hk, rfl, hw, t0, t1, HP⟩ := hrel
      subst hw
      have hc := (hD.out.iter s k).2
      have hc' := (hD.out.iter s (k + 1)).2
      by_cases hlt : k < s.size
      · obtain ⟨y, hy⟩ : ∃ y : UInt8, s[k]'hlt = y := ⟨_, rfl⟩
        obtain ⟨d, hd⟩ : ∃ d : Int, dg 16 (y.toNat : Int) = d := ⟨_, rfl⟩
        have HDD : Hid (dg 16 ((s[k]'hlt).toNat : Int) = d) := Lib.hid (by rw [hy]; exact hd)
        rcases Nat.lt_or_ge y.toNat 128 with ha | ha
        · have hnx := fun ty => run_next_ascii (P := Tryd.prog) w s k ty hlt (by rw [hy]; exact ha)
          rw [hy] at hnx
          have HI := Lib.hid (fun w => rune_hex y.toNat ha w)
          rw [hd] at HI
          have hb := dg_lt 16 (y.toNat : Int) (by omega)
          rw [hd] at hb
          obtain ⟨b0, b1⟩ := hb
          clear hy hd ha
          rcases Int.lt_or_le d 0 with c0 | c0
          · have HN := Lib.hid (opt_none (HP.out.symm.trans (rdN_no 16 lim s k t d hlt HDD.out (by omega))))
            have t9 := is_lt c0
            go_wp2_with (go_at_call 142; refine (HI.out _).mono ?_; rintro e w' ⟨rfl, rfl⟩)
            go_ret2
            exact ⟨ret_pair (by rw [HN.out.1]; rfl) (by rw [HN.out.2]; rfl), iter_below _ _ _⟩
          · have t9 := not_lt c0
            rcases Int.lt_or_le lim (t * 16 + d) with c1 | c1
            · have HN := Lib.hid (opt_none (HP.out.symm.trans (rdN_no 16 lim s k t d hlt HDD.out (by omega))))
              have t8 := is_lt c1
              go_wp2_with (go_at_call 142; refine (HI.out _).mono ?_; rintro e w' ⟨rfl, rfl⟩)
              go_ret2
              exact ⟨ret_pair (by rw [HN.out.1]; rfl) (by rw [HN.out.2]; rfl), iter_below _ _ _⟩
            · have t8 := not_lt c1
              have HY := Lib.hid (rdN_yes 16 lim s k t d hlt HDD.out ⟨c0, c1⟩)
              go_wp2_with (go_at_call 142; refine (HI.out _).mono ?_; rintro e w' ⟨rfl, rfl⟩)
              go_roundw
              case rel => exact ⟨k + 1, t * 16 + d, by omega, rfl, rfl, by omega, c1, by unfold Hid; rw [← HY.out]; exact HP.out⟩
              case measure => simp; omega
        · obtain ⟨r0, h0⟩ : ∃ r0 : Nat, (Utf8.decode s k).1 = r0 := ⟨_, rfl⟩
          obtain ⟨wd, h1⟩ : ∃ wd : Nat, (Utf8.decode s k).2 = wd := ⟨_, rfl⟩
          have hnx := fun ty => run_next_any (P := Tryd.prog) w s k ty hlt
          have hh := decode_high s k hlt (by rw [hy]; exact ha)
          rw [h0] at hh
          rw [h0, h1] at hnx
          have HI := Lib.hid (fun w => rune_none hexB (r0 : Int) w asc_hex (by decide) (by decide) (by omega))
          have HN := Lib.hid (opt_none (HP.out.symm.trans (rdN_no 16 lim s k t (-1) hlt (by rw [hy]; exact dg_high 16 _ (by omega)) (by omega))))
          have hc' := (hD.out.iter s (k + wd)).2
          clear hy hd ha hh h0 h1 HDD
          go_wp2_with (go_at_call 142; refine (HI.out _).mono ?_; rintro e w1 ⟨rfl, b1⟩; have B1 := Lib.hid b1; clear b1)
          go_ret2
          exact ⟨ret_pair (by rw [HN.out.1]; rfl) (by rw [HN.out.2]; rfl), (iter_below _ _ _).trans (B1.out.mono (iter_below w s _).size)⟩
      · have hnx := fun ty => run_next_end (P := Tryd.prog) w s k ty hlt
        have HS := Lib.hid (opt_some (HP.out.symm.trans (rdN_end 16 lim s k t (by omega))))
        go_wp2
        go_ret2
        exact ⟨ret_pair (by rw [HS.out.1]; rfl) (by rw [HS.out.2]; rfl), iter_below _ _ _⟩
theorem readDigits_hex (s : ByteArray) (lim : Int) (w : World) (hD : Hid (Dig w)) (hs : s.size ≤ 1048576) (l0 : 0 ≤ lim) (l1 : lim ≤ 1000000000) :
    Calls Tryd.prog 134 #[.string s, .int .i64 1, .int .i64 lim] w (SaysRd w (rdT 16 lim s.data.toList)) := by
  rcases dig_head s with h | ⟨h, e⟩ | h | ⟨h, e⟩
  · have HN := Lib.hid (opt_none (rdT_nil 16 lim s h))
    obtain ⟨f1, f2⟩ := empty_tests h
    clear h
    go_enter Tryd.func134, Tryd.ntmps134
    go_wp2
    go_ret2
    exact ⟨ret_pair (by rw [HN.out.1]; rfl) (by rw [HN.out.2]; rfl), Below.refl _ _⟩
  · have HN := Lib.hid (opt_none (rdT_zero 16 lim s h e))
    obtain ⟨f1, f2⟩ := full_tests (show 0 < s.size by omega)
    have hix := first_byte s (by omega)
    rw [e] at hix
    have d1 : decide ((1 : Int) < s.size) = true := by simp; omega
    clear e
    go_enter Tryd.func134, Tryd.ntmps134
    go_wp2
    go_ret2
    exact ⟨ret_pair (by rw [HN.out.1]; rfl) (by rw [HN.out.2]; rfl), Below.refl _ _⟩
  · have e : 1 < s.size → (s[0]'(by omega)).toNat ≠ 48 := fun q => by omega
    rw [rdT_go 16 lim s (by omega) e]
    exact readDigits_hex_go s lim w hD hs l0 l1 _ (by omega) e rfl
  · rw [rdT_go 16 lim s (by omega) (fun _ => e)]
    exact readDigits_hex_go s lim w hD hs l0 l1 _ (by omega) (fun _ => e) rfl
end Go.Proofs.YtdmcgjohpnojkaaDoor
