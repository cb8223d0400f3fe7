import Derived.Test.YtmmofchfafnkcaaGreatDoorPkc
import Derived.Test.YtmmofchfafnkcaaGreatDoorPka
import Derived.Deep.RegionWith
/- Digits of a row: contracts of readDigits. -/
namespace Go.Proofs.YtmmofchfafnkcaaGreatDoor
set_option maxRecDepth 100000
open Go.RowKit

set_option maxHeartbeats 3200000 in
theorem readDigits_dec_go (s : ByteArray) (lim : Int) (w : World) (hD : Hid (Dig w)) (hs : s.size ≤ 1048576) (l0 : 0 ≤ lim) (l1 : lim ≤ 1000000000) (o : Option Int) (h : 0 < s.size) (e : 1 < s.size → (s[0]'h).toNat ≠ 48) (HO : Hid (rdN 10 lim (s.data.toList.drop 0) 0 = o)) :
    Calls Tryz.prog 245 #[.string s, .int .i64 0, .int .i64 lim] w (SaysRd w o) := by
  obtain ⟨f1, f2⟩ := full_tests h
  obtain ⟨x, hx⟩ : ∃ x : Int, ((s[0]'h).toNat : Int) = x := ⟨_, rfl⟩
  have hix := first_byte s h
  rw [hx] at hix
  have H1 : Hid (1 < s.size → x ≠ 48) := Lib.hid (by intro q; have := e q; omega)
  have hsz : decB.size = 10 := rfl
  clear e hx
  rcases Nat.lt_or_ge 1 s.size with hc | hc
  all_goals
    have d1 : decide ((1 : Int) < s.size) = decide (1 < s.size) := by rw [decide_eq_decide]; omega
    first
      | (rw [decide_eq_true hc] at d1; have d2 : (x == 48) = false := by have := H1.out hc; simpa using this)
      | (rw [decide_eq_false (show ¬ 1 < s.size by omega)] at d1)
    clear hc
    go_enter Tryz.func245, Tryz.ntmps245
    go_wp2_with fail
    go_loopw [8] (fun n wr => RdRel w 10 lim s o n wr) (fun _ wr => s.size - wr.iterPos w.heap.size)
    case atStart => exact ⟨0, 0, Nat.zero_le _, rfl, rfl, by omega, l0, HO⟩
    case round =>
      obtain ⟨k, t, hk, rfl, hw, t0, t1, HP⟩ := hrel
      subst hw
      have hc := (hD.out.iter s k).1
      have hc' := (hD.out.iter s (k + 1)).1
      by_cases hlt : k < s.size
      · obtain ⟨y, hy⟩ : ∃ y : UInt8, s[k]'hlt = y := ⟨_, rfl⟩
        obtain ⟨d, hd⟩ : ∃ d : Int, dg 10 (y.toNat : Int) = d := ⟨_, rfl⟩
        have HDD : Hid (dg 10 ((s[k]'hlt).toNat : Int) = d) := Lib.hid (by rw [hy]; exact hd)
        rcases Nat.lt_or_ge y.toNat 128 with ha | ha
        · have hnx := fun ty => run_next_ascii (P := Tryz.prog) w s k ty hlt (by rw [hy]; exact ha)
          rw [hy] at hnx
          have HI := Lib.hid (fun w => rune_dec y.toNat ha w)
          rw [hd] at HI
          have hb := dg_lt 10 (y.toNat : Int) (by omega)
          rw [hd] at hb
          obtain ⟨b0, b1⟩ := hb
          clear hy hd ha
          rcases Int.lt_or_le d 0 with c0 | c0
          · have HN := Lib.hid (opt_none (HP.out.symm.trans (rdN_no 10 lim s k t d hlt HDD.out (by omega))))
            have t9 := is_lt c0
            go_wp2_with (go_at_call 262; refine (HI.out _).mono ?_; rintro e w' ⟨rfl, rfl⟩)
            go_ret2
            exact ⟨ret_pair (by rw [HN.out.1]; rfl) (by rw [HN.out.2]; rfl), iter_below _ _ _⟩
          · have t9 := not_lt c0
            rcases Int.lt_or_le lim (t * 10 + d) with c1 | c1
            · have HN := Lib.hid (opt_none (HP.out.symm.trans (rdN_no 10 lim s k t d hlt HDD.out (by omega))))
              have t8 := is_lt c1
              go_wp2_with (go_at_call 262; refine (HI.out _).mono ?_; rintro e w' ⟨rfl, rfl⟩)
              go_ret2
              exact ⟨ret_pair (by rw [HN.out.1]; rfl) (by rw [HN.out.2]; rfl), iter_below _ _ _⟩
            · have t8 := not_lt c1
              have HY := Lib.hid (rdN_yes 10 lim s k t d hlt HDD.out ⟨c0, c1⟩)
              go_wp2_with (go_at_call 262; refine (HI.out _).mono ?_; rintro e w' ⟨rfl, rfl⟩)
              go_roundw
              case rel => exact ⟨k + 1, t * 10 + d, by omega, rfl, rfl, by omega, c1, by unfold Hid; rw [← HY.out]; exact HP.out⟩
              case measure => simp; omega
        · obtain ⟨r0, h0⟩ : ∃ r0 : Nat, (Utf8.decode s k).1 = r0 := ⟨_, rfl⟩
          obtain ⟨wd, h1⟩ : ∃ wd : Nat, (Utf8.decode s k).2 = wd := ⟨_, rfl⟩
          have hnx := fun ty => run_next_any (P := Tryz.prog) w s k ty hlt
          have hh := decode_high s k hlt (by rw [hy]; exact ha)
          rw [h0] at hh
          rw [h0, h1] at hnx
          have HI := Lib.hid (fun w => rune_none decB (r0 : Int) w asc_dec (by decide) (by decide) (by omega))
          have HN := Lib.hid (opt_none (HP.out.symm.trans (rdN_no 10 lim s k t (-1) hlt (by rw [hy]; exact dg_high 10 _ (by omega)) (by omega))))
          have hc' := (hD.out.iter s (k + wd)).1
          clear hy hd ha hh h0 h1 HDD
          go_wp2_with (go_at_call 262; refine (HI.out _).mono ?_; rintro e w1 ⟨rfl, b1⟩; have B1 := Lib.hid b1; clear b1)
          go_ret2
          exact ⟨ret_pair (by rw [HN.out.1]; rfl) (by rw [HN.out.2]; rfl), (iter_below _ _ _).trans (B1.out.mono (iter_below w s _).size)⟩
      · have hnx := fun ty => run_next_end (P := Tryz.prog) w s k ty hlt
        have HS := Lib.hid (opt_some (HP.out.symm.trans (rdN_end 10 lim s k t (by omega))))
        go_wp2
        go_ret2
        exact ⟨ret_pair (by rw [HS.out.1]; rfl) (by rw [HS.out.2]; rfl), iter_below _ _ _⟩
theorem readDigits_dec (s : ByteArray) (lim : Int) (w : World) (hD : Hid (Dig w)) (hs : s.size ≤ 1048576) (l0 : 0 ≤ lim) (l1 : lim ≤ 1000000000) :
    Calls Tryz.prog 245 #[.string s, .int .i64 0, .int .i64 lim] w (SaysRd w (rdT 10 lim s.data.toList)) := by
  rcases dig_head s with h | ⟨h, e⟩ | h | ⟨h, e⟩
  · have HN := Lib.hid (opt_none (rdT_nil 10 lim s h))
    obtain ⟨f1, f2⟩ := empty_tests h
    clear h
    go_enter Tryz.func245, Tryz.ntmps245
    go_wp2
    go_ret2
    exact ⟨ret_pair (by rw [HN.out.1]; rfl) (by rw [HN.out.2]; rfl), Below.refl _ _⟩
  · have HN := Lib.hid (opt_none (rdT_zero 10 lim s h e))
    obtain ⟨f1, f2⟩ := full_tests (show 0 < s.size by omega)
    have hix := first_byte s (by omega)
    rw [e] at hix
    have d1 : decide ((1 : Int) < s.size) = true := by simp; omega
    clear e
    go_enter Tryz.func245, Tryz.ntmps245
    go_wp2
    go_ret2
    exact ⟨ret_pair (by rw [HN.out.1]; rfl) (by rw [HN.out.2]; rfl), Below.refl _ _⟩
  · have e : 1 < s.size → (s[0]'(by omega)).toNat ≠ 48 := fun q => by omega
    rw [rdT_go 10 lim s (by omega) e]
    exact readDigits_dec_go s lim w hD hs l0 l1 _ (by omega) e rfl
  · rw [rdT_go 10 lim s (by omega) (fun _ => e)]
    exact readDigits_dec_go s lim w hD hs l0 l1 _ (by omega) (fun _ => e) rfl
set_option maxHeartbeats 3200000 in
theorem readDigits_hex_go (s : ByteArray) (lim : Int) (w : World) (hD : Hid (Dig w)) (hs : s.size ≤ 1048576) (l0 : 0 ≤ lim) (l1 : lim ≤ 1000000000) (o : Option Int) (h : 0 < s.size) (e : 1 < s.size → (s[0]'h).toNat ≠ 48) (HO : Hid (rdN 16 lim (s.data.toList.drop 0) 0 = o)) :
    Calls Tryz.prog 245 #[.string s, .int .i64 1, .int .i64 lim] w (SaysRd w o) := by
  obtain ⟨f1, f2⟩ := full_tests h
  obtain ⟨x, hx⟩ : ∃ x : Int, ((s[0]'h).toNat : Int) = x := ⟨_, rfl⟩
  have hix := first_byte s h
  rw [hx] at hix
  have H1 : Hid (1 < s.size → x ≠ 48) := Lib.hid (by intro q; have := e q; omega)
  have hsz : hexB.size = 16 := rfl
  clear e hx
  rcases Nat.lt_or_ge 1 s.size with hc | hc
  all_goals
    have d1 : decide ((1 : Int) < s.size) = decide (1 < s.size) := by rw [decide_eq_decide]; omega
    first
      | (rw [decide_eq_true hc] at d1; have d2 : (x == 48) = false := by have := H1.out hc; simpa using this)
      | (rw [decide_eq_false (show ¬ 1 < s.size by omega)] at d1)
    clear hc
    go_enter Tryz.func245, Tryz.ntmps245
    go_wp2_with fail
    go_loopw [8] (fun n wr => RdRel w 16 lim s o n wr) (fun _ wr => s.size - wr.iterPos w.heap.size)
    case atStart => exact ⟨0, 0, Nat.zero_le _, rfl, rfl, by omega, l0, HO⟩
    case round =>
      obtain ⟨k, t, hk, rfl, hw, t0, t1, HP⟩ := hrel
      subst hw
      have hc := (hD.out.iter s k).2
      have hc' := (hD.out.iter s (k + 1)).2
      by_cases hlt : k < s.size
      · obtain ⟨y, hy⟩ : ∃ y : UInt8, s[k]'hlt = y := ⟨_, rfl⟩
        obtain ⟨d, hd⟩ : ∃ d : Int, dg 16 (y.toNat : Int) = d := ⟨_, rfl⟩
        have HDD : Hid (dg 16 ((s[k]'hlt).toNat : Int) = d) := Lib.hid (by rw [hy]; exact hd)
        rcases Nat.lt_or_ge y.toNat 128 with ha | ha
        · have hnx := fun ty => run_next_ascii (P := Tryz.prog) w s k ty hlt (by rw [hy]; exact ha)
          rw [hy] at hnx
          have HI := Lib.hid (fun w => rune_hex y.toNat ha w)
          rw [hd] at HI
          have hb := dg_lt 16 (y.toNat : Int) (by omega)
          rw [hd] at hb
          obtain ⟨b0, b1⟩ := hb
          clear hy hd ha
          rcases Int.lt_or_le d 0 with c0 | c0
          · have HN := Lib.hid (opt_none (HP.out.symm.trans (rdN_no 16 lim s k t d hlt HDD.out (by omega))))
            have t9 := is_lt c0
            go_wp2_with (go_at_call 262; refine (HI.out _).mono ?_; rintro e w' ⟨rfl, rfl⟩)
            go_ret2
            exact ⟨ret_pair (by rw [HN.out.1]; rfl) (by rw [HN.out.2]; rfl), iter_below _ _ _⟩
          · have t9 := not_lt c0
            rcases Int.lt_or_le lim (t * 16 + d) with c1 | c1
            · have HN := Lib.hid (opt_none (HP.out.symm.trans (rdN_no 16 lim s k t d hlt HDD.out (by omega))))
              have t8 := is_lt c1
              go_wp2_with (go_at_call 262; refine (HI.out _).mono ?_; rintro e w' ⟨rfl, rfl⟩)
              go_ret2
              exact ⟨ret_pair (by rw [HN.out.1]; rfl) (by rw [HN.out.2]; rfl), iter_below _ _ _⟩
            · have t8 := not_lt c1
              have HY := Lib.hid (rdN_yes 16 lim s k t d hlt HDD.out ⟨c0, c1⟩)
              go_wp2_with (go_at_call 262; refine (HI.out _).mono ?_; rintro e w' ⟨rfl, rfl⟩)
              go_roundw
              case rel => exact ⟨k + 1, t * 16 + d, by omega, rfl, rfl, by omega, c1, by unfold Hid; rw [← HY.out]; exact HP.out⟩
              case measure => simp; omega
        · obtain ⟨r0, h0⟩ : ∃ r0 : Nat, (Utf8.decode s k).1 = r0 := ⟨_, rfl⟩
          obtain ⟨wd, h1⟩ : ∃ wd : Nat, (Utf8.decode s k).2 = wd := ⟨_, rfl⟩
          have hnx := fun ty => run_next_any (P := Tryz.prog) w s k ty hlt
          have hh := decode_high s k hlt (by rw [hy]; exact ha)
          rw [h0] at hh
          rw [h0, h1] at hnx
          have HI := Lib.hid (fun w => rune_none hexB (r0 : Int) w asc_hex (by decide) (by decide) (by omega))
          have HN := Lib.hid (opt_none (HP.out.symm.trans (rdN_no 16 lim s k t (-1) hlt (by rw [hy]; exact dg_high 16 _ (by omega)) (by omega))))
          have hc' := (hD.out.iter s (k + wd)).2
          clear hy hd ha hh h0 h1 HDD
          go_wp2_with (go_at_call 262; refine (HI.out _).mono ?_; rintro e w1 ⟨rfl, b1⟩; have B1 := Lib.hid b1; clear b1)
          go_ret2
          exact ⟨ret_pair (by rw [HN.out.1]; rfl) (by rw [HN.out.2]; rfl), (iter_below _ _ _).trans (B1.out.mono (iter_below w s _).size)⟩
      · have hnx := fun ty => run_next_end (P := Tryz.prog) w s k ty hlt
        have HS := Lib.hid (opt_some (HP.out.symm.trans (rdN_end 16 lim s k t (by omega))))
        go_wp2
        go_ret2
        exact ⟨ret_pair (by rw [HS.out.1]; rfl) (by rw [HS.out.2]; rfl), iter_below _ _ _⟩
theorem readDigits_hex (s : ByteArray) (lim : Int) (w : World) (hD : Hid (Dig w)) (hs : s.size ≤ 1048576) (l0 : 0 ≤ lim) (l1 : lim ≤ 1000000000) :
    Calls Tryz.prog 245 #[.string s, .int .i64 1, .int .i64 lim] w (SaysRd w (rdT 16 lim s.data.toList)) := by
  rcases dig_head s with h | ⟨h, e⟩ | h | ⟨h, e⟩
  · have HN := Lib.hid (opt_none (rdT_nil 16 lim s h))
    obtain ⟨f1, f2⟩ := empty_tests h
    clear h
    go_enter Tryz.func245, Tryz.ntmps245
    go_wp2
    go_ret2
    exact ⟨ret_pair (by rw [HN.out.1]; rfl) (by rw [HN.out.2]; rfl), Below.refl _ _⟩
  · have HN := Lib.hid (opt_none (rdT_zero 16 lim s h e))
    obtain ⟨f1, f2⟩ := full_tests (show 0 < s.size by omega)
    have hix := first_byte s (by omega)
    rw [e] at hix
    have d1 : decide ((1 : Int) < s.size) = true := by simp; omega
    clear e
    go_enter Tryz.func245, Tryz.ntmps245
    go_wp2
    go_ret2
    exact ⟨ret_pair (by rw [HN.out.1]; rfl) (by rw [HN.out.2]; rfl), Below.refl _ _⟩
  · have e : 1 < s.size → (s[0]'(by omega)).toNat ≠ 48 := fun q => by omega
    rw [rdT_go 16 lim s (by omega) e]
    exact readDigits_hex_go s lim w hD hs l0 l1 _ (by omega) e rfl
  · rw [rdT_go 16 lim s (by omega) (fun _ => e)]
    exact readDigits_hex_go s lim w hD hs l0 l1 _ (by omega) (fun _ => e) rfl
end Go.Proofs.YtmmofchfafnkcaaGreatDoor

/- The model's numbers: contracts of scNumber, scDecimal, and DecimalAt of program and model. DecimalAt: contracts of program and model. DecimalAt: the model's side, and both together. -/
namespace Go.Proofs.YtmmofchfafnkcaaGreatDoor
set_option maxRecDepth 100000
open Go.RowKit

def SaysTwo (w : World) (n : Int) (k : Nat) (e : Ending) (w' : World) : Prop := e = .returned (.tuple #[.int .i64 n, .int .i64 (k : Int)]) ∧ w = w'
def NumRel (b bound : Int) (s : ByteArray) (k0 : Nat) (x n : Value) : Prop :=
  ∃ (k : Nat) (t : Int), k ≤ s.size ∧ x = .int .i64 k ∧ n = .int .i64 t ∧ 0 ≤ t ∧ t ≤ 68719476735 ∧ satN b bound (s.data.toList.drop k) t = satN b bound (s.data.toList.drop k0) 0 ∧ k + dlen b (s.data.toList.drop k) = k0 + dlen b (s.data.toList.drop k0)
theorem sat_small (b bound : Int) (s : ByteArray) (k : Nat) (t : Int) (h : k < s.size) (hp : 0 ≤ dg b (s[k].toNat : Int)) (ht : t ≤ bound) : satN b bound (s.data.toList.drop k) t = satN b bound (s.data.toList.drop (k + 1)) (b * t + dg b (s[k].toNat : Int)) := by
  rw [drop_at s k h, satN, if_pos hp, if_pos ht]
theorem sat_big (b bound : Int) (s : ByteArray) (k : Nat) (t : Int) (h : k < s.size) (hp : 0 ≤ dg b (s[k].toNat : Int)) (ht : bound < t) : satN b bound (s.data.toList.drop k) t = satN b bound (s.data.toList.drop (k + 1)) t := by
  rw [drop_at s k h, satN, if_pos hp, if_neg (by omega)]
theorem sat_stop (b bound : Int) (s : ByteArray) (k : Nat) (t : Int) (h : k < s.size) (hp : ¬ 0 ≤ dg b (s[k].toNat : Int)) : satN b bound (s.data.toList.drop k) t = t := by
  rw [drop_at s k h, satN, if_neg hp]
theorem sat_end (b bound : Int) (s : ByteArray) (k : Nat) (t : Int) (h : s.size ≤ k) : satN b bound (s.data.toList.drop k) t = t := by
  rw [List.drop_eq_nil_of_le (by simpa using h)]; rfl
end Go.Proofs.YtmmofchfafnkcaaGreatDoor

namespace Go.Proofs.YtmmofchfafnkcaaGreatDoor
open Go.RowKit

theorem ret_three {a a' b b' c c' : Value} (h : a = a') (h' : b = b') (h'' : c = c') : Ending.returned (.tuple #[a, b, c]) = .returned (.tuple #[a', b', c']) := by rw [h, h', h'']
theorem sub_run (s : ByteArray) (k0 c : Nat) (hc : k0 + c ≤ s.size) : ∃ u : ByteArray, u.size = c ∧ u.data.toList = (s.data.toList.drop k0).take c ∧
    ∀ w, (Instr.slice 9 (.string s) (some (.int .i64 (k0 : Int))) (some (.int .i64 ((k0 : Int) + (c : Int)))) none).run Tryz.prog w = .ok (.string u) w := by
  have hd := Lib.extract_data s k0 (k0 + c)
  rw [Nat.add_sub_cancel_left] at hd
  refine ⟨s.extract k0 (k0 + c), ?_, hd, fun w => ?_⟩
  · have := congrArg List.length hd
    simp at this
    simp
    omega
  · rw [run_slice_string w 9 s .i64 .i64 (k0 : Int) ((k0 : Int) + (c : Int)) Tryz.underlying9 (by omega) (by omega) (by omega)]
    rfl
theorem Drawn.dig {w w' : World} (h : Drawn w w') (hd : Dig w) : Dig w' := by obtain ⟨q, rfl⟩ := h; exact hd
theorem Drawn.trans {a b c : World} (h : Drawn a b) (k : Drawn b c) : Drawn a c := by
  obtain ⟨q, rfl⟩ := h
  obtain ⟨r, rfl⟩ := k
  exact ⟨q + r, by simp⟩
def SaysThree (w : World) (a b : Int) (ok : Bool) (e : Ending) (w' : World) : Prop := e = .returned (.tuple #[.int .i64 a, .int .i64 b, .bool ok]) ∧ Drawn w w'

/-! The program. -/
end Go.Proofs.YtmmofchfafnkcaaGreatDoor

namespace Go.Proofs.YtmmofchfafnkcaaGreatDoor
open Go.RowKit

def AtBad (n a : Int) : Prop := 4000 < n ∨ (n ≤ 4000 ∧ a < 0) ∨ (n ≤ 4000 ∧ 0 ≤ a ∧ n < a)
def SaysTwoI (w : World) (n k : Int) (e : Ending) (w' : World) : Prop := e = .returned (.tuple #[.int .i64 n, .int .i64 k]) ∧ w = w'
def SaysThreeS (w : World) (a b : Int) (ok : Bool) (e : Ending) (w' : World) : Prop := e = .returned (.tuple #[.int .i64 a, .int .i64 b, .bool ok]) ∧ w = w'
/-- the first digit is not 0: as many digits, so great a number -/
theorem first_ge (s : ByteArray) (k0 c : Nat) (hk0 : k0 < s.size) (HC : dlen 10 (s.data.toList.drop k0) = c) (h0 : 10 < c) (b3 : (s[k0].toNat : Int) ≠ 48) : 1000000000 < dvN 10 (s.data.toList.drop k0) 0 := by
  rw [drop_at s k0 hk0] at HC ⊢
  unfold dlen at HC
  unfold dvN
  by_cases hd : 0 ≤ dg 10 (s[k0].toNat : Int)
  · rw [if_pos hd] at HC ⊢
    have h1 := (dvN_ge 10 (by omega) (s.data.toList.drop (k0 + 1)) (0 * 10 + dg 10 (s[k0].toNat : Int)) (by omega)).1
    have hne : 1 ≤ dg 10 (s[k0].toNat : Int) := by
      unfold dg at hd ⊢
      have := dv_cases (s[k0].toNat : Int)
      split at hd
      · rename_i h
        rw [if_pos h]
        omega
      · omega
    have hp : ((10 ^ 10 : Nat) : Int) ≤ ((10 ^ (dlen 10 (s.data.toList.drop (k0 + 1))) : Nat) : Int) := Int.ofNat_le.2 (Nat.pow_le_pow_right (by omega) (by omega))
    rw [Int.natCast_pow, Int.natCast_pow] at hp
    have e10 : ((10 : Nat) : Int) ^ 10 = 10000000000 := rfl
    rw [e10] at hp
    have hc10 : ((10 : Nat) : Int) = 10 := rfl
    rw [hc10] at hp
    have hm : 1 * (10 : Int) ^ (dlen 10 (s.data.toList.drop (k0 + 1))) ≤ dg 10 (s[k0].toNat : Int) * 10 ^ (dlen 10 (s.data.toList.drop (k0 + 1))) := Int.mul_le_mul_of_nonneg_right hne (by omega)
    rw [Int.zero_mul, Int.zero_add] at h1 ⊢
    omega
  · rw [if_neg hd] at HC
    omega

theorem dlen_room (b : Int) (s : ByteArray) (k : Nat) (h : k ≤ s.size) : k + dlen b (s.data.toList.drop k) ≤ s.size := by
  have := dlen_le b (s.data.toList.drop k)
  simp at this
  omega
end Go.Proofs.YtmmofchfafnkcaaGreatDoor

/- HexAt: contracts of program and model, and both together. -/
namespace Go.Proofs.YtmmofchfafnkcaaGreatDoor
set_option maxRecDepth 100000
open Go.RowKit

theorem from_run (s : ByteArray) (k0 : Nat) (hk : k0 ≤ s.size) : ∃ u : ByteArray, Hid (u.data.toList = s.data.toList.drop k0) ∧
    ∀ w, (Instr.slice 9 (.string s) (some (.int .i64 (k0 : Int))) none none).run Tryz.prog w = .ok (.string u) w := by
  have hd := Lib.extract_data s k0 s.size
  refine ⟨s.extract k0 s.size, ?_, fun w => ?_⟩
  · unfold Hid
    rw [hd, List.take_of_length_le]
    simp
  · rw [run_slice_string_l w 9 s Tryz.underlying9 .i64 (k0 : Int) (by omega) (by omega)]
    rfl
/-- the prefix is there -/
def Pfx (s : ByteArray) (k0 : Nat) : Prop := Lib.hasPrefix (s.data.toList.drop k0) [48, 120] = true

theorem sub_run2 (s : ByteArray) (k0 c : Nat) (hc : k0 + 2 + c ≤ s.size) : ∃ u : ByteArray, u.size = c ∧ u.data.toList = (s.data.toList.drop (k0 + 2)).take c ∧
    ∀ w, (Instr.slice 9 (.string s) (some (.int .i64 ((k0 : Int) + 2))) (some (.int .i64 ((k0 : Int) + 2 + (c : Int)))) none).run Tryz.prog w = .ok (.string u) w := by
  obtain ⟨u, a, b, h⟩ := sub_run s (k0 + 2) c hc
  have e1 : ((k0 + 2 : Nat) : Int) = (k0 : Int) + 2 := by omega
  rw [e1] at h
  exact ⟨u, a, b, h⟩
theorem pfx_two (s : ByteArray) (k0 : Nat) (u : ByteArray) (hu : u.data.toList = (s.data.toList.drop k0).take 2) : (u.toList == [48, 120]) = Lib.hasPrefix (s.data.toList.drop k0) [48, 120] := by
  rw [ByteArray.toList_eq, hu]
  unfold Lib.hasPrefix
  generalize s.data.toList.drop k0 = l
  match l with
  | [] => rfl
  | [a] => simp [List.isPrefixOf]
  | a :: b :: r =>
    simp only [List.take_succ_cons, List.take_zero, List.isPrefixOf]
    rw [Bool.eq_iff_iff]
    simp
    constructor
    · rintro ⟨rfl, rfl⟩; exact ⟨rfl, rfl⟩
    · rintro ⟨rfl, rfl⟩; exact ⟨rfl, rfl⟩
theorem pfx_size (s : ByteArray) (k0 : Nat) (h : Pfx s k0) : k0 + 2 ≤ s.size := by
  unfold Pfx Lib.hasPrefix at h
  have := (List.isPrefixOf_iff_prefix.1 h).length_le
  simp at this
  omega

/-! The program. -/
/-! The model. -/
end Go.Proofs.YtmmofchfafnkcaaGreatDoor

/- Hexadecimal texts read: contracts of ReadHex, program and model. -/
namespace Go.Proofs.YtmmofchfafnkcaaGreatDoor
set_option maxRecDepth 100000
open Go.RowKit

/-- the value of a hexadecimal text -/
def rhx (l : List UInt8) : Option Int := if Lib.hasPrefix l [48, 120] then rdT 16 65535 (l.drop 2) else none
theorem rhx_no {l : List UInt8} (h : Lib.hasPrefix l [48, 120] = false) : rhx l = none := by unfold rhx; rw [h]; rfl
theorem rhx_yes {l : List UInt8} (h : Lib.hasPrefix l [48, 120] = true) : rhx l = rdT 16 65535 (l.drop 2) := by unfold rhx; rw [if_pos h]
theorem rdN_nonneg (b lim : Int) (hb : 0 ≤ b) : ∀ (l : List UInt8) (n v : Int), 0 ≤ n → rdN b lim l n = Option.some v → 0 ≤ v
  | [], n, v, h, e => by
    have := Option.some.inj e
    omega
  | c :: r, n, v, h, e => by
    rw [rdN] at e
    split at e
    · rename_i g
      refine rdN_nonneg b lim hb r _ v ?_ e
      have := Int.mul_nonneg h hb
      omega
    · cases e
theorem rdT_nonneg (b lim : Int) (hb : 0 ≤ b) (l : List UInt8) (v : Int) (e : rdT b lim l = Option.some v) : 0 ≤ v := by
  unfold rdT at e
  split at e
  · cases e
  · exact rdN_nonneg b lim hb l 0 v (by omega) e
theorem rdN_le (b lim : Int) : ∀ (l : List UInt8) (n v : Int), n ≤ lim → rdN b lim l n = Option.some v → v ≤ lim
  | [], n, v, h, e => by
    have := Option.some.inj e
    omega
  | c :: r, n, v, h, e => by
    rw [rdN] at e
    split at e
    · rename_i g
      exact rdN_le b lim r _ v g.2 e
    · cases e
theorem rdT_le (b lim : Int) (hl : 0 ≤ lim) (l : List UInt8) (v : Int) (e : rdT b lim l = Option.some v) : v ≤ lim := by
  unfold rdT at e
  split at e
  · cases e
  · exact rdN_le b lim l 0 v hl e
theorem rhx_nonneg (l : List UInt8) (v : Int) (e : rhx l = Option.some v) : 0 ≤ v := by
  unfold rhx at e
  split at e
  · exact rdT_nonneg 16 65535 (by omega) _ v e
  · cases e
theorem rhx_le (l : List UInt8) (v : Int) (e : rhx l = Option.some v) : v ≤ 65535 := by
  unfold rhx at e
  split at e
  · exact rdT_le 16 65535 (by omega) _ v e
  · cases e
theorem pfx_len {l : List UInt8} (h : Lib.hasPrefix l [48, 120] = true) : 2 ≤ l.length := by
  unfold Lib.hasPrefix at h
  simpa using (List.isPrefixOf_iff_prefix.1 h).length_le
theorem two_run (s : ByteArray) (hk : 2 ≤ s.size) : ∃ u t : ByteArray, u.data.toList = s.data.toList.drop 2 ∧ t.data.toList = s.data.toList.take 2 ∧
    (∀ w, (Instr.slice 9 (.string s) (some (.int .i64 2)) none none).run Tryz.prog w = .ok (.string u) w) ∧
    (∀ w, (Instr.slice 9 (.string s) none (some (.int .i64 2)) none).run Tryz.prog w = .ok (.string t) w) := by
  refine ⟨s.extract 2 s.size, s.extract 0 2, ?_, ?_, fun w => ?_, fun w => ?_⟩
  · rw [Lib.extract_data, List.take_of_length_le]
    simp
  · rw [Lib.extract_data]
    simp
  · rw [run_slice_string_l w 9 s Tryz.underlying9 .i64 2 (by omega) (by omega)]
    rfl
  · rw [run_slice_string_h w 9 s Tryz.underlying9 .i64 2 (by omega) (by omega)]
    rfl

theorem implReadHex_any (s : ByteArray) (w : World) (hD : Hid (Dig w)) (hs : s.size ≤ 1048576) :
    Calls Tryz.prog 207 #[.string s] w (SaysRd w (rhx s.data.toList)) := by
  rcases Bool.eq_false_or_eq_true (Lib.hasPrefix s.data.toList [48, 120]) with hp | hp
  · have HP := Lib.hid hp
    have HO := Lib.hid (rhx_yes hp)
    obtain ⟨u, hu⟩ : ∃ u : ByteArray, (⟨(Lib.trimPrefix s.data.toList [48, 120]).toArray⟩ : ByteArray) = u := ⟨_, rfl⟩
    have HU : Hid (u.data.toList = s.data.toList.drop 2) := Lib.hid (by rw [← hu]; unfold Lib.trimPrefix; rw [if_pos hp]; rfl)
    have hus : u.size ≤ 1048576 := by rw [size_data, HU.out, List.length_drop, ← size_data]; omega
    have HQ := Lib.hid hu
    have HR := Lib.hid (fun w hD => readDigits_hex u 65535 w hD hus (by omega) (by omega))
    rw [HU.out, ← HO.out] at HR
    obtain ⟨o, HE⟩ : ∃ o, Hid (rhx s.data.toList = o) := ⟨_, rfl⟩
    rw [HE.out] at HR ⊢
    clear hp hu hus
    go_enter Tryz.func207, Tryz.ntmps207
    go_wp2_with (first | (go_at_call 244; refine (Tryz.strings_CutPrefix s _ _).mono ?_; rw [show (ByteArray.mk #[48, 120]).data.toList = [48, 120] from rfl, HP.out, HQ.out]; rintro e w' ⟨rfl, rfl⟩) | (go_at_call 245; refine (HR.out _ hD).mono ?_; rintro e w1 ⟨rfl, b1⟩; have B1 := Lib.hid b1; clear b1))
    go_ret2
    exact ⟨rfl, B1.out⟩
  · have HP := Lib.hid hp
    have HN := Lib.hid (opt_none (rhx_no hp))
    obtain ⟨u, hu⟩ : ∃ u : ByteArray, (⟨(Lib.trimPrefix s.data.toList [48, 120]).toArray⟩ : ByteArray) = u := ⟨_, rfl⟩
    have HQ := Lib.hid hu
    clear hp hu
    go_enter Tryz.func207, Tryz.ntmps207
    go_wp2_with (go_at_call 244; refine (Tryz.strings_CutPrefix s _ _).mono ?_; rw [show (ByteArray.mk #[48, 120]).data.toList = [48, 120] from rfl, HP.out, HQ.out]; rintro e w' ⟨rfl, rfl⟩)
    go_ret2
    exact ⟨ret_pair (by rw [HN.out.1]; rfl) (by rw [HN.out.2]; rfl), Below.refl _ _⟩

theorem nuIsHex_any (s : ByteArray) (w : World) :
    Calls Tryz.prog 258 #[.string s] w fun e w' => e = .returned (.bool (Lib.hasPrefix s.data.toList [48, 120])) ∧ w = w' := by
  rcases Nat.lt_or_ge s.size 2 with h | h
  · have HP : Hid (Lib.hasPrefix s.data.toList [48, 120] = false) := Lib.hid (by
      rw [Bool.eq_false_iff]
      intro q
      have := pfx_len q
      rw [← size_data] at this
      omega)
    have d : decide ((2 : Int) ≤ s.size) = false := by simp; omega
    go_enter Tryz.func258, Tryz.ntmps258
    go_wp2
    go_ret
    exact ⟨ret_bool (by rw [HP.out]), rfl⟩
  · obtain ⟨u, t, hu, ht, hsl, hst⟩ := two_run s h
    have d : decide ((2 : Int) ≤ s.size) = true := by simp; omega
    have hp := pfx_two s 0 t ht
    rw [List.drop_zero] at hp
    obtain ⟨b, hb⟩ : ∃ b, Lib.hasPrefix s.data.toList [48, 120] = b := ⟨_, rfl⟩
    rw [hb] at hp ⊢
    clear hu ht hb hsl
    go_enter Tryz.func258, Tryz.ntmps258
    go_wp2
    go_ret
    exact ⟨rfl, rfl⟩
theorem nuReadHex_any (s : ByteArray) (w : World) (hs : s.size ≤ 1048576) :
    Calls Tryz.prog 259 #[.string s] w (SaysInt w (optM (rhx s.data.toList))) := by
  rcases Bool.eq_false_or_eq_true (Lib.hasPrefix s.data.toList [48, 120]) with hp | hp
  · have HI := Lib.hid (fun w => nuIsHex_any s w)
    rw [hp] at HI
    have HO := Lib.hid (rhx_yes hp)
    have h2 : 2 ≤ s.size := by rw [size_data]; exact pfx_len hp
    obtain ⟨u, t, hu, ht, hsl, hst⟩ := two_run s h2
    have hus : u.size ≤ 1048576 := by rw [size_data, hu, List.length_drop, ← size_data]; omega
    have HR := Lib.hid (fun w => nuDigits_hex u 65535 w hus (by omega) (by omega))
    rw [hu, ← HO.out] at HR
    obtain ⟨o, HE⟩ : ∃ o, Hid (optM (rhx s.data.toList) = o) := ⟨_, rfl⟩
    rw [HE.out] at HR ⊢
    clear hp hu ht hus hst
    go_enter Tryz.func259, Tryz.ntmps259
    go_wp2_with (first | (go_at_call 258; refine (HI.out _).mono ?_; rintro e w' ⟨rfl, rfl⟩) | (go_at_call 266; refine (HR.out _).mono ?_; rintro e w' ⟨rfl, rfl⟩))
    go_ret
    exact ⟨rfl, rfl⟩
  · have HI := Lib.hid (fun w => nuIsHex_any s w)
    rw [hp] at HI
    have HO := Lib.hid (rhx_no hp)
    rw [HO.out]
    clear hp
    go_enter Tryz.func259, Tryz.ntmps259
    go_wp2_with (go_at_call 258; refine (HI.out _).mono ?_; rintro e w' ⟨rfl, rfl⟩)
    go_ret
    exact ⟨rfl, rfl⟩
/-- a pair of a number and a truth value -/
def SaysPair (w : World) (r : Int) (ok : Bool) (e : Ending) (w' : World) : Prop := e = .returned (.tuple #[.int .i64 r, .bool ok]) ∧ Below w.heap.size w w'
theorem opt_ways (o : Option Int) (h : ∀ v, o = Option.some v → 0 ≤ v) : (o = none) ∨ ∃ v, o = Option.some v ∧ 0 ≤ v := by
  cases o with
  | none => exact .inl rfl
  | some v => exact .inr ⟨v, rfl, h v rfl⟩
end Go.Proofs.YtmmofchfafnkcaaGreatDoor

/- The units in the model: contracts of nuUnits and nuSize. Decimal texts in the model: what they stand for, and facts for the walk of nuRead. -/
namespace Go.Proofs.YtmmofchfafnkcaaGreatDoor
set_option maxRecDepth 100000
open Go.RowKit

def UnitsAt (w : World) (g : Nat) : Prop := w.cell? ⟨g, 0, none⟩ = some (.string ⟨#[109]⟩) ∧ w.cell? ⟨g, 1, none⟩ = some (.string ⟨#[107]⟩) ∧ w.cell? ⟨g, 2, none⟩ = some (.string ⟨#[]⟩)
theorem units_new (w : World) (ty : TypeId) : UnitsAt (w.alloc (.cells #[.string ⟨#[109]⟩, .string ⟨#[107]⟩, .string ⟨#[]⟩] ty)) w.heap.size := by
  refine ⟨?_, ?_, ?_⟩ <;> rw [World.cell?_alloc_at _ _ _ _ rfl] <;> rfl
theorem nuUnits_any (w : World) :
    Calls Tryz.prog 267 #[] w fun e w' => e = .returned (.slice (some ⟨w.heap.size, 0, none⟩) 3 3) ∧ UnitsAt w' w.heap.size ∧ Below w.heap.size w w' := by
  go_enter Tryz.func267, Tryz.ntmps267
  go_wp2
  go_ret
  exact ⟨rfl, units_new _ _, (Below.refl _ _).alloc (Nat.le_refl _) _⟩
def SaysSz (w : World) (n : Int) (e : Ending) (w' : World) : Prop := e = .returned (.int .i64 n) ∧ Below w.heap.size w w'
theorem sz_cells (w : World) (ty : TypeId) (j : Nat) (h : j < 3) : (w.alloc (.cells #[.int .i64 1000000, .int .i64 1000, .int .i64 1] ty)).cell? ⟨w.heap.size, j, none⟩ = some ([Value.int .i64 1000000, .int .i64 1000, .int .i64 1].getD j .nilIface) := by
  rw [World.cell?_alloc_at _ _ _ _ rfl]
  rcases (show j = 0 ∨ j = 1 ∨ j = 2 by omega) with rfl | rfl | rfl <;> rfl
theorem nuSize_0 (w : World) : Calls Tryz.prog 268 #[.int .i64 0] w (SaysSz w 1000000) := by
  go_enter Tryz.func268, Tryz.ntmps268
  go_wp2
  go_ret
  exact ⟨rfl, (Below.refl _ _).alloc (Nat.le_refl _) _⟩
theorem nuSize_1 (w : World) : Calls Tryz.prog 268 #[.int .i64 1] w (SaysSz w 1000) := by
  go_enter Tryz.func268, Tryz.ntmps268
  go_wp2
  go_ret
  exact ⟨rfl, (Below.refl _ _).alloc (Nat.le_refl _) _⟩
theorem nuSize_2 (w : World) : Calls Tryz.prog 268 #[.int .i64 2] w (SaysSz w 1) := by
  go_enter Tryz.func268, Tryz.ntmps268
  go_wp2
  go_ret
  exact ⟨rfl, (Below.refl _ _).alloc (Nat.le_refl _) _⟩

end Go.Proofs.YtmmofchfafnkcaaGreatDoor

namespace Go.Proofs.YtmmofchfafnkcaaGreatDoor
open Go.RowKit

/-- a number with a unit: none stands for 0 -/
def unitN (o : Option Int) (f : Int) : Option Int := match o with | Option.some n => if n = 0 then none else Option.some (n * f) | Option.none => none
/-- the value of a decimal text -/
def rnr (l : List UInt8) : Option Int :=
  if Lib.hasSuffix l [109] then unitN (rdT 10 1000 (initL l)) 1000000
  else if Lib.hasSuffix l [107] then unitN (rdT 10 1000000 (initL l)) 1000
  else rdT 10 1000000000 l
theorem rnr_m {l : List UInt8} (h : Lib.hasSuffix l [109] = true) : rnr l = unitN (rdT 10 1000 (initL l)) 1000000 := by unfold rnr; rw [if_pos h]
theorem rnr_k {l : List UInt8} (h : Lib.hasSuffix l [109] = false) (h2 : Lib.hasSuffix l [107] = true) : rnr l = unitN (rdT 10 1000000 (initL l)) 1000 := by
  unfold rnr; rw [if_neg (by simp [h]), if_pos h2]
theorem rnr_n {l : List UInt8} (h : Lib.hasSuffix l [109] = false) (h2 : Lib.hasSuffix l [107] = false) : rnr l = rdT 10 1000000000 l := by
  unfold rnr; rw [if_neg (by simp [h]), if_neg (by simp [h2])]
theorem suf_one (p : List UInt8) (x c : UInt8) : Lib.hasSuffix (p ++ [x]) [c] = ([x] == [c]) := by
  unfold Lib.hasSuffix List.isSuffixOf
  simp [List.isPrefixOf]
  exact Bool.eq_iff_iff.2 (by simp; exact eq_comm)
theorem suf_nil (c : UInt8) : Lib.hasSuffix [] [c] = false := rfl
/-- the last byte of a text, and what stands before it -/
theorem last_run (s : ByteArray) (h : 0 < s.size) : ∃ t u : ByteArray, (∀ c, (t.toList == [c]) = Lib.hasSuffix s.data.toList [c]) ∧ u.data.toList = initL s.data.toList ∧ u.size + 1 = s.size ∧ s.extract 0 ((s.size : Int) - 1).toNat = u ∧
    (∀ w, (Instr.slice 9 (.string s) (some (.int .i64 ((s.size : Int) - 1))) none none).run Tryz.prog w = .ok (.string t) w) ∧
    (∀ w, (Instr.slice 9 (.string s) none (some (.int .i64 ((s.size : Int) - 1))) none).run Tryz.prog w = .ok (.string u) w) := by
  have hl : 0 < s.data.toList.length := by rw [← size_data]; exact h
  have e1 : ((s.size : Int) - 1).toNat = s.size - 1 := by omega
  refine ⟨s.extract (s.size - 1) s.size, s.extract 0 (s.size - 1), fun c => ?_, ?_, ?_, by rw [e1], fun w => ?_, fun w => ?_⟩
  · rw [ByteArray.toList_eq, Lib.extract_data, List.take_of_length_le (by simp), size_data]
    generalize s.data.toList = l at hl
    have hsplit : l = l.take (l.length - 1) ++ l.drop (l.length - 1) := (List.take_append_drop _ _).symm
    have hd : (l.drop (l.length - 1)).length = 1 := by simp; omega
    obtain ⟨x, hx⟩ : ∃ x, l.drop (l.length - 1) = [x] := List.length_eq_one_iff.1 hd
    conv => rhs; rw [hsplit, hx, suf_one]
    rw [hx]
  · rw [Lib.extract_data]
    unfold initL
    rw [← size_data]
    simp
  · simp; omega
  · rw [run_slice_string_l w 9 s Tryz.underlying9 .i64 ((s.size : Int) - 1) (by omega) (by omega), e1]
  · rw [run_slice_string_h w 9 s Tryz.underlying9 .i64 ((s.size : Int) - 1) (by omega) (by omega), e1]
theorem unitN_none (f : Int) : unitN none f = none := rfl
theorem unitN_zero (f : Int) : unitN (Option.some 0) f = none := rfl
theorem unitN_some {n : Int} (f : Int) (h : 0 < n) : unitN (Option.some n) f = Option.some (n * f) := by
  show (if n = 0 then none else Option.some (n * f)) = _
  exact if_neg (by omega)
theorem opt_three (o : Option Int) (h : ∀ v, o = Option.some v → 0 ≤ v) : (o = none ∨ o = Option.some 0) ∨ ∃ v, o = Option.some v ∧ 0 < v := by
  cases o with
  | none => exact .inl (.inl rfl)
  | some v =>
    rcases Int.lt_or_eq_of_le (h v rfl) with q | q
    · exact .inr ⟨v, rfl, q⟩
    · exact .inl (.inr (by rw [q]))
theorem sizes_init {s : ByteArray} {u : ByteArray} (h : u.size + 1 = s.size) (hs : s.size ≤ 1048576) : u.size ≤ 1048576 := by omega
end Go.Proofs.YtmmofchfafnkcaaGreatDoor

/- Decimal texts in the model: contracts of nuRead. -/
namespace Go.Proofs.YtmmofchfafnkcaaGreatDoor
set_option maxRecDepth 100000
open Go.RowKit

theorem unit_ways (o : Option Int) (f lim : Int) (h : ∀ v, o = Option.some v → 0 ≤ v) (h2 : ∀ v, o = Option.some v → v ≤ lim) :
    (optM o ≤ 0 ∧ optM (unitN o f) = -1) ∨ (0 < optM o ∧ optM o ≤ lim ∧ optM (unitN o f) = optM o * f) := by
  rcases opt_three o h with (rfl | rfl) | ⟨v, rfl, hv⟩
  · exact .inl ⟨by decide, rfl⟩
  · exact .inl ⟨by decide, rfl⟩
  · exact .inr ⟨hv, h2 v rfl, by rw [unitN_some f hv]; rfl⟩
set_option maxHeartbeats 3200000 in
theorem nuRead_m (s : ByteArray) (w : World) (hs : s.size ≤ 1048576) (h0 : 0 < s.size) (h : Hid (Lib.hasSuffix s.data.toList [109] = true)) :
    Calls Tryz.prog 260 #[.string s] w (SaysSz w (optM (rnr s.data.toList))) := by
  obtain ⟨t, u, ht, hul, hus, hex, hsl, hst⟩ := last_run s h0
  have q1 : (0 : Int) ≤ (s.size : Int) - 1 := by omega
  have q2 : (s.size : Int) - 1 ≤ s.size := by omega
  have q3 : (1 : Int) ≤ s.size := by omega
  have q6 : IntKind.i64.wrap ((s.size : Int) - 1) = (s.size : Int) - 1 := IntWalk.i64_in _ (by omega)
  have HR := Lib.hid (fun w => nuDigits_dec u 1000 w (sizes_init hus hs) (by omega) (by omega))
  rw [hul] at HR
  rw [rnr_m h.out]
  obtain ⟨o, ho⟩ : ∃ o, rdT 10 1000 (initL s.data.toList) = o := ⟨_, rfl⟩
  have hc := unit_ways o 1000000 1000 (fun v q => rdT_nonneg 10 1000 (by omega) _ v (ho.trans q)) (fun v q => rdT_le 10 1000 (by omega) _ v (ho.trans q))
  rw [ho] at HR ⊢
  obtain ⟨r, hr⟩ : ∃ r, optM o = r := ⟨_, rfl⟩
  rw [hr] at HR hc
  have HC := Lib.hid hc
  have t1 := ht 109
  have t2 := ht 107
  rw [h.out] at t1
  have d0 : decide ((0 : Int) < s.size) = true := by simp; omega
  clear ho hul hus ht hr hc
  go_enter Tryz.func260, Tryz.ntmps260
  go_wp2_with (go_at_call 267; refine (nuUnits_any _).mono ?_; rintro e w1 ⟨rfl, ⟨u0, u1, u2⟩, b1⟩; have B1 := Lib.hid b1; clear b1)
  refine wp_loop_rounds 1 ?_
  rw [rounds_succ]
  go_wp2_with fail
  go_region_with (first | (go_at_call 268; refine (nuSize_0 _).mono ?_; rintro e w2 ⟨rfl, b2⟩; have B2 := Lib.hid b2; clear b2) | (go_at_call 266; refine (HR.out _).mono ?_; rintro e w' ⟨rfl, rfl⟩))
  all_goals
    rcases HC.out with ⟨c, HE⟩ | ⟨c, c', HE⟩
    · have d := is_le c
      have HE' := Lib.hid HE
      clear HE
      go_wp2
      go_ret
      exact ⟨ret_int HE'.out.symm, (show Below w.heap.size w w1.drew from below_drewN B1.out 1).trans (B2.out.mono B1.out.size)⟩
    · have d := not_le c
      have HE' := Lib.hid HE
      clear HE
      have B12 := Lib.hid ((show Below w.heap.size w w1.drew from below_drewN B1.out 1).trans (B2.out.mono B1.out.size))
      go_wp2_with (go_at_call 268; refine (nuSize_0 _).mono ?_; rintro e w3 ⟨rfl, b3⟩; have B3 := Lib.hid b3; clear b3)
      go_ret
      exact ⟨ret_int HE'.out.symm, B12.out.trans (B3.out.mono B12.out.size)⟩
set_option maxHeartbeats 3200000 in
theorem nuRead_k (s : ByteArray) (w : World) (hs : s.size ≤ 1048576) (h0 : 0 < s.size) (h : Hid (Lib.hasSuffix s.data.toList [109] = false)) (h2 : Hid (Lib.hasSuffix s.data.toList [107] = true)) :
    Calls Tryz.prog 260 #[.string s] w (SaysSz w (optM (rnr s.data.toList))) := by
  obtain ⟨t, u, ht, hul, hus, hex, hsl, hst⟩ := last_run s h0
  have q1 : (0 : Int) ≤ (s.size : Int) - 1 := by omega
  have q2 : (s.size : Int) - 1 ≤ s.size := by omega
  have q3 : (1 : Int) ≤ s.size := by omega
  have q6 : IntKind.i64.wrap ((s.size : Int) - 1) = (s.size : Int) - 1 := IntWalk.i64_in _ (by omega)
  have HR := Lib.hid (fun w => nuDigits_dec u 1000000 w (sizes_init hus hs) (by omega) (by omega))
  rw [hul] at HR
  rw [rnr_k h.out h2.out]
  obtain ⟨o, ho⟩ : ∃ o, rdT 10 1000000 (initL s.data.toList) = o := ⟨_, rfl⟩
  have hc := unit_ways o 1000 1000000 (fun v q => rdT_nonneg 10 1000000 (by omega) _ v (ho.trans q)) (fun v q => rdT_le 10 1000000 (by omega) _ v (ho.trans q))
  rw [ho] at HR ⊢
  obtain ⟨r, hr⟩ : ∃ r, optM o = r := ⟨_, rfl⟩
  rw [hr] at HR hc
  have HC := Lib.hid hc
  have t1 := ht 109
  have t2 := ht 107
  rw [h.out] at t1
  rw [h2.out] at t2
  have d0 : decide ((0 : Int) < s.size) = true := by simp; omega
  clear ho hul hus ht hr hc
  go_enter Tryz.func260, Tryz.ntmps260
  go_wp2_with (go_at_call 267; refine (nuUnits_any _).mono ?_; rintro e w1 ⟨rfl, ⟨u0, u1, u2⟩, b1⟩; have B1 := Lib.hid b1; clear b1)
  refine wp_loop_rounds 2 ?_
  rw [rounds_succ]
  go_wp2_with fail
  rw [rounds_succ]
  go_wp2_with fail
  go_region_with (first | (go_at_call 268; refine (nuSize_1 _).mono ?_; rintro e w2 ⟨rfl, b2⟩; have B2 := Lib.hid b2; clear b2) | (go_at_call 266; refine (HR.out _).mono ?_; rintro e w' ⟨rfl, rfl⟩))
  all_goals
    rcases HC.out with ⟨c, HE⟩ | ⟨c, c', HE⟩
    · have d := is_le c
      have HE' := Lib.hid HE
      clear HE
      go_wp2
      go_ret
      exact ⟨ret_int HE'.out.symm, (show Below w.heap.size w w1.drew from below_drewN B1.out 1).trans (B2.out.mono B1.out.size)⟩
    · have d := not_le c
      have HE' := Lib.hid HE
      clear HE
      have B12 := Lib.hid ((show Below w.heap.size w w1.drew from below_drewN B1.out 1).trans (B2.out.mono B1.out.size))
      go_wp2_with (go_at_call 268; refine (nuSize_1 _).mono ?_; rintro e w3 ⟨rfl, b3⟩; have B3 := Lib.hid b3; clear b3)
      go_ret
      exact ⟨ret_int HE'.out.symm, B12.out.trans (B3.out.mono B12.out.size)⟩
set_option maxHeartbeats 3200000 in
theorem nuRead_n (s : ByteArray) (w : World) (hs : s.size ≤ 1048576) (h0 : 0 < s.size) (h : Hid (Lib.hasSuffix s.data.toList [109] = false)) (h2 : Hid (Lib.hasSuffix s.data.toList [107] = false)) :
    Calls Tryz.prog 260 #[.string s] w (SaysSz w (optM (rnr s.data.toList))) := by
  obtain ⟨t, u, ht, hul, hus, hex, hsl, hst⟩ := last_run s h0
  have HR := Lib.hid (fun w => nuDigits_dec s 1000000000 w hs (by omega) (by omega))
  rw [rnr_n h.out h2.out]
  obtain ⟨r, hr⟩ : ∃ r, optM (rdT 10 1000000000 s.data.toList) = r := ⟨_, rfl⟩
  rw [hr] at HR ⊢
  have t1 := ht 109
  have t2 := ht 107
  rw [h.out] at t1
  rw [h2.out] at t2
  have d0 : decide ((0 : Int) < s.size) = true := by simp; omega
  clear hr hul hus ht
  go_enter Tryz.func260, Tryz.ntmps260
  go_wp2_with (go_at_call 267; refine (nuUnits_any _).mono ?_; rintro e w1 ⟨rfl, ⟨u0, u1, u2⟩, b1⟩; have B1 := Lib.hid b1; clear b1)
  refine wp_loop_rounds 4 ?_
  rw [rounds_succ]
  go_wp2_with fail
  rw [rounds_succ]
  go_wp2_with fail
  rw [rounds_succ]
  go_wp2_with fail
  rw [rounds_succ]
  go_wp2_with (go_at_call 266; refine (HR.out _).mono ?_; rintro e w' ⟨rfl, rfl⟩)
  go_ret
  exact ⟨rfl, B1.out⟩
set_option maxHeartbeats 3200000 in
theorem nuRead_0 (s : ByteArray) (w : World) (h0 : s.size = 0) :
    Calls Tryz.prog 260 #[.string s] w (SaysSz w (optM (rnr s.data.toList))) := by
  have hl : s.data.toList = [] := List.eq_nil_of_length_eq_zero (by rw [← size_data]; exact h0)
  have HR := Lib.hid (fun w => nuDigits_dec s 1000000000 w (by omega) (by omega) (by omega))
  rw [rnr_n (by rw [hl]; rfl) (by rw [hl]; rfl)]
  obtain ⟨r, hr⟩ : ∃ r, optM (rdT 10 1000000000 s.data.toList) = r := ⟨_, rfl⟩
  rw [hr] at HR ⊢
  have d0 : decide ((0 : Int) < s.size) = false := decide_eq_false (by omega)
  clear hr hl
  go_enter Tryz.func260, Tryz.ntmps260
  go_wp2_with (go_at_call 267; refine (nuUnits_any _).mono ?_; rintro e w1 ⟨rfl, ⟨u0, u1, u2⟩, b1⟩; have B1 := Lib.hid b1; clear b1)
  refine wp_loop_rounds 4 ?_
  rw [rounds_succ]
  go_wp2_with fail
  rw [rounds_succ]
  go_wp2_with fail
  rw [rounds_succ]
  go_wp2_with fail
  rw [rounds_succ]
  go_wp2_with (go_at_call 266; refine (HR.out _).mono ?_; rintro e w' ⟨rfl, rfl⟩)
  go_ret
  exact ⟨rfl, B1.out⟩
theorem nuRead_any (s : ByteArray) (w : World) (hs : s.size ≤ 1048576) :
    Calls Tryz.prog 260 #[.string s] w (SaysSz w (optM (rnr s.data.toList))) := by
  rcases Nat.eq_zero_or_pos s.size with h0 | h0
  · exact nuRead_0 s w h0
  · rcases Bool.eq_false_or_eq_true (Lib.hasSuffix s.data.toList [109]) with h | h
    · exact nuRead_m s w hs h0 h
    · rcases Bool.eq_false_or_eq_true (Lib.hasSuffix s.data.toList [107]) with h2 | h2
      · exact nuRead_k s w hs h0 h h2
      · exact nuRead_n s w hs h0 h h2
end Go.Proofs.YtmmofchfafnkcaaGreatDoor
