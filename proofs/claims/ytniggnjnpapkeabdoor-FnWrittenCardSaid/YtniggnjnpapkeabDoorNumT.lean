/- The model's numbers: contracts of scNumber, scDecimal, and DecimalAt of program and model. -/
import Derived.Test.YtniggnjnpapkeabDoorDigV
namespace Go.Proofs.YtniggnjnpapkeabDoor
set_option maxRecDepth 100000
open Go.RowKit

def SaysTwo (w : World) (n : Int) (k : Nat) (e : Ending) (w' : World) : Prop := e = .returned (.tuple #[.int .i64 n, .int .i64 (k : Int)]) ∧ w = w'
def NumRel (b bound : Int) (s : ByteArray) (k0 : Nat) (x n : Value) : Prop :=
  ∃ (k : Nat) (t : Int), k ≤ s.size ∧ x = .int .i64 k ∧ n = .int .i64 t ∧ 0 ≤ t ∧ t ≤ 68719476735 ∧ satN b bound (s.data.toList.drop k) t = satN b bound (s.data.toList.drop k0) 0 ∧ k + dlen b (s.data.toList.drop k) = k0 + dlen b (s.data.toList.drop k0)
theorem sat_small (b bound : Int) (s : ByteArray) (k : Nat) (t : Int) (h : k < s.size) (hp : 0 ≤ dg b (s[k].toNat : Int)) (ht : t ≤ bound) : satN b bound (s.data.toList.drop k) t = satN b bound (s.data.toList.drop (k + 1)) (b * t + dg b (s[k].toNat : Int)) := by
  rw [drop_at s k h, satN, if_pos hp, if_pos ht]
theorem sat_big (b bound : Int) (s : ByteArray) (k : Nat) (t : Int) (h : k < s.size) (hp : 0 ≤ dg b (s[k].toNat : Int)) (ht : bound < t) : satN b bound (s.data.toList.drop k) t = satN b bound (s.data.toList.drop (k + 1)) t := by
  rw [drop_at s k h, satN, if_pos hp, if_neg (by omega)]
theorem sat_stop (b bound : Int) (s : ByteArray) (k : Nat) (t : Int) (h : k < s.size) (hp : ¬ 0 ≤ dg b (s[k].toNat : Int)) : satN b bound (s.data.toList.drop k) t = t := by
  rw [drop_at s k h, satN, if_neg hp]
theorem sat_end (b bound : Int) (s : ByteArray) (k : Nat) (t : Int) (h : s.size ≤ k) : satN b bound (s.data.toList.drop k) t = t := by
  rw [List.drop_eq_nil_of_le (by simpa using h)]; rfl
set_option maxHeartbeats 1600000 in
theorem scNumber_dec (s : ByteArray) (k0 : Nat) (w : World) (hs : (s.size : Int) ≤ 1048576) (hk0 : k0 ≤ s.size) :
    Calls Tryd.prog 54 #[.string s, .int .i64 k0, .int .i64 10, .int .i64 1000000000] w (SaysTwo w (satN 10 1000000000 (s.data.toList.drop k0) 0) (k0 + dlen 10 (s.data.toList.drop k0))) := by
  go_enter Tryd.func54, Tryd.ntmps54
  go_wp2_with fail
  go_loop [1, 10] (fun x n => NumRel 10 1000000000 s k0 x n) (fun x _ => s.size - (intOf x).toNat)
  case atStart => exact ⟨k0, 0, hk0, rfl, rfl, by omega, by omega, rfl, rfl⟩
  case round =>
    obtain ⟨k, t, hk, rfl, rfl, t0, t1, hv, hp⟩ := hrel
    have HP := Lib.hid hp
    have HV := Lib.hid hv
    clear hp hv
    by_cases hlt : k < s.size
    · have hlt' : (k : Int) < s.size := by omega
      have hb256 : (s[k].toNat : Int) ≤ 255 := by have := s[k].toNat_lt; omega
      have hin := (dg_lt 10 (s[k].toNat : Int) (by omega)).2
      by_cases hd : 0 ≤ dg 10 (s[k].toNat : Int)
      · have HD := Lib.hid hd
        rcases Int.lt_or_le 1000000000 t with hg | hg
        · have d1 := not_le hg
          go_wp2_with (go_at_call 53; refine (scDigit_dec (s[k].toNat : Int) _ (by omega) hb256).mono ?_; rintro e w' ⟨rfl, rfl⟩)
          go_round
          case rel => exact ⟨k + 1, t, by omega, by go_num, rfl, t0, t1, by rw [← HV.out, sat_big _ _ s k t hlt HD.out hg], by rw [← HP.out, dlen_more _ s k hlt HD.out]; omega⟩
          case measure => simp [intOf]; omega
        · have d1 := is_le hg
          go_wp2_with (go_at_call 53; refine (scDigit_dec (s[k].toNat : Int) _ (by omega) hb256).mono ?_; rintro e w' ⟨rfl, rfl⟩)
          go_round
          case rel => exact ⟨k + 1, 10 * t + dg 10 (s[k].toNat : Int), by omega, by go_num, rfl, by omega, by omega, by rw [← HV.out, sat_small _ _ s k t hlt HD.out hg], by rw [← HP.out, dlen_more _ s k hlt HD.out]; omega⟩
          case measure => simp [intOf]; omega
      · have HD := Lib.hid hd
        have hd' : dg 10 (s[k].toNat : Int) < 0 := by omega
        go_wp2_with (go_at_call 53; refine (scDigit_dec (s[k].toNat : Int) _ (by omega) hb256).mono ?_; rintro e w' ⟨rfl, rfl⟩)
        go_ret2
        exact ⟨ret_pair (by rw [← HV.out, sat_stop _ _ s k t hlt (by have := HD.out; omega)]; rfl) (by rw [← HP.out, dlen_stop _ s k hlt (by have := HD.out; omega)]; rfl), rfl⟩
    · go_wp2
      go_ret2
      exact ⟨ret_pair (by rw [← HV.out, sat_end _ _ s k t (by omega)]; rfl) (by rw [← HP.out, dlen_end _ s k (by omega)]; rfl), rfl⟩
set_option maxHeartbeats 1600000 in
theorem scNumber_hex (s : ByteArray) (k0 : Nat) (w : World) (hs : (s.size : Int) ≤ 1048576) (hk0 : k0 ≤ s.size) :
    Calls Tryd.prog 54 #[.string s, .int .i64 k0, .int .i64 16, .int .i64 4294967295] w (SaysTwo w (satN 16 4294967295 (s.data.toList.drop k0) 0) (k0 + dlen 16 (s.data.toList.drop k0))) := by
  go_enter Tryd.func54, Tryd.ntmps54
  go_wp2_with fail
  go_loop [1, 10] (fun x n => NumRel 16 4294967295 s k0 x n) (fun x _ => s.size - (intOf x).toNat)
  case atStart => exact ⟨k0, 0, hk0, rfl, rfl, by omega, by omega, rfl, rfl⟩
  case round =>
    obtain ⟨k, t, hk, rfl, rfl, t0, t1, hv, hp⟩ := hrel
    have HP := Lib.hid hp
    have HV := Lib.hid hv
    clear hp hv
    by_cases hlt : k < s.size
    · have hlt' : (k : Int) < s.size := by omega
      have hb256 : (s[k].toNat : Int) ≤ 255 := by have := s[k].toNat_lt; omega
      have hin := (dg_lt 16 (s[k].toNat : Int) (by omega)).2
      by_cases hd : 0 ≤ dg 16 (s[k].toNat : Int)
      · have HD := Lib.hid hd
        rcases Int.lt_or_le 4294967295 t with hg | hg
        · have d1 := not_le hg
          go_wp2_with (go_at_call 53; refine (scDigit_hex (s[k].toNat : Int) _ (by omega) hb256).mono ?_; rintro e w' ⟨rfl, rfl⟩)
          go_round
          case rel => exact ⟨k + 1, t, by omega, by go_num, rfl, t0, t1, by rw [← HV.out, sat_big _ _ s k t hlt HD.out hg], by rw [← HP.out, dlen_more _ s k hlt HD.out]; omega⟩
          case measure => simp [intOf]; omega
        · have d1 := is_le hg
          go_wp2_with (go_at_call 53; refine (scDigit_hex (s[k].toNat : Int) _ (by omega) hb256).mono ?_; rintro e w' ⟨rfl, rfl⟩)
          go_round
          case rel => exact ⟨k + 1, 16 * t + dg 16 (s[k].toNat : Int), by omega, by go_num, rfl, by omega, by omega, by rw [← HV.out, sat_small _ _ s k t hlt HD.out hg], by rw [← HP.out, dlen_more _ s k hlt HD.out]; omega⟩
          case measure => simp [intOf]; omega
      · have HD := Lib.hid hd
        have hd' : dg 16 (s[k].toNat : Int) < 0 := by omega
        go_wp2_with (go_at_call 53; refine (scDigit_hex (s[k].toNat : Int) _ (by omega) hb256).mono ?_; rintro e w' ⟨rfl, rfl⟩)
        go_ret2
        exact ⟨ret_pair (by rw [← HV.out, sat_stop _ _ s k t hlt (by have := HD.out; omega)]; rfl) (by rw [← HP.out, dlen_stop _ s k hlt (by have := HD.out; omega)]; rfl), rfl⟩
    · go_wp2
      go_ret2
      exact ⟨ret_pair (by rw [← HV.out, sat_end _ _ s k t (by omega)]; rfl) (by rw [← HP.out, dlen_end _ s k (by omega)]; rfl), rfl⟩
end Go.Proofs.YtniggnjnpapkeabDoor
