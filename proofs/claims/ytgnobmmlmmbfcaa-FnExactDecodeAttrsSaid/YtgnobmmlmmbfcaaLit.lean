/- Numbers of a width, the lowest byte first: contracts of ReadLittle and WriteLittle, program and model. -/
import Derived.Test.YtgnobmmlmmbfcaaMark
import Derived.Laws.Bits64b
namespace Go.Proofs.Ytgnobmmlmmbfcaa
open Go.RowKit

/-! Widths. -/
def IsW (wd : Int) : Prop := wd = 1 ∨ wd = 2 ∨ wd = 4
theorem notW {wd : Int} (h : ¬ IsW wd) : (wd == 1) = false ∧ (wd == 2) = false ∧ (wd == 4) = false := by
  unfold IsW at h; simp; omega
theorem isWidth_true (wd : Int) (w : World) (h : IsW wd) :
    Calls Try.prog 30 #[.int .i64 wd] w fun e w' => e = .returned (.bool true) ∧ w = w' := by
  rcases h with rfl | rfl | rfl
  all_goals
    go_enter Try.func30, Try.ntmps30
    go_wp2
    go_ret
    exact ⟨rfl, rfl⟩
theorem isWidth_false (wd : Int) (w : World) (h : ¬ IsW wd) :
    Calls Try.prog 30 #[.int .i64 wd] w fun e w' => e = .returned (.bool false) ∧ w = w' := by
  obtain ⟨h1, h2, h3⟩ := notW h
  clear h
  go_enter Try.func30, Try.ntmps30
  go_wp2
  go_ret
  exact ⟨rfl, rfl⟩
/-! The number of bytes, the lowest first. -/
def leV (l : List Int) : Nat → Int
  | 0 => 0
  | k + 1 => leV l k + l.getD k 0 * 256 ^ k
theorem or_i64 (a b : Nat) (ha : a < 4294967296) (hb : b < 4294967296) : bits .or .i64 (a : Int) (b : Int) = ((a ||| b : Nat) : Int) := by
  have hx : a ||| b < 2 ^ 32 := Nat.or_lt_two_pow (by omega) (by omega)
  have h1 : (BitVec.ofInt 64 (a : Int)).toNat = a := by
    rw [BitVec.ofInt_natCast, BitVec.toNat_ofNat]; exact Nat.mod_eq_of_lt (by omega)
  have h2 : (BitVec.ofInt 64 (b : Int)).toNat = b := by
    rw [BitVec.ofInt_natCast, BitVec.toNat_ofNat]; exact Nat.mod_eq_of_lt (by omega)
  show IntKind.i64.wrap ((BitVec.ofInt 64 (a : Int) ||| BitVec.ofInt 64 (b : Int)).toNat : Int) = _
  rw [BitVec.toNat_or, h1, h2]
  exact IntWalk.i64_in _ (by omega)
theorem or_step (t c : Nat) (m : Nat) (ht : t < 2 ^ m) (hc : c * 2 ^ m < 4294967296) (h2 : 2 ^ m ≤ 4294967296) : bits .or .i64 (t : Int) ((c * 2 ^ m : Nat) : Int) = (t : Int) + ((c * 2 ^ m : Nat) : Int) := by
  rw [or_i64 _ _ (by omega) hc, Nat.or_comm, Nat.mul_comm, ← Nat.two_pow_add_eq_or_of_lt ht]
  omega
theorem or_le (t c : Int) (k : Nat) (hk : k < 4) (t0 : 0 ≤ t) (t1 : t < 256 ^ k) (c0 : 0 ≤ c) (c1 : c ≤ 255) :
    bits .or .i64 t (wrap64 (c * 2 ^ (8 * k))) = t + c * 256 ^ k := by
  obtain ⟨a, rfl⟩ := Int.eq_ofNat_of_zero_le t0
  obtain ⟨d, rfl⟩ := Int.eq_ofNat_of_zero_le c0
  rcases (show k = 0 ∨ k = 1 ∨ k = 2 ∨ k = 3 by omega) with rfl | rfl | rfl | rfl
  · have := or_step a d 0 (by omega) (by omega) (by omega)
    rw [IntWalk.wrap64_in _ (by omega)]
    simpa using this
  · have := or_step a d 8 (by omega) (by omega) (by omega)
    rw [IntWalk.wrap64_in _ (by omega)]
    simpa using this
  · have := or_step a d 16 (by omega) (by omega) (by omega)
    rw [IntWalk.wrap64_in _ (by omega)]
    simpa using this
  · have := or_step a d 24 (by omega) (by omega) (by omega)
    rw [IntWalk.wrap64_in _ (by omega)]
    simpa using this
theorem le_bd (t c : Int) (k : Nat) (hk : k < 4) (t0 : 0 ≤ t) (t1 : t < 256 ^ k) (c0 : 0 ≤ c) (c1 : c ≤ 255) :
    0 ≤ t + c * 256 ^ k ∧ t + c * 256 ^ k < 256 ^ (k + 1) := by
  rcases (show k = 0 ∨ k = 1 ∨ k = 2 ∨ k = 3 by omega) with rfl | rfl | rfl | rfl <;> omega
theorem getD_drop (zs : List Int) (a k : Nat) : (zs.drop a).getD k 0 = zs.getD (a + k) 0 := by
  simp [List.getD_eq_getElem?_getD]

def ReadRel (l : List Int) (wd : Int) (s i : Value) : Prop :=
  ∃ (k : Nat) (t : Int), (k : Int) ≤ wd ∧ i = .int .i64 k ∧ s = .int .i64 t ∧ 0 ≤ t ∧ t < 256 ^ k ∧ t = leV l k

set_option maxHeartbeats 800000 in
theorem implRead_some (b off n cap : Nat) (zs : List Int) (lo wd : Int) (w : World) (HL : Hid (zs.length = n)) (HR : Hid (Row w b off zs)) (hn : (n : Int) ≤ 4000) (h0 : 0 ≤ lo) (h1 : lo ≤ n - wd) (HW : Hid (IsW wd)) :
    Calls Try.prog 26 #[.slice (some ⟨b, off, none⟩) n cap, .int .i64 lo, .int .i64 wd] w fun e w' => e = .returned (.tuple #[.int .i64 (leV (zs.drop lo.toNat) wd.toNat), .bool true]) ∧ w = w' := by
  have hw0 : 1 ≤ wd := by rcases HW.out with h | h | h <;> omega
  have hw : wd ≤ 4 := by rcases HW.out with h | h | h <;> omega
  have t0 := not_lt h0
  have t1 := not_lt h1
  go_enter Try.func26, Try.ntmps26
  go_wp2_with (first | (go_at_call 29; refine (areBytes_true _ _ _ _ hn).mono ?_; rintro e w' ⟨rfl, rfl⟩) | (go_at_call 30; refine (isWidth_true _ _ HW.out).mono ?_; rintro e w' ⟨rfl, rfl⟩))
  go_loop [8, 31] (fun s i => ReadRel (zs.drop lo.toNat) wd s i) (fun _ i => (wd - intOf i).toNat)
  case atStart => exact ⟨0, 0, by omega, rfl, rfl, by omega, by omega, rfl⟩
  case round =>
    obtain ⟨k, t, hk, rfl, rfl, t0, t1, t2⟩ := hrel
    have T1 := Lib.hid t1
    have T2 := Lib.hid t2
    clear t1 t2
    rcases Int.lt_or_le k wd with hlt | hge
    · obtain ⟨c, HC, c0, c1, hcell⟩ := HR.out.at (lo.toNat + k) (by have := HL.out; omega)
      have e1 : (lo + (k : Int)).toNat = lo.toNat + k := by omega
      have e2 : (0 : Int) ≤ lo + k := by omega
      have e3 : lo + (k : Int) < n := by omega
      have eo := or_le t c k (by omega) t0 T1.out c0 c1
      go_wp2
      go_round
      case rel =>
        have hb := le_bd t c k (by omega) t0 T1.out c0 c1
        exact ⟨k + 1, t + c * 256 ^ k, by omega, by go_num, by first | rfl | rw [eo], hb.1, hb.2, by rw [leV, ← T2.out, getD_drop, ← HC.out]⟩
      case measure => simp [intOf]; omega
    · have d := not_lt hge
      go_wp2
      go_ret2
      exact ⟨ret_pair (by rw [T2.out, show wd.toNat = k by omega]; rfl) rfl, rfl⟩

def ReadDown (l : List Int) (wd : Int) (s i : Value) : Prop :=
  ∃ (j : Nat) (i' t : Int), (j : Int) ≤ wd ∧ i = .int .i64 i' ∧ i' + 1 = j ∧ s = .int .i64 t ∧ 0 ≤ t ∧ t < 256 ^ (4 - j) ∧ leV l j + t * 256 ^ j = leV l wd.toNat
theorem down_bd (t c : Int) (j : Nat) (hj : j < 4) (t0 : 0 ≤ t) (t1 : t < 256 ^ (4 - (j + 1))) (c0 : 0 ≤ c) (c1 : c ≤ 255) :
    t ≤ 16777216 ∧ 256 * t + c < 256 ^ (4 - j) := by
  rcases (show j = 0 ∨ j = 1 ∨ j = 2 ∨ j = 3 by omega) with rfl | rfl | rfl | rfl <;> omega
theorem down_step (l : List Int) (t c T : Int) (j : Nat) (hc : c = l.getD j 0) (h : leV l (j + 1) + t * 256 ^ (j + 1) = T) : leV l j + (256 * t + c) * 256 ^ j = T := by
  rw [← h, leV, ← hc, Int.pow_succ]
  grind

def rlBad (n lo wd : Int) : Prop := 4000 < n ∨ (n ≤ 4000 ∧ ¬ IsW wd) ∨ (n ≤ 4000 ∧ IsW wd ∧ lo < 0) ∨ (n ≤ 4000 ∧ IsW wd ∧ 0 ≤ lo ∧ n - wd < lo)
theorem W_bd {wd : Int} (h : IsW wd) : 1 ≤ wd ∧ wd ≤ 4 := by rcases h with h | h | h <;> omega

theorem implRead_no (a : Option Addr) (n cap : Nat) (lo wd : Int) (w : World) (h : rlBad n lo wd) :
    Calls Try.prog 26 #[.slice a n cap, .int .i64 lo, .int .i64 wd] w fun e w' => e = .returned (.tuple #[.int .i64 0, .bool false]) ∧ w = w' := by
  rcases h with h | ⟨h, h1⟩ | ⟨h, h1, h2⟩ | ⟨h, h1, h2, h3⟩
  · go_enter Try.func26, Try.ntmps26
    go_wp2_with (go_at_call 29; refine (areBytes_false _ _ _ _ h).mono ?_; rintro e w' ⟨rfl, rfl⟩)
    go_ret2
    exact ⟨rfl, rfl⟩
  · have H1 := Lib.hid h1
    clear h1
    go_enter Try.func26, Try.ntmps26
    go_wp2_with (first | (go_at_call 29; refine (areBytes_true _ _ _ _ h).mono ?_; rintro e w' ⟨rfl, rfl⟩) | (go_at_call 30; refine (isWidth_false _ _ H1.out).mono ?_; rintro e w' ⟨rfl, rfl⟩))
    go_ret2
    exact ⟨rfl, rfl⟩
  · have H1 := Lib.hid h1
    clear h1
    have t0 := is_lt h2
    go_enter Try.func26, Try.ntmps26
    go_wp2_with (first | (go_at_call 29; refine (areBytes_true _ _ _ _ h).mono ?_; rintro e w' ⟨rfl, rfl⟩) | (go_at_call 30; refine (isWidth_true _ _ H1.out).mono ?_; rintro e w' ⟨rfl, rfl⟩))
    go_ret2
    exact ⟨rfl, rfl⟩
  · obtain ⟨wa, wb⟩ := W_bd h1
    have H1 := Lib.hid h1
    clear h1
    have t0 := not_lt h2
    have t1 := is_lt h3
    go_enter Try.func26, Try.ntmps26
    go_wp2_with (first | (go_at_call 29; refine (areBytes_true _ _ _ _ h).mono ?_; rintro e w' ⟨rfl, rfl⟩) | (go_at_call 30; refine (isWidth_true _ _ H1.out).mono ?_; rintro e w' ⟨rfl, rfl⟩))
    go_ret2
    exact ⟨rfl, rfl⟩

end Go.Proofs.Ytgnobmmlmmbfcaa
