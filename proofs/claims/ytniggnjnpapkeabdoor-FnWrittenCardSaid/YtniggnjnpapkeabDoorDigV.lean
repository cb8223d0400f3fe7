/- The numbers that digits stand for: contracts of digitsValue, scDigit and scNumber. -/
import Derived.Test.YtniggnjnpapkeabDoorDigN
namespace Go.Proofs.YtniggnjnpapkeabDoor
set_option maxRecDepth 100000
open Go.RowKit

/-- the number of a list of digits -/
def dval (b : Int) (l : List UInt8) : Int := l.foldl (fun a c => a * b + dg b (c.toNat : Int)) 0
theorem dval_snoc (b : Int) (l : List UInt8) (c : UInt8) : dval b (l ++ [c]) = dval b l * b + dg b (c.toNat : Int) := by simp [dval]
theorem dval_dvN (b : Int) (l : List UInt8) (h : ∀ c ∈ l, 0 ≤ dg b (c.toNat : Int)) : dval b l = dvN b l 0 := by
  have gen : ∀ (l : List UInt8) (n : Int), (∀ c ∈ l, 0 ≤ dg b (c.toNat : Int)) → l.foldl (fun a c => a * b + dg b (c.toNat : Int)) n = dvN b l n := by
    intro l
    induction l with
    | nil => intro n _; rfl
    | cons c r ih =>
      intro n hl
      simp only [List.foldl_cons, dvN, if_pos (hl c (by simp))]
      exact ih _ (fun x hx => hl x (by simp [hx]))
  exact gen l 0 h
theorem digits_of (b : Int) (l : List UInt8) : ∀ c ∈ l.take (dlen b l), 0 ≤ dg b (c.toNat : Int) := by
  induction l with
  | nil => intro c hc; simp at hc
  | cons x r ih =>
    intro c hc
    by_cases hd : 0 ≤ dg b (x.toNat : Int)
    · simp only [dlen, if_pos hd, List.take_succ_cons, List.mem_cons] at hc
      rcases hc with rfl | hc
      · exact hd
      · exact ih c hc
    · simp [dlen, if_neg hd] at hc
theorem take_byte (s : ByteArray) (k : Nat) (h : k < s.size) : s.data.toList.take (k + 1) = s.data.toList.take k ++ [s[k]] := by
  rw [List.take_succ_eq_append_getElem (by simpa using h)]; rfl
theorem mem_byte (s : ByteArray) (k : Nat) (h : k < s.size) : s[k] ∈ s.data.toList := by
  have : s[k] = s.data.toList[k]'(by simpa using h) := rfl
  rw [this]
  exact List.getElem_mem _

def ValRel (w : World) (b : Int) (s : ByteArray) (n i : Value) (wr : World) : Prop :=
  ∃ (k q : Nat) (t : Int), k ≤ s.size ∧ i = .int .i64 k ∧ n = .int .i64 t ∧ wr = w.drewN q ∧ 0 ≤ t ∧ t < b ^ k ∧ t = dval b (s.data.toList.take k)
theorem pow_dec (k : Nat) (h : k < 10) : (10 : Int) ^ k ≤ 68719476736 := by
  rcases (show k = 0 ∨ k = 1 ∨ k = 2 ∨ k = 3 ∨ k = 4 ∨ k = 5 ∨ k = 6 ∨ k = 7 ∨ k = 8 ∨ k = 9 by omega) with rfl | rfl | rfl | rfl | rfl | rfl | rfl | rfl | rfl | rfl <;> decide
set_option maxHeartbeats 1600000 in
theorem digitsValue_dec (s : ByteArray) (w : World) (hD : Hid (Dig w)) (hs : s.size ≤ 10) (hd : Hid (∀ c ∈ s.data.toList, 0 ≤ dg 10 (c.toNat : Int))) :
    Calls Tryd.prog 32 #[.string s, .int .i64 0] w (SaysIntD w (dval 10 s.data.toList)) := by
  go_enter Tryd.func32, Tryd.ntmps32
  go_wp2
  go_loopw [5, 9] (fun n i wr => ValRel w 10 s n i wr) (fun _ i _ => s.size - (intOf i).toNat)
  case atStart => exact ⟨0, 0, 0, Nat.zero_le _, rfl, rfl, rfl, by omega, by omega, rfl⟩
  case round =>
    obtain ⟨k, q, t, hk, rfl, rfl, hw, t0, t1, t2⟩ := hrel
    have HW := Lib.hid hw
    have T1 := Lib.hid t1
    have T2 := Lib.hid t2
    clear hw t1 t2
    have hc := (HW.out ▸ hD.out : Dig wr).1
    by_cases hlt : k < s.size
    · have hlt' : (k : Int) < s.size := by omega
      have hb256 : s[k].toNat < 256 := s[k].toNat_lt
      have hin := (dg_lt 10 (s[k].toNat : Int) (by omega)).2
      have hpos := hd.out s[k] (mem_byte s k hlt)
      have hp := pow_dec k (by omega)
      have htb : t ≤ 68719476736 := by have := T1.out; omega
      clear hp
      have hsz : decB.size = 10 := rfl
      have e1 : IntKind.i64.wrap (t * 10) = t * 10 := IntWalk.i64_in _ (by omega)
      have e2 : IntKind.i64.wrap (t * 10 + dg 10 (s[k].toNat : Int)) = t * 10 + dg 10 (s[k].toNat : Int) := IntWalk.i64_in _ (by omega)
      go_wp2_with fail
      go_quiet ((go_at_call 52; exact Calls.quiet_of_same (index_dec s[k].toNat hb256 _)))
      go_wp2
      go_roundw
      case rel => exact ⟨k + 1, _, t * 10 + dg 10 (s[k].toNat : Int), by omega, by go_num, rfl, by rw [HW.out]; simp; rfl, by omega, by have := T1.out; rw [Int.pow_succ]; omega, by rw [take_byte s k hlt, dval_snoc, ← T2.out]⟩
      case measure => simp [intOf]; omega
    · have hd : decide (k < s.size) = false := by simp; omega
      go_wp2
      go_ret
      exact ⟨ret_int (by rw [T2.out, List.take_of_length_le]; simp; omega), _, by rw [HW.out]⟩
theorem pow_hex (k : Nat) (h : k < 10) : (16 : Int) ^ k ≤ 68719476736 := by
  rcases (show k = 0 ∨ k = 1 ∨ k = 2 ∨ k = 3 ∨ k = 4 ∨ k = 5 ∨ k = 6 ∨ k = 7 ∨ k = 8 ∨ k = 9 by omega) with rfl | rfl | rfl | rfl | rfl | rfl | rfl | rfl | rfl | rfl <;> decide
set_option maxHeartbeats 1600000 in
theorem digitsValue_hex (s : ByteArray) (w : World) (hD : Hid (Dig w)) (hs : s.size ≤ 10) (hd : Hid (∀ c ∈ s.data.toList, 0 ≤ dg 16 (c.toNat : Int))) :
    Calls Tryd.prog 32 #[.string s, .int .i64 1] w (SaysIntD w (dval 16 s.data.toList)) := by
  go_enter Tryd.func32, Tryd.ntmps32
  go_wp2
  go_loopw [5, 9] (fun n i wr => ValRel w 16 s n i wr) (fun _ i _ => s.size - (intOf i).toNat)
  case atStart => exact ⟨0, 0, 0, Nat.zero_le _, rfl, rfl, rfl, by omega, by omega, rfl⟩
  case round =>
    obtain ⟨k, q, t, hk, rfl, rfl, hw, t0, t1, t2⟩ := hrel
    have HW := Lib.hid hw
    have T1 := Lib.hid t1
    have T2 := Lib.hid t2
    clear hw t1 t2
    have hc := (HW.out ▸ hD.out : Dig wr).2
    by_cases hlt : k < s.size
    · have hlt' : (k : Int) < s.size := by omega
      have hb256 : s[k].toNat < 256 := s[k].toNat_lt
      have hin := (dg_lt 16 (s[k].toNat : Int) (by omega)).2
      have hpos := hd.out s[k] (mem_byte s k hlt)
      have hp := pow_hex k (by omega)
      have htb : t ≤ 68719476736 := by have := T1.out; omega
      clear hp
      have hsz : hexB.size = 16 := rfl
      have e1 : IntKind.i64.wrap (t * 16) = t * 16 := IntWalk.i64_in _ (by omega)
      have e2 : IntKind.i64.wrap (t * 16 + dg 16 (s[k].toNat : Int)) = t * 16 + dg 16 (s[k].toNat : Int) := IntWalk.i64_in _ (by omega)
      go_wp2_with fail
      go_quiet ((go_at_call 52; exact Calls.quiet_of_same (index_hex s[k].toNat hb256 _)))
      go_wp2
      go_roundw
      case rel => exact ⟨k + 1, _, t * 16 + dg 16 (s[k].toNat : Int), by omega, by go_num, rfl, by rw [HW.out]; simp; rfl, by omega, by have := T1.out; rw [Int.pow_succ]; omega, by rw [take_byte s k hlt, dval_snoc, ← T2.out]⟩
      case measure => simp [intOf]; omega
    · have hd : decide (k < s.size) = false := by simp; omega
      go_wp2
      go_ret
      exact ⟨ret_int (by rw [T2.out, List.take_of_length_le]; simp; omega), _, by rw [HW.out]⟩

theorem dv_cases (c : Int) : (c < 48 ∧ dv c = -1) ∨ (48 ≤ c ∧ c ≤ 57 ∧ dv c = c - 48) ∨ (57 < c ∧ c < 97 ∧ dv c = -1) ∨ (97 ≤ c ∧ c ≤ 102 ∧ dv c = c - 87) ∨ (102 < c ∧ dv c = -1) := by
  unfold dv
  split
  · omega
  · split <;> omega
theorem scDigit_dec (c : Int) (w : World) (c0 : 0 ≤ c) (c1 : c ≤ 255) :
    Calls Tryd.prog 53 #[.int .u8 c, .int .i64 10] w fun e w' => e = .returned (.int .i64 (dg 10 c)) ∧ w' = w := by
  rcases dv_cases c with ⟨h, e⟩ | ⟨h, h2, e⟩ | ⟨h, h2, e⟩ | ⟨h, h2, e⟩ | ⟨h, e⟩
  · have E : Hid (dg 10 c = -1) := by unfold Hid dg; rw [e]; rfl
    clear e
    have d1 := not_le h
    have d2 := not_le (show c < 97 by omega)
    go_enter Tryd.func53, Tryd.ntmps53
    go_wp2
    go_ret
    exact ⟨ret_int (by rw [E.out]), rfl⟩
  · rcases Int.lt_or_le (c - 48) 10 with hb | hb
    · have E : Hid (dg 10 c = c - 48) := by unfold Hid dg; rw [e, if_pos hb]
      clear e
      have d1 := is_le h
      have d2 := is_le h2
      have d3 := not_le hb
      go_enter Tryd.func53, Tryd.ntmps53
      go_wp2
      go_ret
      exact ⟨ret_int (by rw [E.out]), rfl⟩
    · omega
  · have E : Hid (dg 10 c = -1) := by unfold Hid dg; rw [e]; rfl
    clear e
    have d1 := is_le (show 48 ≤ c by omega)
    have d2 := not_le h
    have d3 := not_le h2
    go_enter Tryd.func53, Tryd.ntmps53
    go_wp2
    go_ret
    exact ⟨ret_int (by rw [E.out]), rfl⟩
  · have d1 := is_le (show 48 ≤ c by omega)
    have d2 := not_le (show 57 < c by omega)
    have d3 := is_le h
    have d4 := is_le h2
    rcases Int.lt_or_le (c - 87) 10 with hb | hb
    · have E : Hid (dg 10 c = c - 87) := by unfold Hid dg; rw [e, if_pos hb]
      clear e
      have d5 := not_le (show c - 97 + 10 < 10 by omega)
      go_enter Tryd.func53, Tryd.ntmps53
      go_wp2
      go_ret
      exact ⟨ret_int (by rw [E.out]; omega), rfl⟩
    · have E : Hid (dg 10 c = -1) := by unfold Hid dg; rw [e, if_neg (by omega)]
      clear e
      have d5 := is_le (show 10 ≤ c - 97 + 10 by omega)
      go_enter Tryd.func53, Tryd.ntmps53
      go_wp2
      go_ret
      exact ⟨ret_int (by rw [E.out]), rfl⟩
  · have E : Hid (dg 10 c = -1) := by unfold Hid dg; rw [e]; rfl
    clear e
    have d1 := is_le (show 48 ≤ c by omega)
    have d2 := not_le (show 57 < c by omega)
    have d3 := is_le (show 97 ≤ c by omega)
    have d4 := not_le h
    go_enter Tryd.func53, Tryd.ntmps53
    go_wp2
    go_ret
    exact ⟨ret_int (by rw [E.out]), rfl⟩
theorem scDigit_hex (c : Int) (w : World) (c0 : 0 ≤ c) (c1 : c ≤ 255) :
    Calls Tryd.prog 53 #[.int .u8 c, .int .i64 16] w fun e w' => e = .returned (.int .i64 (dg 16 c)) ∧ w' = w := by
  rcases dv_cases c with ⟨h, e⟩ | ⟨h, h2, e⟩ | ⟨h, h2, e⟩ | ⟨h, h2, e⟩ | ⟨h, e⟩
  · have E : Hid (dg 16 c = -1) := by unfold Hid dg; rw [e]; rfl
    clear e
    have d1 := not_le h
    have d2 := not_le (show c < 97 by omega)
    go_enter Tryd.func53, Tryd.ntmps53
    go_wp2
    go_ret
    exact ⟨ret_int (by rw [E.out]), rfl⟩
  · rcases Int.lt_or_le (c - 48) 16 with hb | hb
    · have E : Hid (dg 16 c = c - 48) := by unfold Hid dg; rw [e, if_pos hb]
      clear e
      have d1 := is_le h
      have d2 := is_le h2
      have d3 := not_le hb
      go_enter Tryd.func53, Tryd.ntmps53
      go_wp2
      go_ret
      exact ⟨ret_int (by rw [E.out]), rfl⟩
    · omega
  · have E : Hid (dg 16 c = -1) := by unfold Hid dg; rw [e]; rfl
    clear e
    have d1 := is_le (show 48 ≤ c by omega)
    have d2 := not_le h
    have d3 := not_le h2
    go_enter Tryd.func53, Tryd.ntmps53
    go_wp2
    go_ret
    exact ⟨ret_int (by rw [E.out]), rfl⟩
  · have d1 := is_le (show 48 ≤ c by omega)
    have d2 := not_le (show 57 < c by omega)
    have d3 := is_le h
    have d4 := is_le h2
    rcases Int.lt_or_le (c - 87) 16 with hb | hb
    · have E : Hid (dg 16 c = c - 87) := by unfold Hid dg; rw [e, if_pos hb]
      clear e
      have d5 := not_le (show c - 97 + 10 < 16 by omega)
      go_enter Tryd.func53, Tryd.ntmps53
      go_wp2
      go_ret
      exact ⟨ret_int (by rw [E.out]; omega), rfl⟩
    · have E : Hid (dg 16 c = -1) := by unfold Hid dg; rw [e, if_neg (by omega)]
      clear e
      have d5 := is_le (show 16 ≤ c - 97 + 10 by omega)
      go_enter Tryd.func53, Tryd.ntmps53
      go_wp2
      go_ret
      exact ⟨ret_int (by rw [E.out]), rfl⟩
  · have E : Hid (dg 16 c = -1) := by unfold Hid dg; rw [e]; rfl
    clear e
    have d1 := is_le (show 48 ≤ c by omega)
    have d2 := not_le (show 57 < c by omega)
    have d3 := is_le (show 97 ≤ c by omega)
    have d4 := not_le h
    go_enter Tryd.func53, Tryd.ntmps53
    go_wp2
    go_ret
    exact ⟨ret_int (by rw [E.out]), rfl⟩
end Go.Proofs.YtniggnjnpapkeabDoor
