/- Digits of a row: contracts of the model's nuDigits. -/
import Derived.Test.YtdmcgjohpnojkaaDoorRdl
namespace Go.Proofs.YtdmcgjohpnojkaaDoor
set_option maxRecDepth 100000
open Go.RowKit

/-- the number, or -1 -/
def optM (o : Option Int) : Int := o.getD (-1)
def SaysInt (w : World) (n : Int) (e : Ending) (w' : World) : Prop := e = .returned (.int .i64 n) ∧ w = w'
/-- how far the model is: the number is within the limit, or beyond it -/
def NdSt (b lim : Int) (s : ByteArray) (o : Option Int) (k : Nat) (t : Int) : Prop := (t ≤ lim ∧ Hid (rdN b lim (s.data.toList.drop k) t = o)) ∨ (lim < t ∧ Hid (o = none))
def NdRel (b lim : Int) (s : ByteArray) (o : Option Int) (n i : Value) : Prop :=
  ∃ (k : Nat) (t : Int), k ≤ s.size ∧ i = .int .i64 k ∧ n = .int .i64 t ∧ 0 ≤ t ∧ t ≤ 20000000000 ∧ NdSt b lim s o k t
theorem nd_big {b lim : Int} {s : ByteArray} {o : Option Int} {k : Nat} {t : Int} (h : NdSt b lim s o k t) (c : lim < t) : optM o = -1 := by
  rcases h with ⟨h, _⟩ | ⟨_, h⟩
  · omega
  · rw [h.out]; rfl
theorem nd_good {b lim : Int} {s : ByteArray} {o : Option Int} {k : Nat} {t : Int} (h : NdSt b lim s o k t) (c : t ≤ lim) : rdN b lim (s.data.toList.drop k) t = o := by
  rcases h with ⟨_, h⟩ | ⟨h, _⟩
  · exact h.out
  · omega
theorem nd_none {b lim : Int} {s : ByteArray} {o : Option Int} {k : Nat} {t : Int} (h : NdSt b lim s o k t) (e : rdN b lim (s.data.toList.drop k) t = none) : optM o = -1 := by
  rcases h with ⟨_, h⟩ | ⟨_, h⟩
  · rw [← h.out, e]; rfl
  · rw [h.out]; rfl
theorem nd_step (b lim : Int) (s : ByteArray) (k : Nat) (t d : Int) (o : Option Int) (hlt : k < s.size) (hd : dg b ((s[k]'hlt).toNat : Int) = d) (d0 : 0 ≤ d) (h : rdN b lim (s.data.toList.drop k) t = o) : NdSt b lim s o (k + 1) (t * b + d) := by
  by_cases c : t * b + d ≤ lim
  · exact .inl ⟨c, by unfold Hid; rw [← rdN_yes b lim s k t d hlt hd ⟨d0, c⟩]; exact h⟩
  · exact .inr ⟨by omega, by unfold Hid; rw [← h]; exact rdN_no b lim s k t d hlt hd (by omega)⟩
theorem byte_ways (y : Int) : y < 48 ∨ (48 ≤ y ∧ y ≤ 57) ∨ (57 < y ∧ y < 97) ∨ (97 ≤ y ∧ y ≤ 102) ∨ 102 < y := by omega
theorem dg_10_bad {y : Int} (h : y < 48 ∨ 57 < y) : dg 10 y = -1 := by
  unfold dg dv
  rw [if_neg (show ¬ (48 ≤ y ∧ y ≤ 57) by omega)]
  split <;> split <;> omega
theorem dg_16_bad {y : Int} (h : y < 48 ∨ (57 < y ∧ y < 97) ∨ 102 < y) : dg 16 y = -1 := by
  unfold dg dv
  rw [if_neg (show ¬ (48 ≤ y ∧ y ≤ 57) by omega), if_neg (show ¬ (97 ≤ y ∧ y ≤ 102) by omega)]
  rfl
theorem dg_10_low {y : Int} (h : 48 ≤ y) (h2 : y ≤ 57) : dg 10 y = y - 48 := by
  unfold dg dv
  rw [if_pos (show 48 ≤ y ∧ y ≤ 57 by omega), if_pos (by omega)]
theorem dg_16_low {y : Int} (h : 48 ≤ y) (h2 : y ≤ 57) : dg 16 y = y - 48 := by
  unfold dg dv
  rw [if_pos (show 48 ≤ y ∧ y ≤ 57 by omega), if_pos (by omega)]
theorem dg_16_high {y : Int} (h : 97 ≤ y) (h2 : y ≤ 102) : dg 16 y = y - 97 + 10 := by
  unfold dg dv
  rw [if_neg (show ¬ (48 ≤ y ∧ y ≤ 57) by omega), if_pos (show 97 ≤ y ∧ y ≤ 102 by omega), if_pos (by omega)]
  omega
theorem nth_byte (s : ByteArray) (k : Nat) (h : k < s.size) (w : World) : (Instr.index 9 (.string s) (.int .i64 (k : Int))).run Tryd.prog w = .ok (.int .u8 (s[k]'h).toNat) w := by
  rw [run_index_string w 9 s .i64 (k : Int) Tryd.underlying9, dif_pos (by omega)]
  rfl

set_option maxHeartbeats 3200000 in
theorem nuDigits_dec_go (s : ByteArray) (lim : Int) (w : World) (hs : s.size ≤ 1048576) (l0 : 0 ≤ lim) (l1 : lim ≤ 1000000000) (o : Option Int) (h : 0 < s.size) (e : 1 < s.size → (s[0]'h).toNat ≠ 48) (HO : Hid (rdN 10 lim (s.data.toList.drop 0) 0 = o)) :
    Calls Tryd.prog 154 #[.string s, .int .i64 10, .int .i64 lim] w (SaysInt w (optM o)) := by
  obtain ⟨f1, f2⟩ := full_tests h
  obtain ⟨x, hx⟩ : ∃ x : Int, ((s[0]'h).toNat : Int) = x := ⟨_, rfl⟩
  have hix := first_byte s h
  rw [hx] at hix
  have H1 : Hid (1 < s.size → x ≠ 48) := Lib.hid (by intro q; have := e q; omega)
  clear e hx
  by_cases hc : x = 48
  all_goals
    first
      | (have d2 : (x == 48) = true := (by simpa using hc); have d3 : decide ((1 : Int) < s.size) = false := (by simp; have := mt H1.out; omega))
      | (have d2 : (x == 48) = false := (by simpa using hc))
    clear hc
    go_enter Tryd.func154, Tryd.ntmps154
    go_wp2_with fail
    go_loop [7, 8] (fun n i => NdRel 10 lim s o n i) (fun _ i => s.size - (intOf i).toNat)
    case atStart => exact ⟨0, 0, Nat.zero_le _, rfl, rfl, by omega, by omega, .inl ⟨l0, HO⟩⟩
    case round =>
      clear hix d2 f1 f2
      try clear d3
      obtain ⟨k, t, hk, rfl, rfl, t0, t1, HT⟩ := hrel
      by_cases hlt : k < s.size
      · obtain ⟨y, hy⟩ : ∃ y : Int, ((s[k]'hlt).toNat : Int) = y := ⟨_, rfl⟩
        have hiy := nth_byte s k hlt
        rw [hy] at hiy
        have y0 : 0 ≤ y := by omega
        have y1 : y ≤ 255 := by have := (s[k]'hlt).toNat_lt; omega
        have hlt' : decide ((k : Int) < s.size) = true := by simp; omega
        have HY := Lib.hid hy
        clear hy
        have HC := Lib.hid HT
        clear HT
        rcases byte_ways y with h | h | h | h | h
        · have d1 := not_le h
          have d2 := not_le (show y < 97 by omega)
          have HN : Hid (optM o = -1) := Lib.hid (nd_none HC.out (rdN_no 10 lim s k t (-1) hlt (by rw [HY.out]; exact dg_10_bad (by omega)) (by omega)))
          have d9 : decide ((10 : Int) ≤ 99) = true := by simp; try omega
          go_wp2
          go_ret
          exact ⟨ret_int (by rw [HN.out]), rfl⟩
        · have d1 := is_le h.1
          have d2 := is_le h.2
          have d9 : decide ((10 : Int) ≤ y - 48) = false := not_le (by omega)
          rcases Int.lt_or_le lim t with c | c
          · have HN : Hid (optM o = -1) := Lib.hid (nd_big HC.out c)
            have d8 := is_lt c
            go_wp2
            go_ret
            exact ⟨ret_int (by rw [HN.out]), rfl⟩
          · have d8 := not_lt c
            have HE : Hid (dg 10 ((s[k]'hlt).toNat : Int) = y - 48) := Lib.hid (by rw [HY.out]; exact dg_10_low h.1 h.2)
            have HX := Lib.hid (nd_good HC.out c)
            go_wp2
            go_round
            case rel => exact ⟨k + 1, t * 10 + (y - 48), by omega, by go_num, by first | rfl | go_num, by omega, by omega, nd_step 10 lim s k t _ o hlt HE.out (by omega) HX.out⟩
            case measure => simp [intOf]; omega
        · have d1 := is_le (show 48 ≤ y by omega)
          have d2 := not_le h.1
          have d3 := not_le h.2
          have HN : Hid (optM o = -1) := Lib.hid (nd_none HC.out (rdN_no 10 lim s k t (-1) hlt (by rw [HY.out]; exact dg_10_bad (by omega)) (by omega)))
          have d9 : decide ((10 : Int) ≤ 99) = true := by simp; try omega
          go_wp2
          go_ret
          exact ⟨ret_int (by rw [HN.out]), rfl⟩
        · have d1 := is_le (show 48 ≤ y by omega)
          have d2 := not_le (show 57 < y by omega)
          have d3 := is_le h.1
          have d4 := is_le h.2
          have HN : Hid (optM o = -1) := Lib.hid (nd_none HC.out (rdN_no 10 lim s k t (-1) hlt (by rw [HY.out]; exact dg_10_bad (by omega)) (by omega)))
          have d9 : decide ((10 : Int) ≤ y - 97 + 10) = true := by simp; try omega
          go_wp2
          go_ret
          exact ⟨ret_int (by rw [HN.out]), rfl⟩
        · have d1 := is_le (show 48 ≤ y by omega)
          have d2 := not_le (show 57 < y by omega)
          have d3 := is_le (show 97 ≤ y by omega)
          have d4 := not_le h
          have HN : Hid (optM o = -1) := Lib.hid (nd_none HC.out (rdN_no 10 lim s k t (-1) hlt (by rw [HY.out]; exact dg_10_bad (by omega)) (by omega)))
          have d9 : decide ((10 : Int) ≤ 99) = true := by simp; try omega
          go_wp2
          go_ret
          exact ⟨ret_int (by rw [HN.out]), rfl⟩
      · have hlt' : decide ((k : Int) < s.size) = false := by simp; omega
        have HC := Lib.hid HT
        clear HT
        rcases Int.lt_or_le lim t with c | c
        · have HN : Hid (optM o = -1) := Lib.hid (nd_big HC.out c)
          have d8 := is_lt c
          go_wp2
          go_ret
          exact ⟨ret_int (by rw [HN.out]), rfl⟩
        · have HN : Hid (optM o = t) := Lib.hid (by rw [← nd_good HC.out c, rdN_end 10 lim s k t (by omega)]; rfl)
          have d8 := not_lt c
          go_wp2
          go_ret
          exact ⟨ret_int (by rw [HN.out]), rfl⟩
theorem nuDigits_dec (s : ByteArray) (lim : Int) (w : World) (hs : s.size ≤ 1048576) (l0 : 0 ≤ lim) (l1 : lim ≤ 1000000000) :
    Calls Tryd.prog 154 #[.string s, .int .i64 10, .int .i64 lim] w (SaysInt w (optM (rdT 10 lim s.data.toList))) := by
  rcases dig_head s with h | ⟨h, e⟩ | h | ⟨h, e⟩
  · have HN : Hid (optM (rdT 10 lim s.data.toList) = -1) := Lib.hid (by rw [rdT_nil 10 lim s h]; rfl)
    obtain ⟨f1, f2⟩ := empty_tests h
    clear h
    go_enter Tryd.func154, Tryd.ntmps154
    go_wp2
    go_ret
    exact ⟨ret_int (by rw [HN.out]), rfl⟩
  · have HN : Hid (optM (rdT 10 lim s.data.toList) = -1) := Lib.hid (by rw [rdT_zero 10 lim s h e]; rfl)
    obtain ⟨f1, f2⟩ := full_tests (show 0 < s.size by omega)
    have hix := first_byte s (by omega)
    rw [e] at hix
    have d1 : decide ((1 : Int) < s.size) = true := by simp; omega
    clear e
    go_enter Tryd.func154, Tryd.ntmps154
    go_wp2
    go_ret
    exact ⟨ret_int (by rw [HN.out]), rfl⟩
  · have e : 1 < s.size → (s[0]'(by omega)).toNat ≠ 48 := fun q => by omega
    rw [rdT_go 10 lim s (by omega) e]
    exact nuDigits_dec_go s lim w hs l0 l1 _ (by omega) e rfl
  · rw [rdT_go 10 lim s (by omega) (fun _ => e)]
    exact nuDigits_dec_go s lim w hs l0 l1 _ (by omega) (fun _ => e) rfl
set_option maxHeartbeats 3200000 in
theorem nuDigits_hex_go (s : ByteArray) (lim : Int) (w : World) (hs : s.size ≤ 1048576) (l0 : 0 ≤ lim) (l1 : lim ≤ 1000000000) (o : Option Int) (h : 0 < s.size) (e : 1 < s.size → (s[0]'h).toNat ≠ 48) (HO : Hid (rdN 16 lim (s.data.toList.drop 0) 0 = o)) :
    Calls Tryd.prog 154 #[.string s, .int .i64 16, .int .i64 lim] w (SaysInt w (optM o)) := by
  obtain ⟨f1, f2⟩ := full_tests h
  obtain ⟨x, hx⟩ : ∃ x : Int, ((s[0]'h).toNat : Int) = x := ⟨_, rfl⟩
  have hix := first_byte s h
  rw [hx] at hix
  have H1 : Hid (1 < s.size → x ≠ 48) := Lib.hid (by intro q; have := e q; omega)
  clear e hx
  by_cases hc : x = 48
  all_goals
    first
      | (have d2 : (x == 48) = true := (by simpa using hc); have d3 : decide ((1 : Int) < s.size) = false := (by simp; have := mt H1.out; omega))
      | (have d2 : (x == 48) = false := (by simpa using hc))
    clear hc
    go_enter Tryd.func154, Tryd.ntmps154
    go_wp2_with fail
    go_loop [7, 8] (fun n i => NdRel 16 lim s o n i) (fun _ i => s.size - (intOf i).toNat)
    case atStart => exact ⟨0, 0, Nat.zero_le _, rfl, rfl, by omega, by omega, .inl ⟨l0, HO⟩⟩
    case round =>
      clear hix d2 f1 f2
      try clear d3
      obtain ⟨k, t, hk, rfl, rfl, t0, t1, HT⟩ := hrel
      by_cases hlt : k < s.size
      · obtain ⟨y, hy⟩ : ∃ y : Int, ((s[k]'hlt).toNat : Int) = y := ⟨_, rfl⟩
        have hiy := nth_byte s k hlt
        rw [hy] at hiy
        have y0 : 0 ≤ y := by omega
        have y1 : y ≤ 255 := by have := (s[k]'hlt).toNat_lt; omega
        have hlt' : decide ((k : Int) < s.size) = true := by simp; omega
        have HY := Lib.hid hy
        clear hy
        have HC := Lib.hid HT
        clear HT
        rcases byte_ways y with h | h | h | h | h
        · have d1 := not_le h
          have d2 := not_le (show y < 97 by omega)
          have HN : Hid (optM o = -1) := Lib.hid (nd_none HC.out (rdN_no 16 lim s k t (-1) hlt (by rw [HY.out]; exact dg_16_bad (by omega)) (by omega)))
          have d9 : decide ((16 : Int) ≤ 99) = true := by simp; try omega
          go_wp2
          go_ret
          exact ⟨ret_int (by rw [HN.out]), rfl⟩
        · have d1 := is_le h.1
          have d2 := is_le h.2
          have d9 : decide ((16 : Int) ≤ y - 48) = false := not_le (by omega)
          rcases Int.lt_or_le lim t with c | c
          · have HN : Hid (optM o = -1) := Lib.hid (nd_big HC.out c)
            have d8 := is_lt c
            go_wp2
            go_ret
            exact ⟨ret_int (by rw [HN.out]), rfl⟩
          · have d8 := not_lt c
            have HE : Hid (dg 16 ((s[k]'hlt).toNat : Int) = y - 48) := Lib.hid (by rw [HY.out]; exact dg_16_low h.1 h.2)
            have HX := Lib.hid (nd_good HC.out c)
            go_wp2
            go_round
            case rel => exact ⟨k + 1, t * 16 + (y - 48), by omega, by go_num, by first | rfl | go_num, by omega, by omega, nd_step 16 lim s k t _ o hlt HE.out (by omega) HX.out⟩
            case measure => simp [intOf]; omega
        · have d1 := is_le (show 48 ≤ y by omega)
          have d2 := not_le h.1
          have d3 := not_le h.2
          have HN : Hid (optM o = -1) := Lib.hid (nd_none HC.out (rdN_no 16 lim s k t (-1) hlt (by rw [HY.out]; exact dg_16_bad (by omega)) (by omega)))
          have d9 : decide ((16 : Int) ≤ 99) = true := by simp; try omega
          go_wp2
          go_ret
          exact ⟨ret_int (by rw [HN.out]), rfl⟩
        · have d1 := is_le (show 48 ≤ y by omega)
          have d2 := not_le (show 57 < y by omega)
          have d3 := is_le h.1
          have d4 := is_le h.2
          have d9 : decide ((16 : Int) ≤ y - 97 + 10) = false := not_le (by omega)
          rcases Int.lt_or_le lim t with c | c
          · have HN : Hid (optM o = -1) := Lib.hid (nd_big HC.out c)
            have d8 := is_lt c
            go_wp2
            go_ret
            exact ⟨ret_int (by rw [HN.out]), rfl⟩
          · have d8 := not_lt c
            have HE : Hid (dg 16 ((s[k]'hlt).toNat : Int) = y - 97 + 10) := Lib.hid (by rw [HY.out]; exact dg_16_high h.1 h.2)
            have HX := Lib.hid (nd_good HC.out c)
            go_wp2
            go_round
            case rel => exact ⟨k + 1, t * 16 + (y - 97 + 10), by omega, by go_num, by first | rfl | go_num, by omega, by omega, nd_step 16 lim s k t _ o hlt HE.out (by omega) HX.out⟩
            case measure => simp [intOf]; omega
        · have d1 := is_le (show 48 ≤ y by omega)
          have d2 := not_le (show 57 < y by omega)
          have d3 := is_le (show 97 ≤ y by omega)
          have d4 := not_le h
          have HN : Hid (optM o = -1) := Lib.hid (nd_none HC.out (rdN_no 16 lim s k t (-1) hlt (by rw [HY.out]; exact dg_16_bad (by omega)) (by omega)))
          have d9 : decide ((16 : Int) ≤ 99) = true := by simp; try omega
          go_wp2
          go_ret
          exact ⟨ret_int (by rw [HN.out]), rfl⟩
      · have hlt' : decide ((k : Int) < s.size) = false := by simp; omega
        have HC := Lib.hid HT
        clear HT
        rcases Int.lt_or_le lim t with c | c
        · have HN : Hid (optM o = -1) := Lib.hid (nd_big HC.out c)
          have d8 := is_lt c
          go_wp2
          go_ret
          exact ⟨ret_int (by rw [HN.out]), rfl⟩
        · have HN : Hid (optM o = t) := Lib.hid (by rw [← nd_good HC.out c, rdN_end 16 lim s k t (by omega)]; rfl)
          have d8 := not_lt c
          go_wp2
          go_ret
          exact ⟨ret_int (by rw [HN.out]), rfl⟩
theorem nuDigits_hex (s : ByteArray) (lim : Int) (w : World) (hs : s.size ≤ 1048576) (l0 : 0 ≤ lim) (l1 : lim ≤ 1000000000) :
    Calls Tryd.prog 154 #[.string s, .int .i64 16, .int .i64 lim] w (SaysInt w (optM (rdT 16 lim s.data.toList))) := by
  rcases dig_head s with h | ⟨h, e⟩ | h | ⟨h, e⟩
  · have HN : Hid (optM (rdT 16 lim s.data.toList) = -1) := Lib.hid (by rw [rdT_nil 16 lim s h]; rfl)
    obtain ⟨f1, f2⟩ := empty_tests h
    clear h
    go_enter Tryd.func154, Tryd.ntmps154
    go_wp2
    go_ret
    exact ⟨ret_int (by rw [HN.out]), rfl⟩
  · have HN : Hid (optM (rdT 16 lim s.data.toList) = -1) := Lib.hid (by rw [rdT_zero 16 lim s h e]; rfl)
    obtain ⟨f1, f2⟩ := full_tests (show 0 < s.size by omega)
    have hix := first_byte s (by omega)
    rw [e] at hix
    have d1 : decide ((1 : Int) < s.size) = true := by simp; omega
    clear e
    go_enter Tryd.func154, Tryd.ntmps154
    go_wp2
    go_ret
    exact ⟨ret_int (by rw [HN.out]), rfl⟩
  · have e : 1 < s.size → (s[0]'(by omega)).toNat ≠ 48 := fun q => by omega
    rw [rdT_go 16 lim s (by omega) e]
    exact nuDigits_hex_go s lim w hs l0 l1 _ (by omega) e rfl
  · rw [rdT_go 16 lim s (by omega) (fun _ => e)]
    exact nuDigits_hex_go s lim w hs l0 l1 _ (by omega) (fun _ => e) rfl
end Go.Proofs.YtdmcgjohpnojkaaDoor
