/- Numbers written with a width: contracts of WriteLittle, program and model. -/
import Derived.Test.YtelkpdkpnaeggaaLit
namespace Go.Proofs.Ytelkpdkpnaeggaa
open Go.RowKit

/-- the lowest k bytes of a number -/
def wl (n : Int) (k : Nat) : List Int := (List.range k).map (fun i : Nat => n / 256 ^ i % 256)
theorem wl_length (n : Int) (k : Nat) : (wl n k).length = k := by simp [wl]
theorem wl_succ (n : Int) (k : Nat) : wl n (k + 1) = wl n k ++ [n / 256 ^ k % 256] := by simp [wl, List.range_succ]
theorem wl_range (n : Int) (k : Nat) : ∀ c ∈ wl n k, 0 ≤ c ∧ c ≤ 255 := by
  intro c hc
  simp only [wl, List.mem_map] at hc
  obtain ⟨i, _, rfl⟩ := hc
  omega
def wlTo (n : Int) (wd k : Nat) : List Int := wl n k ++ List.replicate (wd - k) 0
theorem wlTo_zero (n : Int) (wd : Nat) : wlTo n wd 0 = List.replicate wd 0 := by simp [wlTo, wl]
theorem wlTo_all (n : Int) (wd : Nat) : wlTo n wd wd = wl n wd := by simp [wlTo]
theorem wlTo_set (n : Int) (wd k : Nat) (h : k < wd) : (wlTo n wd k).set k (n / 256 ^ k % 256) = wlTo n wd (k + 1) := by
  obtain ⟨m, hm⟩ : ∃ m, wd - k = m + 1 := ⟨wd - k - 1, by omega⟩
  unfold wlTo
  rw [List.set_append_right _ _ (by rw [wl_length]; exact Nat.le_refl _), wl_length, Nat.sub_self, hm, List.replicate_succ, List.set_cons_zero, show wd - (k + 1) = m by omega, wl_succ, List.append_assoc]
  rfl
theorem shift_is (n : Int) (k : Nat) : n / 2 ^ (8 * k) % 256 = n / 256 ^ k % 256 := by
  rw [Int.pow_mul]
  rfl

def WriRel (w : World) (n : Int) (wd : Nat) (i : Value) (wr : World) : Prop :=
  ∃ k : Nat, k ≤ wd ∧ i = .int .i64 k ∧ OwnB wr w.heap.size w.heap.size wd wd (wlTo n wd k) ∧ Below w.heap.size w wr

set_option maxHeartbeats 800000 in
theorem implWrite_1 (n : Int) (w : World) (h0 : 0 ≤ n) (h1 : n < 256) :
    Calls Try.prog 8 #[.int .i64 n, .int .i64 1] w (Gives w 1 (wl n 1)) := by
  obtain ⟨i0, hi, hz0, hz1, hz2⟩ := info_parts infoU8
  have t0 := not_lt h0
  have t1 : (n / 256 != 0) = false := by simp; omega
  go_enter Try.func8, Try.ntmps8
  go_wp2_with (first | (go_at_call 32; refine (isWidth_true _ _ (by unfold IsW; omega)).mono ?_; rintro e w' ⟨rfl, rfl⟩) | (at_make; refine wpList_make_full _ rfl _ _ 22 rfl w.heap.size 5 i0 (.int .u8 0) 1 Try.underlying22 hi hz0 hz1 .i64 .i64 _ _ 1 rfl rfl (by rfl) (by rfl) (by rw [hz2]; omega) (by unfold maxLen; omega) (Nat.le_refl _) ?_; intro w0 hown0 hgrow0; have HO := Lib.hid hown0; clear hown0))
  go_loopw [26] (fun i wr => WriRel w n 1 i wr) (fun i _ => 1 - (intOf i).toNat)
  case atStart => exact ⟨0, Nat.zero_le _, rfl, by rw [wlTo_zero]; exact madeB HO.out, (Below.refl _ _).grown hgrow0 (Nat.le_refl _) (by intro k h; cases h)⟩
  case round =>
    obtain ⟨k, hk, rfl, ho, hb⟩ := hrel
    have HO1 := Lib.hid ho
    have HB1 := Lib.hid hb
    clear ho hb hgrow0
    by_cases hlt : k < 1
    · have hst := HO1.out.cell k hlt
      have hfz : wr.frozen? ⟨w.heap.size, k, none⟩ = false := World.ownsRow.frozenAt HO1.out k
      go_wp2
      go_roundw
      case rel => exact ⟨k + 1, by omega, by go_num, by rw [← wlTo_set n 1 k hlt, ← shift_is]; exact HO1.out.store k _, HB1.out.setCell (Nat.le_refl _) _⟩
      case measure => simp [intOf]; omega
    · go_wp2
      go_ret2
      have e : k = 1 := by omega
      subst e
      exact ⟨w.heap.size, 1, rfl, by rw [← wlTo_all]; exact HO1.out, HB1.out⟩
theorem implWrite_1_no (n : Int) (w : World) (h0 : 0 ≤ n) (h1 : 256 ≤ n) :
    Calls Try.prog 8 #[.int .i64 n, .int .i64 1] w (GivesNone w) := by
  have t0 := not_lt h0
  have t1 : (n / 256 != 0) = true := by simp; omega
  go_enter Try.func8, Try.ntmps8
  go_wp2_with (first | (go_at_call 32; refine (isWidth_true _ _ (by unfold IsW; omega)).mono ?_; rintro e w' ⟨rfl, rfl⟩))
  go_ret2
  exact ⟨rfl, rfl⟩
set_option maxHeartbeats 800000 in
theorem implWrite_2 (n : Int) (w : World) (h0 : 0 ≤ n) (h1 : n < 65536) :
    Calls Try.prog 8 #[.int .i64 n, .int .i64 2] w (Gives w 2 (wl n 2)) := by
  obtain ⟨i0, hi, hz0, hz1, hz2⟩ := info_parts infoU8
  have t0 := not_lt h0
  have t1 : (n / 65536 != 0) = false := by simp; omega
  go_enter Try.func8, Try.ntmps8
  go_wp2_with (first | (go_at_call 32; refine (isWidth_true _ _ (by unfold IsW; omega)).mono ?_; rintro e w' ⟨rfl, rfl⟩) | (at_make; refine wpList_make_full _ rfl _ _ 22 rfl w.heap.size 5 i0 (.int .u8 0) 1 Try.underlying22 hi hz0 hz1 .i64 .i64 _ _ 2 rfl rfl (by rfl) (by rfl) (by rw [hz2]; omega) (by unfold maxLen; omega) (Nat.le_refl _) ?_; intro w0 hown0 hgrow0; have HO := Lib.hid hown0; clear hown0))
  go_loopw [26] (fun i wr => WriRel w n 2 i wr) (fun i _ => 2 - (intOf i).toNat)
  case atStart => exact ⟨0, Nat.zero_le _, rfl, by rw [wlTo_zero]; exact madeB HO.out, (Below.refl _ _).grown hgrow0 (Nat.le_refl _) (by intro k h; cases h)⟩
  case round =>
    obtain ⟨k, hk, rfl, ho, hb⟩ := hrel
    have HO1 := Lib.hid ho
    have HB1 := Lib.hid hb
    clear ho hb hgrow0
    by_cases hlt : k < 2
    · have hst := HO1.out.cell k hlt
      have hfz : wr.frozen? ⟨w.heap.size, k, none⟩ = false := World.ownsRow.frozenAt HO1.out k
      go_wp2
      go_roundw
      case rel => exact ⟨k + 1, by omega, by go_num, by rw [← wlTo_set n 2 k hlt, ← shift_is]; exact HO1.out.store k _, HB1.out.setCell (Nat.le_refl _) _⟩
      case measure => simp [intOf]; omega
    · go_wp2
      go_ret2
      have e : k = 2 := by omega
      subst e
      exact ⟨w.heap.size, 2, rfl, by rw [← wlTo_all]; exact HO1.out, HB1.out⟩
theorem implWrite_2_no (n : Int) (w : World) (h0 : 0 ≤ n) (h1 : 65536 ≤ n) :
    Calls Try.prog 8 #[.int .i64 n, .int .i64 2] w (GivesNone w) := by
  have t0 := not_lt h0
  have t1 : (n / 65536 != 0) = true := by simp; omega
  go_enter Try.func8, Try.ntmps8
  go_wp2_with (first | (go_at_call 32; refine (isWidth_true _ _ (by unfold IsW; omega)).mono ?_; rintro e w' ⟨rfl, rfl⟩))
  go_ret2
  exact ⟨rfl, rfl⟩
set_option maxHeartbeats 800000 in
theorem implWrite_4 (n : Int) (w : World) (h0 : 0 ≤ n) (h1 : n < 4294967296) :
    Calls Try.prog 8 #[.int .i64 n, .int .i64 4] w (Gives w 4 (wl n 4)) := by
  obtain ⟨i0, hi, hz0, hz1, hz2⟩ := info_parts infoU8
  have t0 := not_lt h0
  have t1 : (n / 4294967296 != 0) = false := by simp; omega
  go_enter Try.func8, Try.ntmps8
  go_wp2_with (first | (go_at_call 32; refine (isWidth_true _ _ (by unfold IsW; omega)).mono ?_; rintro e w' ⟨rfl, rfl⟩) | (at_make; refine wpList_make_full _ rfl _ _ 22 rfl w.heap.size 5 i0 (.int .u8 0) 1 Try.underlying22 hi hz0 hz1 .i64 .i64 _ _ 4 rfl rfl (by rfl) (by rfl) (by rw [hz2]; omega) (by unfold maxLen; omega) (Nat.le_refl _) ?_; intro w0 hown0 hgrow0; have HO := Lib.hid hown0; clear hown0))
  go_loopw [26] (fun i wr => WriRel w n 4 i wr) (fun i _ => 4 - (intOf i).toNat)
  case atStart => exact ⟨0, Nat.zero_le _, rfl, by rw [wlTo_zero]; exact madeB HO.out, (Below.refl _ _).grown hgrow0 (Nat.le_refl _) (by intro k h; cases h)⟩
  case round =>
    obtain ⟨k, hk, rfl, ho, hb⟩ := hrel
    have HO1 := Lib.hid ho
    have HB1 := Lib.hid hb
    clear ho hb hgrow0
    by_cases hlt : k < 4
    · have hst := HO1.out.cell k hlt
      have hfz : wr.frozen? ⟨w.heap.size, k, none⟩ = false := World.ownsRow.frozenAt HO1.out k
      go_wp2
      go_roundw
      case rel => exact ⟨k + 1, by omega, by go_num, by rw [← wlTo_set n 4 k hlt, ← shift_is]; exact HO1.out.store k _, HB1.out.setCell (Nat.le_refl _) _⟩
      case measure => simp [intOf]; omega
    · go_wp2
      go_ret2
      have e : k = 4 := by omega
      subst e
      exact ⟨w.heap.size, 4, rfl, by rw [← wlTo_all]; exact HO1.out, HB1.out⟩
theorem implWrite_4_no (n : Int) (w : World) (h0 : 0 ≤ n) (h1 : 4294967296 ≤ n) :
    Calls Try.prog 8 #[.int .i64 n, .int .i64 4] w (GivesNone w) := by
  have t0 := not_lt h0
  have t1 : (n / 4294967296 != 0) = true := by simp; omega
  go_enter Try.func8, Try.ntmps8
  go_wp2_with (first | (go_at_call 32; refine (isWidth_true _ _ (by unfold IsW; omega)).mono ?_; rintro e w' ⟨rfl, rfl⟩))
  go_ret2
  exact ⟨rfl, rfl⟩
theorem implWrite_neg (n wd : Int) (w : World) (h0 : n < 0) (h1 : IsW wd) :
    Calls Try.prog 8 #[.int .i64 n, .int .i64 wd] w (GivesNone w) := by
  have t0 := is_lt h0
  have H1 := Lib.hid h1
  clear h1
  go_enter Try.func8, Try.ntmps8
  go_wp2_with (first | (go_at_call 32; refine (isWidth_true _ _ H1.out).mono ?_; rintro e w' ⟨rfl, rfl⟩))
  go_ret2
  exact ⟨rfl, rfl⟩
theorem implWrite_width (n wd : Int) (w : World) (h1 : ¬ IsW wd) :
    Calls Try.prog 8 #[.int .i64 n, .int .i64 wd] w (GivesNone w) := by
  have H1 := Lib.hid h1
  clear h1
  go_enter Try.func8, Try.ntmps8
  go_wp2_with (first | (go_at_call 32; refine (isWidth_false _ _ H1.out).mono ?_; rintro e w' ⟨rfl, rfl⟩))
  go_ret2
  exact ⟨rfl, rfl⟩

/-! The model. -/
def TopRel (wd : Nat) (x o : Value) : Prop := ∃ (j k : Nat) (p : Int), j + k = wd ∧ x = .int .i64 j ∧ o = .int .i64 p ∧ p = 256 ^ k
theorem scTop_any (wd : Nat) (w : World) (hw : wd ≤ 4) :
    Calls Try.prog 35 #[.int .i64 wd] w fun e w' => e = .returned (.int .i64 (256 ^ wd)) ∧ w = w' := by
  go_enter Try.func35, Try.ntmps35
  go_wp2
  go_loop [0, 3] (fun x o => TopRel wd x o) (fun x _ => (intOf x).toNat)
  case atStart => exact ⟨wd, 0, 1, by omega, rfl, rfl, rfl⟩
  case round =>
    obtain ⟨j, k, p, hjk, rfl, rfl, hp⟩ := hrel
    have hp1 : p ≤ 4294967296 := by
      rw [hp]
      rcases (show k = 0 ∨ k = 1 ∨ k = 2 ∨ k = 3 ∨ k = 4 by omega) with rfl | rfl | rfl | rfl | rfl <;> omega
    have hp0 : 0 ≤ p := by rw [hp]; exact Int.le_of_lt (Int.pow_pos (by omega))
    have hj4 : j ≤ 4 := by omega
    have HP := Lib.hid hp
    have HJ := Lib.hid hjk
    clear hp hjk
    cases j with
    | zero =>
      go_wp2
      go_ret
      exact ⟨ret_int (by rw [HP.out]; have := HJ.out; rw [show k = wd by omega]), rfl⟩
    | succ j =>
      go_wp2
      go_round
      case rel => exact ⟨j, k + 1, p * 256, by have := HJ.out; omega, by go_num, by first | rfl | go_num, by rw [HP.out, Int.pow_succ]⟩
      case measure => simp [intOf]

def WsRel (w : World) (n : Int) (wd : Nat) (x y v : Value) (wr : World) : Prop :=
  ∃ (j k : Nat) (m : Int), j + k = wd ∧ x = .int .i64 m ∧ y = .int .i64 j ∧ 0 ≤ m ∧ m ≤ 4294967295 ∧ m = n / 256 ^ k ∧ OwnV wr w.heap.size v k (wl n k) ∧ Below w.heap.size w wr
set_option maxHeartbeats 1600000 in
theorem scWrite_any (n : Int) (wd : Nat) (w : World) (h0 : 0 ≤ n) (h1 : n ≤ 4294967295) (hw : wd ≤ 4) (hw0 : 0 < wd) :
    Calls Try.prog 36 #[.int .i64 n, .int .i64 wd] w (GivesRow w wd (wl n wd)) := by
  obtain ⟨i0, hi, hz0, hz1, hz2⟩ := info_parts infoU8
  go_enter Try.func36, Try.ntmps36
  go_wp2
  go_loopw [0, 1, 5] (fun x y v wr => WsRel w n wd x y v wr) (fun _ y _ _ => (intOf y).toNat)
  case atStart => exact ⟨wd, 0, n, by omega, rfl, rfl, h0, h1, by simp, World.ownsRow_nil _ _ _ _, Below.refl _ _⟩
  case round =>
    obtain ⟨j, k, m, hjk, rfl, rfl, m0, m1, hm, ho, hb⟩ := hrel
    have HM := Lib.hid hm
    have HJ := Lib.hid hjk
    have HO := Lib.hid ho
    have HB := Lib.hid hb
    have hk4 : k ≤ 4 := by omega
    have hj4 : j ≤ 4 := by omega
    clear hm hjk ho hb
    cases j with
    | zero =>
      have e : k = wd := by have := HJ.out; omega
      subst e
      obtain ⟨g, cap, rfl, hob⟩ := HO.out.some hw0
      have HOB := Lib.hid hob
      clear hob
      go_wp2
      go_ret
      exact ⟨g, cap, rfl, HOB.out, HB.out⟩
    | succ j =>
      go_wp2_with (at_builtin; refine wpList_append_own _ rfl _ _ 22 rfl w.heap.size 5 i0 (.int .u8 0) 1 1 Try.underlying22 hi hz0 hz1 hz2 rfl (by decide) _ _ _ rfl (World.ownsRow.alloc HO.out _) ⟨wr.heap.size, 0, none⟩ 1 1 [.int .u8 (m % 256)] rfl rfl ?c1 ?c2 ?c3 ?c4 ?c5 ?_)
      case c1 =>
        intro j u hj
        match j, hj with
        | 0, hj => simp at hj; subst hj; simp [Addr.add]
      case c2 => intro u hu; simp at hu; subst hu; rfl
      case c3 => unfold maxLen; omega
      case c4 => omega
      case c5 => have := HB.out.size; simp; omega
      · intro v' w1 hown' hgrow _
        have R := HO.out.snoc HB.out.size HB.out hown' hgrow
        have HR := Lib.hid R
        clear hown' hgrow R
        go_wp2
        go_roundw
        case rel => exact ⟨j, k + 1, m / 256, by have := HJ.out; omega, by go_num, by go_num, by omega, by omega, by rw [HM.out, Int.pow_succ, Int.ediv_ediv_of_nonneg (Int.le_of_lt (Int.pow_pos (by omega)))], by rw [wl_succ, ← HM.out]; exact HR.out.1, HR.out.2⟩
        case measure => simp [intOf]

theorem specWrite_yes (n wd : Int) (w : World) (HW : Hid (IsW wd)) (h0 : 0 ≤ n) (h1 : n < 256 ^ wd.toNat) :
    Calls Try.prog 9 #[.int .i64 n, .int .i64 wd] w (Gives w wd.toNat (wl n wd.toNat)) := by
  obtain ⟨wa, wb⟩ := W_bd HW.out
  obtain ⟨v, rfl⟩ := Int.eq_ofNat_of_zero_le (show 0 ≤ wd by omega)
  rw [Int.toNat_natCast] at h1 ⊢
  have hp : (256 : Int) ^ v ≤ 4294967296 := by
    rcases (show v = 1 ∨ v = 2 ∨ v = 3 ∨ v = 4 by omega) with rfl | rfl | rfl | rfl <;> omega
  have hp0 : (0 : Int) < 256 ^ v := Int.pow_pos (by omega)
  obtain ⟨p, HP⟩ : ∃ p : Int, Hid (p = 256 ^ v) := ⟨_, rfl⟩
  rw [← HP.out] at hp hp0 h1
  go_enter Try.func9, Try.ntmps9
  go_wp2_with (first | (go_at_call 33; refine (scWidth_true _ _ HW.out).mono ?_; rintro e w' ⟨rfl, rfl⟩) | (go_at_call 35; refine (scTop_any _ _ (by omega)).mono ?_; rw [← HP.out]; rintro e w' ⟨rfl, rfl⟩) | (go_at_call 34; refine (l1In_true _ _ _ _ (by omega) (by omega)).mono ?_; rintro e w' ⟨rfl, rfl⟩) | (go_at_call 36; refine (scWrite_any _ _ _ h0 (by omega) (by omega) (by omega)).mono ?_; rintro e w' ⟨g, cap, rfl, ho, hb⟩; have HO := Lib.hid ho; have HB := Lib.hid hb; clear ho hb))
  go_ret2
  exact ⟨g, cap, rfl, HO.out, HB.out⟩
theorem specWrite_no (n wd : Int) (w : World) (HW : Hid (IsW wd)) (h : n < 0 ∨ 256 ^ wd.toNat ≤ n) :
    Calls Try.prog 9 #[.int .i64 n, .int .i64 wd] w (GivesNone w) := by
  obtain ⟨wa, wb⟩ := W_bd HW.out
  obtain ⟨v, rfl⟩ := Int.eq_ofNat_of_zero_le (show 0 ≤ wd by omega)
  rw [Int.toNat_natCast] at h
  have hp : (256 : Int) ^ v ≤ 4294967296 := by
    rcases (show v = 1 ∨ v = 2 ∨ v = 3 ∨ v = 4 by omega) with rfl | rfl | rfl | rfl <;> omega
  have hp0 : (0 : Int) < 256 ^ v := Int.pow_pos (by omega)
  obtain ⟨p, HP⟩ : ∃ p : Int, Hid (p = 256 ^ v) := ⟨_, rfl⟩
  rw [← HP.out] at hp hp0 h
  go_enter Try.func9, Try.ntmps9
  go_wp2_with (first | (go_at_call 33; refine (scWidth_true _ _ HW.out).mono ?_; rintro e w' ⟨rfl, rfl⟩) | (go_at_call 35; refine (scTop_any _ _ (by omega)).mono ?_; rw [← HP.out]; rintro e w' ⟨rfl, rfl⟩) | (go_at_call 34; refine (l1In_false _ _ _ _ (by omega)).mono ?_; rintro e w' ⟨rfl, rfl⟩))
  go_ret2
  exact ⟨rfl, rfl⟩
theorem specWrite_width (n wd : Int) (w : World) (h1 : ¬ IsW wd) :
    Calls Try.prog 9 #[.int .i64 n, .int .i64 wd] w (GivesNone w) := by
  have H1 := Lib.hid h1
  clear h1
  go_enter Try.func9, Try.ntmps9
  go_wp2_with (first | (go_at_call 33; refine (scWidth_false _ _ H1.out).mono ?_; rintro e w' ⟨rfl, rfl⟩))
  go_ret2
  exact ⟨rfl, rfl⟩

/-- both functions answer the same: the same bytes in memory of the call's own, or nothing -/
theorem writeLittle_both (n wd : Int) :
    (Hid (∀ w, Calls Try.prog 8 #[.int .i64 n, .int .i64 wd] w (GivesNone w)) ∧ Hid (∀ w, Calls Try.prog 9 #[.int .i64 n, .int .i64 wd] w (GivesNone w))) ∨
    ∃ (k : Nat) (zs : List Int), 0 < k ∧ k ≤ 4 ∧ (wd = k) ∧ (∀ c ∈ zs, 0 ≤ c ∧ c ≤ 255) ∧ Hid (∀ w, Calls Try.prog 8 #[.int .i64 n, .int .i64 wd] w (Gives w k zs)) ∧ Hid (∀ w, Calls Try.prog 9 #[.int .i64 n, .int .i64 wd] w (Gives w k zs)) := by
  by_cases hw : IsW wd
  · by_cases h : n < 0 ∨ 256 ^ wd.toNat ≤ n
    · refine .inl ⟨fun w => ?_, fun w => specWrite_no n wd w hw h⟩
      rcases Int.lt_or_le n 0 with c | c
      · exact implWrite_neg n wd w c hw
      · rcases hw with rfl | rfl | rfl
        · exact implWrite_1_no n w c (by simpa using h.resolve_left (by omega))
        · exact implWrite_2_no n w c (by simpa using h.resolve_left (by omega))
        · exact implWrite_4_no n w c (by simpa using h.resolve_left (by omega))
    · have h0 : 0 ≤ n := by omega
      have h1 : n < 256 ^ wd.toNat := by omega
      refine .inr ⟨wd.toNat, wl n wd.toNat, by have := W_bd hw; omega, by have := W_bd hw; omega, by have := W_bd hw; omega, wl_range _ _, fun w => ?_, fun w => specWrite_yes n wd w hw h0 h1⟩
      rcases hw with rfl | rfl | rfl
      · exact implWrite_1 n w h0 (by simpa using h1)
      · exact implWrite_2 n w h0 (by simpa using h1)
      · exact implWrite_4 n w h0 (by simpa using h1)
  · exact .inl ⟨fun w => implWrite_width n wd w hw, fun w => specWrite_width n wd w hw⟩
end Go.Proofs.Ytelkpdkpnaeggaa
