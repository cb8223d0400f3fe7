/- Numbers written with a width: contracts of WriteLittle, program and model. -/
import Derived.Test.YthflehdboccloaaLit
namespace Go.Proofs.Ythflehdboccloaa
open Go.RowKit
set_option maxRecDepth 100000

/-- the lowest k bytes of a number -/
def wl (n : Int) (k : Nat) : List Int := (List.range k).map (fun i : Nat => n / 256 ^ i % 256)
theorem wl_length (n : Int) (k : Nat) : (wl n k).length = k := by simp [wl]
theorem wl_succ (n : Int) (k : Nat) : wl n (k + 1) = wl n k ++ [n / 256 ^ k % 256] := by simp [wl, List.range_succ]
theorem wl_range (n : Int) (k : Nat) : ∀ c ∈ wl n k, 0 ≤ c ∧ c ≤ 255 := by
  intro c hc
  simp only [wl, List.mem_map] at hc
  obtain ⟨i, _, rfl⟩ := hc
  omega
def wlTo (n : Int) (wd k : Nat) : List Int := wl n k ++ List.replicate (wd - k) 0
theorem wlTo_zero (n : Int) (wd : Nat) : wlTo n wd 0 = List.replicate wd 0 := by simp [wlTo, wl]
theorem wlTo_all (n : Int) (wd : Nat) : wlTo n wd wd = wl n wd := by simp [wlTo]
theorem wlTo_set (n : Int) (wd k : Nat) (h : k < wd) : (wlTo n wd k).set k (n / 256 ^ k % 256) = wlTo n wd (k + 1) := by
  obtain ⟨m, hm⟩ : ∃ m, wd - k = m + 1 := ⟨wd - k - 1, by omega⟩
  unfold wlTo
  rw [List.set_append_right _ _ (by rw [wl_length]; exact Nat.le_refl _), wl_length, Nat.sub_self, hm, List.replicate_succ, List.set_cons_zero, show wd - (k + 1) = m by omega, wl_succ, List.append_assoc]
  rfl
theorem shift_is (n : Int) (k : Nat) : n / 2 ^ (8 * k) % 256 = n / 256 ^ k % 256 := by
  rw [Int.pow_mul]
  rfl

def WriRel (w : World) (n : Int) (wd : Nat) (i : Value) (wr : World) : Prop :=
  ∃ k : Nat, k ≤ wd ∧ i = .int .i64 k ∧ OwnB wr w.heap.size w.heap.size wd wd (wlTo n wd k) ∧ Below w.heap.size w wr

set_option maxHeartbeats 800000 in
theorem implWrite_1 (n : Int) (w : World) (h0 : 0 ≤ n) (h1 : n < 256) :
    Calls Try.prog 91 #[.int .i64 n, .int .i64 1] w (Gives w 1 (wl n 1)) := by
  obtain ⟨i0, hi, hz0, hz1, hz2⟩ := info_parts infoU8
  have t0 := not_lt h0
  have t1 : (n / 256 != 0) = false := by simp; omega
  go_enter Try.func91, Try.ntmps91
  go_wp2_with (first | (go_at_call 97; refine (isWidth_true _ _ (by unfold IsW; omega)).mono ?_; rintro e w' ⟨rfl, rfl⟩) | (at_make; refine wpList_make_full _ rfl _ _ 62 rfl w.heap.size 5 i0 (.int .u8 0) 1 Try.underlying62 hi hz0 hz1 .i64 .i64 _ _ 1 rfl rfl (by rfl) (by rfl) (by rw [hz2]; omega) (by unfold maxLen; omega) (Nat.le_refl _) ?_; intro w0 hown0 hgrow0; have HO := Lib.hid hown0; clear hown0))
  go_loopw [26] (fun i wr => WriRel w n 1 i wr) (fun i _ => 1 - (intOf i).toNat)
  case atStart => exact ⟨0, Nat.zero_le _, rfl, by rw [wlTo_zero]; exact madeB HO.out, (Below.refl _ _).grown hgrow0 (Nat.le_refl _) (by intro k h; cases h)⟩
  case round =>
    obtain ⟨k, hk, rfl, ho, hb⟩ := hrel
    have HO1 := Lib.hid ho
    have HB1 := Lib.hid hb
    clear ho hb hgrow0
    by_cases hlt : k < 1
    · have hst := HO1.out.cell k hlt
      have hfz : wr.frozen? ⟨w.heap.size, k, none⟩ = false := World.ownsRow.frozenAt HO1.out k
      go_wp2
      go_roundw
      case rel => exact ⟨k + 1, by omega, by go_num, by rw [← wlTo_set n 1 k hlt, ← shift_is]; exact HO1.out.store k _, HB1.out.setCell (Nat.le_refl _) _⟩
      case measure => simp [intOf]; omega
    · go_wp2
      go_ret2
      have e : k = 1 := by omega
      subst e
      exact ⟨w.heap.size, 1, rfl, by rw [← wlTo_all]; exact HO1.out, HB1.out⟩
theorem implWrite_1_no (n : Int) (w : World) (h0 : 0 ≤ n) (h1 : 256 ≤ n) :
    Calls Try.prog 91 #[.int .i64 n, .int .i64 1] w (GivesNone w) := by
  have t0 := not_lt h0
  have t1 : (n / 256 != 0) = true := by simp; omega
  go_enter Try.func91, Try.ntmps91
  go_wp2_with (first | (go_at_call 97; refine (isWidth_true _ _ (by unfold IsW; omega)).mono ?_; rintro e w' ⟨rfl, rfl⟩))
  go_ret2
  exact ⟨rfl, rfl⟩
set_option maxHeartbeats 800000 in
theorem implWrite_2 (n : Int) (w : World) (h0 : 0 ≤ n) (h1 : n < 65536) :
    Calls Try.prog 91 #[.int .i64 n, .int .i64 2] w (Gives w 2 (wl n 2)) := by
  obtain ⟨i0, hi, hz0, hz1, hz2⟩ := info_parts infoU8
  have t0 := not_lt h0
  have t1 : (n / 65536 != 0) = false := by simp; omega
  go_enter Try.func91, Try.ntmps91
  go_wp2_with (first | (go_at_call 97; refine (isWidth_true _ _ (by unfold IsW; omega)).mono ?_; rintro e w' ⟨rfl, rfl⟩) | (at_make; refine wpList_make_full _ rfl _ _ 62 rfl w.heap.size 5 i0 (.int .u8 0) 1 Try.underlying62 hi hz0 hz1 .i64 .i64 _ _ 2 rfl rfl (by rfl) (by rfl) (by rw [hz2]; omega) (by unfold maxLen; omega) (Nat.le_refl _) ?_; intro w0 hown0 hgrow0; have HO := Lib.hid hown0; clear hown0))
  go_loopw [26] (fun i wr => WriRel w n 2 i wr) (fun i _ => 2 - (intOf i).toNat)
  case atStart => exact ⟨0, Nat.zero_le _, rfl, by rw [wlTo_zero]; exact madeB HO.out, (Below.refl _ _).grown hgrow0 (Nat.le_refl _) (by intro k h; cases h)⟩
  case round =>
    obtain ⟨k, hk, rfl, ho, hb⟩ := hrel
    have HO1 := Lib.hid ho
    have HB1 := Lib.hid hb
    clear ho hb hgrow0
    by_cases hlt : k < 2
    · have hst := HO1.out.cell k hlt
      have hfz : wr.frozen? ⟨w.heap.size, k, none⟩ = false := World.ownsRow.frozenAt HO1.out k
      go_wp2
      go_roundw
      case rel => exact ⟨k + 1, by omega, by go_num, by rw [← wlTo_set n 2 k hlt, ← shift_is]; exact HO1.out.store k _, HB1.out.setCell (Nat.le_refl _) _⟩
      case measure => simp [intOf]; omega
    · go_wp2
      go_ret2
      have e : k = 2 := by omega
      subst e
      exact ⟨w.heap.size, 2, rfl, by rw [← wlTo_all]; exact HO1.out, HB1.out⟩
theorem implWrite_2_no (n : Int) (w : World) (h0 : 0 ≤ n) (h1 : 65536 ≤ n) :
    Calls Try.prog 91 #[.int .i64 n, .int .i64 2] w (GivesNone w) := by
  have t0 := not_lt h0
  have t1 : (n / 65536 != 0) = true := by simp; omega
  go_enter Try.func91, Try.ntmps91
  go_wp2_with (first | (go_at_call 97; refine (isWidth_true _ _ (by unfold IsW; omega)).mono ?_; rintro e w' ⟨rfl, rfl⟩))
  go_ret2
  exact ⟨rfl, rfl⟩
set_option maxHeartbeats 800000 in
theorem implWrite_4 (n : Int) (w : World) (h0 : 0 ≤ n) (h1 : n < 4294967296) :
    Calls Try.prog 91 #[.int .i64 n, .int .i64 4] w (Gives w 4 (wl n 4)) := by
  obtain ⟨i0, hi, hz0, hz1, hz2⟩ := info_parts infoU8
  have t0 := not_lt h0
  have t1 : (n / 4294967296 != 0) = false := by simp; omega
  go_enter Try.func91, Try.ntmps91
  go_wp2_with (first | (go_at_call 97; refine (isWidth_true _ _ (by unfold IsW; omega)).mono ?_; rintro e w' ⟨rfl, rfl⟩) | (at_make; refine wpList_make_full _ rfl _ _ 62 rfl w.heap.size 5 i0 (.int .u8 0) 1 Try.underlying62 hi hz0 hz1 .i64 .i64 _ _ 4 rfl rfl (by rfl) (by rfl) (by rw [hz2]; omega) (by unfold maxLen; omega) (Nat.le_refl _) ?_; intro w0 hown0 hgrow0; have HO := Lib.hid hown0; clear hown0))
  go_loopw [26] (fun i wr => WriRel w n 4 i wr) (fun i _ => 4 - (intOf i).toNat)
  case atStart => exact ⟨0, Nat.zero_le _, rfl, by rw [wlTo_zero]; exact madeB HO.out, (Below.refl _ _).grown hgrow0 (Nat.le_refl _) (by intro k h; cases h)⟩
  case round =>
    obtain ⟨k, hk, rfl, ho, hb⟩ := hrel
    have HO1 := Lib.hid ho
    have HB1 := Lib.hid hb
    clear ho hb hgrow0
    by_cases hlt : k < 4
    · have hst := HO1.out.cell k hlt
      have hfz : wr.frozen? ⟨w.heap.size, k, none⟩ = false := World.ownsRow.frozenAt HO1.out k
      go_wp2
      go_roundw
      case rel => exact ⟨k + 1, by omega, by go_num, by rw [← wlTo_set n 4 k hlt, ← shift_is]; exact HO1.out.store k _, HB1.out.setCell (Nat.le_refl _) _⟩
      case measure => simp [intOf]; omega
    · go_wp2
      go_ret2
      have e : k = 4 := by omega
      subst e
      exact ⟨w.heap.size, 4, rfl, by rw [← wlTo_all]; exact HO1.out, HB1.out⟩
theorem implWrite_4_no (n : Int) (w : World) (h0 : 0 ≤ n) (h1 : 4294967296 ≤ n) :
    Calls Try.prog 91 #[.int .i64 n, .int .i64 4] w (GivesNone w) := by
  have t0 := not_lt h0
  have t1 : (n / 4294967296 != 0) = true := by simp; omega
  go_enter Try.func91, Try.ntmps91
  go_wp2_with (first | (go_at_call 97; refine (isWidth_true _ _ (by unfold IsW; omega)).mono ?_; rintro e w' ⟨rfl, rfl⟩))
  go_ret2
  exact ⟨rfl, rfl⟩
theorem implWrite_neg (n wd : Int) (w : World) (h0 : n < 0) (h1 : IsW wd) :
    Calls Try.prog 91 #[.int .i64 n, .int .i64 wd] w (GivesNone w) := by
  have t0 := is_lt h0
  have H1 := Lib.hid h1
  clear h1
  go_enter Try.func91, Try.ntmps91
  go_wp2_with (first | (go_at_call 97; refine (isWidth_true _ _ H1.out).mono ?_; rintro e w' ⟨rfl, rfl⟩))
  go_ret2
  exact ⟨rfl, rfl⟩
theorem implWrite_width (n wd : Int) (w : World) (h1 : ¬ IsW wd) :
    Calls Try.prog 91 #[.int .i64 n, .int .i64 wd] w (GivesNone w) := by
  have H1 := Lib.hid h1
  clear h1
  go_enter Try.func91, Try.ntmps91
  go_wp2_with (first | (go_at_call 97; refine (isWidth_false _ _ H1.out).mono ?_; rintro e w' ⟨rfl, rfl⟩))
  go_ret2
  exact ⟨rfl, rfl⟩

/-! The model. -/
def TopRel (wd : Nat) (x o : Value) : Prop := ∃ (j k : Nat) (p : Int), j + k = wd ∧ x = .int .i64 j ∧ o = .int .i64 p ∧ p = 256 ^ k
def WsRel (w : World) (n : Int) (wd : Nat) (x y v : Value) (wr : World) : Prop :=
  ∃ (j k : Nat) (m : Int), j + k = wd ∧ x = .int .i64 m ∧ y = .int .i64 j ∧ 0 ≤ m ∧ m ≤ 4294967295 ∧ m = n / 256 ^ k ∧ OwnV wr w.heap.size v k (wl n k) ∧ Below w.heap.size w wr
end Go.Proofs.Ythflehdboccloaa
