/- Padding that is zero: contracts of IsPadded, program and model, and of what the model calls. -/
import Derived.Test.YtniggnjnpapkeabDoorMark
namespace Go.Proofs.YtniggnjnpapkeabDoor
set_option maxRecDepth 100000
open Go.RowKit

/-- all bytes are 0 -/
def allz (l : List Int) : Bool := l.all (fun c => c == 0)
theorem allz_nil : allz [] = true := rfl
theorem allz_end (l : List Int) (k : Nat) (h : l.length ≤ k) : allz (l.drop k) = true := by rw [List.drop_eq_nil_of_le h]; rfl
theorem allz_yes (l : List Int) (k : Nat) (h : k < l.length) (hc : l.getD k 0 = 0) : allz (l.drop k) = allz (l.drop (k + 1)) := by
  rw [List.getD_eq_getElem?_getD, List.getElem?_eq_getElem h] at hc
  rw [List.drop_eq_getElem_cons h]
  simp only [allz, List.all_cons]
  simp at hc
  simp [hc]
theorem allz_no (l : List Int) (k : Nat) (h : k < l.length) (hc : l.getD k 0 ≠ 0) : allz (l.drop k) = false := by
  rw [List.getD_eq_getElem?_getD, List.getElem?_eq_getElem h] at hc
  rw [List.drop_eq_getElem_cons h]
  simp only [allz, List.all_cons]
  simp at hc
  simp [hc]

/-- the bytes from 'lo' on and before 'hi' are 0 -/
def pz (zs : List Int) (lo hi : Int) : Bool := allz ((zs.take hi.toNat).drop lo.toNat)
theorem getD_take (zs : List Int) (t k : Nat) (h : k < t) : (zs.take t).getD k 0 = zs.getD k 0 := by
  simp [List.getD_eq_getElem?_getD, h]
theorem pz_end (zs : List Int) (k hi : Int) (h : hi ≤ k) : pz zs k hi = true := allz_end _ _ (by simp; omega)
theorem pz_yes (zs : List Int) (k : Nat) (hi : Int) (h : (k : Int) < hi) (hl : hi ≤ zs.length) (hc : zs.getD k 0 = 0) : pz zs k hi = pz zs (k + 1 : Nat) hi :=
  allz_yes _ _ (by simp; omega) (by rw [getD_take _ _ _ (by omega)]; exact hc)
theorem pz_no (zs : List Int) (k : Nat) (hi : Int) (h : (k : Int) < hi) (hl : hi ≤ zs.length) (hc : zs.getD k 0 ≠ 0) : pz zs k hi = false :=
  allz_no _ _ (by simp; omega) (by rw [getD_take _ _ _ (by omega)]; exact hc)

def PadRel (zs : List Int) (lo hi : Int) (i : Value) : Prop := ∃ k : Nat, lo ≤ k ∧ (k : Int) ≤ hi ∧ i = .int .i64 k ∧ pz zs k hi = pz zs lo hi

theorem implIsPadded_yes (b off n cap : Nat) (zs : List Int) (lo hi : Int) (w : World) (HL : Hid (zs.length = n)) (HR : Hid (Row w b off zs)) (hn : (n : Int) ≤ 4000) (h0 : 0 ≤ lo) (h1 : lo ≤ hi) (h2 : hi ≤ n) :
    Calls Tryd.prog 20 #[.slice (some ⟨b, off, none⟩) n cap, .int .i64 lo, .int .i64 hi] w fun e w' => e = .returned (.tuple #[.bool (pz zs lo hi), .bool true]) ∧ w = w' := by
  have t0 := not_lt h0
  have t1 := not_lt h1
  have t2 := not_lt h2
  go_enter Tryd.func20, Tryd.ntmps20
  go_wp2_with (go_at_call 49; refine (areBytes_true _ _ _ _ hn).mono ?_; rintro e w' ⟨rfl, rfl⟩)
  go_loop [8] (fun i => PadRel zs lo hi i) (fun i => (hi - intOf i).toNat)
  case atStart => exact ⟨lo.toNat, by omega, by omega, by rw [Int.toNat_of_nonneg h0], by rw [Int.toNat_of_nonneg h0]⟩
  case round =>
    obtain ⟨k, hk0, hk1, rfl, hp⟩ := hrel
    have HP := Lib.hid hp
    clear hp
    rcases Int.lt_or_le k hi with hlt | hge
    · have hkn : k < n := by omega
      obtain ⟨c, HC, c0, c1, hcell⟩ := HR.out.at k (by have := HL.out; omega)
      by_cases hc : c = 0
      · subst hc
        go_wp2
        go_round
        case rel => exact ⟨k + 1, by omega, by omega, by go_num, by rw [← HP.out, pz_yes zs k hi hlt (by have := HL.out; omega) HC.out.symm]⟩
        case measure => simp [intOf]; omega
      · have hne : (c != 0) = true := by simp [hc]
        have HZ : Hid (c ≠ 0) := hc
        clear hc
        go_wp2
        go_ret2
        exact ⟨ret_pair (by rw [← HP.out, pz_no zs k hi hlt (by have := HL.out; omega) (by rw [← HC.out]; exact HZ)]; rfl) rfl, rfl⟩
    · have d := not_lt hge
      go_wp2
      go_ret2
      exact ⟨ret_pair (by rw [← HP.out, pz_end zs k hi hge]; rfl) rfl, rfl⟩

def ipBad (n lo hi : Int) : Prop := 4000 < n ∨ (n ≤ 4000 ∧ lo < 0) ∨ (n ≤ 4000 ∧ 0 ≤ lo ∧ hi < lo) ∨ (n ≤ 4000 ∧ 0 ≤ lo ∧ lo ≤ hi ∧ n < hi)

theorem implIsPadded_no (a : Option Addr) (n cap : Nat) (lo hi : Int) (w : World) (h : ipBad n lo hi) :
    Calls Tryd.prog 20 #[.slice a n cap, .int .i64 lo, .int .i64 hi] w fun e w' => e = .returned (.tuple #[.bool false, .bool false]) ∧ w = w' := by
  rcases h with h | ⟨h, h1⟩ | ⟨h, h1, h2⟩ | ⟨h, h1, h2, h3⟩
  · go_enter Tryd.func20, Tryd.ntmps20
    go_wp2_with (go_at_call 49; refine (areBytes_false _ _ _ _ h).mono ?_; rintro e w' ⟨rfl, rfl⟩)
    go_ret2
    exact ⟨rfl, rfl⟩
  · have t0 := is_lt h1
    go_enter Tryd.func20, Tryd.ntmps20
    go_wp2_with (go_at_call 49; refine (areBytes_true _ _ _ _ h).mono ?_; rintro e w' ⟨rfl, rfl⟩)
    go_ret2
    exact ⟨rfl, rfl⟩
  · have t0 := not_lt h1
    have t1 := is_lt h2
    go_enter Tryd.func20, Tryd.ntmps20
    go_wp2_with (go_at_call 49; refine (areBytes_true _ _ _ _ h).mono ?_; rintro e w' ⟨rfl, rfl⟩)
    go_ret2
    exact ⟨rfl, rfl⟩
  · have t0 := not_lt h1
    have t1 := not_lt h2
    have t2 := is_lt h3
    go_enter Tryd.func20, Tryd.ntmps20
    go_wp2_with (go_at_call 49; refine (areBytes_true _ _ _ _ h).mono ?_; rintro e w' ⟨rfl, rfl⟩)
    go_ret2
    exact ⟨rfl, rfl⟩

theorem scZero_none (a : Option Addr) (cap : Nat) (w : World) :
    Calls Tryd.prog 50 #[.slice a 0 cap] w fun e w' => e = .returned (.bool true) ∧ w = w' := by
  go_enter Tryd.func50, Tryd.ntmps50
  go_wp2
  refine wp_loop_rounds 1 ?_
  rw [rounds_succ]
  go_wp2
  go_ret
  exact ⟨rfl, rfl⟩
theorem scZero_some (b off n cap : Nat) (zs : List Int) (w : World) (HL : Hid (zs.length = n)) (HR : Hid (Row w b off zs)) (hn : (n : Int) ≤ 4000) :
    Calls Tryd.prog 50 #[.slice (some ⟨b, off, none⟩) n cap] w fun e w' => e = .returned (.bool (allz zs)) ∧ w = w' := by
  go_enter Tryd.func50, Tryd.ntmps50
  go_wp2
  go_loop [7] (fun i => ∃ k : Nat, k ≤ n ∧ i = .int .i64 k ∧ Hid (allz (zs.drop k) = allz zs)) (fun i => n - (intOf i).toNat)
  case atStart => exact ⟨0, by omega, rfl, rfl⟩
  case round =>
    obtain ⟨k, hk, rfl, HP⟩ := hrel
    by_cases hlt : k < n
    · obtain ⟨c, HC, c0, c1, hcell⟩ := HR.out.at k (by have := HL.out; omega)
      by_cases hc : c = 0
      · subst hc
        go_wp2
        go_round
        case rel => exact ⟨k + 1, by omega, by go_num, by unfold Hid; rw [← HP.out, allz_yes zs k (by have := HL.out; omega) HC.out.symm]⟩
        case measure => simp [intOf]; omega
      · have hne : (c != 0) = true := by simp [hc]
        have HZ : Hid (c ≠ 0) := hc
        clear hc
        go_wp2
        go_ret
        exact ⟨ret_bool (by rw [← HP.out, allz_no zs k (by have := HL.out; omega) (by rw [← HC.out]; exact HZ)]), rfl⟩
    · go_wp2
      go_ret
      exact ⟨ret_bool (by rw [← HP.out, allz_end zs k (by have := HL.out; omega)]), rfl⟩

theorem specIsPadded_no (a : Option Addr) (n cap : Nat) (lo hi : Int) (w : World) (h : ipBad n lo hi) :
    Calls Tryd.prog 21 #[.slice a n cap, .int .i64 lo, .int .i64 hi] w fun e w' => e = .returned (.tuple #[.bool false, .bool false]) ∧ w = w' := by
  have h' : 4000 < (n : Int) ∨ ((n : Int) ≤ 4000 ∧ lo < 0) ∨ ((n : Int) ≤ 4000 ∧ 0 ≤ lo ∧ (n : Int) < lo) ∨ ((n : Int) ≤ 4000 ∧ 0 ≤ lo ∧ lo ≤ n ∧ hi < lo) ∨ ((n : Int) ≤ 4000 ∧ 0 ≤ lo ∧ lo ≤ n ∧ lo ≤ hi ∧ (n : Int) < hi) := by
    unfold ipBad at h; omega
  clear h
  rcases h' with h | ⟨h, h1⟩ | ⟨h, h1, h2⟩ | ⟨h, h1, h2, h3⟩ | ⟨h, h1, h2, h3, h4⟩
  · go_enter Tryd.func21, Tryd.ntmps21
    go_wp2_with (go_at_call 43; refine (scBytes_false _ _ h).mono ?_; rintro e w' ⟨rfl, rfl⟩)
    go_ret2
    exact ⟨rfl, rfl⟩
  all_goals
    go_enter Tryd.func21, Tryd.ntmps21
    go_wp2_with (first | (go_at_call 43; refine (scBytes_true _ _ h).mono ?_; rintro e w' ⟨rfl, rfl⟩) | (go_at_call 47; refine (l1In_true _ _ _ _ (by omega) (by omega)).mono ?_; rintro e w' ⟨rfl, rfl⟩) | (go_at_call 47; refine (l1In_false _ _ _ _ (by omega)).mono ?_; rintro e w' ⟨rfl, rfl⟩))
    go_ret2
    exact ⟨rfl, rfl⟩

theorem Row.sub {w : World} {b off : Nat} {zs : List Int} (h : Row w b off zs) (f t : Nat) : Row w b (off + f) ((zs.take t).drop f) := by
  refine ⟨fun i hi => ?_, fun n hn => h.2 n (List.mem_of_mem_take (List.mem_of_mem_drop hn))⟩
  simp at hi
  have := h.1 (f + i) (by omega)
  rw [Nat.add_assoc, this]
  simp [List.getD_eq_getElem?_getD, List.getElem?_take]
  rw [if_pos (by omega)]

theorem specIsPadded_yes (b off n cap : Nat) (zs : List Int) (f t : Nat) (w : World) (HL : Hid (zs.length = n)) (HR : Hid (Row w b off zs)) (hn : (n : Int) ≤ 4000) (h1 : f ≤ t) (h2 : t ≤ n) (hcap : n ≤ cap) :
    Calls Tryd.prog 21 #[.slice (some ⟨b, off, none⟩) n cap, .int .i64 f, .int .i64 t] w fun e w' => e = .returned (.tuple #[.bool (pz zs f t), .bool true]) ∧ w = w' := by
  by_cases hcf : cap = f
  · obtain rfl : f = t := by omega
    have HP : Hid (pz zs f f = true) := Lib.hid (pz_end _ _ _ (Int.le_refl _))
    go_enter Tryd.func21, Tryd.ntmps21
    go_wp2_with (first | (go_at_call 43; refine (scBytes_true _ _ hn).mono ?_; rintro e w' ⟨rfl, rfl⟩) | (go_at_call 47; refine (l1In_true _ _ _ _ (by omega) (by omega)).mono ?_; rintro e w' ⟨rfl, rfl⟩) | (go_at_call 50; refine (scZero_none _ _ _).mono ?_; rintro e w' ⟨rfl, rfl⟩))
    go_ret2
    exact ⟨ret_pair (by rw [HP.out]; rfl) rfl, rfl⟩
  · have HL2 : Hid (((zs.take t).drop f).length = t - f) := Lib.hid (by have := HL.out; simp; omega)
    have HR2 : Hid (Row w b (off + f) ((zs.take t).drop f)) := Lib.hid (HR.out.sub f t)
    go_enter Tryd.func21, Tryd.ntmps21
    go_wp2_with (first | (go_at_call 43; refine (scBytes_true _ _ hn).mono ?_; rintro e w' ⟨rfl, rfl⟩) | (go_at_call 47; refine (l1In_true _ _ _ _ (by omega) (by omega)).mono ?_; rintro e w' ⟨rfl, rfl⟩) | (go_at_call 50; refine (scZero_some _ _ _ _ _ _ HL2 HR2 (by omega)).mono ?_; rintro e w' ⟨rfl, rfl⟩))
    go_ret2
    exact ⟨ret_pair rfl rfl, rfl⟩

/-- both functions answer the same, whatever is asked -/
theorem isPadded_both (n : Nat) (zs : List Int) (lo hi : Int) (HL : Hid (zs.length = n)) : ∃ r ok : Bool,
    Hid (∀ (b off cap : Nat) (w : World), Hid (Row w b off zs) → n ≤ cap → Calls Tryd.prog 20 #[.slice (some ⟨b, off, none⟩) n cap, .int .i64 lo, .int .i64 hi] w fun e w' => e = .returned (.tuple #[.bool r, .bool ok]) ∧ w = w') ∧
    Hid (∀ (b off cap : Nat) (w : World), Hid (Row w b off zs) → n ≤ cap → Calls Tryd.prog 21 #[.slice (some ⟨b, off, none⟩) n cap, .int .i64 lo, .int .i64 hi] w fun e w' => e = .returned (.tuple #[.bool r, .bool ok]) ∧ w = w') := by
  by_cases h : ipBad n lo hi
  · exact ⟨false, false, fun b off cap w _ _ => implIsPadded_no _ _ _ _ _ _ h, fun b off cap w _ _ => specIsPadded_no _ _ _ _ _ _ h⟩
  · have h' : (n : Int) ≤ 4000 ∧ 0 ≤ lo ∧ lo ≤ hi ∧ hi ≤ n := by unfold ipBad at h; omega
    obtain ⟨h0, h1, h2, h3⟩ := h'
    refine ⟨pz zs lo hi, true, fun b off cap w HR _ => implIsPadded_yes b off n cap zs lo hi w HL HR h0 h1 h2 h3, fun b off cap w HR hc => ?_⟩
    have e1 : lo = (lo.toNat : Int) := (Int.toNat_of_nonneg h1).symm
    have e2 : hi = (hi.toNat : Int) := (Int.toNat_of_nonneg (by omega)).symm
    rw [e1, e2]
    exact specIsPadded_yes b off n cap zs lo.toNat hi.toNat w HL HR h0 (by omega) (by omega) hc
end Go.Proofs.YtniggnjnpapkeabDoor
