/- Sums of values: contracts of AddValues, program and model. -/
import Derived.Test.YtelkpdkpnaeggaaIni
import Derived.Test.YtelkpdkpnaeggaaVal
namespace Go.Proofs.Ytelkpdkpnaeggaa
open Go.RowKit

/-- a value -/
def isV (c : Int) : Bool := inB c 0 1000000000
/-- the sum on the way, or none -/
def addV : List Int → Int → Option Int
  | [], s => some s
  | c :: r, s => if 0 ≤ c ∧ c ≤ 1000000000 ∧ s + c ≤ 1000000000 then addV r (s + c) else none
theorem addV_end (zs : List Int) (k : Nat) (s : Int) (h : zs.length ≤ k) : addV (zs.drop k) s = Option.some s := by
  rw [List.drop_eq_nil_of_le h]; rfl
theorem drop_consI (zs : List Int) (k : Nat) (h : k < zs.length) : zs.drop k = zs.getD k 0 :: zs.drop (k + 1) := by
  rw [List.drop_eq_getElem_cons h, List.getD_eq_getElem?_getD, List.getElem?_eq_getElem h]; rfl
theorem addV_good (zs : List Int) (k : Nat) (s c : Int) (h : k < zs.length) (hc : c = zs.getD k 0) (g : 0 ≤ c ∧ c ≤ 1000000000 ∧ s + c ≤ 1000000000) : addV (zs.drop k) s = addV (zs.drop (k + 1)) (s + c) := by
  rw [drop_consI zs k h, addV, ← hc, if_pos g]
theorem addV_bad (zs : List Int) (k : Nat) (s c : Int) (h : k < zs.length) (hc : c = zs.getD k 0) (g : ¬ (0 ≤ c ∧ c ≤ 1000000000 ∧ s + c ≤ 1000000000)) : addV (zs.drop k) s = none := by
  rw [drop_consI zs k h, addV, ← hc, if_neg g]
/-- all are values, from an index on -/
def allV (l : List Int) : Bool := l.all fun c => decide (0 ≤ c ∧ c ≤ 1000000000)
theorem addV_notall : ∀ (l : List Int) (s : Int), allV l = false → addV l s = none
  | [], _, h => by simp [allV] at h
  | c :: r, s, h => by
    rw [addV]
    split
    · rename_i g
      refine addV_notall r _ ?_
      unfold allV at h ⊢
      rw [List.all_cons, Bool.and_eq_false_iff] at h
      rcases h with h | h
      · simp at h; omega
      · exact h
    · rfl
/-- the answer -/
def addR (o : Option Int) : Int := o.getD 0
def addK (o : Option Int) : Bool := o.isSome
theorem add_none {o : Option Int} (h : o = none) : addR o = 0 ∧ addK o = false := by subst h; exact ⟨rfl, rfl⟩
theorem add_some {o : Option Int} {s : Int} (h : o = Option.some s) : addR o = s ∧ addK o = true := by subst h; exact ⟨rfl, rfl⟩

theorem allV_true {zs : List Int} (h : allV zs = true) (k : Nat) (hk : k < zs.length) : 0 ≤ zs.getD k 0 ∧ zs.getD k 0 ≤ 1000000000 := by
  unfold allV at h
  rw [List.all_eq_true] at h
  have := h (zs.getD k 0) (by rw [List.getD_eq_getElem?_getD, List.getElem?_eq_getElem hk]; exact List.getElem_mem hk)
  simpa using this
theorem allV_drop_bad (zs : List Int) (k : Nat) (c : Int) (h : k < zs.length) (hc : c = zs.getD k 0) (g : c < 0 ∨ 1000000000 < c) : allV (zs.drop k) = false := by
  unfold allV
  rw [drop_consI zs k h, List.all_cons, ← hc]
  have e : decide (0 ≤ c ∧ c ≤ 1000000000) = false := by simp; omega
  rw [e, Bool.false_and]
theorem allV_drop_good (zs : List Int) (k : Nat) (c : Int) (h : k < zs.length) (hc : c = zs.getD k 0) (g0 : 0 ≤ c) (g1 : c ≤ 1000000000) : allV (zs.drop k) = allV (zs.drop (k + 1)) := by
  unfold allV
  rw [drop_consI zs k h, List.all_cons, ← hc]
  have e : decide (0 ≤ c ∧ c ≤ 1000000000) = true := by simp; omega
  rw [e, Bool.true_and]
theorem allV_end (zs : List Int) (k : Nat) (h : zs.length ≤ k) : allV (zs.drop k) = true := by
  rw [List.drop_eq_nil_of_le h]; rfl

set_option maxHeartbeats 800000 in
theorem l1All_vals (b off n cap : Nat) (zs : List Int) (w : World) (HL : Hid (zs.length = n)) (HR : Hid (RowI w b off zs)) (hn : (n : Int) ≤ 40) :
    Calls Try.prog 44 #[.slice (some ⟨b, off, none⟩) n cap, .int .i64 0, .int .i64 1000000000] w fun e w' => e = .returned (.bool (allV zs)) ∧ w = w' := by
  go_enter Try.func44, Try.ntmps44
  go_wp2
  go_loop [11] (fun i => ∃ k : Nat, k ≤ n ∧ i = .int .i64 k ∧ Hid (allV (zs.drop k) = allV zs)) (fun i => n - (intOf i).toNat)
  case atStart => exact ⟨0, Nat.zero_le _, rfl, rfl⟩
  case round =>
    obtain ⟨k, hk, rfl, HP⟩ := hrel
    by_cases hlt : k < n
    · obtain ⟨c, HC, c0, c1, hcell⟩ := HR.out.at k (by have := HL.out; omega)
      by_cases hg : c < 0 ∨ 1000000000 < c
      · have HG := Lib.hid hg
        clear hg
        go_wp2_with (go_at_call 34; refine (l1In_false _ _ _ _ HG.out).mono ?_; rintro e w' ⟨rfl, rfl⟩)
        go_ret
        exact ⟨ret_bool (by rw [← HP.out, allV_drop_bad zs k c (by have := HL.out; omega) HC.out HG.out]), rfl⟩
      · have g0 : 0 ≤ c := by omega
        have g1 : c ≤ 1000000000 := by omega
        clear hg
        go_wp2_with (go_at_call 34; refine (l1In_true _ _ _ _ g0 g1).mono ?_; rintro e w' ⟨rfl, rfl⟩)
        go_round
        case rel => exact ⟨k + 1, by omega, by go_num, by unfold Hid; rw [← allV_drop_good zs k c (by have := HL.out; omega) HC.out g0 g1]; exact HP.out⟩
        case measure => simp [intOf]; omega
    · go_wp2
      go_ret
      exact ⟨ret_bool (by rw [← HP.out, allV_end zs k (by have := HL.out; omega)]), rfl⟩

def AddRel (n : Nat) (zs : List Int) (o : Option Int) (s i : Value) : Prop :=
  ∃ (k : Nat) (t : Int), k ≤ n ∧ i = .int .i64 k ∧ s = .int .i64 t ∧ 0 ≤ t ∧ t ≤ 1000000000 ∧ Hid (addV (zs.drop k) t = o)

set_option maxHeartbeats 1600000 in
theorem implAdd_some (b off n cap : Nat) (zs : List Int) (w : World) (HL : Hid (zs.length = n)) (HR : Hid (RowI w b off zs)) (hn : (n : Int) ≤ 40) :
    Calls Try.prog 24 #[.slice (some ⟨b, off, none⟩) n cap] w fun e w' => e = .returned (.tuple #[.int .i64 (addR (addV zs 0)), .bool (addK (addV zs 0))]) ∧ w = w' := by
  obtain ⟨o, HO⟩ : ∃ o, Hid (addV zs 0 = o) := ⟨_, rfl⟩
  rw [HO.out]
  have t0 := not_lt hn
  go_enter Try.func24, Try.ntmps24
  go_wp2
  go_loop [4, 12] (fun s i => AddRel n zs o s i) (fun _ i => n - (intOf i).toNat)
  case atStart => exact ⟨0, 0, Nat.zero_le _, rfl, rfl, by omega, by omega, HO⟩
  case round =>
    obtain ⟨k, t, hk, rfl, rfl, u0, u1, HP⟩ := hrel
    by_cases hlt : k < n
    · obtain ⟨c, HC, c0, c1, hcell⟩ := HR.out.at k (by have := HL.out; omega)
      by_cases hg : c < 0 ∨ 1000000000 < c
      · have HG := Lib.hid hg
        clear hg
        have HN : Hid (addR o = 0 ∧ addK o = false) := Lib.hid (add_none (by rw [← HP.out]; exact addV_bad zs k t c (by have := HL.out; omega) HC.out (by have := HG.out; omega)))
        go_wp2_with (go_at_call 45; refine (isValue_false _ _ HG.out).mono ?_; rintro e w' ⟨rfl, rfl⟩)
        go_ret2
        exact ⟨ret_pair (by rw [HN.out.1]; rfl) (by rw [HN.out.2]; rfl), rfl⟩
      · have g0 : 0 ≤ c := by omega
        have g1 : c ≤ 1000000000 := by omega
        clear hg
        rcases Int.lt_or_le 1000000000 (t + c) with hs | hs
        · have HN : Hid (addR o = 0 ∧ addK o = false) := Lib.hid (add_none (by rw [← HP.out]; exact addV_bad zs k t c (by have := HL.out; omega) HC.out (by omega)))
          go_wp2_with (first | (go_at_call 45; (with_reducible refine (isValue_true c _ g0 g1).mono ?_); rintro e w' ⟨rfl, rfl⟩) | (go_at_call 45; (with_reducible refine (isValue_false (t + c) _ (.inr hs)).mono ?_); rintro e w' ⟨rfl, rfl⟩))
          go_ret2
          exact ⟨ret_pair (by rw [HN.out.1]; rfl) (by rw [HN.out.2]; rfl), rfl⟩
        · have s0 : 0 ≤ t + c := by omega
          go_wp2_with (first | (go_at_call 45; (with_reducible refine (isValue_true c _ g0 g1).mono ?_); rintro e w' ⟨rfl, rfl⟩) | (go_at_call 45; (with_reducible refine (isValue_true (t + c) _ s0 hs).mono ?_); rintro e w' ⟨rfl, rfl⟩))
          go_round
          case rel => exact ⟨k + 1, t + c, by omega, by go_num, rfl, by omega, by omega, by unfold Hid; rw [← addV_good zs k t c (by have := HL.out; omega) HC.out ⟨g0, g1, hs⟩]; exact HP.out⟩
          case measure => simp [intOf]; omega
    · have HS : Hid (addR o = t ∧ addK o = true) := Lib.hid (add_some (by rw [← HP.out]; exact addV_end zs k t (by have := HL.out; omega)))
      go_wp2
      go_ret2
      exact ⟨ret_pair (by rw [HS.out.1]; rfl) (by rw [HS.out.2]; rfl), rfl⟩

set_option maxHeartbeats 1600000 in
theorem specAdd_some (b off n cap : Nat) (zs : List Int) (w : World) (HL : Hid (zs.length = n)) (HR : Hid (RowI w b off zs)) (hn : (n : Int) ≤ 40) :
    Calls Try.prog 22 #[.slice (some ⟨b, off, none⟩) n cap] w fun e w' => e = .returned (.tuple #[.int .i64 (addR (addV zs 0)), .bool (addK (addV zs 0))]) ∧ w = w' := by
  obtain ⟨o, HO⟩ : ∃ o, Hid (addV zs 0 = o) := ⟨_, rfl⟩
  rw [HO.out]
  have t0 := not_lt hn
  rcases Bool.eq_false_or_eq_true (allV zs) with ha | ha
  · have HA := Lib.hid ha
    clear ha
    go_enter Try.func22, Try.ntmps22
    go_wp2_with (go_at_call 44; refine (l1All_vals b off n cap zs _ HL HR hn).mono ?_; rw [HA.out]; rintro e w' ⟨rfl, rfl⟩)
    go_loop [4, 17] (fun s i => AddRel n zs o s i) (fun _ i => n - (intOf i).toNat)
    case atStart => exact ⟨0, 0, Nat.zero_le _, rfl, rfl, by omega, by omega, HO⟩
    case round =>
      obtain ⟨k, t, hk, rfl, rfl, u0, u1, HP⟩ := hrel
      by_cases hlt : k < n
      · obtain ⟨c, HC, c0, c1, hcell⟩ := HR.out.at k (by have := HL.out; omega)
        have hv := allV_true HA.out k (by have := HL.out; omega)
        rw [← HC.out] at hv
        obtain ⟨g0, g1⟩ := hv
        rcases Int.lt_or_le 1000000000 (t + c) with hs | hs
        · have HN : Hid (addR o = 0 ∧ addK o = false) := Lib.hid (add_none (by rw [← HP.out]; exact addV_bad zs k t c (by have := HL.out; omega) HC.out (by omega)))
          have d := is_lt hs
          go_wp2
          go_ret2
          exact ⟨ret_pair (by rw [HN.out.1]; rfl) (by rw [HN.out.2]; rfl), rfl⟩
        · have d := not_lt hs
          go_wp2
          go_round
          case rel => exact ⟨k + 1, t + c, by omega, by go_num, rfl, by omega, by omega, by unfold Hid; rw [← addV_good zs k t c (by have := HL.out; omega) HC.out ⟨g0, g1, hs⟩]; exact HP.out⟩
          case measure => simp [intOf]; omega
      · have HS : Hid (addR o = t ∧ addK o = true) := Lib.hid (add_some (by rw [← HP.out]; exact addV_end zs k t (by have := HL.out; omega)))
        go_wp2
        go_ret2
        exact ⟨ret_pair (by rw [HS.out.1]; rfl) (by rw [HS.out.2]; rfl), rfl⟩
  · have HA := Lib.hid ha
    have HN : Hid (addR o = 0 ∧ addK o = false) := Lib.hid (add_none (by rw [← HO.out]; exact addV_notall zs 0 ha))
    clear ha
    go_enter Try.func22, Try.ntmps22
    go_wp2_with (go_at_call 44; refine (l1All_vals b off n cap zs _ HL HR hn).mono ?_; rw [HA.out]; rintro e w' ⟨rfl, rfl⟩)
    go_ret2
    exact ⟨ret_pair (by rw [HN.out.1]; rfl) (by rw [HN.out.2]; rfl), rfl⟩
theorem implAdd_no (a : Option Addr) (n cap : Nat) (w : World) (hn : 40 < (n : Int)) :
    Calls Try.prog 24 #[.slice a n cap] w fun e w' => e = .returned (.tuple #[.int .i64 0, .bool false]) ∧ w = w' := by
  have d := is_lt hn
  go_enter Try.func24, Try.ntmps24
  go_wp2
  go_ret2
  exact ⟨rfl, rfl⟩
theorem specAdd_no (a : Option Addr) (n cap : Nat) (w : World) (hn : 40 < (n : Int)) :
    Calls Try.prog 22 #[.slice a n cap] w fun e w' => e = .returned (.tuple #[.int .i64 0, .bool false]) ∧ w = w' := by
  have d := is_lt hn
  go_enter Try.func22, Try.ntmps22
  go_wp2
  go_ret2
  exact ⟨rfl, rfl⟩
/-- both functions answer the same -/
theorem add_both (n : Nat) (zs : List Int) (HL : Hid (zs.length = n)) : ∃ (r : Int) (ok : Bool),
    Hid (∀ (b off cap : Nat) (w : World), Hid (RowI w b off zs) → Calls Try.prog 24 #[.slice (some ⟨b, off, none⟩) n cap] w fun e w' => e = .returned (.tuple #[.int .i64 r, .bool ok]) ∧ w = w') ∧
    Hid (∀ (b off cap : Nat) (w : World), Hid (RowI w b off zs) → Calls Try.prog 22 #[.slice (some ⟨b, off, none⟩) n cap] w fun e w' => e = .returned (.tuple #[.int .i64 r, .bool ok]) ∧ w = w') := by
  rcases Int.lt_or_le 40 n with h | h
  · exact ⟨0, false, fun b off cap w _ => implAdd_no _ _ _ _ h, fun b off cap w _ => specAdd_no _ _ _ _ h⟩
  · exact ⟨addR (addV zs 0), addK (addV zs 0), fun b off cap w HR => implAdd_some b off n cap zs w HL HR h, fun b off cap w HR => specAdd_some b off n cap zs w HL HR h⟩
end Go.Proofs.Ytelkpdkpnaeggaa
