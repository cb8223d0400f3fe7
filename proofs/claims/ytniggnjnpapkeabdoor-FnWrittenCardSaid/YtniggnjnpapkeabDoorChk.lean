/- Checksums: contracts of ChecksumOf, program and model. -/
import Derived.Test.YtniggnjnpapkeabDoorMark
namespace Go.Proofs.YtniggnjnpapkeabDoor
set_option maxRecDepth 100000
open Go.RowKit

/-- a sum folded to 16 bits -/
def fold16 (n : Int) : Int := if 65535 < n then n - 65535 else n
/-- the program's way: two bytes a step -/
def csum : List Int → Int → Int
  | [], s => s
  | [a], s => fold16 (s + a * 256)
  | a :: b :: r, s => csum r (fold16 (s + a * 256 + b))
/-- the model's way: one byte a step -/
def ssum : Bool → List Int → Int → Int
  | _, [], s => s
  | true, a :: r, s => ssum false r (fold16 (s + a * 256))
  | false, a :: r, s => ssum true r (fold16 (s + a))
theorem fold16_two (s a b : Int) (h0 : 0 ≤ s) (h1 : s ≤ 65535) (a0 : 0 ≤ a) (a1 : a ≤ 255) (b0 : 0 ≤ b) (b1 : b ≤ 255) :
    fold16 (fold16 (s + a * 256) + b) = fold16 (s + a * 256 + b) := by
  unfold fold16
  split <;> split <;> (try split) <;> omega
theorem fold16_bd (s : Int) (h0 : 0 ≤ s) (h1 : s ≤ 131070) : 0 ≤ fold16 s ∧ fold16 s ≤ 65535 := by
  unfold fold16
  split <;> omega
theorem csum_ssum : ∀ (l : List Int) (s : Int), 0 ≤ s → s ≤ 65535 → (∀ n ∈ l, 0 ≤ n ∧ n ≤ 255) → csum l s = ssum true l s
  | [], s, _, _, _ => by simp [csum, ssum]
  | [a], s, _, _, _ => by simp [csum, ssum]
  | a :: b :: r, s, h0, h1, hr => by
    have ha := hr a (by simp)
    have hb := hr b (by simp)
    have hbd := fold16_bd (s + a * 256 + b) (by omega) (by omega)
    simp only [csum, ssum]
    rw [fold16_two s a b h0 h1 ha.1 ha.2 hb.1 hb.2]
    exact csum_ssum r _ hbd.1 hbd.2 (fun n hn => hr n (by simp [hn]))
theorem drop_cons (zs : List Int) (k : Nat) (h : k < zs.length) : zs.drop k = zs.getD k 0 :: zs.drop (k + 1) := by
  rw [List.drop_eq_getElem_cons h, List.getD_eq_getElem?_getD, List.getElem?_eq_getElem h]; rfl
theorem csum_two (zs : List Int) (k : Nat) (s a b : Int) (h : k + 1 < zs.length) (ha : a = zs.getD k 0) (hb : b = zs.getD (k + 1) 0) : csum (zs.drop k) s = csum (zs.drop (k + 2)) (fold16 (s + a * 256 + b)) := by
  rw [drop_cons zs k (by omega), drop_cons zs (k + 1) h, csum, ha, hb]
theorem csum_one (zs : List Int) (k : Nat) (s a : Int) (h : k + 1 = zs.length) (ha : a = zs.getD k 0) : csum (zs.drop k) s = fold16 (s + a * 256) := by
  rw [drop_cons zs k (by omega), List.drop_eq_nil_of_le (by omega), csum, ha]
theorem csum_end (zs : List Int) (k : Nat) (s : Int) (h : zs.length ≤ k) : csum (zs.drop k) s = s := by
  rw [List.drop_eq_nil_of_le h, csum]
theorem ssum_even (zs : List Int) (k : Nat) (s a : Int) (h : k < zs.length) (ha : a = zs.getD k 0) : ssum true (zs.drop k) s = ssum false (zs.drop (k + 1)) (fold16 (s + a * 256)) := by
  rw [drop_cons zs k h, ssum, ha]
theorem ssum_odd (zs : List Int) (k : Nat) (s a : Int) (h : k < zs.length) (ha : a = zs.getD k 0) : ssum false (zs.drop k) s = ssum true (zs.drop (k + 1)) (fold16 (s + a)) := by
  rw [drop_cons zs k h, ssum, ha]
theorem ssum_end (b : Bool) (zs : List Int) (k : Nat) (s : Int) (h : zs.length ≤ k) : ssum b (zs.drop k) s = s := by
  rw [List.drop_eq_nil_of_le h]; cases b <;> rfl

def ChkRel (zs : List Int) (s i : Value) : Prop := ∃ (k : Nat) (t : Int), k ≤ zs.length + 1 ∧ i = .int .i64 k ∧ s = .int .i64 t ∧ 0 ≤ t ∧ t ≤ 65535 ∧ csum (zs.drop k) t = csum zs 0

set_option maxHeartbeats 800000 in
theorem implChecksum_some (b off n cap : Nat) (zs : List Int) (w : World) (HL : Hid (zs.length = n)) (HR : Hid (Row w b off zs)) (hn : (n : Int) ≤ 4000) :
    Calls Tryd.prog 25 #[.slice (some ⟨b, off, none⟩) n cap] w fun e w' => e = .returned (.tuple #[.int .i64 (65535 - csum zs 0), .bool true]) ∧ w = w' := by
  go_enter Tryd.func25, Tryd.ntmps25
  go_wp2_with (go_at_call 49; refine (areBytes_true _ _ _ _ hn).mono ?_; rintro e w' ⟨rfl, rfl⟩)
  go_loop [4, 5] (fun s i => ChkRel zs s i) (fun _ i => n + 1 - (intOf i).toNat)
  case atStart => exact ⟨0, 0, Nat.zero_le _, rfl, rfl, by omega, by omega, rfl⟩
  case round =>
    obtain ⟨k, t, hk, rfl, rfl, t0, t1, hp⟩ := hrel
    have HP := Lib.hid hp
    clear hp
    have hk' : k ≤ n + 1 := by rw [← HL.out]; exact hk
    clear hk
    by_cases hlt : k < n
    · obtain ⟨c, HC, c0, c1, hcell⟩ := HR.out.at k (by have := HL.out; omega)
      by_cases hlt2 : k + 1 < n
      · obtain ⟨d, HD, d0, d1, hcell2⟩ := HR.out.at (k + 1) (by have := HL.out; omega)
        have hcell3 : w.cell? ⟨b, off + (k + 1), none⟩ = some (.int .u8 d) := hcell2
        clear hcell2
        rcases Int.lt_or_le 65535 (t + c * 256 + d) with hg | hg
        · go_wp2
          go_round
          case rel => exact ⟨k + 2, fold16 (t + c * 256 + d), by have := HL.out; omega, by go_num, by rw [fold16, if_pos hg], (fold16_bd _ (by omega) (by omega)).1, (fold16_bd _ (by omega) (by omega)).2, by rw [← csum_two zs k t c d (by have := HL.out; omega) HC.out HD.out]; exact HP.out⟩
          case measure => simp [intOf]; omega
        · have hg' := not_lt hg
          go_wp2
          go_round
          case rel => exact ⟨k + 2, fold16 (t + c * 256 + d), by have := HL.out; omega, by go_num, by rw [fold16, if_neg (by omega)], (fold16_bd _ (by omega) (by omega)).1, (fold16_bd _ (by omega) (by omega)).2, by rw [← csum_two zs k t c d (by have := HL.out; omega) HC.out HD.out]; exact HP.out⟩
          case measure => simp [intOf]; omega
      · rcases Int.lt_or_le 65535 (t + c * 256) with hg | hg
        · go_wp2
          go_round
          case rel => exact ⟨k + 2, fold16 (t + c * 256), by have := HL.out; omega, by go_num, by rw [fold16, if_pos hg], (fold16_bd _ (by omega) (by omega)).1, (fold16_bd _ (by omega) (by omega)).2, by rw [csum_end zs _ _ (by have := HL.out; omega), ← csum_one zs k t c (by have := HL.out; omega) HC.out]; exact HP.out⟩
          case measure => simp [intOf]; omega
        · have hg' := not_lt hg
          go_wp2
          go_round
          case rel => exact ⟨k + 2, fold16 (t + c * 256), by have := HL.out; omega, by go_num, by rw [fold16, if_neg (by omega)], (fold16_bd _ (by omega) (by omega)).1, (fold16_bd _ (by omega) (by omega)).2, by rw [csum_end zs _ _ (by have := HL.out; omega), ← csum_one zs k t c (by have := HL.out; omega) HC.out]; exact HP.out⟩
          case measure => simp [intOf]; omega
    · go_wp2
      go_ret2
      exact ⟨ret_pair (by rw [← HP.out, csum_end zs k t (by have := HL.out; omega)]; rfl) rfl, rfl⟩

theorem implChecksum_no (a : Option Addr) (n cap : Nat) (w : World) (hn : 4000 < (n : Int)) :
    Calls Tryd.prog 25 #[.slice a n cap] w fun e w' => e = .returned (.tuple #[.int .i64 0, .bool false]) ∧ w = w' := by
  go_enter Tryd.func25, Tryd.ntmps25
  go_wp2_with (go_at_call 49; refine (areBytes_false _ _ _ _ hn).mono ?_; rintro e w' ⟨rfl, rfl⟩)
  go_ret2
  exact ⟨rfl, rfl⟩
theorem specChecksum_no (a : Option Addr) (n cap : Nat) (w : World) (hn : 4000 < (n : Int)) :
    Calls Tryd.prog 26 #[.slice a n cap] w fun e w' => e = .returned (.tuple #[.int .i64 0, .bool false]) ∧ w = w' := by
  go_enter Tryd.func26, Tryd.ntmps26
  go_wp2_with (go_at_call 43; refine (scBytes_false _ _ hn).mono ?_; rintro e w' ⟨rfl, rfl⟩)
  go_ret2
  exact ⟨rfl, rfl⟩

def SumRel (n : Nat) (zs : List Int) (s i : Value) : Prop := ∃ (k : Nat) (t : Int), k ≤ n ∧ i = .int .i64 k ∧ s = .int .i64 t ∧ 0 ≤ t ∧ t ≤ 65535 ∧ ssum (decide (k % 2 = 0)) (zs.drop k) t = ssum true zs 0
theorem fold16_mod (t : Int) (h0 : 0 ≤ t) (h1 : t ≤ 131070) : t % 65536 + t / 65536 = fold16 t := by
  unfold fold16
  split <;> omega

set_option maxHeartbeats 800000 in
theorem scSum_some (b off n cap : Nat) (zs : List Int) (w : World) (HL : Hid (zs.length = n)) (HR : Hid (Row w b off zs)) (hn : (n : Int) ≤ 4000) :
    Calls Tryd.prog 51 #[.slice (some ⟨b, off, none⟩) n cap] w fun e w' => e = .returned (.int .i64 (ssum true zs 0)) ∧ w = w' := by
  go_enter Tryd.func51, Tryd.ntmps51
  go_wp2
  go_loop [3, 9] (fun s i => SumRel n zs s i) (fun _ i => n - (intOf i).toNat)
  case atStart => exact ⟨0, 0, Nat.zero_le _, rfl, rfl, by omega, by omega, rfl⟩
  case round =>
    obtain ⟨k, t, hk, rfl, rfl, t0, t1, hp⟩ := hrel
    have HP := Lib.hid hp
    clear hp
    by_cases hlt : k < n
    · obtain ⟨c, HC, c0, c1, hcell⟩ := HR.out.at k (by have := HL.out; omega)
      by_cases hev : k % 2 = 0
      · have e0 : ((k : Int) % 2 == 0) = true := by simp; omega
        go_wp2
        go_round
        case rel =>
          have HP' := HP.out
          rw [show decide (k % 2 = 0) = true by simp; omega, ssum_even zs k t c (by have := HL.out; omega) HC.out] at HP'
          exact ⟨k + 1, fold16 (t + c * 256), by omega, by go_num, by rw [← fold16_mod _ (by omega) (by omega)], (fold16_bd _ (by omega) (by omega)).1, (fold16_bd _ (by omega) (by omega)).2, by rw [show decide ((k + 1) % 2 = 0) = false by simp; omega]; exact HP'⟩
        case measure => simp [intOf]; omega
      · have e0 : ((k : Int) % 2 == 0) = false := by simp; omega
        go_wp2
        go_round
        case rel =>
          have HP' := HP.out
          rw [show decide (k % 2 = 0) = false by simp; omega, ssum_odd zs k t c (by have := HL.out; omega) HC.out] at HP'
          exact ⟨k + 1, fold16 (t + c), by omega, by go_num, by rw [← fold16_mod _ (by omega) (by omega)], (fold16_bd _ (by omega) (by omega)).1, (fold16_bd _ (by omega) (by omega)).2, by rw [show decide ((k + 1) % 2 = 0) = true by simp; omega]; exact HP'⟩
        case measure => simp [intOf]; omega
    · go_wp2
      go_ret
      exact ⟨ret_int (by rw [← HP.out, ssum_end _ zs k t (by have := HL.out; omega)]), rfl⟩

theorem csum_bd : ∀ (l : List Int) (s : Int), 0 ≤ s → s ≤ 65535 → (∀ n ∈ l, 0 ≤ n ∧ n ≤ 255) → 0 ≤ csum l s ∧ csum l s ≤ 65535
  | [], s, h0, h1, _ => by simp only [csum]; omega
  | [a], s, h0, h1, hr => by
    have ha := hr a (by simp)
    simp only [csum]
    exact fold16_bd _ (by omega) (by omega)
  | a :: b :: r, s, h0, h1, hr => by
    have ha := hr a (by simp)
    have hb := hr b (by simp)
    have hbd := fold16_bd (s + a * 256 + b) (by omega) (by omega)
    simp only [csum]
    exact csum_bd r _ hbd.1 hbd.2 (fun n hn => hr n (by simp [hn]))
theorem specChecksum_some (b off n cap : Nat) (zs : List Int) (w : World) (HL : Hid (zs.length = n)) (HR : Hid (Row w b off zs)) (hn : (n : Int) ≤ 4000) :
    Calls Tryd.prog 26 #[.slice (some ⟨b, off, none⟩) n cap] w fun e w' => e = .returned (.tuple #[.int .i64 (65535 - csum zs 0), .bool true]) ∧ w = w' := by
  have hbd := csum_bd zs 0 (by omega) (by omega) HR.out.2
  have HE := Lib.hid (csum_ssum zs 0 (by omega) (by omega) HR.out.2)
  rw [HE.out] at hbd
  rw [HE.out]
  obtain ⟨b0, b1⟩ := hbd
  go_enter Tryd.func26, Tryd.ntmps26
  go_wp2_with (first | (go_at_call 43; refine (scBytes_true _ _ hn).mono ?_; rintro e w' ⟨rfl, rfl⟩) | (go_at_call 51; refine (scSum_some _ _ _ _ _ _ HL HR hn).mono ?_; rintro e w' ⟨rfl, rfl⟩))
  go_ret2
  exact ⟨rfl, rfl⟩

/-- both functions answer the same -/
theorem checksum_both (n : Nat) (zs : List Int) (HL : Hid (zs.length = n)) : ∃ (r : Int) (ok : Bool),
    Hid (∀ (b off cap : Nat) (w : World), Hid (Row w b off zs) → n ≤ cap → Calls Tryd.prog 25 #[.slice (some ⟨b, off, none⟩) n cap] w fun e w' => e = .returned (.tuple #[.int .i64 r, .bool ok]) ∧ w = w') ∧
    Hid (∀ (b off cap : Nat) (w : World), Hid (Row w b off zs) → n ≤ cap → Calls Tryd.prog 26 #[.slice (some ⟨b, off, none⟩) n cap] w fun e w' => e = .returned (.tuple #[.int .i64 r, .bool ok]) ∧ w = w') := by
  rcases Int.lt_or_le 4000 n with h | h
  · exact ⟨0, false, fun b off cap w _ _ => implChecksum_no _ _ _ _ h, fun b off cap w _ _ => specChecksum_no _ _ _ _ h⟩
  · exact ⟨65535 - csum zs 0, true, fun b off cap w HR _ => implChecksum_some b off n cap zs w HL HR h, fun b off cap w HR _ => specChecksum_some b off n cap zs w HL HR h⟩
end Go.Proofs.YtniggnjnpapkeabDoor
