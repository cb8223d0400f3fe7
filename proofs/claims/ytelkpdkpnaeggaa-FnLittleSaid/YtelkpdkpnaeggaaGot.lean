/- Answers with bytes in one form: nothing, or a row of the call's own. -/
import Derived.Test.YtelkpdkpnaeggaaNil
namespace Go.Proofs.Ytelkpdkpnaeggaa
open Go.RowKit

def Got (w : World) (ok : Bool) (n : Nat) (zs : List Int) (e : Ending) (w' : World) : Prop :=
  ∃ (a : Option Addr) (c : Nat), e = .returned (.tuple #[.slice a n c, .bool ok]) ∧ n ≤ c ∧ SrcAt w' a n c zs ∧ Below w.heap.size w w'
theorem Got.of_none {w : World} {e : Ending} {w' : World} (h : GivesNone w e w') : Got w false 0 [] e w' := by
  obtain ⟨rfl, rfl⟩ := h
  exact ⟨none, 0, rfl, Nat.le_refl _, .inl ⟨rfl, rfl, rfl, rfl⟩, Below.refl _ _⟩
theorem OwnB.cap {w : World} {B g n cap : Nat} {zs : List Int} (h : OwnB w B g n cap zs) : n ≤ cap := by
  rcases h.2 with ⟨hv, h0⟩ | ⟨g, cap, cur, hv, _, hb⟩
  · cases hv
  · cases hv
    have := hb.2
    simp_all
theorem Got.of_some {w : World} {n : Nat} {zs : List Int} {e : Ending} {w' : World} (hr : ∀ c ∈ zs, 0 ≤ c ∧ c ≤ 255) (h : Gives w n zs e w') : Got w true n zs e w' := by
  obtain ⟨g, cap, rfl, ho, hb⟩ := h
  exact ⟨_, _, rfl, ho.cap, .inr ⟨g, rfl, ho.lt.2, ho.row hr⟩, hb⟩
theorem SrcAt.len {w : World} {B l dc : Nat} {da : Option Addr} {ys : List Int} (h : OwnV w B (.slice da l dc) l ys) : l ≤ dc := by
  rcases h.2 with ⟨hv, h0⟩ | ⟨g, cap, cur, hv, _⟩
  · omega
  · cases hv
    exact OwnB.cap h
theorem qBytes_src (a b : Option Addr) (n ca cb : Nat) (zs : List Int) (w : World) (HL : Hid (zs.length = n)) (HA : Hid (SrcAt w a n ca zs)) (HB : Hid (SrcAt w b n cb zs)) (hm : n ≤ 1048576) :
    Calls Try.prog 19 #[.slice a n ca, .slice b n cb] w (SaysDrawn w true) := by
  rcases Nat.eq_zero_or_pos n with rfl | hp
  · exact (qBytes_none a b ca cb w).mono fun _ _ h => h
  · rcases HA.out with ⟨_, h0, _⟩ | ⟨ga, rfl, _, hra⟩
    · omega
    · rcases HB.out with ⟨_, h0, _⟩ | ⟨gb, rfl, _, hrb⟩
      · omega
      · exact qBytes_same ga 0 gb 0 n ca cb zs w HL hra hrb hm

theorem writeLittle_got (n wd : Int) : ∃ (ok : Bool) (k : Nat) (zs : List Int), k ≤ 4 ∧ Hid (zs.length = k) ∧
    Hid (ok = true → IsW wd ∧ wd = k ∧ leV zs k = n) ∧
    Hid (∀ w, Calls Try.prog 8 #[.int .i64 n, .int .i64 wd] w (Got w ok k zs)) ∧ Hid (∀ w, Calls Try.prog 9 #[.int .i64 n, .int .i64 wd] w (Got w ok k zs)) := by
  by_cases hw : IsW wd
  · by_cases h : n < 0 ∨ 256 ^ wd.toNat ≤ n
    · refine ⟨false, 0, [], by omega, rfl, fun h => by (cases h), fun w => ?_, fun w => (specWrite_no n wd w hw h).mono fun _ _ => Got.of_none⟩
      rcases Int.lt_or_le n 0 with c | c
      · exact (implWrite_neg n wd w c hw).mono fun _ _ => Got.of_none
      · rcases hw with rfl | rfl | rfl
        · exact (implWrite_1_no n w c (by simpa using h.resolve_left (by omega))).mono fun _ _ => Got.of_none
        · exact (implWrite_2_no n w c (by simpa using h.resolve_left (by omega))).mono fun _ _ => Got.of_none
        · exact (implWrite_4_no n w c (by simpa using h.resolve_left (by omega))).mono fun _ _ => Got.of_none
    · have h0 : 0 ≤ n := by omega
      have h1 : n < 256 ^ wd.toNat := by omega
      have hb := W_bd hw
      refine ⟨true, wd.toNat, wl n wd.toNat, by omega, wl_length _ _, fun _ => ⟨hw, by omega, leV_wl n wd hw h0 h1⟩, fun w => ?_, fun w => (specWrite_yes n wd w hw h0 h1).mono fun _ _ => Got.of_some (wl_range _ _)⟩
      rcases hw with rfl | rfl | rfl
      · exact (implWrite_1 n w h0 (by simpa using h1)).mono fun _ _ => Got.of_some (wl_range _ _)
      · exact (implWrite_2 n w h0 (by simpa using h1)).mono fun _ _ => Got.of_some (wl_range _ _)
      · exact (implWrite_4 n w h0 (by simpa using h1)).mono fun _ _ => Got.of_some (wl_range _ _)
  · exact ⟨false, 0, [], by omega, rfl, fun h => by (cases h), fun w => (implWrite_width n wd w hw).mono fun _ _ => Got.of_none, fun w => (specWrite_width n wd w hw).mono fun _ _ => Got.of_none⟩

theorem padTo_got (l : Nat) (ys : List Int) (by' : Int) (HL : Hid (ys.length = l)) (hr : ∀ c ∈ ys, 0 ≤ c ∧ c ≤ 255) : ∃ (ok : Bool) (s : Nat) (zs : List Int), s ≤ 4000 ∧ Hid (zs.length = s) ∧
    Hid (ok = true → l ≤ s ∧ 1 ≤ by' ∧ by' ≤ 16 ∧ (s : Int) % by' = 0 ∧ zs = padded ys s) ∧
    Hid (∀ da dc w, Hid (SrcAt w da l dc ys) → Calls Try.prog 14 #[.slice da l dc, .int .i64 by'] w (Got w ok s zs)) ∧
    Hid (∀ da dc w, Hid (SrcAt w da l dc ys) → Calls Try.prog 15 #[.slice da l dc, .int .i64 by'] w (Got w ok s zs)) := by
  rcases padTo_src l ys by' HL with ⟨h1, h2⟩ | ⟨s, h0, h1, h2, h3, h4⟩
  · exact ⟨false, 0, [], by omega, rfl, fun h => by (cases h), fun da dc w _ => (h1.out da dc w).mono fun _ _ => Got.of_none, fun da dc w _ => (h2.out da dc w).mono fun _ _ => Got.of_none⟩
  · have hb := h2.out
    refine ⟨true, s, padded ys s, h1, padded_length _ _ (by have := HL.out; omega), fun _ => ⟨h0, hb.1, hb.2.1, ?_, rfl⟩, fun da dc w hs => (h3.out da dc w hs).mono fun _ _ => Got.of_some (padded_range _ _ hr), fun da dc w hs => (h4.out da dc w hs).mono fun _ _ => Got.of_some (padded_range _ _ hr)⟩
    rw [← hb.2.2]
    exact Int.mul_emod_left _ _

theorem alignUp_got (n b : Int) : ∃ (ok : Bool) (r : Int),
    Hid (ok = true → decide (r < n) = false ∧ decide (n + b ≤ r) = false ∧ (r % b != 0) = false ∧ 0 ≤ n ∧ n ≤ 1000000 ∧ 1 ≤ b ∧ b ≤ 16 ∧ 0 ≤ r ∧ r ≤ 1000015) ∧
    Hid (∀ w, Calls Try.prog 17 #[.int .i64 n, .int .i64 b] w fun e w' => e = .returned (.tuple #[.int .i64 r, .bool ok]) ∧ w = w') ∧
    Hid (∀ w, Calls Try.prog 18 #[.int .i64 n, .int .i64 b] w fun e w' => e = .returned (.tuple #[.int .i64 r, .bool ok]) ∧ w = w') := by
  refine ⟨alB n b, alR n b, fun h => ?_, fun w => implAlignUp_any n b w, fun w => specAlignUp_any n b w⟩
  have hb : 0 ≤ n ∧ n ≤ 1000000 ∧ 1 ≤ b ∧ b ≤ 16 := by simpa [alB] using h
  obtain ⟨c0, c1, c2, c3⟩ := hb
  obtain ⟨q0, q1, q2, q3, q4, q5⟩ := quo_mul n b c0 c1 c2 c3
  rw [(al_yes (n := n) (b := b) ⟨c0, c1, c2, c3⟩).2]
  refine ⟨not_lt q4, not_le q5, ?_, c0, c1, c2, c3, q2, q3⟩
  rw [Int.mul_emod_left]
  rfl
theorem implIsPadded_zero (a : Option Addr) (cap : Nat) (w : World) :
    Calls Try.prog 20 #[.slice a 0 cap, .int .i64 0, .int .i64 0] w fun e w' => e = .returned (.tuple #[.bool true, .bool true]) ∧ w = w' := by
  have t : (0 : Int) ≤ 4000 := by omega
  go_enter Try.func20, Try.ntmps20
  go_wp2_with (go_at_call 38; refine (areBytes_true _ _ _ _ t).mono ?_; rintro e w' ⟨rfl, rfl⟩)
  refine wp_loop_rounds 1 ?_
  rw [rounds_succ]
  go_wp2
  go_ret2
  exact ⟨rfl, rfl⟩
theorem isPadded_src (m s : Nat) (us : List Int) (hs : s ≤ 4000) (hm : m ≤ s) (HL : Hid (us.length = m)) (a : Option Addr) (cap : Nat) (w : World) (hA : Hid (SrcAt w a s cap (padded us s))) :
    Calls Try.prog 20 #[.slice a s cap, .int .i64 m, .int .i64 s] w fun e w' => e = .returned (.tuple #[.bool true, .bool true]) ∧ w = w' := by
  rcases hA.out with ⟨rfl, rfl, rfl, _⟩ | ⟨g, rfl, hg, hr⟩
  · have : m = 0 := by omega
    subst this
    exact implIsPadded_zero _ _ _
  · have h := implIsPadded_yes g 0 s cap (padded us s) m s w (padded_length _ _ (by have := HL.out; omega)) hr (by omega) (by omega) (by omega) (by omega)
    have e : pz (padded us s) m s = true := by
      have := pz_padded us s (by have := HL.out; omega)
      rw [HL.out] at this
      exact this
    rw [e] at h
    exact h
theorem readBack_src (k : Nat) (z : List Int) (n wd : Int) (HL : Hid (z.length = k)) (hk : k ≤ 4) (hw : IsW wd) (hwk : wd = k) (hv : leV z k = n) (a : Option Addr) (cap : Nat) (w : World) (hA : Hid (SrcAt w a k cap z)) :
    Calls Try.prog 11 #[.slice a k cap, .int .i64 0, .int .i64 wd] w fun e w' => e = .returned (.tuple #[.int .i64 n, .bool true]) ∧ w = w' := by
  have hb := W_bd hw
  rcases hA.out with ⟨_, h0, _⟩ | ⟨g, rfl, hg, hr⟩
  · omega
  · have h := implRead_some g 0 k cap z 0 wd w HL hr (by omega) (by omega) (by omega) hw
    have e : leV (z.drop (0 : Int).toNat) wd.toNat = n := by
      have : wd.toNat = k := by omega
      rw [this]
      simpa using hv
    rw [e] at h
    exact h
end Go.Proofs.Ytelkpdkpnaeggaa
