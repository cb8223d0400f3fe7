/- FnLittle's functions at no bytes. -/
import Derived.Test.YtelkpdkpnaeggaaLml
import Derived.Laws.AppendOwnNone
namespace Go.Proofs.Ytelkpdkpnaeggaa
open Go.RowKit

theorem implChecksum_none (a : Option Addr) (cap : Nat) (w : World) :
    Calls Try.prog 21 #[.slice a 0 cap] w fun e w' => e = .returned (.tuple #[.int .i64 (65535 - csum [] 0), .bool true]) ∧ w = w' := by
  have t : (0 : Int) ≤ 4000 := by omega
  go_enter Try.func21, Try.ntmps21
  go_wp2_with (go_at_call 38; refine (areBytes_true _ _ _ _ t).mono ?_; rintro e w' ⟨rfl, rfl⟩)
  refine wp_loop_rounds 1 ?_
  rw [rounds_succ]
  go_wp2
  go_ret2
  exact ⟨rfl, rfl⟩
theorem rlBad_none (lo wd : Int) : rlBad 0 lo wd := by
  unfold rlBad
  by_cases hw : IsW wd
  · have := W_bd hw
    by_cases h : lo < 0
    · exact .inr (.inr (.inl ⟨by omega, hw, h⟩))
    · exact .inr (.inr (.inr ⟨by omega, hw, by omega, by omega⟩))
  · exact .inr (.inl ⟨by omega, hw⟩)

set_option maxHeartbeats 800000 in
theorem implPad_nil (by' : Int) (w : World) (HA : Hid (alB 0 by' = true ∧ alR 0 by' = 0)) :
    Calls Try.prog 14 #[.slice none 0 0, .int .i64 by'] w (Gives w 0 (padded [] 0)) := by
  obtain ⟨i0, hi, hz0, hz1, hz2⟩ := info_parts infoU8
  have t0 : decide ((4000 : Int) < 0) = false := by decide
  go_enter Try.func14, Try.ntmps14
  go_wp2_with (first | (go_at_call 17; refine (implAlignUp_any _ _ _).mono ?_; rw [HA.out.1, HA.out.2]; rintro e w' ⟨rfl, rfl⟩) | (at_make; refine wpList_make_full _ rfl _ _ 22 rfl w.heap.size 5 i0 (.int .u8 0) 1 Try.underlying22 hi hz0 hz1 .i64 .i64 _ _ 0 rfl rfl (by rfl) (by rfl) (by omega) (by unfold maxLen; omega) (Nat.le_refl _) ?_; intro w0 hown0 hgrow0; have HO := Lib.hid (madeB hown0); have HB := Lib.hid ((Below.refl w.heap.size w).grown hgrow0 (Nat.le_refl _) (by intro k h; cases h)); clear hown0 hgrow0) | (with_reducible refine wpList_copy_nothing rfl _ _ 22 22 rfl 5 Try.underlying22 sizeU8 _ _ _ _ _ _ rfl rfl rfl ?_))
  go_ret2
  exact ⟨w.heap.size, 0, rfl, HO.out, HB.out⟩

set_option maxHeartbeats 1600000 in
theorem scPad_nil (by' : Int) (w : World) (h2 : 1 ≤ by') (h3 : by' ≤ 16) (HA : Hid (((0 : Int) + by' - 1) / by' * by' = 0)) :
    Calls Try.prog 43 #[.slice none 0 0, .int .i64 by'] w (GivesRow w 0 (padded [] 0)) := by
  obtain ⟨i0, hi, hz0, hz1, hz2⟩ := info_parts infoU8
  have HE := Lib.hid (World.ownsRow_lit (base := w.heap.size) (e := 5) (size := 1) w #[] 0 (Nat.le_refl _) (by unfold maxLen; omega) rfl)
  have HOE : Hid (OwnB (w.alloc (.cells #[] 5)) w.heap.size w.heap.size 0 0 []) := HE
  obtain ⟨w2, g2, c2, HZ, O2, B2⟩ := zeros_sub (w.alloc (.cells #[] 5)) 22 w.heap.size w.heap.size 0 0 0 [] HOE.out (by simp) (Nat.le_refl _) (by omega)
  go_enter Try.func43, Try.ntmps43
  go_wp2_with (first
    | (at_builtin; refine wpList_append_own_none rfl _ _ 22 rfl w.heap.size 5 i0 1 Try.underlying22 hi _ 0 [] rfl HE.out rfl ?_)
    | (at_builtin; refine Lib.wpList_append_run _ rfl _ _ _ _ rfl _ _ rfl rfl _ _ HZ.out ?_)
    | (go_at_call 42; refine (scAlign_any _ _ _ (by omega) (by omega) h2 h3).mono ?_; rw [HA.out]; rintro e w' ⟨rfl, rfl⟩))
  go_ret
  exact ⟨g2, c2, rfl, O2.out, ((Below.refl w.heap.size w).alloc (Nat.le_refl _) _).trans B2.out⟩

set_option maxHeartbeats 800000 in
theorem specPad_nil (by' : Int) (w : World) (h2 : 1 ≤ by') (h3 : by' ≤ 16) (HA : Hid (((0 : Int) + by' - 1) / by' * by' = 0)) :
    Calls Try.prog 15 #[.slice none 0 0, .int .i64 by'] w (Gives w 0 (padded [] 0)) := by
  go_enter Try.func15, Try.ntmps15
  go_wp2_with (first | (go_at_call 39; refine (scBytes_true _ _ (by omega)).mono ?_; rintro e w' ⟨rfl, rfl⟩) | (go_at_call 34; refine (l1In_true _ _ _ _ h2 h3).mono ?_; rintro e w' ⟨rfl, rfl⟩) | (go_at_call 42; refine (scAlign_any _ _ _ (by omega) (by omega) h2 h3).mono ?_; rw [HA.out]; rintro e w' ⟨rfl, rfl⟩) | (go_at_call 43; refine (scPad_nil _ _ h2 h3 HA).mono ?_; rintro e w' ⟨g, c, rfl, ho, hb⟩; have HO := Lib.hid ho; have HB := Lib.hid hb; clear ho hb))
  go_ret2
  exact ⟨_, _, rfl, HO.out, HB.out⟩

/-- bytes that a law drew: nothing, or a row -/
def SrcAt (w : World) (da : Option Addr) (l dc : Nat) (ys : List Int) : Prop :=
  (da = none ∧ l = 0 ∧ dc = 0 ∧ ys = []) ∨ ∃ g, da = some ⟨g, 0, none⟩ ∧ g < w.heap.size ∧ Row w g 0 ys
theorem OwnV.src {w : World} {B l dc : Nat} {da : Option Addr} {ys : List Int} (h : OwnV w B (.slice da l dc) l ys) (hr : ∀ c ∈ ys, 0 ≤ c ∧ c ≤ 255) : ys.length = l ∧ SrcAt w da l dc ys := by
  have h1 : ys.length = l := by have := h.1; rw [bv_length] at this; omega
  refine ⟨h1, ?_⟩
  rcases h.2 with ⟨hv, h0⟩ | ⟨g, cap, cur, hv, _⟩
  · cases hv
    exact .inl ⟨rfl, rfl, rfl, List.length_eq_zero_iff.1 h1⟩
  · cases hv
    exact .inr ⟨g, rfl, (OwnB.lt h).2, OwnB.row h hr⟩
theorem SrcAt.below {w w' : World} {da : Option Addr} {l dc : Nat} {ys : List Int} (h : SrcAt w da l dc ys) (hb : Below w.heap.size w w') : SrcAt w' da l dc ys := by
  rcases h with h | ⟨g, e, hg, hr⟩
  · exact .inl h
  · exact .inr ⟨g, e, Nat.lt_of_lt_of_le hg hb.size, hr.below hb hg⟩

/-- padding: both functions answer the same, at drawn bytes -/
theorem padTo_src (l : Nat) (ys : List Int) (by' : Int) (HL : Hid (ys.length = l)) :
    (Hid (∀ a cap w, Calls Try.prog 14 #[.slice a l cap, .int .i64 by'] w (GivesNone w)) ∧ Hid (∀ a cap w, Calls Try.prog 15 #[.slice a l cap, .int .i64 by'] w (GivesNone w))) ∨
    ∃ s : Nat, l ≤ s ∧ s ≤ 4000 ∧ Hid (1 ≤ by' ∧ by' ≤ 16 ∧ ((l : Int) + by' - 1) / by' * by' = (s : Int)) ∧
      Hid (∀ da dc w, Hid (SrcAt w da l dc ys) → Calls Try.prog 14 #[.slice da l dc, .int .i64 by'] w (Gives w s (padded ys s))) ∧
      Hid (∀ da dc w, Hid (SrcAt w da l dc ys) → Calls Try.prog 15 #[.slice da l dc, .int .i64 by'] w (Gives w s (padded ys s))) := by
  rcases padTo_both l ys by' HL with h | ⟨s, h0, h1, h2, h3, h4⟩
  · exact .inl h
  · have hb := h2.out
    refine .inr ⟨s, h0, h1, h2, fun da dc w hs => ?_, fun da dc w hs => ?_⟩
    · rcases hs.out with ⟨rfl, rfl, rfl, rfl⟩ | ⟨g, rfl, hg, hr⟩
      · have hq := quo_mul 0 by' (by omega) (by omega) hb.1 hb.2.1
        have e := hb.2.2
        have es : s = 0 := by
          have hz : ((0 : Nat) : Int) + by' - 1 = 0 + by' - 1 := by omega
          rw [hz] at e
          have hlt : (0 + by' - 1) / by' = 0 := Int.ediv_eq_zero_of_lt (by omega) (by omega)
          rw [hlt] at e; omega
        subst es
        have ha := al_yes (n := 0) (b := by') ⟨by omega, by omega, hb.1, hb.2.1⟩
        exact implPad_nil by' w ⟨ha.1, ha.2.trans e⟩
      · exact h3.out g 0 dc w hr hg
    · rcases hs.out with ⟨rfl, rfl, rfl, rfl⟩ | ⟨g, rfl, hg, hr⟩
      · have e := hb.2.2
        have es : s = 0 := by
          have hz : ((0 : Nat) : Int) + by' - 1 = 0 + by' - 1 := by omega
          rw [hz] at e
          have hlt : (0 + by' - 1) / by' = 0 := Int.ediv_eq_zero_of_lt (by omega) (by omega)
          rw [hlt] at e; omega
        subst es
        exact specPad_nil by' w hb.1 hb.2.1 e
      · exact h4.out g 0 dc w hr hg
/-- reading: both functions answer the same, at drawn bytes -/
theorem readLittle_src (l : Nat) (ys : List Int) (lo wd : Int) (HL : Hid (ys.length = l)) : ∃ (r : Int) (ok : Bool),
    Hid (∀ da dc w, l ≤ dc → Hid (SrcAt w da l dc ys) → Calls Try.prog 11 #[.slice da l dc, .int .i64 lo, .int .i64 wd] w fun e w' => e = .returned (.tuple #[.int .i64 r, .bool ok]) ∧ w = w') ∧
    Hid (∀ da dc w, l ≤ dc → Hid (SrcAt w da l dc ys) → Calls Try.prog 12 #[.slice da l dc, .int .i64 lo, .int .i64 wd] w fun e w' => e = .returned (.tuple #[.int .i64 r, .bool ok]) ∧ w = w') := by
  rcases Nat.eq_zero_or_pos l with rfl | hp
  · exact ⟨0, false, fun da dc w _ _ => implRead_no da 0 dc lo wd w (rlBad_none lo wd), fun da dc w _ _ => specRead_no da 0 dc lo wd w (rlBad_none lo wd)⟩
  · obtain ⟨r, ok, h1, h2⟩ := readLittle_both l ys lo wd HL
    refine ⟨r, ok, fun da dc w hc hs => ?_, fun da dc w hc hs => ?_⟩
    · rcases hs.out with ⟨_, h0, _⟩ | ⟨g, rfl, hg, hr⟩
      · omega
      · exact h1.out g 0 dc w hr hc
    · rcases hs.out with ⟨_, h0, _⟩ | ⟨g, rfl, hg, hr⟩
      · omega
      · exact h2.out g 0 dc w hr hc
/-- the program's sum at drawn bytes -/
theorem checksum_src (l : Nat) (ys : List Int) (HL : Hid (ys.length = l)) (hn : (l : Int) ≤ 4000) (da : Option Addr) (dc : Nat) (w : World) (hs : Hid (SrcAt w da l dc ys)) :
    Calls Try.prog 21 #[.slice da l dc] w fun e w' => e = .returned (.tuple #[.int .i64 (65535 - csum ys 0), .bool true]) ∧ w = w' := by
  rcases hs.out with ⟨rfl, rfl, rfl, rfl⟩ | ⟨g, rfl, hg, hr⟩
  · exact implChecksum_none _ _ _
  · exact implChecksum_some g 0 l dc ys w HL hr hn
end Go.Proofs.Ytelkpdkpnaeggaa
