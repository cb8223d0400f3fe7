/- The program's check of a name and of a whole configuration. -/
import Derived.Test.YtfijhgggljaomaaDoorCph
namespace Go.Proofs.YtfijhgggljaomaaDoor
set_option maxRecDepth 100000
open Go.RowKit
set_option linter.unusedVariables false

theorem nm_empty {s : ByteArray} (h : s.size = 0) : s = ⟨#[]⟩ := by
  obtain ⟨⟨l⟩⟩ := s
  simp [ByteArray.size] at h
  rw [h]
theorem nm_full {s : ByteArray} (h : 0 < s.size) : (s.toList == []) = false ∧ s.toList.isEmpty = false := by
  have e : s.toList ≠ [] := by
    rw [ByteArray.toList_eq]
    intro e
    have q : s.data.size = 0 := by rw [← Array.length_toList, e]; rfl
    have q2 : s.size = s.data.size := rfl
    omega
  cases hl : s.toList with
  | nil => exact absurd hl e
  | cons a r => exact ⟨rfl, rfl⟩
set_option maxHeartbeats 1600000 in
theorem isConfigName_any (s : ByteArray) (w : World) (hs : s.size ≤ 1048576) (hK : Hid (Kwt w)) :
    Calls Tryd.prog 39 #[.string s] w (SaysB w (nmG s)) := by
  have HX : Hid (nmG s = ((alB s.data.toList && (decide (1 ≤ s.size) && decide (s.size ≤ 8))) && !isKw s)) := Lib.hid rfl
  have HW := Lib.hid (fun w => isWord_any s w hs)
  have HKW := Lib.hid (fun w hK => implIsKey_any s w hK)
  rw [wd_al] at HW
  generalize nmG s = R at HX ⊢
  rcases Nat.eq_zero_or_pos s.size with h0 | h0
  · have HR : Hid (R = false) := Lib.hid (by rw [HX.out, decide_eq_false (show ¬ 1 ≤ s.size by omega)]; simp)
    have e := nm_empty h0
    subst e
    clear HX HW HKW h0 hs
    go_enter Tryd.func39, Tryd.ntmps39
    go_wp2_with fail
    go_ret
    exact ⟨ret_bool HR.out.symm, Below.refl _ _⟩
  obtain ⟨q1, q2⟩ := nm_full h0
  by_cases h8 : 8 < s.size
  · have HR : Hid (R = false) := Lib.hid (by rw [HX.out, decide_eq_false (show ¬ s.size ≤ 8 by omega)]; simp)
    have d8 := not_le (show (8 : Int) < (s.size : Int) by omega)
    clear HX HW HKW h0 hs h8
    go_enter Tryd.func39, Tryd.ntmps39
    go_wp2_with fail
    go_ret
    exact ⟨ret_bool HR.out.symm, Below.refl _ _⟩
  have d8 := is_le (show (s.size : Int) ≤ 8 by omega)
  rw [decide_eq_true (show s.size ≤ 12 by omega), Bool.and_true] at HW
  have HY : Hid (R = (alB s.data.toList && !isKw s)) := Lib.hid (by rw [HX.out, decide_eq_true (show 1 ≤ s.size by omega), decide_eq_true (show s.size ≤ 8 by omega)]; simp)
  generalize alB s.data.toList = b1 at HY HW
  generalize isKw s = b2 at HY HKW
  clear HX h0 h8
  cases b1
  · have HR : Hid (R = false) := Lib.hid (by rw [HY.out]; rfl)
    go_enter Tryd.func39, Tryd.ntmps39
    go_wp2_with (go_at_call 70; refine (HW.out _).mono ?_; rintro e w1 ⟨rfl, b1⟩; have B1 := Lib.hid b1; clear b1)
    go_ret
    exact ⟨ret_bool HR.out.symm, B1.out⟩
  · have HR : Hid (R = !b2) := Lib.hid (by rw [HY.out]; rfl)
    go_enter Tryd.func39, Tryd.ntmps39
    go_wp2_with (go_at_call 70; refine (HW.out _).mono ?_; rintro e w1 ⟨rfl, b1⟩; have B1 := Lib.hid b1; clear b1)
    go_wp2_with (go_at_call 71; refine (HKW.out _ (Lib.hid (hK.out.below B1.out))).mono ?_; rintro e w2 ⟨rfl, rfl⟩)
    go_ret
    exact ⟨ret_bool HR.out.symm, B1.out⟩
end Go.Proofs.YtfijhgggljaomaaDoor
