/- Checksums and padding at drawn bytes: both functions answer the same. -/
import Derived.Test.YtniggnjnpapkeabDoorSrc
import Derived.Test.YtniggnjnpapkeabDoorPad
import Derived.Test.YtniggnjnpapkeabDoorChk
namespace Go.Proofs.YtniggnjnpapkeabDoor
set_option maxRecDepth 100000
open Go.RowKit

theorem implPadded_nil (w : World) :
    Calls Tryd.prog 20 #[.slice none 0 0, .int .i64 0, .int .i64 0] w fun e w' => e = .returned (.tuple #[.bool true, .bool true]) ∧ w = w' := by
  have t : (0 : Int) ≤ 4000 := by omega
  go_enter Tryd.func20, Tryd.ntmps20
  go_wp2_with (go_at_call 49; refine (areBytes_true _ _ _ _ t).mono ?_; rintro e w' ⟨rfl, rfl⟩)
  refine wp_loop_rounds 1 ?_
  rw [rounds_succ]
  go_wp2
  go_ret2
  exact ⟨rfl, rfl⟩
theorem scZero_nil (w : World) : Calls Tryd.prog 50 #[.slice none 0 0] w fun e w' => e = .returned (.bool true) ∧ w = w' := by
  go_enter Tryd.func50, Tryd.ntmps50
  go_wp2
  refine wp_loop_rounds 1 ?_
  rw [rounds_succ]
  go_wp2
  go_ret
  exact ⟨rfl, rfl⟩
theorem specPadded_nil (w : World) :
    Calls Tryd.prog 21 #[.slice none 0 0, .int .i64 0, .int .i64 0] w fun e w' => e = .returned (.tuple #[.bool true, .bool true]) ∧ w = w' := by
  go_enter Tryd.func21, Tryd.ntmps21
  go_wp2_with (first | (go_at_call 43; refine (scBytes_true _ _ (by omega)).mono ?_; rintro e w' ⟨rfl, rfl⟩) | (go_at_call 47; refine (l1In_true _ _ _ _ (by omega) (by omega)).mono ?_; rintro e w' ⟨rfl, rfl⟩) | (go_at_call 50; refine (scZero_nil _).mono ?_; rintro e w' ⟨rfl, rfl⟩))
  go_ret2
  exact ⟨rfl, rfl⟩
theorem padded_srcs (n : Nat) (zs : List Int) (lo hi : Int) (HL : Hid (zs.length = n)) : ∃ r ok : Bool,
    Hid (∀ da dc w, n ≤ dc → Hid (SrcAt w da n dc zs) → Calls Tryd.prog 20 #[.slice da n dc, .int .i64 lo, .int .i64 hi] w fun e w' => e = .returned (.tuple #[.bool r, .bool ok]) ∧ w = w') ∧
    Hid (∀ da dc w, n ≤ dc → Hid (SrcAt w da n dc zs) → Calls Tryd.prog 21 #[.slice da n dc, .int .i64 lo, .int .i64 hi] w fun e w' => e = .returned (.tuple #[.bool r, .bool ok]) ∧ w = w') := by
  by_cases h : ipBad n lo hi
  · exact ⟨false, false, fun _ _ _ _ _ => implIsPadded_no _ _ _ _ _ _ h, fun _ _ _ _ _ => specIsPadded_no _ _ _ _ _ _ h⟩
  · have h' : (n : Int) ≤ 4000 ∧ 0 ≤ lo ∧ lo ≤ hi ∧ hi ≤ n := by unfold ipBad at h; omega
    obtain ⟨h0, h1, h2, h3⟩ := h'
    refine ⟨pz zs lo hi, true, fun da dc w hc hs => ?_, fun da dc w hc hs => ?_⟩
    · rcases hs.out with ⟨rfl, rfl, rfl, rfl⟩ | ⟨g, rfl, hg, hr⟩
      · obtain rfl : lo = 0 := by omega
        obtain rfl : hi = 0 := by omega
        exact implPadded_nil w
      · exact implIsPadded_yes g 0 n dc zs lo hi w HL hr h0 h1 h2 h3
    · rcases hs.out with ⟨rfl, rfl, rfl, rfl⟩ | ⟨g, rfl, hg, hr⟩
      · obtain rfl : lo = 0 := by omega
        obtain rfl : hi = 0 := by omega
        exact specPadded_nil w
      · have e1 : lo = (lo.toNat : Int) := (Int.toNat_of_nonneg h1).symm
        have e2 : hi = (hi.toNat : Int) := (Int.toNat_of_nonneg (by omega)).symm
        rw [e1, e2]
        exact specIsPadded_yes g 0 n dc zs lo.toNat hi.toNat w HL hr h0 (by omega) (by omega) hc
theorem implSum_nil (w : World) :
    Calls Tryd.prog 25 #[.slice none 0 0] w fun e w' => e = .returned (.tuple #[.int .i64 (65535 - csum [] 0), .bool true]) ∧ w = w' := by
  have t : (0 : Int) ≤ 4000 := by omega
  go_enter Tryd.func25, Tryd.ntmps25
  go_wp2_with (go_at_call 49; refine (areBytes_true _ _ _ _ t).mono ?_; rintro e w' ⟨rfl, rfl⟩)
  refine wp_loop_rounds 1 ?_
  rw [rounds_succ]
  go_wp2
  go_ret2
  exact ⟨rfl, rfl⟩
theorem scSum_nil (w : World) : Calls Tryd.prog 51 #[.slice none 0 0] w fun e w' => e = .returned (.int .i64 0) ∧ w = w' := by
  go_enter Tryd.func51, Tryd.ntmps51
  go_wp2
  refine wp_loop_rounds 1 ?_
  rw [rounds_succ]
  go_wp2
  go_ret
  exact ⟨rfl, rfl⟩
theorem specSum_nil (w : World) :
    Calls Tryd.prog 26 #[.slice none 0 0] w fun e w' => e = .returned (.tuple #[.int .i64 (65535 - csum [] 0), .bool true]) ∧ w = w' := by
  go_enter Tryd.func26, Tryd.ntmps26
  go_wp2_with (first | (go_at_call 43; refine (scBytes_true _ _ (by omega)).mono ?_; rintro e w' ⟨rfl, rfl⟩) | (go_at_call 51; refine (scSum_nil _).mono ?_; rintro e w' ⟨rfl, rfl⟩))
  go_ret2
  exact ⟨rfl, rfl⟩
theorem checksum_srcs (n : Nat) (zs : List Int) (HL : Hid (zs.length = n)) : ∃ (r : Int) (ok : Bool),
    Hid (∀ da dc w, Hid (SrcAt w da n dc zs) → Calls Tryd.prog 25 #[.slice da n dc] w fun e w' => e = .returned (.tuple #[.int .i64 r, .bool ok]) ∧ w = w') ∧
    Hid (∀ da dc w, Hid (SrcAt w da n dc zs) → Calls Tryd.prog 26 #[.slice da n dc] w fun e w' => e = .returned (.tuple #[.int .i64 r, .bool ok]) ∧ w = w') := by
  rcases Int.lt_or_le 4000 n with h | h
  · exact ⟨0, false, fun _ _ _ _ => implChecksum_no _ _ _ _ h, fun _ _ _ _ => specChecksum_no _ _ _ _ h⟩
  · refine ⟨65535 - csum zs 0, true, fun da dc w hs => ?_, fun da dc w hs => ?_⟩
    · rcases hs.out with ⟨rfl, rfl, rfl, rfl⟩ | ⟨g, rfl, hg, hr⟩
      · exact implSum_nil w
      · exact implChecksum_some g 0 n dc zs w HL hr h
    · rcases hs.out with ⟨rfl, rfl, rfl, rfl⟩ | ⟨g, rfl, hg, hr⟩
      · exact specSum_nil w
      · exact specChecksum_some g 0 n dc zs w HL hr h
end Go.Proofs.YtniggnjnpapkeabDoor
