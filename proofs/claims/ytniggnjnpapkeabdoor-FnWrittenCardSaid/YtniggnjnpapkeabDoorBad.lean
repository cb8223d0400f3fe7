/- The first byte that may not be in a text: contracts of both functions. -/
import Derived.Test.YtniggnjnpapkeabDoorNum
import Derived.LoopTactic
namespace Go.Proofs.YtniggnjnpapkeabDoor
set_option maxRecDepth 100000
open Go.RowKit

def badL : List UInt8 → Nat
  | [] => 0
  | c :: r => if plainB (c.toNat : Int) then badL r + 1 else 0
theorem badL_le (l : List UInt8) : badL l ≤ l.length := by
  induction l with
  | nil => simp [badL]
  | cons c r ih => unfold badL; split <;> simp; omega
theorem drop_at (s : ByteArray) (k : Nat) (h : k < s.size) : s.data.toList.drop k = s[k] :: s.data.toList.drop (k + 1) := by
  rw [List.drop_eq_getElem_cons (by simpa using h)]; rfl
theorem badL_more (s : ByteArray) (k : Nat) (h : k < s.size) (hp : plainB (s[k].toNat : Int) = true) : badL (s.data.toList.drop k) = badL (s.data.toList.drop (k + 1)) + 1 := by
  rw [drop_at s k h, badL, if_pos hp]
theorem badL_stop (s : ByteArray) (k : Nat) (h : k < s.size) (hp : plainB (s[k].toNat : Int) = false) : badL (s.data.toList.drop k) = 0 := by
  rw [drop_at s k h, badL, if_neg (by rw [hp]; simp)]
theorem badL_end (s : ByteArray) (k : Nat) (h : s.size ≤ k) : badL (s.data.toList.drop k) = 0 := by
  rw [List.drop_eq_nil_of_le (by simpa using h)]; rfl

/-- what both loops say at each round's head -/
def BadRel (s : ByteArray) (v : Value) : Prop := ∃ k : Nat, k ≤ s.size ∧ v = .int .i64 k ∧ k + badL (s.data.toList.drop k) = badL s.data.toList

theorem scBad_any (s : ByteArray) (w : World) (hs : (s.size : Int) ≤ 4000) :
    Calls Tryd.prog 44 #[.string s] w fun e w' => e = .returned (.int .i64 (badL s.data.toList)) ∧ w = w' := by
  go_enter Tryd.func44, Tryd.ntmps44
  go_wp2
  go_loop [3] (fun i => BadRel s i) (fun i => s.size - (intOf i).toNat)
  case atStart => exact ⟨0, Nat.zero_le _, rfl, by simp⟩
  case round =>
    obtain ⟨k, hk, rfl, hb⟩ := hrel
    have HB := Lib.hid hb
    clear hb
    by_cases hlt : k < s.size
    · by_cases hp : plainB (s[k].toNat : Int) = true
      · have HP := Lib.hid hp
        clear hp
        go_wp2_with (go_at_call 56; refine (scPlain_true _ _ HP.out).mono ?_; rintro e w' ⟨rfl, rfl⟩)
        go_round
        case rel => exact ⟨k + 1, by omega, by go_num, by have := HB.out; have := badL_more s k hlt HP.out; omega⟩
        case measure => simp [intOf]; omega
      · have HP := Lib.hid (Bool.eq_false_iff.2 hp)
        clear hp
        go_wp2_with (go_at_call 56; refine (scPlain_false _ _ HP.out).mono ?_; rintro e w' ⟨rfl, rfl⟩)
        go_ret
        exact ⟨ret_int (by have := HB.out; have := badL_stop s k hlt HP.out; omega), rfl⟩
    · go_wp2
      go_ret
      exact ⟨ret_int (by have := HB.out; have := badL_end s k (by omega); omega), rfl⟩

def badB (s : ByteArray) : Bool := decide ((s.size : Int) ≤ 4000)
def badR (s : ByteArray) : Int := if (s.size : Int) ≤ 4000 then badL s.data.toList else 0
theorem specFirstBad_any (s : ByteArray) (w : World) (hs : (s.size : Int) ≤ 1048576) :
    Calls Tryd.prog 15 #[.string s] w fun e w' => e = .returned (.tuple #[.int .i64 (badR s), .bool (badB s)]) ∧ w = w' := by
  rcases Int.lt_or_le 4000 s.size with c | c
  · have H : Hid (badR s = 0 ∧ badB s = false) := Lib.hid ⟨if_neg (by omega), not_le c⟩
    go_enter Tryd.func15, Tryd.ntmps15
    go_wp2_with (go_at_call 43; refine (scBytes_false _ _ c).mono ?_; rintro e w' ⟨rfl, rfl⟩)
    go_ret2
    exact ⟨ret_pair (by rw [H.out.1]; rfl) (by rw [H.out.2]; rfl), rfl⟩
  · have H : Hid (badR s = badL s.data.toList ∧ badB s = true) := Lib.hid ⟨if_pos c, is_le c⟩
    go_enter Tryd.func15, Tryd.ntmps15
    go_wp2_with (first | (go_at_call 43; refine (scBytes_true _ _ c).mono ?_; rintro e w' ⟨rfl, rfl⟩) | (go_at_call 44; refine (scBad_any _ _ c).mono ?_; rintro e w' ⟨rfl, rfl⟩))
    go_ret2
    exact ⟨ret_pair (by rw [H.out.1]; rfl) (by rw [H.out.2]; rfl), rfl⟩

theorem implFirstBad_any (s : ByteArray) (w : World) (hs : (s.size : Int) ≤ 1048576) :
    Calls Tryd.prog 14 #[.string s] w fun e w' => e = .returned (.tuple #[.int .i64 (badR s), .bool (badB s)]) ∧ w = w' := by
  rcases Int.lt_or_le 4000 s.size with c | c
  · have H : Hid (badR s = 0 ∧ badB s = false) := Lib.hid ⟨if_neg (by omega), not_le c⟩
    go_enter Tryd.func14, Tryd.ntmps14
    go_wp2_with (go_at_call 37; refine (isText_false _ _ c).mono ?_; rintro e w' ⟨rfl, rfl⟩)
    go_ret2
    exact ⟨ret_pair (by rw [H.out.1]; rfl) (by rw [H.out.2]; rfl), rfl⟩
  · have H : Hid (badR s = badL s.data.toList ∧ badB s = true) := Lib.hid ⟨if_pos c, is_le c⟩
    go_enter Tryd.func14, Tryd.ntmps14
    go_wp2_with (go_at_call 37; refine (isText_true _ _ c).mono ?_; rintro e w' ⟨rfl, rfl⟩)
    go_loop [4] (fun i => BadRel s i) (fun i => s.size - (intOf i).toNat)
    case atStart => exact ⟨0, Nat.zero_le _, rfl, by simp⟩
    case round =>
      obtain ⟨k, hk, rfl, hb⟩ := hrel
      have HB := Lib.hid hb
      clear hb
      by_cases hlt : k < s.size
      · by_cases hp : plainB (s[k].toNat : Int) = true
        · have HP := Lib.hid hp
          clear hp
          go_wp2_with (go_at_call 42; refine (isPlain_true _ _ HP.out).mono ?_; rintro e w' ⟨rfl, rfl⟩)
          go_round
          case rel => exact ⟨k + 1, by omega, by go_num, by have := HB.out; have := badL_more s k hlt HP.out; omega⟩
          case measure => simp [intOf]; omega
        · have HP := Lib.hid (Bool.eq_false_iff.2 hp)
          clear hp
          go_wp2_with (go_at_call 42; refine (isPlain_false _ _ HP.out).mono ?_; rintro e w' ⟨rfl, rfl⟩)
          go_ret2
          exact ⟨ret_pair (by rw [H.out.1]; have := HB.out; have := badL_stop s k hlt HP.out; rw [show badL s.data.toList = k by omega]; rfl) (by rw [H.out.2]; rfl), rfl⟩
      · go_wp2
        go_ret2
        exact ⟨ret_pair (by rw [H.out.1]; have := HB.out; have := badL_end s k (by omega); rw [show badL s.data.toList = k by omega]; rfl) (by rw [H.out.2]; rfl), rfl⟩

end Go.Proofs.YtniggnjnpapkeabDoor
