/- Space skipped at an index: contracts of SkipSpace, program and model. -/
import Derived.Test.YtdmcgjohpnojkaaDoorTks
namespace Go.Proofs.YtdmcgjohpnojkaaDoor
set_option maxRecDepth 100000
open Go.RowKit
set_option linter.unusedVariables false

/-- a number and whether there is one, memory made -/
def SaysNB (w : World) (n : Int) (b : Bool) (e : Ending) (w' : World) : Prop := e = .returned (.tuple #[.int .i64 n, .bool b]) ∧ Below w.heap.size w w'
/-- the index is one of a text -/
def ixB (s : ByteArray) (a : Int) : Bool := decide ((s.size : Int) ≤ 4000) && (decide (0 ≤ a) && decide (a ≤ s.size))
/-- what SkipSpace answers -/
def skR (s : ByteArray) (a : Int) : Int := if ixB s a then ((a.toNat + skL false (s.data.toList.drop a.toNat) : Nat) : Int) else 0
inductive IxWay (s : ByteArray) (a : Int) : Prop
  | long (h : (4000 : Int) < s.size) (e : ixB s a = false) (r : skR s a = 0)
  | low (h : (s.size : Int) ≤ 4000) (l : a < 0) (e : ixB s a = false) (r : skR s a = 0)
  | high (h : (s.size : Int) ≤ 4000) (z : 0 ≤ a) (l : (s.size : Int) < a) (e : ixB s a = false) (r : skR s a = 0)
  | good (h : (s.size : Int) ≤ 4000) (k : Nat) (hk : a = k) (l : k ≤ s.size) (e : ixB s a = true) (r : skR s a = ((k + skL false (s.data.toList.drop k) : Nat) : Int))
theorem ix_way (s : ByteArray) (a : Int) : IxWay s a := by
  rcases Int.lt_or_le 4000 (s.size : Int) with h | h
  · have e : ixB s a = false := by unfold ixB; rw [show decide ((s.size : Int) ≤ 4000) = false by simp; omega]; rfl
    exact .long h e (by unfold skR; rw [e]; rfl)
  · rcases Int.lt_or_le a 0 with l | l
    · have e : ixB s a = false := by unfold ixB; rw [show decide (0 ≤ a) = false by simp; omega]; simp
      exact .low h l e (by unfold skR; rw [e]; rfl)
    · rcases Int.lt_or_le (s.size : Int) a with l2 | l2
      · have e : ixB s a = false := by unfold ixB; rw [show decide (a ≤ s.size) = false by simp; omega]; simp
        exact .high h l l2 e (by unfold skR; rw [e]; rfl)
      · obtain ⟨k, rfl⟩ : ∃ k : Nat, a = k := ⟨a.toNat, by omega⟩
        have e : ixB s (k : Int) = true := by unfold ixB; simp; omega
        exact .good h k rfl (by omega) e (by unfold skR; rw [e]; simp)
theorem scIndex_any (s : ByteArray) (a : Int) (w : World) (hs : s.size ≤ 1048576) :
    Calls Tryd.prog 41 #[.string s, .int .i64 a] w fun e w' => e = .returned (.bool (ixB s a)) ∧ w = w' := by
  rcases Int.lt_or_le 4000 (s.size : Int) with h | h
  · have e : ixB s a = false := by unfold ixB; rw [show decide ((s.size : Int) ≤ 4000) = false by simp; omega]; rfl
    rw [e]
    clear e
    go_enter Tryd.func41, Tryd.ntmps41
    go_wp2_with (go_at_call 36; refine (scBytes_false _ _ h).mono ?_; rintro e w' ⟨rfl, rfl⟩)
    go_ret
    exact ⟨rfl, rfl⟩
  · have e : Hid (ixB s a = inB a 0 s.size) := Lib.hid (by unfold ixB inB; rw [show decide ((s.size : Int) ≤ 4000) = true by simp; omega]; rfl)
    go_enter Tryd.func41, Tryd.ntmps41
    go_wp2_with (first | (go_at_call 36; refine (scBytes_true _ _ h).mono ?_; rintro e w' ⟨rfl, rfl⟩) | (go_at_call 78; refine (l1In_any _ _ _ _).mono ?_; rintro e w' ⟨rfl, rfl⟩))
    go_ret
    exact ⟨ret_bool e.out.symm, rfl⟩
theorem specSkipSpace_any (s : ByteArray) (a : Int) (w : World) (hs : s.size ≤ 1048576) :
    Calls Tryd.prog 12 #[.string s, .int .i64 a] w fun e w' => e = .returned (.tuple #[.int .i64 (skR s a), .bool (ixB s a)]) ∧ w = w' := by
  have HI := Lib.hid (fun w => scIndex_any s a w hs)
  rcases ix_way s a with ⟨h, e, r⟩ | ⟨h, l, e, r⟩ | ⟨h, z, l, e, r⟩ | ⟨h, k, hk, l, e, r⟩
  · rw [e] at HI ⊢
    rw [r]
    clear e r
    go_enter Tryd.func12, Tryd.ntmps12
    go_wp2_with (go_at_call 41; refine (HI.out _).mono ?_; rintro e w' ⟨rfl, rfl⟩)
    go_ret2
    exact ⟨rfl, rfl⟩
  · rw [e] at HI ⊢
    rw [r]
    clear e r
    go_enter Tryd.func12, Tryd.ntmps12
    go_wp2_with (go_at_call 41; refine (HI.out _).mono ?_; rintro e w' ⟨rfl, rfl⟩)
    go_ret2
    exact ⟨rfl, rfl⟩
  · rw [e] at HI ⊢
    rw [r]
    clear e r
    go_enter Tryd.func12, Tryd.ntmps12
    go_wp2_with (go_at_call 41; refine (HI.out _).mono ?_; rintro e w' ⟨rfl, rfl⟩)
    go_ret2
    exact ⟨rfl, rfl⟩
  · subst hk
    rw [e] at HI ⊢
    rw [r]
    clear e r
    have HS := Lib.hid (fun w => tkSkip_any s k w hs l)
    obtain ⟨n, hn⟩ : ∃ n : Int, ((k + skL false (s.data.toList.drop k) : Nat) : Int) = n := ⟨_, rfl⟩
    rw [hn] at HS ⊢
    clear hn
    go_enter Tryd.func12, Tryd.ntmps12
    go_wp2_with (first | (go_at_call 41; refine (HI.out _).mono ?_; rintro e w' ⟨rfl, rfl⟩) | (go_at_call 44; refine (HS.out _).mono ?_; rintro e w' ⟨rfl, rfl⟩))
    go_ret2
    exact ⟨rfl, rfl⟩
theorem implSkipSpace_any (s : ByteArray) (a : Int) (w : World) (hs : s.size ≤ 1048576) :
    Calls Tryd.prog 11 #[.string s, .int .i64 a] w (SaysNB w (skR s a) (ixB s a)) := by
  rcases ix_way s a with ⟨h, e, r⟩ | ⟨h, l, e, r⟩ | ⟨h, z, l, e, r⟩ | ⟨h, k, hk, l, e, r⟩
  · rw [e, r]
    clear e r
    go_enter Tryd.func11, Tryd.ntmps11
    go_wp2_with (go_at_call 35; refine (isText_false _ _ h).mono ?_; rintro e w' ⟨rfl, rfl⟩)
    go_ret2
    exact ⟨rfl, Below.refl _ _⟩
  · rw [e, r]
    clear e r
    have d1 := is_lt l
    go_enter Tryd.func11, Tryd.ntmps11
    go_wp2_with (go_at_call 35; refine (isText_true _ _ h).mono ?_; rintro e w' ⟨rfl, rfl⟩)
    go_ret2
    exact ⟨rfl, Below.refl _ _⟩
  · rw [e, r]
    clear e r
    have d1 := not_lt z
    have d2 := is_lt l
    go_enter Tryd.func11, Tryd.ntmps11
    go_wp2_with (go_at_call 35; refine (isText_true _ _ h).mono ?_; rintro e w' ⟨rfl, rfl⟩)
    go_ret2
    exact ⟨rfl, Below.refl _ _⟩
  · subst hk
    rw [e, r]
    clear e r
    obtain ⟨u, hu, hus, hsl⟩ := rest_at s k l
    have HS := Lib.hid (fun w => spaceSize_any u w (by omega))
    have hle := skL_le false u.data.toList
    rw [← size_list] at hle
    rw [← hu]
    obtain ⟨n, hn⟩ : ∃ n : Nat, skL false u.data.toList = n := ⟨_, rfl⟩
    rw [hn] at HS hle ⊢
    have h1 : (k : Int) + n ≤ 4000 := by omega
    clear hn hu hus
    have d1 := not_lt (show (0 : Int) ≤ k by omega)
    have d2 := not_lt (show (k : Int) ≤ s.size by omega)
    go_enter Tryd.func11, Tryd.ntmps11
    go_wp2_with (first | (go_at_call 35; refine (isText_true _ _ h).mono ?_; rintro e w' ⟨rfl, rfl⟩) | (go_at_call 43; refine (HS.out _).mono ?_; rintro e w1 ⟨rfl, b1⟩; have B1 := Lib.hid b1; clear b1))
    go_ret2
    exact ⟨rfl, B1.out⟩
end Go.Proofs.YtdmcgjohpnojkaaDoor
