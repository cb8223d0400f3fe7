/- What the laws do with configurations: measured, made of arguments, compared. -/
import Derived.Test.YtkpocljlmbihcaaDoorCfa
import Derived.Test.YtkpocljlmbihcaaDoorKwl
namespace Go.Proofs.YtkpocljlmbihcaaDoor
set_option maxRecDepth 100000
open Go.RowKit
set_option linter.unusedVariables false

def CfgM (c : Cfg) : Prop := c.s.size ≤ 1048576 ∧ c.cs.length ≤ 1048576 ∧ c.fs.length ≤ 1048576
theorem szClassS_any (a : Option Addr) (n c : Nat) (r : Int) (w : World) (hn : n ≤ 9223372036854775807) (h0 : 0 ≤ r) (h1 : r ≤ 1048576) :
    Calls Tryd.prog 30 #[.slice a n c, .int .i64 r] w (SaysI w (lessN r n)) := by
  by_cases h : r - (n : Int) < 0
  · have d := is_lt h
    have e : lessN r n = -1 := if_pos h
    rw [e]
    clear e h
    go_enter Tryd.func30, Tryd.ntmps30
    go_wp2
    go_ret
    exact ⟨rfl, Below.refl _ _⟩
  · have d := not_lt (Int.not_lt.1 h)
    have e : lessN r n = r - n := if_neg h
    rw [e]
    clear e h
    go_enter Tryd.func30, Tryd.ntmps30
    go_wp2
    go_ret
    exact ⟨rfl, Below.refl _ _⟩
theorem szFilterS_any (a : Option Addr) (n c : Nat) (r : Int) (w : World) (hn : n ≤ 9223372036854775807) (h0 : 0 ≤ r) (h1 : r ≤ 1048576) :
    Calls Tryd.prog 31 #[.slice a n c, .int .i64 r] w (SaysI w (lessN r n)) := by
  by_cases h : r - (n : Int) < 0
  · have d := is_lt h
    have e : lessN r n = -1 := if_pos h
    rw [e]
    clear e h
    go_enter Tryd.func31, Tryd.ntmps31
    go_wp2
    go_ret
    exact ⟨rfl, Below.refl _ _⟩
  · have d := not_lt (Int.not_lt.1 h)
    have e : lessN r n = r - n := if_neg h
    rw [e]
    clear e h
    go_enter Tryd.func31, Tryd.ntmps31
    go_wp2
    go_ret
    exact ⟨rfl, Below.refl _ _⟩
def SaysZC (w : World) (c : Cfg) (e : Ending) (w' : World) : Prop := ∃ r : Int, e = .returned (.int .i64 r) ∧ Below w.heap.size w w' ∧ (0 ≤ r → CfgM c)
set_option maxHeartbeats 1600000 in
theorem szConfig_any (v : Value) (c : Cfg) (w : World) (HA : Hid (ArgCfg w v c)) :
    Calls Tryd.prog 12 #[v, .int .i64 1048576] w (SaysZC w c) := by
  obtain ⟨ac, cc, af, cf, rfl, m0, m1, m2, _, _⟩ := HA.out
  obtain ⟨s, cs, fs, d⟩ := c
  obtain ⟨n, hn⟩ : ∃ n, cs.length = n := ⟨_, rfl⟩
  obtain ⟨m, hm⟩ : ∃ m, fs.length = m := ⟨_, rfl⟩
  have HN := Lib.hid hn
  have HM := Lib.hid hm
  simp only [hn, hm] at m1 m2 ⊢
  unfold maxLen at m0 m1 m2
  simp only at m0
  clear HA hn hm
  by_cases h : (1048576 : Int) - s.size < 0
  · have d := is_lt h
    clear h
    go_enter Tryd.func12, Tryd.ntmps12
    go_wp2_with fail
    go_ret
    exact ⟨-1, rfl, one_new2 _ _, fun h => absurd h (by omega)⟩
  · have d0 := not_lt (Int.not_lt.1 h)
    have hs : 0 ≤ (1048576 : Int) - s.size := by omega
    have hs1 : (1048576 : Int) - s.size ≤ 1048576 := by omega
    have HZ := Lib.hid (fun w => szClassS_any ac n cc ((1048576 : Int) - s.size) w (by omega) hs hs1)
    clear h
    by_cases h : (1048576 : Int) - s.size - (n : Int) < 0
    · rw [lessN_neg h] at HZ
      clear h
      go_enter Tryd.func12, Tryd.ntmps12
      go_wp2_with (go_at_call 30; refine (HZ.out _).mono ?_; rintro e w1 ⟨rfl, b1⟩; have B1 := Lib.hid ((one_new2 _ _).trans (b1.mono (by simp))); clear b1)
      go_ret
      exact ⟨-1, rfl, B1.out, fun h => absurd h (by omega)⟩
    · rw [lessN_pos h] at HZ
      have d1 := not_lt (Int.not_lt.1 h)
      have hr : 0 ≤ (1048576 : Int) - s.size - n := by omega
      have hr1 : (1048576 : Int) - s.size - n ≤ 1048576 := by omega
      have HY := Lib.hid (fun w => szFilterS_any af m cf ((1048576 : Int) - s.size - n) w (by omega) hr hr1)
      clear h
      by_cases h : (1048576 : Int) - s.size - (n : Int) - (m : Int) < 0
      · rw [lessN_neg h] at HY
        clear h
        go_enter Tryd.func12, Tryd.ntmps12
        go_wp2_with (go_at_call 30; refine (HZ.out _).mono ?_; rintro e w1 ⟨rfl, b1⟩; have B1 := Lib.hid (box_four b1).2; obtain ⟨c0, c1, c2, c3, cl⟩ := (box_four b1).1; clear b1 cl)
        go_wp2_with (go_at_call 31; refine (HY.out _).mono ?_; rintro e w2 ⟨rfl, b2⟩; have B2 := Lib.hid (B1.out.trans (b2.mono B1.out.size)); clear b2 c0 c1 c2 c3)
        go_ret
        exact ⟨-1, rfl, B2.out, fun h => absurd h (by omega)⟩
      · rw [lessN_pos h] at HY
        have d2 := not_lt (Int.not_lt.1 h)
        have HF : Hid (CfgM ⟨s, cs, fs, d⟩) := Lib.hid ⟨by show s.size ≤ 1048576; omega, by show cs.length ≤ 1048576; rw [HN.out]; omega, by show fs.length ≤ 1048576; rw [HM.out]; omega⟩
        clear h
        go_enter Tryd.func12, Tryd.ntmps12
        go_wp2_with (go_at_call 30; refine (HZ.out _).mono ?_; rintro e w1 ⟨rfl, b1⟩; have B1 := Lib.hid (box_four b1).2; obtain ⟨c0, c1, c2, c3, cl⟩ := (box_four b1).1; clear b1 cl)
        go_wp2_with (go_at_call 31; refine (HY.out _).mono ?_; rintro e w2 ⟨rfl, b2⟩; have B2 := Lib.hid (B1.out.trans (b2.mono B1.out.size)); clear b2 c0 c1 c2 c3)
        go_ret
        exact ⟨_, rfl, B2.out, fun _ => HF.out⟩
end Go.Proofs.YtkpocljlmbihcaaDoor
