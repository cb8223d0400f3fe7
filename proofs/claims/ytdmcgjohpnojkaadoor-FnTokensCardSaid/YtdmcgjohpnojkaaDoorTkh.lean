/- Tokens that a text can have, in the model: contracts of tkGood and IsToken. -/
import Derived.Test.YtdmcgjohpnojkaaDoorTkg
import Derived.Deep.QuietTactic
import Derived.BigQuiet
namespace Go.Proofs.YtdmcgjohpnojkaaDoor
set_option maxRecDepth 100000
open Go.RowKit
set_option linter.unusedVariables false

theorem specGood_out (k a v : Int) (s : ByteArray) (w : World) (h : Hid (inB a 0 4000 = false)) :
    Calls Tryd.prog 121 #[.agg #[.int .i64 k, .int .i64 a, .string s, .int .i64 v]] w (SaysB w false) := by
  have HI := Lib.hid (fun w => l1In_any a 0 4000 w)
  rw [h.out] at HI
  go_enter Tryd.func121, Tryd.ntmps121
  go_wp2_with (go_at_call 78; refine (HI.out _).mono ?_; rintro e w' ⟨rfl, rfl⟩)
  go_ret
  exact ⟨rfl, one_new2 _ _⟩
theorem specGood_empty (k a v : Int) (s : ByteArray) (w : World) (h : Hid (inB a 0 4000 = true)) (hz : s.size = 0) :
    Calls Tryd.prog 121 #[.agg #[.int .i64 k, .int .i64 a, .string s, .int .i64 v]] w (SaysB w false) := by
  have HI := Lib.hid (fun w => l1In_any a 0 4000 w)
  rw [h.out] at HI
  obtain ⟨f1, f2⟩ := empty_tests hz
  clear hz
  go_enter Tryd.func121, Tryd.ntmps121
  go_wp2_with (go_at_call 78; refine (HI.out _).mono ?_; rintro e w' ⟨rfl, rfl⟩)
  go_ret
  exact ⟨rfl, one_new2 _ _⟩
/-- what a box says of later worlds -/
theorem box_hid {w wb : World} {k a v : Int} {s : ByteArray} {T : TypeId} (hwb : w.alloc (.cells #[.int .i64 k, .int .i64 a, .string s, .int .i64 v] T) = wb) :
    Hid (∀ w', BX wb w' → w'.cell? ⟨w.heap.size, 0, none⟩ = some (.int .i64 k) ∧ w'.cell? ⟨w.heap.size, 1, none⟩ = some (.int .i64 a) ∧ w'.cell? ⟨w.heap.size, 2, none⟩ = some (.string s) ∧ w'.cell? ⟨w.heap.size, 3, none⟩ = some (.int .i64 v) ∧ BX wb w') ∧
    Hid (∀ w', BX wb w' → Below w.heap.size w w') := by
  subst hwb
  exact ⟨Lib.hid (fun w' h => h.cells), Lib.hid (fun w' h => (one_new2 _ _).trans (Below.mono h (by simp)))⟩
theorem undrewN {X w1 : World} {n : Nat} (b : Below (X.drewN n).heap.size (X.drewN n) w1) : Below X.heap.size X w1 := (show Below X.heap.size X (X.drewN n) from below_drewN (Below.refl _ _) n).trans b
set_option maxHeartbeats 3200000 in
theorem specGood_sign (k a v : Int) (s : ByteArray) (w : World) (h : Hid (inB a 0 4000 = true)) (hz : 0 < s.size) (ho : Hid (oneOf s sgA = true)) :
    Calls Tryd.prog 121 #[.agg #[.int .i64 k, .int .i64 a, .string s, .int .i64 v]] w (SaysB w ((k == 4) && (v == 0))) := by
  have HI := Lib.hid (fun w => l1In_any a 0 4000 w)
  rw [h.out] at HI
  obtain ⟨f1, f2⟩ := full_tests hz
  have HS : Hid (∀ (g : Nat) (w : World), TextsAt w g sgA → Calls Tryd.prog 136 #[.slice (some ⟨g, 0, none⟩) 6 6, .string s] w fun e w' => e = .returned (.bool true) ∧ w = w') := Lib.hid (fun g w HT => by
    have := l1HasS_any g 6 6 sgA s w HT (Lib.hid rfl) (by omega)
    rw [ho.out] at this
    exact this)
  clear hz
  obtain ⟨wb, hwb⟩ : ∃ wb, w.alloc (.cells #[.int .i64 k, .int .i64 a, .string s, .int .i64 v] 32) = wb := ⟨_, rfl⟩
  have HW := Lib.hid hwb
  obtain ⟨HB, HBel⟩ := box_hid hwb
  clear hwb
  rcases Bool.eq_false_or_eq_true (k == 4) with h1 | h1 <;> rcases Bool.eq_false_or_eq_true (v == 0) with h2 | h2
  all_goals
    rw [h1, h2]
    go_enter Tryd.func121, Tryd.ntmps121
    go_wp2_with (go_at_call 78; refine (HI.out _).mono ?_; rintro e w' ⟨rfl, rfl⟩)
    rw [HW.out]
    obtain ⟨c0, c1, c2, c3, _⟩ := HB.out wb (BX.refl _)
    go_region_with (first | (go_at_call 109; refine (tkSigns_any _).mono ?_; rintro e w1 ⟨rfl, ht, b0⟩; have HT1 := Lib.hid ht; have b1 := undrew b0; obtain ⟨e0, e1, e2, e3, bx⟩ := HB.out w1 b1; have BX1 := Lib.hid bx; clear b0 b1 ht bx) | (go_at_call 136; refine (HS.out _ _ HT1.out).mono ?_; rintro e w' ⟨rfl, rfl⟩))
    all_goals
      go_wp2
      go_ret
      exact ⟨rfl, HBel.out _ BX1.out⟩
set_option maxHeartbeats 3200000 in
theorem specGood_norun (k a v : Int) (s : ByteArray) (w : World) (h : Hid (inB a 0 4000 = true)) (hz : 0 < s.size) (hs : s.size ≤ 1048576) (ho : Hid (oneOf s sgA = false)) (u : ByteArray) (hu : Hid (s.extract 0 (0 + runN (s.data.toList.drop 0)) = u)) (hne : (u.toList == s.toList) = false) :
    Calls Tryd.prog 121 #[.agg #[.int .i64 k, .int .i64 a, .string s, .int .i64 v]] w (SaysB w false) := by
  have HI := Lib.hid (fun w => l1In_any a 0 4000 w)
  rw [h.out] at HI
  obtain ⟨f1, f2⟩ := full_tests hz
  have HS : Hid (∀ (g : Nat) (w : World), TextsAt w g sgA → Calls Tryd.prog 136 #[.slice (some ⟨g, 0, none⟩) 6 6, .string s] w fun e w' => e = .returned (.bool false) ∧ w = w') := Lib.hid (fun g w HT => by
    have := l1HasS_any g 6 6 sgA s w HT (Lib.hid rfl) (by omega)
    rw [ho.out] at this
    exact this)
  have HR : Hid (∀ w : World, Calls Tryd.prog 80 #[.string s, .int .i64 0] w fun e w' => e = .returned (.string u) ∧ w' = w) := Lib.hid (fun w => by
    have := tkRun_any s 0 w hs (Nat.zero_le _)
    rw [hu.out] at this
    exact this.mono fun e w' ⟨q, q2⟩ => ⟨q, q2.symm⟩)
  have hne2 : (u.toList != s.toList) = true := by simpa using hne
  clear hz
  obtain ⟨wb, hwb⟩ : ∃ wb, w.alloc (.cells #[.int .i64 k, .int .i64 a, .string s, .int .i64 v] 32) = wb := ⟨_, rfl⟩
  have HW := Lib.hid hwb
  obtain ⟨HB, HBel⟩ := box_hid hwb
  clear hwb
  go_enter Tryd.func121, Tryd.ntmps121
  go_wp2_with (go_at_call 78; refine (HI.out _).mono ?_; rintro e w' ⟨rfl, rfl⟩)
  rw [HW.out]
  obtain ⟨c0, c1, c2, c3, _⟩ := HB.out wb (BX.refl _)
  go_region_with (first | (go_at_call 109; refine (tkSigns_any _).mono ?_; rintro e w1 ⟨rfl, ht, b0⟩; have HT1 := Lib.hid ht; have b1 := undrew b0; obtain ⟨e0, e1, e2, e3, bx⟩ := HB.out w1 b1; have BX1 := Lib.hid bx; clear b0 b1 ht bx) | (go_at_call 136; refine (HS.out _ _ HT1.out).mono ?_; rintro e w' ⟨rfl, rfl⟩))
  all_goals
    clear c0 c1 c2 c3
    go_wp2
    go_quiet ((go_at_call 80; exact Calls.quiet_of_same (HR.out _)))
    go_wp2
    go_ret
    exact ⟨rfl, below_drewN (HBel.out _ BX1.out) _⟩
set_option maxHeartbeats 6400000 in
theorem specGood_make (k a v : Int) (s : ByteArray) (w : World) (h : Hid (inB a 0 4000 = true)) (hz : 0 < s.size) (hs : s.size ≤ 1048576) (ho : Hid (oneOf s sgA = false)) (hu : Hid (s.extract 0 (0 + runN (s.data.toList.drop 0)) = s)) (K A V F : Int) (T : ByteArray)
    (HM : Hid (∀ w, Calls Tryd.prog 81 #[.string s, .int .i64 a] w (SaysV w (.tuple #[.agg #[.int .i64 K, .int .i64 A, .string T, .int .i64 V], .int .i64 F]))))
    (r : Bool) (HR0 : Hid (r = ((F == 0) && ((K == k) && ((T.toList == s.toList) && (V == v)))))) (HA : Hid (F = 0 → (A == a) = true)) :
    Calls Tryd.prog 121 #[.agg #[.int .i64 k, .int .i64 a, .string s, .int .i64 v]] w (SaysB w r) := by
  have HI := Lib.hid (fun w => l1In_any a 0 4000 w)
  rw [h.out] at HI
  obtain ⟨f1, f2⟩ := full_tests hz
  have HS : Hid (∀ (g : Nat) (w : World), TextsAt w g sgA → Calls Tryd.prog 136 #[.slice (some ⟨g, 0, none⟩) 6 6, .string s] w fun e w' => e = .returned (.bool false) ∧ w = w') := Lib.hid (fun g w HT => by
    have := l1HasS_any g 6 6 sgA s w HT (Lib.hid rfl) (by omega)
    rw [ho.out] at this
    exact this)
  have HR : Hid (∀ w : World, Calls Tryd.prog 80 #[.string s, .int .i64 0] w fun e w' => e = .returned (.string s) ∧ w' = w) := Lib.hid (fun w => by
    have := tkRun_any s 0 w hs (Nat.zero_le _)
    rw [hu.out] at this
    exact this.mono fun e w' ⟨q, q2⟩ => ⟨q, q2.symm⟩)
  clear hz
  obtain ⟨wb, hwb⟩ : ∃ wb, w.alloc (.cells #[.int .i64 k, .int .i64 a, .string s, .int .i64 v] 32) = wb := ⟨_, rfl⟩
  have HW := Lib.hid hwb
  obtain ⟨HB, HBel⟩ := box_hid hwb
  clear hwb
  go_enter Tryd.func121, Tryd.ntmps121
  go_wp2_with (go_at_call 78; refine (HI.out _).mono ?_; rintro e w' ⟨rfl, rfl⟩)
  rw [HW.out]
  obtain ⟨c0, c1, c2, c3, _⟩ := HB.out wb (BX.refl _)
  go_region_with (first | (go_at_call 109; refine (tkSigns_any _).mono ?_; rintro e w1 ⟨rfl, ht, b0⟩; have HT1 := Lib.hid ht; have b1 := undrew b0; obtain ⟨e0, e1, e2, e3, bx⟩ := HB.out w1 b1; have BX1 := Lib.hid bx; clear b0 b1 ht bx) | (go_at_call 136; refine (HS.out _ _ HT1.out).mono ?_; rintro e w' ⟨rfl, rfl⟩))
  all_goals
    clear c0 c1 c2 c3
    go_wp2
    go_quiet ((go_at_call 80; exact Calls.quiet_of_same (HR.out _)))
    rcases Bool.eq_false_or_eq_true (F == 0) with g1 | g1
    · have g2 := HA.out (by simpa using g1)
      rcases Bool.eq_false_or_eq_true (K == k) with g3 | g3
      · rcases Bool.eq_false_or_eq_true (T.toList == s.toList) with g4 | g4
        · rcases Bool.eq_false_or_eq_true (V == v) with g5 | g5
          · have HX : Hid (r = true) := Lib.hid (by rw [HR0.out, g1, g3, g4, g5]; rfl)
            go_wp2_with (go_at_call 81; refine (HM.out _).mono ?_; rintro e w2 ⟨rfl, b0⟩; have bx := BX.call' (undrewN b0) BX1.out; obtain ⟨i0, i1, i2, i3, _⟩ := HB.out _ (BX.alloc bx (.cells #[.int .i64 K, .int .i64 A, .string T, .int .i64 V] 32)); have BX2 := Lib.hid (BX.alloc bx (.cells #[.int .i64 K, .int .i64 A, .string T, .int .i64 V] 32)); clear b0 bx)
            go_ret
            exact ⟨ret_bool HX.out.symm, HBel.out _ BX2.out⟩
          · have HX : Hid (r = false) := Lib.hid (by rw [HR0.out, g1, g3, g4, g5]; rfl)
            go_wp2_with (go_at_call 81; refine (HM.out _).mono ?_; rintro e w2 ⟨rfl, b0⟩; have bx := BX.call' (undrewN b0) BX1.out; obtain ⟨i0, i1, i2, i3, _⟩ := HB.out _ (BX.alloc bx (.cells #[.int .i64 K, .int .i64 A, .string T, .int .i64 V] 32)); have BX2 := Lib.hid (BX.alloc bx (.cells #[.int .i64 K, .int .i64 A, .string T, .int .i64 V] 32)); clear b0 bx)
            go_ret
            exact ⟨ret_bool HX.out.symm, HBel.out _ BX2.out⟩
        · have HX : Hid (r = false) := Lib.hid (by rw [HR0.out, g1, g3, g4]; rfl)
          go_wp2_with (go_at_call 81; refine (HM.out _).mono ?_; rintro e w2 ⟨rfl, b0⟩; have bx := BX.call' (undrewN b0) BX1.out; obtain ⟨i0, i1, i2, i3, _⟩ := HB.out _ (BX.alloc bx (.cells #[.int .i64 K, .int .i64 A, .string T, .int .i64 V] 32)); have BX2 := Lib.hid (BX.alloc bx (.cells #[.int .i64 K, .int .i64 A, .string T, .int .i64 V] 32)); clear b0 bx)
          go_ret
          exact ⟨ret_bool HX.out.symm, HBel.out _ BX2.out⟩
      · have HX : Hid (r = false) := Lib.hid (by rw [HR0.out, g1, g3]; rfl)
        go_wp2_with (go_at_call 81; refine (HM.out _).mono ?_; rintro e w2 ⟨rfl, b0⟩; have bx := BX.call' (undrewN b0) BX1.out; obtain ⟨i0, i1, i2, i3, _⟩ := HB.out _ (BX.alloc bx (.cells #[.int .i64 K, .int .i64 A, .string T, .int .i64 V] 32)); have BX2 := Lib.hid (BX.alloc bx (.cells #[.int .i64 K, .int .i64 A, .string T, .int .i64 V] 32)); clear b0 bx)
        go_ret
        exact ⟨ret_bool HX.out.symm, HBel.out _ BX2.out⟩
    · have HX : Hid (r = false) := Lib.hid (by rw [HR0.out, g1]; rfl)
      go_wp2_with (go_at_call 81; refine (HM.out _).mono ?_; rintro e w2 ⟨rfl, b0⟩; have bx := BX.call' (undrewN b0) BX1.out; obtain ⟨i0, i1, i2, i3, _⟩ := HB.out _ (BX.alloc bx (.cells #[.int .i64 K, .int .i64 A, .string T, .int .i64 V] 32)); have BX2 := Lib.hid (BX.alloc bx (.cells #[.int .i64 K, .int .i64 A, .string T, .int .i64 V] 32)); clear b0 bx)
      go_ret
      exact ⟨ret_bool HX.out.symm, HBel.out _ BX2.out⟩
end Go.Proofs.YtdmcgjohpnojkaaDoor
