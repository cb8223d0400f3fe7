/- Space skipped: contracts of spaceSize and SkipSpace, program and model. -/
import Derived.Test.YtdmcgjohpnojkaaDoorKwd
import Derived.Test.YtdmcgjohpnojkaaDoorShelf
import Derived.Laws.RangeAny
import Derived.Laws.Runes
import Derived.LoopTactic
import Derived.WalkMore
import Derived.Deep.RegionWith
namespace Go.Proofs.YtdmcgjohpnojkaaDoor
set_option maxRecDepth 100000
open Go.RowKit
set_option linter.unusedVariables false

/-- a number, memory made -/
def SaysN (w : World) (n : Int) (e : Ending) (w' : World) : Prop := e = .returned (.int .i64 n) ∧ Below w.heap.size w w'
theorem byte_at (s : ByteArray) (k : Nat) (h : k < s.size) (m : Int) (hm : m = k) (w : World) : (Instr.index 9 (.string s) (.int .i64 m)).run Tryd.prog w = .ok (.int .u8 (s[k]'h).toNat) w := by
  subst hm
  rw [run_index_string w 9 s .i64 (k : Int) Tryd.underlying9, dif_pos (by omega)]
  rfl
/-- what stands from an index on -/
theorem rest_at (s : ByteArray) (k : Nat) (h : k ≤ s.size) : ∃ u : ByteArray, u.data.toList = s.data.toList.drop k ∧ u.size + k = s.size ∧ (∀ w, (Instr.slice 9 (.string s) (some (.int .i64 (k : Int))) none none).run Tryd.prog w = .ok (.string u) w) := by
  refine ⟨s.extract k s.size, ?_, ?_, fun w => ?_⟩
  · rw [Lib.extract_data, List.take_of_length_le]
    simp
  · simp; omega
  · rw [run_slice_string_l w 9 s Tryd.underlying9 .i64 (k : Int) (by omega) (by omega)]
    rfl
def SpRel (w : World) (s : ByteArray) (N : Nat) (c : Value) (wr : World) : Prop :=
  ∃ (k : Nat) (b : Bool), k ≤ s.size ∧ c = .bool b ∧ wr = w.iter s k ∧ Hid (k + skL b (s.data.toList.drop k) = N)
theorem below_iter (w : World) (s : ByteArray) (k : Nat) : Below w.heap.size w (w.iter s k) := (Below.refl _ _).alloc (Nat.le_refl _) _
set_option maxHeartbeats 3200000 in
theorem spaceSize_any (s : ByteArray) (w : World) (hs : s.size ≤ 1048576) :
    Calls Tryd.prog 43 #[.string s] w (SaysN w (skL false s.data.toList)) := by
  obtain ⟨N, hN⟩ : ∃ N, skL false s.data.toList = N := ⟨_, rfl⟩
  have H0 : Hid (0 + skL false (s.data.toList.drop 0) = N) := Lib.hid (by rw [← hN]; simp)
  rw [hN]
  clear hN
  go_enter Tryd.func43, Tryd.ntmps43
  go_wp2_with fail
  go_loopw [3] (fun c wr => SpRel w s N c wr) (fun _ wr => s.size - wr.iterPos w.heap.size)
  case atStart => exact ⟨0, false, Nat.zero_le _, rfl, rfl, H0⟩
  case round =>
    obtain ⟨k, b, hk, rfl, hw, HP⟩ := hrel
    subst hw
    by_cases hlt : k < s.size
    · obtain ⟨y, hy⟩ : ∃ y : Nat, (s[k]'hlt).toNat = y := ⟨_, rfl⟩
      have HY := Lib.hid hy
      have hix := byte_at s k hlt (k : Int) rfl
      rw [hy] at hix
      rcases Nat.lt_or_ge y 128 with ha | ha
      · have hnx := fun ty => run_next_ascii (P := Tryd.prog) w s k ty hlt (by rw [hy]; exact ha)
        rw [hy] at hnx
        clear hy
        by_cases c10 : y = 10
        · have HE := Lib.hid (sk_nl b s k hlt (HY.out.trans c10))
          subst c10
          go_wp2_with fail
          go_roundw
          case rel => exact ⟨k + 1, false, by omega, rfl, rfl, by unfold Hid; have := HP.out; have := HE.out; omega⟩
          case measure => simp; omega
        · have t10 : ((y : Int) == 10) = false := by simp; omega
          cases b
          · rcases (show y = 35 ∨ y = 92 ∨ y = 32 ∨ y = 9 ∨ (y ≠ 35 ∧ y ≠ 92 ∧ y ≠ 32 ∧ y ≠ 9) by omega) with e | e | e | e | e
            · have HE := Lib.hid (sk_hash s k hlt (HY.out.trans e))
              subst e
              clear t10 c10
              go_wp2_with fail
              go_roundw
              case rel => exact ⟨k + 1, true, by omega, rfl, rfl, by unfold Hid; have := HP.out; have := HE.out; omega⟩
              case measure => simp; omega
            · have HE2 := Lib.hid (two_prefix s k hlt (HY.out.trans e))
              obtain ⟨u, hu, hus, hsl⟩ := rest_at s k hk
              have HU := Lib.hid hu
              rcases Bool.eq_false_or_eq_true (Lib.hasPrefix (s.data.toList.drop (k + 1)) [10]) with hp | hp
              · have HE := Lib.hid (sk_back s k hlt (HY.out.trans e) hp)
                have HX : Hid (Lib.hasPrefix u.data.toList [92, 10] = true) := Lib.hid (by rw [hu, HE2.out, hp])
                subst e
                clear t10 c10 hp hu hus
                go_wp2_with (go_at_call 77; refine (Tryd.strings_HasPrefix u _ _).mono ?_; rw [show (ByteArray.mk #[92, 10]).data.toList = [92, 10] from rfl, HX.out]; rintro e w' ⟨rfl, rfl⟩)
                go_roundw
                case rel => exact ⟨k + 1, false, by omega, rfl, rfl, by unfold Hid; have := HP.out; have := HE.out; omega⟩
                case measure => simp; omega
              · have HE := Lib.hid (sk_lone s k hlt (HY.out.trans e) hp)
                have HX : Hid (Lib.hasPrefix u.data.toList [92, 10] = false) := Lib.hid (by rw [hu, HE2.out, hp])
                subst e
                clear t10 c10 hp hu hus
                go_wp2_with (go_at_call 77; refine (Tryd.strings_HasPrefix u _ _).mono ?_; rw [show (ByteArray.mk #[92, 10]).data.toList = [92, 10] from rfl, HX.out]; rintro e w' ⟨rfl, rfl⟩)
                go_ret
                exact ⟨ret_int (by have := HP.out; have := HE.out; omega), below_iter _ _ _⟩
            · have HE := Lib.hid (sk_blank s k hlt (.inl (HY.out.trans e)))
              subst e
              clear t10 c10
              go_wp2_with fail
              go_roundw
              case rel => exact ⟨k + 1, false, by omega, rfl, rfl, by unfold Hid; have := HP.out; have := HE.out; omega⟩
              case measure => simp; omega
            · have HE := Lib.hid (sk_blank s k hlt (.inr (HY.out.trans e)))
              subst e
              clear t10 c10
              go_wp2_with fail
              go_roundw
              case rel => exact ⟨k + 1, false, by omega, rfl, rfl, by unfold Hid; have := HP.out; have := HE.out; omega⟩
              case measure => simp; omega
            · obtain ⟨e1, e2, e3, e4⟩ := e
              have HE := Lib.hid (sk_stop s k hlt (by rw [HY.out]; exact ⟨c10, e3, e4, e2, e1⟩))
              have t35 : ((y : Int) == 35) = false := by simp; omega
              have t92 : ((y : Int) == 92) = false := by simp; omega
              have t32 : ((y : Int) != 32) = true := by simp; omega
              have t9 : ((y : Int) != 9) = true := by simp; omega
              go_wp2_with fail
              go_ret
              exact ⟨ret_int (by have := HP.out; have := HE.out; omega), below_iter _ _ _⟩
          · by_cases hp : plainB (y : Int) = true
            · have HX := Lib.hid hp
              have HE := Lib.hid (sk_in s k hlt (by rw [HY.out]; exact c10) (by rw [HY.out]; exact hp))
              clear hp
              go_wp2_with (go_at_call 82; refine (isPlain_true _ _ HX.out).mono ?_; rintro e w' ⟨rfl, rfl⟩)
              go_roundw
              case rel => exact ⟨k + 1, true, by omega, rfl, rfl, by unfold Hid; have := HP.out; have := HE.out; omega⟩
              case measure => simp; omega
            · have hp' := Bool.eq_false_iff.2 hp
              have HX := Lib.hid hp'
              have HE := Lib.hid (sk_out s k hlt (by rw [HY.out]; exact hp'))
              clear hp hp'
              go_wp2_with (go_at_call 82; refine (isPlain_false _ _ HX.out).mono ?_; rintro e w' ⟨rfl, rfl⟩)
              go_ret
              exact ⟨ret_int (by have := HP.out; have := HE.out; omega), below_iter _ _ _⟩
      · obtain ⟨r0, h0⟩ : ∃ r0 : Nat, (Utf8.decode s k).1 = r0 := ⟨_, rfl⟩
        obtain ⟨wd, h1⟩ : ∃ wd : Nat, (Utf8.decode s k).2 = wd := ⟨_, rfl⟩
        have hnx := fun ty => run_next_any (P := Tryd.prog) w s k ty hlt
        have hh := (decode_high s k hlt (by rw [hy]; exact ha)).1
        rw [h0] at hh
        rw [h0, h1] at hnx
        have t10 : ((r0 : Int) == 10) = false := by simp; omega
        have t35 : ((r0 : Int) == 35) = false := by simp; omega
        have t92 : ((r0 : Int) == 92) = false := by simp; omega
        have t32 : ((r0 : Int) != 32) = true := by simp; omega
        have t9 : ((r0 : Int) != 9) = true := by simp; omega
        have hp : plainB (y : Int) = false := by unfold plainB; simp; omega
        have HX := Lib.hid hp
        have HE : Hid (skL b (s.data.toList.drop k) = 0) := Lib.hid (by
          cases b
          · exact sk_stop s k hlt (by omega)
          · exact sk_out s k hlt (by rw [hy]; exact hp))
        clear hy h0 h1 hh hp
        cases b
        · go_wp2_with fail
          go_ret
          exact ⟨ret_int (by have := HP.out; have := HE.out; omega), below_iter _ _ _⟩
        · go_wp2_with (go_at_call 82; refine (isPlain_false _ _ HX.out).mono ?_; rintro e w' ⟨rfl, rfl⟩)
          go_ret
          exact ⟨ret_int (by have := HP.out; have := HE.out; omega), below_iter _ _ _⟩
    · have hnx := fun ty => run_next_end (P := Tryd.prog) w s k ty hlt
      have HE := Lib.hid (sk_end b s k (by omega))
      go_wp2_with fail
      go_ret
      exact ⟨ret_int (by have := HP.out; have := HE.out; omega), below_iter _ _ _⟩

def SkRel (s : ByteArray) (N : Nat) (v : Value) : Prop := ∃ k : Nat, k ≤ s.size ∧ v = .int .i64 k ∧ Hid (k + skL false (s.data.toList.drop k) = N)
def SkIn (s : ByteArray) (N k0 : Nat) (v : Value) : Prop := ∃ k : Nat, k0 ≤ k ∧ k ≤ s.size ∧ v = .int .i64 k ∧ Hid (k + skL true (s.data.toList.drop k) = N)
theorem plain35 : plainB 35 = true := by decide
set_option maxHeartbeats 3200000 in
theorem tkSkip_any (s : ByteArray) (at0 : Nat) (w : World) (hs : s.size ≤ 1048576) (h0 : at0 ≤ s.size) :
    Calls Tryd.prog 44 #[.string s, .int .i64 at0] w fun e w' => e = .returned (.int .i64 ((at0 + skL false (s.data.toList.drop at0) : Nat) : Int)) ∧ w = w' := by
  obtain ⟨N, hN⟩ : ∃ N, at0 + skL false (s.data.toList.drop at0) = N := ⟨_, rfl⟩
  have H0 := Lib.hid hN
  rw [hN]
  clear hN
  go_enter Tryd.func44, Tryd.ntmps44
  go_wp2_with fail
  go_loop [1] (fun v => SkRel s N v) (fun v => s.size - (intOf v).toNat)
  case atStart => exact ⟨at0, h0, rfl, H0⟩
  case round =>
    obtain ⟨k, hk, rfl, HP⟩ := hrel
    by_cases hlt : k < s.size
    · obtain ⟨y, hy⟩ : ∃ y : Nat, (s[k]'hlt).toNat = y := ⟨_, rfl⟩
      have HY := Lib.hid hy
      have hix := byte_at s k hlt (k : Int) rfl
      rw [hy] at hix
      clear hy
      rcases (show y = 32 ∨ y = 9 ∨ y = 10 ∨ y = 92 ∨ y = 35 ∨ (y ≠ 32 ∧ y ≠ 9 ∧ y ≠ 10 ∧ y ≠ 92 ∧ y ≠ 35) by omega) with e | e | e | e | e | e
      · have HE := Lib.hid (sk_blank s k hlt (.inl (HY.out.trans e)))
        subst e
        go_wp2_with fail
        go_round
        case rel => exact ⟨k + 1, by omega, by go_num, by unfold Hid; have := HP.out; have := HE.out; omega⟩
        case measure => simp [intOf]; omega
      · have HE := Lib.hid (sk_blank s k hlt (.inr (HY.out.trans e)))
        subst e
        go_wp2_with fail
        go_round
        case rel => exact ⟨k + 1, by omega, by go_num, by unfold Hid; have := HP.out; have := HE.out; omega⟩
        case measure => simp [intOf]; omega
      · have HE := Lib.hid (sk_nl false s k hlt (HY.out.trans e))
        subst e
        go_wp2_with fail
        go_round
        case rel => exact ⟨k + 1, by omega, by go_num, by unfold Hid; have := HP.out; have := HE.out; omega⟩
        case measure => simp [intOf]; omega
      · by_cases hlt2 : k + 1 < s.size
        · obtain ⟨z, hz⟩ : ∃ z : Nat, (s[k + 1]'hlt2).toNat = z := ⟨_, rfl⟩
          have hix2 := byte_at s (k + 1) hlt2 ((k : Int) + 1) (by omega)
          rw [hz] at hix2
          have hn := next_nl s k hlt2
          rw [hz] at hn
          have d : decide ((k : Int) + 1 < s.size) = true := by simp; omega
          by_cases e10 : z = 10
          · have hp : Lib.hasPrefix (s.data.toList.drop (k + 1)) [10] = true := by rw [hn]; simp [e10]
            have HE := Lib.hid (sk_back s k hlt (HY.out.trans e) hp)
            have HE2 := Lib.hid (sk_nl false s (k + 1) hlt2 (hz.trans e10))
            clear hp hn hz
            subst e10
            subst e
            go_wp2_with fail
            go_round
            case rel => exact ⟨k + 1 + 1, by omega, by go_num, by unfold Hid; have := HP.out; have := HE.out; have := HE2.out; omega⟩
            case measure => simp [intOf]; omega
          · have hp : Lib.hasPrefix (s.data.toList.drop (k + 1)) [10] = false := by rw [hn]; simp [e10]
            have HE := Lib.hid (sk_lone s k hlt (HY.out.trans e) hp)
            have t10 : ((z : Int) == 10) = false := by simp; omega
            clear hp hn hz
            subst e
            go_wp2_with fail
            go_ret
            exact ⟨ret_int (by have := HP.out; have := HE.out; omega), rfl⟩
        · have HE := Lib.hid (sk_lone s k hlt (HY.out.trans e) (next_none s k (by omega)))
          have d : decide ((k : Int) + 1 < s.size) = false := by simp; omega
          subst e
          go_wp2_with fail
          go_ret
          exact ⟨ret_int (by have := HP.out; have := HE.out; omega), rfl⟩
      · have HE := Lib.hid (sk_hash s k hlt (HY.out.trans e))
        have HE2 : Hid (skL true (s.data.toList.drop k) = skL true (s.data.toList.drop (k + 1)) + 1) := Lib.hid (sk_in s k hlt (by rw [HY.out]; omega) (by rw [HY.out, e]; exact plain35))
        have HK : Hid (∀ h : k < s.size, (s[k]'h).toNat = 35) := Lib.hid (fun _ => HY.out.trans e)
        subst e
        go_wp2_with fail
        go_loop [1] (fun v => SkIn s N k v) (fun v => s.size - (intOf v).toNat)
        case atStart => exact ⟨k, Nat.le_refl _, hk, rfl, by unfold Hid; have := HP.out; have := HE.out; have := HE2.out; omega⟩
        case round =>
          clear hix
          obtain ⟨j, hkj, hj, rfl, HQ⟩ := hrel
          by_cases hjt : j < s.size
          · obtain ⟨z, hz⟩ : ∃ z : Nat, (s[j]'hjt).toNat = z := ⟨_, rfl⟩
            have HZ := Lib.hid hz
            have hix3 := byte_at s j hjt (j : Int) rfl
            rw [hz] at hix3
            clear hz
            have HJ : Hid (j = k → z = 35) := Lib.hid (by intro q; subst q; rw [← HZ.out]; exact HK.out _)
            by_cases c10 : z = 10
            · have hne : k < j := by have := HJ.out; omega
              have HF := Lib.hid (sk_nl true s j hjt (HZ.out.trans c10))
              have HG := Lib.hid (sk_nl false s j hjt (HZ.out.trans c10))
              have t10 : ((z : Int) != 10) = false := by simp; omega
              go_wp2_with fail
              go_round
              case rel => exact ⟨j, by omega, rfl, by unfold Hid; have := HQ.out; have := HF.out; have := HG.out; omega⟩
              case measure => simp [intOf]; omega
            · have t10 : ((z : Int) != 10) = true := by simp; omega
              by_cases hp : plainB (z : Int) = true
              · have HX := Lib.hid hp
                have HF := Lib.hid (sk_in s j hjt (by rw [HZ.out]; exact c10) (by rw [HZ.out]; exact hp))
                clear hp
                go_wp2_with (go_at_call 83; refine (scPlain_true _ _ HX.out).mono ?_; rintro e w' ⟨rfl, rfl⟩)
                go_round
                case rel => exact ⟨j + 1, by omega, by omega, by go_num, by unfold Hid; have := HQ.out; have := HF.out; omega⟩
                case measure => simp [intOf]; omega
              · have hp' := Bool.eq_false_iff.2 hp
                have hne : k < j := by
                  rcases Nat.lt_or_eq_of_le hkj with q | q
                  · exact q
                  · exfalso; rw [HJ.out q.symm] at hp'; cases hp'
                have HX := Lib.hid hp'
                have HF := Lib.hid (sk_out s j hjt (by rw [HZ.out]; exact hp'))
                have HG := Lib.hid (sk_stop s j hjt (by rw [HZ.out]; unfold plainB at hp'; simp at hp'; omega))
                clear hp hp'
                go_wp2_with (go_at_call 83; refine (scPlain_false _ _ HX.out).mono ?_; rintro e w' ⟨rfl, rfl⟩)
                go_round
                case rel => exact ⟨j, by omega, rfl, by unfold Hid; have := HQ.out; have := HF.out; have := HG.out; omega⟩
                case measure => simp [intOf]; omega
          · have HF := Lib.hid (sk_end true s j (by omega))
            have HG := Lib.hid (sk_end false s j (by omega))
            go_wp2_with fail
            go_round
            case rel => exact ⟨j, by omega, rfl, by unfold Hid; have := HQ.out; have := HF.out; have := HG.out; omega⟩
            case measure => simp [intOf]; omega
      · obtain ⟨e1, e2, e3, e4, e5⟩ := e
        have HE := Lib.hid (sk_stop s k hlt (by rw [HY.out]; exact ⟨e3, e1, e2, e4, e5⟩))
        have t32 : ((y : Int) == 32) = false := by simp; omega
        have t9 : ((y : Int) == 9) = false := by simp; omega
        have t10 : ((y : Int) == 10) = false := by simp; omega
        have t92 : ((y : Int) == 92) = false := by simp; omega
        have t35 : ((y : Int) == 35) = false := by simp; omega
        go_wp2_with fail
        go_ret
        exact ⟨ret_int (by have := HP.out; have := HE.out; omega), rfl⟩
    · have HE := Lib.hid (sk_end false s k (by omega))
      go_wp2_with fail
      go_ret
      exact ⟨ret_int (by have := HP.out; have := HE.out; omega), rfl⟩
end Go.Proofs.YtdmcgjohpnojkaaDoor
