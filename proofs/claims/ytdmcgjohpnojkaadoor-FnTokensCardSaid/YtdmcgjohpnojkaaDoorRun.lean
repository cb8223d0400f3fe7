/- strings.IndexRune in a row of ASCII bytes, at whatever rune: the digit's value, or -1. -/
import Derived.Test.YtdmcgjohpnojkaaDoorDigN
import Derived.Laws.RangeAny
import Derived.Laws.Runes
import Derived.LoopTactic
import Derived.WalkMore
namespace Go.Proofs.YtdmcgjohpnojkaaDoor
set_option maxRecDepth 100000
open Go.RowKit
set_option linter.unusedVariables false

/-- a short row of ASCII bytes -/
def Asc (s : ByteArray) : Prop := ∀ b ∈ s.data.toList, b.toNat < 128
theorem asc_dec : Asc decB := by unfold Asc decB; decide
theorem asc_hex : Asc hexB := by unfold Asc hexB; decide
theorem asc_at {s : ByteArray} (h : Asc s) (k : Nat) (hk : k < s.size) : (s[k]'hk).toNat < 128 := h _ (by
  have : s[k] = s.data.toList[k]'(by simpa using hk) := rfl
  rw [this]; exact List.getElem_mem _)
theorem index_high {l : List UInt8} {c : UInt8} (h : ∀ b ∈ l, b ≠ c) : Lib.indexByte l c = -1 := by
  induction l with
  | nil => rfl
  | cons b r ih =>
    have h1 : (b == c) = false := by simpa using h b (by simp)
    rw [Lib.indexByte, h1, ih (fun x hx => h x (by simp [hx]))]
    rfl

/-- the answer -1 -/
def SaysNone (w : World) (e : Ending) (w' : World) : Prop := e = .returned (.int .i64 (-1)) ∧ Below w.heap.size w w'

theorem rune_error (s : ByteArray) (w : World) (hs : Hid (Asc s)) (hz : s.size ≤ 64) :
    Calls Tryd.prog 142 #[.string s, .int .i32 65533] w (SaysNone w) := by
  go_enter Tryd.func142, Tryd.ntmps142
  go_wp2_with fail
  go_loopw [5] (fun _ wr => ∃ k : Nat, k ≤ s.size ∧ wr = w.iter s k) (fun _ wr => s.size - wr.iterPos w.heap.size)
  case atStart => exact ⟨0, Nat.zero_le _, rfl⟩
  case round =>
    obtain ⟨k, hk, rfl⟩ := hrel
    by_cases hlt : k < s.size
    · have ha := asc_at hs.out k hlt
      have hnx := fun ty => run_next_ascii (P := Tryd.prog) w s k ty hlt ha
      have hne : (((s[k]'hlt).toNat : Int) == 65533) = false := by simp; omega
      go_wp2
      go_roundw
      case rel => exact ⟨k + 1, by omega, rfl⟩
      case measure => simp; omega
    · have hnx := fun ty => run_next_end (P := Tryd.prog) w s k ty hlt
      go_wp2
      go_ret
      exact ⟨rfl, (Below.refl _ _).alloc (Nat.le_refl _) _⟩

theorem rune_invalid (s : ByteArray) (r : Int) (w : World) (h : 128 ≤ r) (hr : r ≠ 65533) (hv : Lib.validRune r = false) :
    Calls Tryd.prog 142 #[.string s, .int .i32 r] w (SaysNone w) := by
  have d0 : decide ((0 : Int) ≤ r) = true := by simp; omega
  have d1 : decide (r < 128) = false := by simp; omega
  have d2 : (r == 65533) = false := by simpa using hr
  have HV := Lib.hid hv
  clear hv
  go_enter Tryd.func142, Tryd.ntmps142
  go_wp2_with (go_at_call 150; refine (Tryd.utf8_ValidRune r _).mono ?_; rw [HV.out]; rintro e w' ⟨rfl, hw⟩; rw [hw])
  go_ret
  exact ⟨rfl, Below.refl _ _⟩

/-- a valid rune that is not ASCII: its last byte is not there -/
theorem rune_tail (s : ByteArray) (m : Nat) (mi mj : Int) (hmi : mi = m) (hmj : mj = (m : Int) + 1) (hs : Asc s) (hm : m < s.size) (hz2 : s.size ≤ 64) : ∃ (d : UInt8) (u : ByteArray), d.toNat < 128 ∧ Hid (Asc u) ∧
    (∀ w, (Instr.index 9 (.string s) (.int .i64 mi)).run Tryd.prog w = .ok (.int .u8 d.toNat) w) ∧
    (∀ w, (Instr.slice 9 (.string s) (some (.int .i64 mj)) none none).run Tryd.prog w = .ok (.string u) w) := by
  subst hmi hmj
  refine ⟨s[m], s.extract (m + 1) s.size, asc_at hs m hm, ?_, fun w => ?_, fun w => ?_⟩
  · intro b hb
    exact hs b (mem_extract hb)
  · rw [run_index_string w 9 s .i64 (m : Int) Tryd.underlying9, dif_pos (by omega)]
    rfl
  · rw [run_slice_string_l w 9 s Tryd.underlying9 .i64 ((m : Int) + 1) (by omega) (by omega)]
    rfl
theorem index_missing (u : ByteArray) (c : UInt8) (hu : Asc u) (h : 128 ≤ c.toNat) (w : World) :
    Calls Tryd.prog 149 #[.string u, .int .u8 (c.toNat : Int)] w fun e w' => e = .returned (.int .i64 (-1)) ∧ w' = w :=
  (Tryd.strings_IndexByte u (c.toNat : Int) w).mono fun e w' ⟨a, b⟩ => ⟨by
    rw [a, index_high]
    intro x hx hxc
    have h1 := hu x hx
    rw [hxc] at h1
    simp at h1
    omega, b⟩
theorem size_cases {n : Nat} (h : 2 ≤ n) (h4 : n ≤ 4) : n = 1 + 1 ∨ n = 2 + 1 ∨ n = 3 + 1 := by omega
set_option maxHeartbeats 1600000 in
theorem rune_valid1 (s rs : ByteArray) (r : Int) (w : World) (hs : Hid (Asc s)) (hz : 10 ≤ s.size) (hz2 : s.size ≤ 64) (h : 128 ≤ r) (hr : r ≠ 65533) (HV : Hid (Lib.validRune r = true)) (HRS : Hid (Utf8.encode r = rs)) (hn : rs.size = 1 + 1) (c : UInt8) (hc : Hid (rs[1]'(by omega) = c)) (hc128 : 128 ≤ c.toNat) :
    Calls Tryd.prog 142 #[.string s, .int .i32 r] w (SaysNone w) := by
  have d0 : decide ((0 : Int) ≤ r) = true := by simp; omega
  have d1 : decide (r < 128) = false := by simp; omega
  have d2 : (r == 65533) = false := by simpa using hr
  obtain ⟨d, u, hd, HU, hix, hsl⟩ := rune_tail s 1 1 2 rfl rfl hs.out (by omega) hz2
  have hcv : ∀ w, (convert 21 9 (.int .i32 r)).run Tryd.prog w = .ok (.string rs) w := fun w => by
    rw [run_convert_int_string w 21 9 .i32 r (by rw [Tryd.underlying21]; rfl) Tryd.underlying9, HRS.out]
  have hixr : ∀ w, (Instr.index 9 (.string rs) (.int .i64 1)).run Tryd.prog w = .ok (.int .u8 c.toNat) w := fun w => by
    rw [run_index_string w 9 rs .i64 1 Tryd.underlying9, dif_pos (by omega), ← hc.out]
    rfl
  have hne : ((d.toNat : Int) != (c.toNat : Int)) = true := by simp; omega
  have hlt : decide ((1 : Int) < s.size) = true := by simp; omega
  clear hr h hd
  go_enter Tryd.func142, Tryd.ntmps142
  go_wp2_with (go_at_call 150; refine (Tryd.utf8_ValidRune r _).mono ?_; rw [HV.out]; rintro e w' ⟨rfl, rfl⟩)
  go_step3
  go_wp2_with fail
  refine wp_loop_rounds 1 ?_
  rw [rounds_succ]
  go_wp2_with fail
  go_step3
  go_wp2_with fail
  go_quiet (fail)
  go_wp2_with fail
  generalize hw : World.drewN _ _ = wr
  have HW := Lib.hid hw
  clear hw
  go_quiet ((go_at_call 149; exact Calls.quiet_of_same (index_missing u c HU.out hc128 _)))
  go_wp2_with fail
  go_ret
  exact ⟨rfl, by rw [← HW.out]; exact below_drewN (below_drewN (Below.refl _ _) _) _⟩
set_option maxHeartbeats 1600000 in
theorem rune_valid2 (s rs : ByteArray) (r : Int) (w : World) (hs : Hid (Asc s)) (hz : 10 ≤ s.size) (hz2 : s.size ≤ 64) (h : 128 ≤ r) (hr : r ≠ 65533) (HV : Hid (Lib.validRune r = true)) (HRS : Hid (Utf8.encode r = rs)) (hn : rs.size = 2 + 1) (c : UInt8) (hc : Hid (rs[2]'(by omega) = c)) (hc128 : 128 ≤ c.toNat) :
    Calls Tryd.prog 142 #[.string s, .int .i32 r] w (SaysNone w) := by
  have d0 : decide ((0 : Int) ≤ r) = true := by simp; omega
  have d1 : decide (r < 128) = false := by simp; omega
  have d2 : (r == 65533) = false := by simpa using hr
  obtain ⟨d, u, hd, HU, hix, hsl⟩ := rune_tail s 2 2 3 rfl rfl hs.out (by omega) hz2
  have hcv : ∀ w, (convert 21 9 (.int .i32 r)).run Tryd.prog w = .ok (.string rs) w := fun w => by
    rw [run_convert_int_string w 21 9 .i32 r (by rw [Tryd.underlying21]; rfl) Tryd.underlying9, HRS.out]
  have hixr : ∀ w, (Instr.index 9 (.string rs) (.int .i64 2)).run Tryd.prog w = .ok (.int .u8 c.toNat) w := fun w => by
    rw [run_index_string w 9 rs .i64 2 Tryd.underlying9, dif_pos (by omega), ← hc.out]
    rfl
  have hne : ((d.toNat : Int) != (c.toNat : Int)) = true := by simp; omega
  have hlt : decide ((2 : Int) < s.size) = true := by simp; omega
  clear hr h hd
  go_enter Tryd.func142, Tryd.ntmps142
  go_wp2_with (go_at_call 150; refine (Tryd.utf8_ValidRune r _).mono ?_; rw [HV.out]; rintro e w' ⟨rfl, rfl⟩)
  go_step3
  go_wp2_with fail
  refine wp_loop_rounds 1 ?_
  rw [rounds_succ]
  go_wp2_with fail
  go_step3
  go_wp2_with fail
  go_quiet (fail)
  go_wp2_with fail
  generalize hw : World.drewN _ _ = wr
  have HW := Lib.hid hw
  clear hw
  go_quiet ((go_at_call 149; exact Calls.quiet_of_same (index_missing u c HU.out hc128 _)))
  go_wp2_with fail
  go_ret
  exact ⟨rfl, by rw [← HW.out]; exact below_drewN (below_drewN (Below.refl _ _) _) _⟩
set_option maxHeartbeats 1600000 in
theorem rune_valid3 (s rs : ByteArray) (r : Int) (w : World) (hs : Hid (Asc s)) (hz : 10 ≤ s.size) (hz2 : s.size ≤ 64) (h : 128 ≤ r) (hr : r ≠ 65533) (HV : Hid (Lib.validRune r = true)) (HRS : Hid (Utf8.encode r = rs)) (hn : rs.size = 3 + 1) (c : UInt8) (hc : Hid (rs[3]'(by omega) = c)) (hc128 : 128 ≤ c.toNat) :
    Calls Tryd.prog 142 #[.string s, .int .i32 r] w (SaysNone w) := by
  have d0 : decide ((0 : Int) ≤ r) = true := by simp; omega
  have d1 : decide (r < 128) = false := by simp; omega
  have d2 : (r == 65533) = false := by simpa using hr
  obtain ⟨d, u, hd, HU, hix, hsl⟩ := rune_tail s 3 3 4 rfl rfl hs.out (by omega) hz2
  have hcv : ∀ w, (convert 21 9 (.int .i32 r)).run Tryd.prog w = .ok (.string rs) w := fun w => by
    rw [run_convert_int_string w 21 9 .i32 r (by rw [Tryd.underlying21]; rfl) Tryd.underlying9, HRS.out]
  have hixr : ∀ w, (Instr.index 9 (.string rs) (.int .i64 3)).run Tryd.prog w = .ok (.int .u8 c.toNat) w := fun w => by
    rw [run_index_string w 9 rs .i64 3 Tryd.underlying9, dif_pos (by omega), ← hc.out]
    rfl
  have hne : ((d.toNat : Int) != (c.toNat : Int)) = true := by simp; omega
  have hlt : decide ((3 : Int) < s.size) = true := by simp; omega
  clear hr h hd
  go_enter Tryd.func142, Tryd.ntmps142
  go_wp2_with (go_at_call 150; refine (Tryd.utf8_ValidRune r _).mono ?_; rw [HV.out]; rintro e w' ⟨rfl, rfl⟩)
  go_step3
  go_wp2_with fail
  refine wp_loop_rounds 1 ?_
  rw [rounds_succ]
  go_wp2_with fail
  go_step3
  go_wp2_with fail
  go_quiet (fail)
  go_wp2_with fail
  generalize hw : World.drewN _ _ = wr
  have HW := Lib.hid hw
  clear hw
  go_quiet ((go_at_call 149; exact Calls.quiet_of_same (index_missing u c HU.out hc128 _)))
  go_wp2_with fail
  go_ret
  exact ⟨rfl, by rw [← HW.out]; exact below_drewN (below_drewN (Below.refl _ _) _) _⟩

theorem rune_none (s : ByteArray) (r : Int) (w : World) (hs : Hid (Asc s)) (hz : 10 ≤ s.size) (hz2 : s.size ≤ 64) (h : 128 ≤ r) :
    Calls Tryd.prog 142 #[.string s, .int .i32 r] w (SaysNone w) := by
  by_cases hr : r = 65533
  · subst hr
    exact rune_error s w hs hz2
  · rcases Bool.eq_false_or_eq_true (Lib.validRune r) with hv | hv
    · have hu : Utf8.valid r = true := by rw [validRune_eq]; exact hv
      obtain ⟨e2, e4, elast⟩ := encode_facts r hu h
      rcases size_cases e2 e4 with hn | hn | hn
      · exact rune_valid1 s _ r w hs hz hz2 h hr hv rfl hn _ rfl (by have := elast (by omega); simpa [hn] using this)
      · exact rune_valid2 s _ r w hs hz hz2 h hr hv rfl hn _ rfl (by have := elast (by omega); simpa [hn] using this)
      · exact rune_valid3 s _ r w hs hz hz2 h hr hv rfl hn _ rfl (by have := elast (by omega); simpa [hn] using this)
    · exact rune_invalid s r w h hr hv
theorem rune_dec (c : Nat) (h : c < 128) (w : World) :
    Calls Tryd.prog 142 #[.string decB, .int .i32 (c : Int)] w fun e w' => e = .returned (.int .i64 (dg 10 (c : Int))) ∧ w' = w :=
  (Tryd.strings_IndexRune_ascii decB (c : Int) w (by omega) (by omega)).mono fun e w' ⟨a, b⟩ => ⟨by rw [a, ← dec_all ⟨c, by omega⟩]; rfl, b⟩
theorem rune_hex (c : Nat) (h : c < 128) (w : World) :
    Calls Tryd.prog 142 #[.string hexB, .int .i32 (c : Int)] w fun e w' => e = .returned (.int .i64 (dg 16 (c : Int))) ∧ w' = w :=
  (Tryd.strings_IndexRune_ascii hexB (c : Int) w (by omega) (by omega)).mono fun e w' ⟨a, b⟩ => ⟨by rw [a, ← hex_all ⟨c, by omega⟩]; rfl, b⟩
end Go.Proofs.YtdmcgjohpnojkaaDoor
