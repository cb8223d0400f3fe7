import Derived.Test.YtmmofchfafnkcaaGreatDoorPkb
import Derived.Laws.RangeAny
import Derived.Laws.Runes
import Derived.LoopTactic
import Derived.WalkMore
import Derived.ChangeSame
import Derived.Stop.LaidErr
import Derived.Deep.QuietTactic
import Derived.BigQuiet
/- strings.IndexRune in a row of ASCII bytes, at whatever rune: the digit's value, or -1. -/
namespace Go.Proofs.YtmmofchfafnkcaaGreatDoor
set_option maxRecDepth 100000
open Go.RowKit
set_option linter.unusedVariables false

/-- a short row of ASCII bytes -/
def Asc (s : ByteArray) : Prop := ∀ b ∈ s.data.toList, b.toNat < 128
theorem asc_dec : Asc decB := by unfold Asc decB; decide
theorem asc_hex : Asc hexB := by unfold Asc hexB; decide
theorem asc_at {s : ByteArray} (h : Asc s) (k : Nat) (hk : k < s.size) : (s[k]'hk).toNat < 128 := h _ (by
  have : s[k] = s.data.toList[k]'(by simpa using hk) := rfl
  rw [this]; exact List.getElem_mem _)
theorem index_high {l : List UInt8} {c : UInt8} (h : ∀ b ∈ l, b ≠ c) : Lib.indexByte l c = -1 := by
  induction l with
  | nil => rfl
  | cons b r ih =>
    have h1 : (b == c) = false := by simpa using h b (by simp)
    rw [Lib.indexByte, h1, ih (fun x hx => h x (by simp [hx]))]
    rfl

/-- the answer -1 -/
def SaysNone (w : World) (e : Ending) (w' : World) : Prop := e = .returned (.int .i64 (-1)) ∧ Below w.heap.size w w'

theorem rune_error (s : ByteArray) (w : World) (hs : Hid (Asc s)) (hz : s.size ≤ 64) :
    Calls Tryz.prog 262 #[.string s, .int .i32 65533] w (SaysNone w) := by
  go_enter Tryz.func262, Tryz.ntmps262
  go_wp2_with fail
  go_loopw [5] (fun _ wr => ∃ k : Nat, k ≤ s.size ∧ wr = w.iter s k) (fun _ wr => s.size - wr.iterPos w.heap.size)
  case atStart => exact ⟨0, Nat.zero_le _, rfl⟩
  case round =>
    obtain ⟨k, hk, rfl⟩ := hrel
    by_cases hlt : k < s.size
    · have ha := asc_at hs.out k hlt
      have hnx := fun ty => run_next_ascii (P := Tryz.prog) w s k ty hlt ha
      have hne : (((s[k]'hlt).toNat : Int) == 65533) = false := by simp; omega
      go_wp2
      go_roundw
      case rel => exact ⟨k + 1, by omega, rfl⟩
      case measure => simp; omega
    · have hnx := fun ty => run_next_end (P := Tryz.prog) w s k ty hlt
      go_wp2
      go_ret
      exact ⟨rfl, (Below.refl _ _).alloc (Nat.le_refl _) _⟩

theorem rune_invalid (s : ByteArray) (r : Int) (w : World) (h : 128 ≤ r) (hr : r ≠ 65533) (hv : Lib.validRune r = false) :
    Calls Tryz.prog 262 #[.string s, .int .i32 r] w (SaysNone w) := by
  have d0 : decide ((0 : Int) ≤ r) = true := by simp; omega
  have d1 : decide (r < 128) = false := by simp; omega
  have d2 : (r == 65533) = false := by simpa using hr
  have HV := Lib.hid hv
  clear hv
  go_enter Tryz.func262, Tryz.ntmps262
  go_wp2_with (go_at_call 270; refine (Tryz.utf8_ValidRune r _).mono ?_; rw [HV.out]; rintro e w' ⟨rfl, hw⟩; rw [hw])
  go_ret
  exact ⟨rfl, Below.refl _ _⟩

/-- a valid rune that is not ASCII: its last byte is not there -/
theorem rune_tail (s : ByteArray) (m : Nat) (mi mj : Int) (hmi : mi = m) (hmj : mj = (m : Int) + 1) (hs : Asc s) (hm : m < s.size) (hz2 : s.size ≤ 64) : ∃ (d : UInt8) (u : ByteArray), d.toNat < 128 ∧ Hid (Asc u) ∧
    (∀ w, (Instr.index 9 (.string s) (.int .i64 mi)).run Tryz.prog w = .ok (.int .u8 d.toNat) w) ∧
    (∀ w, (Instr.slice 9 (.string s) (some (.int .i64 mj)) none none).run Tryz.prog w = .ok (.string u) w) := by
  subst hmi hmj
  refine ⟨s[m], s.extract (m + 1) s.size, asc_at hs m hm, ?_, fun w => ?_, fun w => ?_⟩
  · intro b hb
    exact hs b (mem_extract hb)
  · rw [run_index_string w 9 s .i64 (m : Int) Tryz.underlying9, dif_pos (by omega)]
    rfl
  · rw [run_slice_string_l w 9 s Tryz.underlying9 .i64 ((m : Int) + 1) (by omega) (by omega)]
    rfl
theorem index_missing (u : ByteArray) (c : UInt8) (hu : Asc u) (h : 128 ≤ c.toNat) (w : World) :
    Calls Tryz.prog 269 #[.string u, .int .u8 (c.toNat : Int)] w fun e w' => e = .returned (.int .i64 (-1)) ∧ w' = w :=
  (Tryz.strings_IndexByte u (c.toNat : Int) w).mono fun e w' ⟨a, b⟩ => ⟨by
    rw [a, index_high]
    intro x hx hxc
    have h1 := hu x hx
    rw [hxc] at h1
    simp at h1
    omega, b⟩
theorem size_cases {n : Nat} (h : 2 ≤ n) (h4 : n ≤ 4) : n = 1 + 1 ∨ n = 2 + 1 ∨ n = 3 + 1 := by omega
set_option maxHeartbeats 1600000 in
theorem rune_valid1 (s rs : ByteArray) (r : Int) (w : World) (hs : Hid (Asc s)) (hz : 10 ≤ s.size) (hz2 : s.size ≤ 64) (h : 128 ≤ r) (hr : r ≠ 65533) (HV : Hid (Lib.validRune r = true)) (HRS : Hid (Utf8.encode r = rs)) (hn : rs.size = 1 + 1) (c : UInt8) (hc : Hid (rs[1]'(by omega) = c)) (hc128 : 128 ≤ c.toNat) :
    Calls Tryz.prog 262 #[.string s, .int .i32 r] w (SaysNone w) := by
  have d0 : decide ((0 : Int) ≤ r) = true := by simp; omega
  have d1 : decide (r < 128) = false := by simp; omega
  have d2 : (r == 65533) = false := by simpa using hr
  obtain ⟨d, u, hd, HU, hix, hsl⟩ := rune_tail s 1 1 2 rfl rfl hs.out (by omega) hz2
  have hcv : ∀ w, (convert 21 9 (.int .i32 r)).run Tryz.prog w = .ok (.string rs) w := fun w => by
    rw [run_convert_int_string w 21 9 .i32 r (by rw [Tryz.underlying21]; rfl) Tryz.underlying9, HRS.out]
  have hixr : ∀ w, (Instr.index 9 (.string rs) (.int .i64 1)).run Tryz.prog w = .ok (.int .u8 c.toNat) w := fun w => by
    rw [run_index_string w 9 rs .i64 1 Tryz.underlying9, dif_pos (by omega), ← hc.out]
    rfl
  have hne : ((d.toNat : Int) != (c.toNat : Int)) = true := by simp; omega
  have hlt : decide ((1 : Int) < s.size) = true := by simp; omega
  clear hr h hd
  go_enter Tryz.func262, Tryz.ntmps262
  go_wp2_with (go_at_call 270; refine (Tryz.utf8_ValidRune r _).mono ?_; rw [HV.out]; rintro e w' ⟨rfl, rfl⟩)
  go_step3
  go_wp2_with fail
  refine wp_loop_rounds 1 ?_
  rw [rounds_succ]
  go_wp2_with fail
  go_step3
  go_wp2_with fail
  go_quiet (fail)
  go_wp2_with fail
  generalize hw : World.drewN _ _ = wr
  have HW := Lib.hid hw
  clear hw
  go_quiet ((go_at_call 269; exact Calls.quiet_of_same (index_missing u c HU.out hc128 _)))
  go_wp2_with fail
  go_ret
  exact ⟨rfl, by rw [← HW.out]; exact below_drewN (below_drewN (Below.refl _ _) _) _⟩
set_option maxHeartbeats 1600000 in
theorem rune_valid2 (s rs : ByteArray) (r : Int) (w : World) (hs : Hid (Asc s)) (hz : 10 ≤ s.size) (hz2 : s.size ≤ 64) (h : 128 ≤ r) (hr : r ≠ 65533) (HV : Hid (Lib.validRune r = true)) (HRS : Hid (Utf8.encode r = rs)) (hn : rs.size = 2 + 1) (c : UInt8) (hc : Hid (rs[2]'(by omega) = c)) (hc128 : 128 ≤ c.toNat) :
    Calls Tryz.prog 262 #[.string s, .int .i32 r] w (SaysNone w) := by
  have d0 : decide ((0 : Int) ≤ r) = true := by simp; omega
  have d1 : decide (r < 128) = false := by simp; omega
  have d2 : (r == 65533) = false := by simpa using hr
  obtain ⟨d, u, hd, HU, hix, hsl⟩ := rune_tail s 2 2 3 rfl rfl hs.out (by omega) hz2
  have hcv : ∀ w, (convert 21 9 (.int .i32 r)).run Tryz.prog w = .ok (.string rs) w := fun w => by
    rw [run_convert_int_string w 21 9 .i32 r (by rw [Tryz.underlying21]; rfl) Tryz.underlying9, HRS.out]
  have hixr : ∀ w, (Instr.index 9 (.string rs) (.int .i64 2)).run Tryz.prog w = .ok (.int .u8 c.toNat) w := fun w => by
    rw [run_index_string w 9 rs .i64 2 Tryz.underlying9, dif_pos (by omega), ← hc.out]
    rfl
  have hne : ((d.toNat : Int) != (c.toNat : Int)) = true := by simp; omega
  have hlt : decide ((2 : Int) < s.size) = true := by simp; omega
  clear hr h hd
  go_enter Tryz.func262, Tryz.ntmps262
  go_wp2_with (go_at_call 270; refine (Tryz.utf8_ValidRune r _).mono ?_; rw [HV.out]; rintro e w' ⟨rfl, rfl⟩)
  go_step3
  go_wp2_with fail
  refine wp_loop_rounds 1 ?_
  rw [rounds_succ]
  go_wp2_with fail
  go_step3
  go_wp2_with fail
  go_quiet (fail)
  go_wp2_with fail
  generalize hw : World.drewN _ _ = wr
  have HW := Lib.hid hw
  clear hw
  go_quiet ((go_at_call 269; exact Calls.quiet_of_same (index_missing u c HU.out hc128 _)))
  go_wp2_with fail
  go_ret
  exact ⟨rfl, by rw [← HW.out]; exact below_drewN (below_drewN (Below.refl _ _) _) _⟩
set_option maxHeartbeats 1600000 in
theorem rune_valid3 (s rs : ByteArray) (r : Int) (w : World) (hs : Hid (Asc s)) (hz : 10 ≤ s.size) (hz2 : s.size ≤ 64) (h : 128 ≤ r) (hr : r ≠ 65533) (HV : Hid (Lib.validRune r = true)) (HRS : Hid (Utf8.encode r = rs)) (hn : rs.size = 3 + 1) (c : UInt8) (hc : Hid (rs[3]'(by omega) = c)) (hc128 : 128 ≤ c.toNat) :
    Calls Tryz.prog 262 #[.string s, .int .i32 r] w (SaysNone w) := by
  have d0 : decide ((0 : Int) ≤ r) = true := by simp; omega
  have d1 : decide (r < 128) = false := by simp; omega
  have d2 : (r == 65533) = false := by simpa using hr
  obtain ⟨d, u, hd, HU, hix, hsl⟩ := rune_tail s 3 3 4 rfl rfl hs.out (by omega) hz2
  have hcv : ∀ w, (convert 21 9 (.int .i32 r)).run Tryz.prog w = .ok (.string rs) w := fun w => by
    rw [run_convert_int_string w 21 9 .i32 r (by rw [Tryz.underlying21]; rfl) Tryz.underlying9, HRS.out]
  have hixr : ∀ w, (Instr.index 9 (.string rs) (.int .i64 3)).run Tryz.prog w = .ok (.int .u8 c.toNat) w := fun w => by
    rw [run_index_string w 9 rs .i64 3 Tryz.underlying9, dif_pos (by omega), ← hc.out]
    rfl
  have hne : ((d.toNat : Int) != (c.toNat : Int)) = true := by simp; omega
  have hlt : decide ((3 : Int) < s.size) = true := by simp; omega
  clear hr h hd
  go_enter Tryz.func262, Tryz.ntmps262
  go_wp2_with (go_at_call 270; refine (Tryz.utf8_ValidRune r _).mono ?_; rw [HV.out]; rintro e w' ⟨rfl, rfl⟩)
  go_step3
  go_wp2_with fail
  refine wp_loop_rounds 1 ?_
  rw [rounds_succ]
  go_wp2_with fail
  go_step3
  go_wp2_with fail
  go_quiet (fail)
  go_wp2_with fail
  generalize hw : World.drewN _ _ = wr
  have HW := Lib.hid hw
  clear hw
  go_quiet ((go_at_call 269; exact Calls.quiet_of_same (index_missing u c HU.out hc128 _)))
  go_wp2_with fail
  go_ret
  exact ⟨rfl, by rw [← HW.out]; exact below_drewN (below_drewN (Below.refl _ _) _) _⟩

theorem rune_none (s : ByteArray) (r : Int) (w : World) (hs : Hid (Asc s)) (hz : 10 ≤ s.size) (hz2 : s.size ≤ 64) (h : 128 ≤ r) :
    Calls Tryz.prog 262 #[.string s, .int .i32 r] w (SaysNone w) := by
  by_cases hr : r = 65533
  · subst hr
    exact rune_error s w hs hz2
  · rcases Bool.eq_false_or_eq_true (Lib.validRune r) with hv | hv
    · have hu : Utf8.valid r = true := by rw [validRune_eq]; exact hv
      obtain ⟨e2, e4, elast⟩ := encode_facts r hu h
      rcases size_cases e2 e4 with hn | hn | hn
      · exact rune_valid1 s _ r w hs hz hz2 h hr hv rfl hn _ rfl (by have := elast (by omega); simpa [hn] using this)
      · exact rune_valid2 s _ r w hs hz hz2 h hr hv rfl hn _ rfl (by have := elast (by omega); simpa [hn] using this)
      · exact rune_valid3 s _ r w hs hz hz2 h hr hv rfl hn _ rfl (by have := elast (by omega); simpa [hn] using this)
    · exact rune_invalid s r w h hr hv
theorem rune_dec (c : Nat) (h : c < 128) (w : World) :
    Calls Tryz.prog 262 #[.string decB, .int .i32 (c : Int)] w fun e w' => e = .returned (.int .i64 (dg 10 (c : Int))) ∧ w' = w :=
  (Tryz.strings_IndexRune_ascii decB (c : Int) w (by omega) (by omega)).mono fun e w' ⟨a, b⟩ => ⟨by rw [a, ← dec_all ⟨c, by omega⟩]; rfl, b⟩
theorem rune_hex (c : Nat) (h : c < 128) (w : World) :
    Calls Tryz.prog 262 #[.string hexB, .int .i32 (c : Int)] w fun e w' => e = .returned (.int .i64 (dg 16 (c : Int))) ∧ w' = w :=
  (Tryz.strings_IndexRune_ascii hexB (c : Int) w (by omega) (by omega)).mono fun e w' ⟨a, b⟩ => ⟨by rw [a, ← hex_all ⟨c, by omega⟩]; rfl, b⟩
end Go.Proofs.YtmmofchfafnkcaaGreatDoor

/- The numbers that digits stand for: contracts of digitsValue, scDigit and scNumber. -/
namespace Go.Proofs.YtmmofchfafnkcaaGreatDoor
set_option maxRecDepth 100000
open Go.RowKit

/-- the number of a list of digits -/
def dval (b : Int) (l : List UInt8) : Int := l.foldl (fun a c => a * b + dg b (c.toNat : Int)) 0
theorem dval_snoc (b : Int) (l : List UInt8) (c : UInt8) : dval b (l ++ [c]) = dval b l * b + dg b (c.toNat : Int) := by simp [dval]
theorem dval_dvN (b : Int) (l : List UInt8) (h : ∀ c ∈ l, 0 ≤ dg b (c.toNat : Int)) : dval b l = dvN b l 0 := by
  have gen : ∀ (l : List UInt8) (n : Int), (∀ c ∈ l, 0 ≤ dg b (c.toNat : Int)) → l.foldl (fun a c => a * b + dg b (c.toNat : Int)) n = dvN b l n := by
    intro l
    induction l with
    | nil => intro n _; rfl
    | cons c r ih =>
      intro n hl
      simp only [List.foldl_cons, dvN, if_pos (hl c (by simp))]
      exact ih _ (fun x hx => hl x (by simp [hx]))
  exact gen l 0 h
theorem digits_of (b : Int) (l : List UInt8) : ∀ c ∈ l.take (dlen b l), 0 ≤ dg b (c.toNat : Int) := by
  induction l with
  | nil => intro c hc; simp at hc
  | cons x r ih =>
    intro c hc
    by_cases hd : 0 ≤ dg b (x.toNat : Int)
    · simp only [dlen, if_pos hd, List.take_succ_cons, List.mem_cons] at hc
      rcases hc with rfl | hc
      · exact hd
      · exact ih c hc
    · simp [dlen, if_neg hd] at hc
theorem take_byte (s : ByteArray) (k : Nat) (h : k < s.size) : s.data.toList.take (k + 1) = s.data.toList.take k ++ [s[k]] := by
  rw [List.take_succ_eq_append_getElem (by simpa using h)]; rfl
theorem mem_byte (s : ByteArray) (k : Nat) (h : k < s.size) : s[k] ∈ s.data.toList := by
  have : s[k] = s.data.toList[k]'(by simpa using h) := rfl
  rw [this]
  exact List.getElem_mem _

def ValRel (w : World) (b : Int) (s : ByteArray) (n i : Value) (wr : World) : Prop :=
  ∃ (k q : Nat) (t : Int), k ≤ s.size ∧ i = .int .i64 k ∧ n = .int .i64 t ∧ wr = w.drewN q ∧ 0 ≤ t ∧ t < b ^ k ∧ t = dval b (s.data.toList.take k)
theorem pow_dec (k : Nat) (h : k < 10) : (10 : Int) ^ k ≤ 68719476736 := by
  rcases (show k = 0 ∨ k = 1 ∨ k = 2 ∨ k = 3 ∨ k = 4 ∨ k = 5 ∨ k = 6 ∨ k = 7 ∨ k = 8 ∨ k = 9 by omega) with rfl | rfl | rfl | rfl | rfl | rfl | rfl | rfl | rfl | rfl <;> decide
theorem pow_hex (k : Nat) (h : k < 10) : (16 : Int) ^ k ≤ 68719476736 := by
  rcases (show k = 0 ∨ k = 1 ∨ k = 2 ∨ k = 3 ∨ k = 4 ∨ k = 5 ∨ k = 6 ∨ k = 7 ∨ k = 8 ∨ k = 9 by omega) with rfl | rfl | rfl | rfl | rfl | rfl | rfl | rfl | rfl | rfl <;> decide
theorem dv_cases (c : Int) : (c < 48 ∧ dv c = -1) ∨ (48 ≤ c ∧ c ≤ 57 ∧ dv c = c - 48) ∨ (57 < c ∧ c < 97 ∧ dv c = -1) ∨ (97 ≤ c ∧ c ≤ 102 ∧ dv c = c - 87) ∨ (102 < c ∧ dv c = -1) := by
  unfold dv
  split
  · omega
  · split <;> omega
end Go.Proofs.YtmmofchfafnkcaaGreatDoor

/- Digits of a row: what they stand for, and facts for the walks of readDigits and of the model's nuDigits. -/
namespace Go.Proofs.YtmmofchfafnkcaaGreatDoor
set_option maxRecDepth 100000
open Go.RowKit

/-- the number of a list of digits to a base, none if it becomes greater than a limit -/
def rdN (b lim : Int) : List UInt8 → Int → Option Int
  | [], n => Option.some n
  | c :: r, n => if 0 ≤ dg b (c.toNat : Int) ∧ n * b + dg b (c.toNat : Int) ≤ lim then rdN b lim r (n * b + dg b (c.toNat : Int)) else none
/-- the same, without needless zeros -/
def rdT (b lim : Int) (l : List UInt8) : Option Int := if l = [] ∨ (1 < l.length ∧ l.head? = Option.some 48) then none else rdN b lim l 0
def optR (o : Option Int) : Int := o.getD 0
def optK (o : Option Int) : Bool := o.isSome
theorem opt_none {o : Option Int} (h : o = none) : optR o = 0 ∧ optK o = false := by subst h; exact ⟨rfl, rfl⟩
theorem opt_some {o : Option Int} {s : Int} (h : o = Option.some s) : optR o = s ∧ optK o = true := by subst h; exact ⟨rfl, rfl⟩
theorem rdN_yes (b lim : Int) (s : ByteArray) (k : Nat) (t d : Int) (h : k < s.size) (hd : dg b ((s[k]'h).toNat : Int) = d) (g : 0 ≤ d ∧ t * b + d ≤ lim) : rdN b lim (s.data.toList.drop k) t = rdN b lim (s.data.toList.drop (k + 1)) (t * b + d) := by
  rw [drop_at s k h, rdN, hd, if_pos g]
theorem rdN_no (b lim : Int) (s : ByteArray) (k : Nat) (t d : Int) (h : k < s.size) (hd : dg b ((s[k]'h).toNat : Int) = d) (g : ¬ (0 ≤ d ∧ t * b + d ≤ lim)) : rdN b lim (s.data.toList.drop k) t = none := by
  rw [drop_at s k h, rdN, hd, if_neg g]
theorem rdN_end (b lim : Int) (s : ByteArray) (k : Nat) (t : Int) (h : s.size ≤ k) : rdN b lim (s.data.toList.drop k) t = Option.some t := by
  rw [List.drop_eq_nil_of_le (by simpa using h)]; rfl
theorem dg_high (b c : Int) (h : 128 ≤ c) : dg b c = -1 := by
  have e : dv c = -1 := by
    unfold dv
    rw [if_neg (by omega), if_neg (by omega)]
  unfold dg
  rw [e]
  split <;> rfl

/-- what begins a text of digits -/
inductive DigHead (s : ByteArray) : Prop
  | none (h : s.size = 0)
  | zero (h : 1 < s.size) (e : (s[0]'(by omega)).toNat = 48)
  | one (h : s.size = 1)
  | more (h : 1 < s.size) (e : (s[0]'(by omega)).toNat ≠ 48)
theorem dig_head (s : ByteArray) : DigHead s := by
  rcases Nat.eq_zero_or_pos s.size with h | h
  · exact .none h
  · rcases Nat.lt_or_ge 1 s.size with h1 | h1
    · by_cases e : (s[0]'(by omega)).toNat = 48
      · exact .zero h1 e
      · exact .more h1 e
    · exact .one (by omega)
theorem size_data (s : ByteArray) : s.size = s.data.toList.length := Lib.size_eq s
theorem head_at (s : ByteArray) (h : 0 < s.size) : s.data.toList.head? = Option.some (s[0]'h) := by
  have := drop_at s 0 h
  rw [List.drop_zero] at this
  rw [this]; rfl
theorem rdT_nil (b lim : Int) (s : ByteArray) (h : s.size = 0) : rdT b lim s.data.toList = none := by
  unfold rdT
  rw [if_pos (.inl (List.eq_nil_of_length_eq_zero (by rw [← size_data]; exact h)))]
theorem rdT_zero (b lim : Int) (s : ByteArray) (h : 1 < s.size) (e : (s[0]'(by omega)).toNat = 48) : rdT b lim s.data.toList = none := by
  unfold rdT
  refine if_pos (.inr ⟨by rw [← size_data]; exact h, ?_⟩)
  rw [head_at s (by omega)]
  congr 1
  exact UInt8.toNat_inj.1 e
theorem rdT_go (b lim : Int) (s : ByteArray) (h : 0 < s.size) (e : 1 < s.size → (s[0]'h).toNat ≠ 48) : rdT b lim s.data.toList = rdN b lim (s.data.toList.drop 0) 0 := by
  unfold rdT
  rw [if_neg, List.drop_zero]
  rintro (h1 | ⟨h1, h2⟩)
  · have q : s.size = 0 := by rw [size_data, h1]; rfl
    omega
  · rw [head_at s h] at h2
    refine e (by rw [size_data]; exact h1) ?_
    rw [Option.some.inj h2]
    rfl
theorem empty_tests {s : ByteArray} (h : s.size = 0) : (s.toList == []) = true ∧ s.toList.isEmpty = true := by
  have e : s.toList = [] := by rw [ByteArray.toList_eq]; exact List.eq_nil_of_length_eq_zero (by rw [← size_data]; exact h)
  rw [e]; exact ⟨rfl, rfl⟩
theorem full_tests {s : ByteArray} (h : 0 < s.size) : (s.toList == []) = false ∧ s.toList.isEmpty = false := by
  have e : s.toList ≠ [] := by
    rw [ByteArray.toList_eq]
    intro e
    have q : s.size = 0 := by rw [size_data, e]; rfl
    omega
  cases hl : s.toList with
  | nil => exact absurd hl e
  | cons a r => exact ⟨rfl, rfl⟩
theorem first_byte (s : ByteArray) (h : 0 < s.size) (w : World) : (Instr.index 9 (.string s) (.int .i64 0)).run Tryz.prog w = .ok (.int .u8 (s[0]'h).toNat) w := by
  rw [run_index_string w 9 s .i64 0 Tryz.underlying9, dif_pos (by omega)]
  rfl

def SaysRd (w : World) (o : Option Int) (e : Ending) (w' : World) : Prop := e = .returned (.tuple #[.int .i64 (optR o), .bool (optK o)]) ∧ Below w.heap.size w w'
def RdRel (w : World) (b lim : Int) (s : ByteArray) (o : Option Int) (n : Value) (wr : World) : Prop :=
  ∃ (k : Nat) (t : Int), k ≤ s.size ∧ n = .int .i64 t ∧ wr = w.iter s k ∧ 0 ≤ t ∧ t ≤ lim ∧ Hid (rdN b lim (s.data.toList.drop k) t = o)
theorem Dig.iter {w : World} (h : Dig w) (s : ByteArray) (k : Nat) : Dig (w.iter s k) := h.below ((Below.refl _ _).alloc (Nat.le_refl _) _)
theorem iter_below (w : World) (s : ByteArray) (k : Nat) : Below w.heap.size w (w.iter s k) := (Below.refl _ _).alloc (Nat.le_refl _) _

end Go.Proofs.YtmmofchfafnkcaaGreatDoor

/- The table of units: what its cells hold; facts out of the rows' conditions; a world for the witness with the tables in place. Units: contracts of splitUnit. -/
namespace Go.Proofs.YtmmofchfafnkcaaGreatDoor
set_option maxRecDepth 100000
open Go.RowKit

/-- the table of units is in its place -/
def Units (w : World) : Prop := w.cell? ⟨4, 0, none⟩ = some (.string ⟨#[109]⟩) ∧ w.cell? ⟨4, 1, none⟩ = some (.int .i64 1000000) ∧
  w.cell? ⟨4, 2, none⟩ = some (.string ⟨#[107]⟩) ∧ w.cell? ⟨4, 3, none⟩ = some (.int .i64 1000)
theorem Units.below {w w' : World} (h : Units w) (hb : Below w.heap.size w w') : Units w' :=
  ⟨(hb.cell (p := ⟨4, 0, none⟩) (World.block_lt_of_cell? w _ h.1)).trans h.1, (hb.cell (p := ⟨4, 1, none⟩) (World.block_lt_of_cell? w _ h.2.1)).trans h.2.1,
   (hb.cell (p := ⟨4, 2, none⟩) (World.block_lt_of_cell? w _ h.2.2.1)).trans h.2.2.1, (hb.cell (p := ⟨4, 3, none⟩) (World.block_lt_of_cell? w _ h.2.2.2)).trans h.2.2.2⟩
theorem Units.drewN {w : World} (h : Units w) (q : Nat) : Units (w.drewN q) := h
theorem Units.pos {w : World} (h : Units w) : 4 < w.heap.size := World.block_lt_of_cell? w _ h.1

theorem gUni : Tryz.prog.globalNamed "loop.example/g00838/impl.units" = some 4 := by kernel_rfl
theorem tUni : (Tryz.prog.globals[4]?).map (·.type) = some 220 := by kernel_rfl
theorem cUnis : Tryz.prog.cellsOf 220 = 4 := by kernel_rfl
theorem cUni : Tryz.prog.cellsOf 219 = 2 := by kernel_rfl
theorem cInt : Tryz.prog.cellsOf 3 = 1 := by kernel_rfl
theorem list_four {α : Type} {l : List α} (h : l.length = 4) : ∃ a b c d, l = [a, b, c, d] := by
  match l, h with
  | [a, b, c, d], _ => exact ⟨a, b, c, d, rfl⟩
theorem cells_unit {H : Type} {enc : TypeId × Value → H} {w : World} {base : Nat} {sp : Nat → Bool} {held : Bool} {fuel : Nat} {c0 c1 : Value} {s0 : List UInt8} {n0 : Int} {p : List MemPlace}
    (h : DataW.trod enc Tryz.prog w base sp held fuel 219 [c0, c1] = some (.agg [.lit (.string s0), .lit (.int .i64 n0)], p)) : c0 = .string ⟨s0.toArray⟩ ∧ c1 = .int .i64 n0 := by
  obtain ⟨y0, y1, n, e0, _, g0, g1⟩ := Go.ChangeShapes.trod_struct2 Tryz.underlying219 h
  have g0' : DataW.trod enc Tryz.prog w base sp held n 9 [c0] = some y0 := by simpa [cStr] using g0
  have g1' : DataW.trod enc Tryz.prog w base sp held n 3 [c1] = some y1 := by simpa [cInt] using g1
  obtain ⟨b0, q0, f0, _⟩ := DataW.trod_string Tryz.underlying9 g0'
  obtain ⟨b1, q1, f1, _⟩ := DataW.trod_int Tryz.underlying3 g1'
  simp at q0 q1
  subst q0 q1
  rw [f0, f1] at e0
  simp at e0
  obtain ⟨⟨r0, r1⟩, _⟩ := e0
  rw [r0, r1]
  exact ⟨rfl, rfl⟩
theorem cells_units {H : Type} {enc : TypeId × Value → H} {w : World} {base : Nat} {sp : Nat → Bool} {held : Bool} {fuel : Nat} {cs : List Value} {s0 s1 : List UInt8} {n0 n1 : Int} {p : List MemPlace}
    (h : DataW.trod enc Tryz.prog w base sp held fuel 220 cs = some (.agg [.agg [.lit (.string s0), .lit (.int .i64 n0)], .agg [.lit (.string s1), .lit (.int .i64 n1)]], p)) :
    cs = [.string ⟨s0.toArray⟩, .int .i64 n0, .string ⟨s1.toArray⟩, .int .i64 n1] := by
  obtain ⟨xs, m1, rfl, hx1, hlen, hn3, hel⟩ := DataW.trod_array Tryz.underlying220 h
  simp only [Prod.mk.injEq, DataW.agg.injEq] at hx1
  rw [cUni] at hel
  rw [cUnis] at hlen
  have h0 := hel 0 (by decide)
  have h1 := hel 1 (by decide)
  obtain ⟨c0, c1, c2, c3, rfl⟩ := list_four hlen
  match xs, hn3, hx1, h0, h1 with
  | [x0, x1], _, hx1, h0, h1 =>
    simp only [List.map_cons, List.map_nil, List.cons.injEq, and_true] at hx1
    obtain ⟨⟨r0, r1⟩, _⟩ := hx1
    obtain ⟨u0, v0⟩ := x0
    obtain ⟨u1, v1⟩ := x1
    simp only at r0 r1
    subst r0 r1
    have h0' : DataW.trod enc Tryz.prog w base sp held m1 219 [c0, c1] = some (.agg [.lit (.string s0), .lit (.int .i64 n0)], v0) := by simpa using h0
    have h1' : DataW.trod enc Tryz.prog w base sp held m1 219 [c2, c3] = some (.agg [.lit (.string s1), .lit (.int .i64 n1)], v1) := by simpa using h1
    obtain ⟨rfl, rfl⟩ := cells_unit h0'
    obtain ⟨rfl, rfl⟩ := cells_unit h1'
    rfl
theorem units_of_head {W : World} {r : List (String × DataW Unit)} (h : laidMet Tryz.prog (("loop.example/g00838/impl.units", Rows.laid_loop_example_g00838_impl_units) :: r) W) : Units W := by
  obtain ⟨ps, ⟨g', t', cs, fuel, p, q, hg', ht', hvar, hd, _, _⟩, _⟩ := h
  obtain rfl := Option.some.inj (gUni.symm.trans hg')
  obtain rfl := Option.some.inj (tUni.symm.trans ht')
  have hcs := cells_units hd
  have hc : ∀ i, W.cell? ⟨4, i, none⟩ = cs.toList[i]? := fun i => by rw [World.var?_cell gUni hvar i]; simp
  rw [hcs] at hc
  exact ⟨by rw [hc 0]; rfl, by rw [hc 1]; rfl, by rw [hc 2]; rfl, by rw [hc 3]; rfl⟩
theorem dig_of_head {W : World} {r : List (String × DataW Unit)} (h : laidMet Tryz.prog (("loop.example/g00838/impl.digits", Rows.laid_loop_example_g00838_impl_digits) :: r) W) : Dig W := by
  obtain ⟨ps, ⟨g', t', cs, fuel, p, q, hg', ht', hvar, hd, _, _⟩, _⟩ := h
  obtain rfl := Option.some.inj (gDig.symm.trans hg')
  obtain rfl := Option.some.inj (tDig.symm.trans ht')
  have hcs := cells_two hd
  have hc : ∀ i, W.cell? ⟨3, i, none⟩ = cs.toList[i]? := fun i => by rw [World.var?_cell gDig hvar i]; simp
  rw [hcs] at hc
  exact ⟨by rw [hc 0]; rfl, by rw [hc 1]; rfl⟩

end Go.Proofs.YtmmofchfafnkcaaGreatDoor

namespace Go.Proofs.YtmmofchfafnkcaaGreatDoor
open Go.RowKit

/-- what stands before the last byte -/
def initL (l : List UInt8) : List UInt8 := l.take (l.length - 1)
theorem trim_yes {l : List UInt8} {c : UInt8} (h : Lib.hasSuffix l [c] = true) : Lib.trimSuffix l [c] = initL l := by unfold Lib.trimSuffix initL; rw [if_pos h]; rfl
/-- a text and a number -/
def SaysUnit (w : World) (u : ByteArray) (f : Int) (e : Ending) (w' : World) : Prop := e = .returned (.tuple #[.string u, .int .i64 f]) ∧ Below w.heap.size w w'
theorem unit_cells (w w1 : World) (b : ByteArray) (n : Int) (ty : TypeId) (h : w1 = w.alloc (.cells #[.string b, .int .i64 n] ty)) :
    w1.cell? ⟨w.heap.size, 0, none⟩ = some (.string b) ∧ w1.cell? ⟨w.heap.size, 1, none⟩ = some (.int .i64 n) := by
  subst h
  constructor <;> rw [World.cell?_alloc_at _ _ _ _ rfl] <;> rfl

theorem unit_below (w w1 : World) (b : ByteArray) (n : Int) (ty : TypeId) (h : w1 = w.alloc (.cells #[.string b, .int .i64 n] ty)) : Below w.heap.size w w1 := by
  subst h
  exact (Below.refl _ _).alloc (Nat.le_refl _) _
theorem unit_at0 (w : World) : (Instr.index 220 (.agg #[.string ⟨#[109]⟩, .int .i64 1000000, .string ⟨#[107]⟩, .int .i64 1000]) (.int .i64 0)).run Tryz.prog w = .ok (.agg #[.string ⟨#[109]⟩, .int .i64 1000000]) w := by kernel_rfl
theorem unit_at1 (w : World) : (Instr.index 220 (.agg #[.string ⟨#[109]⟩, .int .i64 1000000, .string ⟨#[107]⟩, .int .i64 1000]) (.int .i64 1)).run Tryz.prog w = .ok (.agg #[.string ⟨#[107]⟩, .int .i64 1000]) w := by kernel_rfl

set_option maxHeartbeats 1600000 in
theorem splitUnit_m (s u : ByteArray) (w : World) (hU : Hid (Units w)) (hs : s.size ≤ 1048576) (hm : Hid (Lib.hasSuffix s.data.toList [109] = true)) (hu : Hid ((⟨(Lib.trimSuffix s.data.toList [109]).toArray⟩ : ByteArray) = u)) :
    Calls Tryz.prog 246 #[.string s] w (SaysUnit w u 1000000) := by
  obtain ⟨c0, c1, c2, c3⟩ := hU.out
  have i0 := unit_at0
  have i1 := unit_at1
  go_enter Tryz.func246, Tryz.ntmps246
  go_wp2_with fail
  refine wp_loop_rounds 1 ?_
  rw [rounds_succ]
  go_wp2_with (go_at_call 263; refine (Tryz.strings_CutSuffix s _ _ (by omega)).mono ?_; rw [show (ByteArray.mk #[109]).data.toList = [109] from rfl, hm.out, hu.out]; rintro e w1 ⟨rfl, hw⟩; obtain ⟨k2, k3⟩ := unit_cells _ _ _ _ _ hw; have B1 := Lib.hid (unit_below _ _ _ _ _ hw); clear hw)
  go_quiet (fail)
  go_wp2
  go_ret2
  exact ⟨rfl, below_drewN B1.out _⟩
set_option maxHeartbeats 1600000 in
theorem splitUnit_k (s u : ByteArray) (w : World) (hU : Hid (Units w)) (hs : s.size ≤ 1048576) (hm : Hid (Lib.hasSuffix s.data.toList [109] = false)) (hk : Hid (Lib.hasSuffix s.data.toList [107] = true)) (hu : Hid ((⟨(Lib.trimSuffix s.data.toList [107]).toArray⟩ : ByteArray) = u)) :
    Calls Tryz.prog 246 #[.string s] w (SaysUnit w u 1000) := by
  obtain ⟨c0, c1, c2, c3⟩ := hU.out
  have i0 := unit_at0
  have i1 := unit_at1
  go_enter Tryz.func246, Tryz.ntmps246
  go_wp2_with fail
  refine wp_loop_rounds 2 ?_
  obtain ⟨x, hx⟩ : ∃ x : ByteArray, (⟨(Lib.trimSuffix s.data.toList [109]).toArray⟩ : ByteArray) = x := ⟨_, rfl⟩
  have HX := Lib.hid hx
  clear hx
  rw [rounds_succ]
  go_wp2_with (go_at_call 263; refine (Tryz.strings_CutSuffix s _ _ (by omega)).mono ?_; rw [show (ByteArray.mk #[109]).data.toList = [109] from rfl, hm.out, HX.out]; rintro e w1 ⟨rfl, hw⟩; obtain ⟨k2, k3⟩ := unit_cells _ _ _ _ _ hw; have B1 := Lib.hid (unit_below _ _ _ _ _ hw); clear hw)
  rw [rounds_succ]
  go_wp2_with (go_at_call 263; refine (Tryz.strings_CutSuffix s _ _ (by omega)).mono ?_; rw [show (ByteArray.mk #[107]).data.toList = [107] from rfl, hk.out, hu.out]; rintro e w2 ⟨rfl, hw⟩; obtain ⟨k4, k5⟩ := unit_cells _ _ _ _ _ hw; have B2 := Lib.hid (unit_below _ _ _ _ _ hw); clear hw)
  go_quiet (fail)
  go_wp2
  go_ret2
  exact ⟨rfl, below_drewN (B1.out.trans (B2.out.mono B1.out.size)) _⟩
set_option maxHeartbeats 1600000 in
theorem splitUnit_n (s : ByteArray) (w : World) (hU : Hid (Units w)) (hs : s.size ≤ 1048576) (hm : Hid (Lib.hasSuffix s.data.toList [109] = false)) (hk : Hid (Lib.hasSuffix s.data.toList [107] = false)) :
    Calls Tryz.prog 246 #[.string s] w (SaysUnit w s 1) := by
  obtain ⟨c0, c1, c2, c3⟩ := hU.out
  have i0 := unit_at0
  have i1 := unit_at1
  go_enter Tryz.func246, Tryz.ntmps246
  go_wp2_with fail
  refine wp_loop_rounds 3 ?_
  obtain ⟨x, hx⟩ : ∃ x : ByteArray, (⟨(Lib.trimSuffix s.data.toList [109]).toArray⟩ : ByteArray) = x := ⟨_, rfl⟩
  have HX := Lib.hid hx
  clear hx
  obtain ⟨y, hy⟩ : ∃ y : ByteArray, (⟨(Lib.trimSuffix s.data.toList [107]).toArray⟩ : ByteArray) = y := ⟨_, rfl⟩
  have HY := Lib.hid hy
  clear hy
  rw [rounds_succ]
  go_wp2_with (go_at_call 263; refine (Tryz.strings_CutSuffix s _ _ (by omega)).mono ?_; rw [show (ByteArray.mk #[109]).data.toList = [109] from rfl, hm.out, HX.out]; rintro e w1 ⟨rfl, hw⟩; obtain ⟨k2, k3⟩ := unit_cells _ _ _ _ _ hw; have B1 := Lib.hid (unit_below _ _ _ _ _ hw); clear hw)
  rw [rounds_succ]
  go_wp2_with (go_at_call 263; refine (Tryz.strings_CutSuffix s _ _ (by omega)).mono ?_; rw [show (ByteArray.mk #[107]).data.toList = [107] from rfl, hk.out, HY.out]; rintro e w2 ⟨rfl, hw⟩; obtain ⟨k4, k5⟩ := unit_cells _ _ _ _ _ hw; have B2 := Lib.hid (unit_below _ _ _ _ _ hw); clear hw)
  rw [rounds_succ]
  go_wp2
  go_ret2
  exact ⟨rfl, B1.out.trans (B2.out.mono B1.out.size)⟩
end Go.Proofs.YtmmofchfafnkcaaGreatDoor

/- Digits of a row: contracts of the model's nuDigits. -/
namespace Go.Proofs.YtmmofchfafnkcaaGreatDoor
set_option maxRecDepth 100000
open Go.RowKit

/-- the number, or -1 -/
def optM (o : Option Int) : Int := o.getD (-1)
def SaysInt (w : World) (n : Int) (e : Ending) (w' : World) : Prop := e = .returned (.int .i64 n) ∧ w = w'
/-- how far the model is: the number is within the limit, or beyond it -/
def NdSt (b lim : Int) (s : ByteArray) (o : Option Int) (k : Nat) (t : Int) : Prop := (t ≤ lim ∧ Hid (rdN b lim (s.data.toList.drop k) t = o)) ∨ (lim < t ∧ Hid (o = none))
def NdRel (b lim : Int) (s : ByteArray) (o : Option Int) (n i : Value) : Prop :=
  ∃ (k : Nat) (t : Int), k ≤ s.size ∧ i = .int .i64 k ∧ n = .int .i64 t ∧ 0 ≤ t ∧ t ≤ 20000000000 ∧ NdSt b lim s o k t
theorem nd_big {b lim : Int} {s : ByteArray} {o : Option Int} {k : Nat} {t : Int} (h : NdSt b lim s o k t) (c : lim < t) : optM o = -1 := by
  rcases h with ⟨h, _⟩ | ⟨_, h⟩
  · omega
  · rw [h.out]; rfl
theorem nd_good {b lim : Int} {s : ByteArray} {o : Option Int} {k : Nat} {t : Int} (h : NdSt b lim s o k t) (c : t ≤ lim) : rdN b lim (s.data.toList.drop k) t = o := by
  rcases h with ⟨_, h⟩ | ⟨h, _⟩
  · exact h.out
  · omega
theorem nd_none {b lim : Int} {s : ByteArray} {o : Option Int} {k : Nat} {t : Int} (h : NdSt b lim s o k t) (e : rdN b lim (s.data.toList.drop k) t = none) : optM o = -1 := by
  rcases h with ⟨_, h⟩ | ⟨_, h⟩
  · rw [← h.out, e]; rfl
  · rw [h.out]; rfl
theorem nd_step (b lim : Int) (s : ByteArray) (k : Nat) (t d : Int) (o : Option Int) (hlt : k < s.size) (hd : dg b ((s[k]'hlt).toNat : Int) = d) (d0 : 0 ≤ d) (h : rdN b lim (s.data.toList.drop k) t = o) : NdSt b lim s o (k + 1) (t * b + d) := by
  by_cases c : t * b + d ≤ lim
  · exact .inl ⟨c, by unfold Hid; rw [← rdN_yes b lim s k t d hlt hd ⟨d0, c⟩]; exact h⟩
  · exact .inr ⟨by omega, by unfold Hid; rw [← h]; exact rdN_no b lim s k t d hlt hd (by omega)⟩
theorem byte_ways (y : Int) : y < 48 ∨ (48 ≤ y ∧ y ≤ 57) ∨ (57 < y ∧ y < 97) ∨ (97 ≤ y ∧ y ≤ 102) ∨ 102 < y := by omega
theorem dg_10_bad {y : Int} (h : y < 48 ∨ 57 < y) : dg 10 y = -1 := by
  unfold dg dv
  rw [if_neg (show ¬ (48 ≤ y ∧ y ≤ 57) by omega)]
  split <;> split <;> omega
theorem dg_16_bad {y : Int} (h : y < 48 ∨ (57 < y ∧ y < 97) ∨ 102 < y) : dg 16 y = -1 := by
  unfold dg dv
  rw [if_neg (show ¬ (48 ≤ y ∧ y ≤ 57) by omega), if_neg (show ¬ (97 ≤ y ∧ y ≤ 102) by omega)]
  rfl
theorem dg_10_low {y : Int} (h : 48 ≤ y) (h2 : y ≤ 57) : dg 10 y = y - 48 := by
  unfold dg dv
  rw [if_pos (show 48 ≤ y ∧ y ≤ 57 by omega), if_pos (by omega)]
theorem dg_16_low {y : Int} (h : 48 ≤ y) (h2 : y ≤ 57) : dg 16 y = y - 48 := by
  unfold dg dv
  rw [if_pos (show 48 ≤ y ∧ y ≤ 57 by omega), if_pos (by omega)]
theorem dg_16_high {y : Int} (h : 97 ≤ y) (h2 : y ≤ 102) : dg 16 y = y - 97 + 10 := by
  unfold dg dv
  rw [if_neg (show ¬ (48 ≤ y ∧ y ≤ 57) by omega), if_pos (show 97 ≤ y ∧ y ≤ 102 by omega), if_pos (by omega)]
  omega
theorem nth_byte (s : ByteArray) (k : Nat) (h : k < s.size) (w : World) : (Instr.index 9 (.string s) (.int .i64 (k : Int))).run Tryz.prog w = .ok (.int .u8 (s[k]'h).toNat) w := by
  rw [run_index_string w 9 s .i64 (k : Int) Tryz.underlying9, dif_pos (by omega)]
  rfl

set_option maxHeartbeats 3200000 in
theorem nuDigits_dec_go (s : ByteArray) (lim : Int) (w : World) (hs : s.size ≤ 1048576) (l0 : 0 ≤ lim) (l1 : lim ≤ 1000000000) (o : Option Int) (h : 0 < s.size) (e : 1 < s.size → (s[0]'h).toNat ≠ 48) (HO : Hid (rdN 10 lim (s.data.toList.drop 0) 0 = o)) :
    Calls Tryz.prog 266 #[.string s, .int .i64 10, .int .i64 lim] w (SaysInt w (optM o)) := by
  obtain ⟨f1, f2⟩ := full_tests h
  obtain ⟨x, hx⟩ : ∃ x : Int, ((s[0]'h).toNat : Int) = x := ⟨_, rfl⟩
  have hix := first_byte s h
  rw [hx] at hix
  have H1 : Hid (1 < s.size → x ≠ 48) := Lib.hid (by intro q; have := e q; omega)
  clear e hx
  by_cases hc : x = 48
  all_goals
    first
      | (have d2 : (x == 48) = true := (by simpa using hc); have d3 : decide ((1 : Int) < s.size) = false := (by simp; have := mt H1.out; omega))
      | (have d2 : (x == 48) = false := (by simpa using hc))
    clear hc
    go_enter Tryz.func266, Tryz.ntmps266
    go_wp2_with fail
    go_loop [7, 8] (fun n i => NdRel 10 lim s o n i) (fun _ i => s.size - (intOf i).toNat)
    case atStart => exact ⟨0, 0, Nat.zero_le _, rfl, rfl, by omega, by omega, .inl ⟨l0, HO⟩⟩
    case round =>
      clear hix d2 f1 f2
      try clear d3
      obtain ⟨k, t, hk, rfl, rfl, t0, t1, HT⟩ := hrel
      by_cases hlt : k < s.size
      · obtain ⟨y, hy⟩ : ∃ y : Int, ((s[k]'hlt).toNat : Int) = y := ⟨_, rfl⟩
        have hiy := nth_byte s k hlt
        rw [hy] at hiy
        have y0 : 0 ≤ y := by omega
        have y1 : y ≤ 255 := by have := (s[k]'hlt).toNat_lt; omega
        have hlt' : decide ((k : Int) < s.size) = true := by simp; omega
        have HY := Lib.hid hy
        clear hy
        have HC := Lib.hid HT
        clear HT
        rcases byte_ways y with h | h | h | h | h
        · have d1 := not_le h
          have d2 := not_le (show y < 97 by omega)
          have HN : Hid (optM o = -1) := Lib.hid (nd_none HC.out (rdN_no 10 lim s k t (-1) hlt (by rw [HY.out]; exact dg_10_bad (by omega)) (by omega)))
          have d9 : decide ((10 : Int) ≤ 99) = true := by simp; try omega
          go_wp2
          go_ret
          exact ⟨ret_int (by rw [HN.out]), rfl⟩
        · have d1 := is_le h.1
          have d2 := is_le h.2
          have d9 : decide ((10 : Int) ≤ y - 48) = false := not_le (by omega)
          rcases Int.lt_or_le lim t with c | c
          · have HN : Hid (optM o = -1) := Lib.hid (nd_big HC.out c)
            have d8 := is_lt c
            go_wp2
            go_ret
            exact ⟨ret_int (by rw [HN.out]), rfl⟩
          · have d8 := not_lt c
            have HE : Hid (dg 10 ((s[k]'hlt).toNat : Int) = y - 48) := Lib.hid (by rw [HY.out]; exact dg_10_low h.1 h.2)
            have HX := Lib.hid (nd_good HC.out c)
            go_wp2
            go_round
            case rel => exact ⟨k + 1, t * 10 + (y - 48), by omega, by go_num, by first | rfl | go_num, by omega, by omega, nd_step 10 lim s k t _ o hlt HE.out (by omega) HX.out⟩
            case measure => simp [intOf]; omega
        · have d1 := is_le (show 48 ≤ y by omega)
          have d2 := not_le h.1
          have d3 := not_le h.2
          have HN : Hid (optM o = -1) := Lib.hid (nd_none HC.out (rdN_no 10 lim s k t (-1) hlt (by rw [HY.out]; exact dg_10_bad (by omega)) (by omega)))
          have d9 : decide ((10 : Int) ≤ 99) = true := by simp; try omega
          go_wp2
          go_ret
          exact ⟨ret_int (by rw [HN.out]), rfl⟩
        · have d1 := is_le (show 48 ≤ y by omega)
          have d2 := not_le (show 57 < y by omega)
          have d3 := is_le h.1
          have d4 := is_le h.2
          have HN : Hid (optM o = -1) := Lib.hid (nd_none HC.out (rdN_no 10 lim s k t (-1) hlt (by rw [HY.out]; exact dg_10_bad (by omega)) (by omega)))
          have d9 : decide ((10 : Int) ≤ y - 97 + 10) = true := by simp; try omega
          go_wp2
          go_ret
          exact ⟨ret_int (by rw [HN.out]), rfl⟩
        · have d1 := is_le (show 48 ≤ y by omega)
          have d2 := not_le (show 57 < y by omega)
          have d3 := is_le (show 97 ≤ y by omega)
          have d4 := not_le h
          have HN : Hid (optM o = -1) := Lib.hid (nd_none HC.out (rdN_no 10 lim s k t (-1) hlt (by rw [HY.out]; exact dg_10_bad (by omega)) (by omega)))
          have d9 : decide ((10 : Int) ≤ 99) = true := by simp; try omega
          go_wp2
          go_ret
          exact ⟨ret_int (by rw [HN.out]), rfl⟩
      · have hlt' : decide ((k : Int) < s.size) = false := by simp; omega
        have HC := Lib.hid HT
        clear HT
        rcases Int.lt_or_le lim t with c | c
        · have HN : Hid (optM o = -1) := Lib.hid (nd_big HC.out c)
          have d8 := is_lt c
          go_wp2
          go_ret
          exact ⟨ret_int (by rw [HN.out]), rfl⟩
        · have HN : Hid (optM o = t) := Lib.hid (by rw [← nd_good HC.out c, rdN_end 10 lim s k t (by omega)]; rfl)
          have d8 := not_lt c
          go_wp2
          go_ret
          exact ⟨ret_int (by rw [HN.out]), rfl⟩
theorem nuDigits_dec (s : ByteArray) (lim : Int) (w : World) (hs : s.size ≤ 1048576) (l0 : 0 ≤ lim) (l1 : lim ≤ 1000000000) :
    Calls Tryz.prog 266 #[.string s, .int .i64 10, .int .i64 lim] w (SaysInt w (optM (rdT 10 lim s.data.toList))) := by
  rcases dig_head s with h | ⟨h, e⟩ | h | ⟨h, e⟩
  · have HN : Hid (optM (rdT 10 lim s.data.toList) = -1) := Lib.hid (by rw [rdT_nil 10 lim s h]; rfl)
    obtain ⟨f1, f2⟩ := empty_tests h
    clear h
    go_enter Tryz.func266, Tryz.ntmps266
    go_wp2
    go_ret
    exact ⟨ret_int (by rw [HN.out]), rfl⟩
  · have HN : Hid (optM (rdT 10 lim s.data.toList) = -1) := Lib.hid (by rw [rdT_zero 10 lim s h e]; rfl)
    obtain ⟨f1, f2⟩ := full_tests (show 0 < s.size by omega)
    have hix := first_byte s (by omega)
    rw [e] at hix
    have d1 : decide ((1 : Int) < s.size) = true := by simp; omega
    clear e
    go_enter Tryz.func266, Tryz.ntmps266
    go_wp2
    go_ret
    exact ⟨ret_int (by rw [HN.out]), rfl⟩
  · have e : 1 < s.size → (s[0]'(by omega)).toNat ≠ 48 := fun q => by omega
    rw [rdT_go 10 lim s (by omega) e]
    exact nuDigits_dec_go s lim w hs l0 l1 _ (by omega) e rfl
  · rw [rdT_go 10 lim s (by omega) (fun _ => e)]
    exact nuDigits_dec_go s lim w hs l0 l1 _ (by omega) (fun _ => e) rfl
set_option maxHeartbeats 3200000 in
theorem nuDigits_hex_go (s : ByteArray) (lim : Int) (w : World) (hs : s.size ≤ 1048576) (l0 : 0 ≤ lim) (l1 : lim ≤ 1000000000) (o : Option Int) (h : 0 < s.size) (e : 1 < s.size → (s[0]'h).toNat ≠ 48) (HO : Hid (rdN 16 lim (s.data.toList.drop 0) 0 = o)) :
    Calls Tryz.prog 266 #[.string s, .int .i64 16, .int .i64 lim] w (SaysInt w (optM o)) := by
  obtain ⟨f1, f2⟩ := full_tests h
  obtain ⟨x, hx⟩ : ∃ x : Int, ((s[0]'h).toNat : Int) = x := ⟨_, rfl⟩
  have hix := first_byte s h
  rw [hx] at hix
  have H1 : Hid (1 < s.size → x ≠ 48) := Lib.hid (by intro q; have := e q; omega)
  clear e hx
  by_cases hc : x = 48
  all_goals
    first
      | (have d2 : (x == 48) = true := (by simpa using hc); have d3 : decide ((1 : Int) < s.size) = false := (by simp; have := mt H1.out; omega))
      | (have d2 : (x == 48) = false := (by simpa using hc))
    clear hc
    go_enter Tryz.func266, Tryz.ntmps266
    go_wp2_with fail
    go_loop [7, 8] (fun n i => NdRel 16 lim s o n i) (fun _ i => s.size - (intOf i).toNat)
    case atStart => exact ⟨0, 0, Nat.zero_le _, rfl, rfl, by omega, by omega, .inl ⟨l0, HO⟩⟩
    case round =>
      clear hix d2 f1 f2
      try clear d3
      obtain ⟨k, t, hk, rfl, rfl, t0, t1, HT⟩ := hrel
      by_cases hlt : k < s.size
      · obtain ⟨y, hy⟩ : ∃ y : Int, ((s[k]'hlt).toNat : Int) = y := ⟨_, rfl⟩
        have hiy := nth_byte s k hlt
        rw [hy] at hiy
        have y0 : 0 ≤ y := by omega
        have y1 : y ≤ 255 := by have := (s[k]'hlt).toNat_lt; omega
        have hlt' : decide ((k : Int) < s.size) = true := by simp; omega
        have HY := Lib.hid hy
        clear hy
        have HC := Lib.hid HT
        clear HT
        rcases byte_ways y with h | h | h | h | h
        · have d1 := not_le h
          have d2 := not_le (show y < 97 by omega)
          have HN : Hid (optM o = -1) := Lib.hid (nd_none HC.out (rdN_no 16 lim s k t (-1) hlt (by rw [HY.out]; exact dg_16_bad (by omega)) (by omega)))
          have d9 : decide ((16 : Int) ≤ 99) = true := by simp; try omega
          go_wp2
          go_ret
          exact ⟨ret_int (by rw [HN.out]), rfl⟩
        · have d1 := is_le h.1
          have d2 := is_le h.2
          have d9 : decide ((16 : Int) ≤ y - 48) = false := not_le (by omega)
          rcases Int.lt_or_le lim t with c | c
          · have HN : Hid (optM o = -1) := Lib.hid (nd_big HC.out c)
            have d8 := is_lt c
            go_wp2
            go_ret
            exact ⟨ret_int (by rw [HN.out]), rfl⟩
          · have d8 := not_lt c
            have HE : Hid (dg 16 ((s[k]'hlt).toNat : Int) = y - 48) := Lib.hid (by rw [HY.out]; exact dg_16_low h.1 h.2)
            have HX := Lib.hid (nd_good HC.out c)
            go_wp2
            go_round
            case rel => exact ⟨k + 1, t * 16 + (y - 48), by omega, by go_num, by first | rfl | go_num, by omega, by omega, nd_step 16 lim s k t _ o hlt HE.out (by omega) HX.out⟩
            case measure => simp [intOf]; omega
        · have d1 := is_le (show 48 ≤ y by omega)
          have d2 := not_le h.1
          have d3 := not_le h.2
          have HN : Hid (optM o = -1) := Lib.hid (nd_none HC.out (rdN_no 16 lim s k t (-1) hlt (by rw [HY.out]; exact dg_16_bad (by omega)) (by omega)))
          have d9 : decide ((16 : Int) ≤ 99) = true := by simp; try omega
          go_wp2
          go_ret
          exact ⟨ret_int (by rw [HN.out]), rfl⟩
        · have d1 := is_le (show 48 ≤ y by omega)
          have d2 := not_le (show 57 < y by omega)
          have d3 := is_le h.1
          have d4 := is_le h.2
          have d9 : decide ((16 : Int) ≤ y - 97 + 10) = false := not_le (by omega)
          rcases Int.lt_or_le lim t with c | c
          · have HN : Hid (optM o = -1) := Lib.hid (nd_big HC.out c)
            have d8 := is_lt c
            go_wp2
            go_ret
            exact ⟨ret_int (by rw [HN.out]), rfl⟩
          · have d8 := not_lt c
            have HE : Hid (dg 16 ((s[k]'hlt).toNat : Int) = y - 97 + 10) := Lib.hid (by rw [HY.out]; exact dg_16_high h.1 h.2)
            have HX := Lib.hid (nd_good HC.out c)
            go_wp2
            go_round
            case rel => exact ⟨k + 1, t * 16 + (y - 97 + 10), by omega, by go_num, by first | rfl | go_num, by omega, by omega, nd_step 16 lim s k t _ o hlt HE.out (by omega) HX.out⟩
            case measure => simp [intOf]; omega
        · have d1 := is_le (show 48 ≤ y by omega)
          have d2 := not_le (show 57 < y by omega)
          have d3 := is_le (show 97 ≤ y by omega)
          have d4 := not_le h
          have HN : Hid (optM o = -1) := Lib.hid (nd_none HC.out (rdN_no 16 lim s k t (-1) hlt (by rw [HY.out]; exact dg_16_bad (by omega)) (by omega)))
          have d9 : decide ((16 : Int) ≤ 99) = true := by simp; try omega
          go_wp2
          go_ret
          exact ⟨ret_int (by rw [HN.out]), rfl⟩
      · have hlt' : decide ((k : Int) < s.size) = false := by simp; omega
        have HC := Lib.hid HT
        clear HT
        rcases Int.lt_or_le lim t with c | c
        · have HN : Hid (optM o = -1) := Lib.hid (nd_big HC.out c)
          have d8 := is_lt c
          go_wp2
          go_ret
          exact ⟨ret_int (by rw [HN.out]), rfl⟩
        · have HN : Hid (optM o = t) := Lib.hid (by rw [← nd_good HC.out c, rdN_end 16 lim s k t (by omega)]; rfl)
          have d8 := not_lt c
          go_wp2
          go_ret
          exact ⟨ret_int (by rw [HN.out]), rfl⟩
theorem nuDigits_hex (s : ByteArray) (lim : Int) (w : World) (hs : s.size ≤ 1048576) (l0 : 0 ≤ lim) (l1 : lim ≤ 1000000000) :
    Calls Tryz.prog 266 #[.string s, .int .i64 16, .int .i64 lim] w (SaysInt w (optM (rdT 16 lim s.data.toList))) := by
  rcases dig_head s with h | ⟨h, e⟩ | h | ⟨h, e⟩
  · have HN : Hid (optM (rdT 16 lim s.data.toList) = -1) := Lib.hid (by rw [rdT_nil 16 lim s h]; rfl)
    obtain ⟨f1, f2⟩ := empty_tests h
    clear h
    go_enter Tryz.func266, Tryz.ntmps266
    go_wp2
    go_ret
    exact ⟨ret_int (by rw [HN.out]), rfl⟩
  · have HN : Hid (optM (rdT 16 lim s.data.toList) = -1) := Lib.hid (by rw [rdT_zero 16 lim s h e]; rfl)
    obtain ⟨f1, f2⟩ := full_tests (show 0 < s.size by omega)
    have hix := first_byte s (by omega)
    rw [e] at hix
    have d1 : decide ((1 : Int) < s.size) = true := by simp; omega
    clear e
    go_enter Tryz.func266, Tryz.ntmps266
    go_wp2
    go_ret
    exact ⟨ret_int (by rw [HN.out]), rfl⟩
  · have e : 1 < s.size → (s[0]'(by omega)).toNat ≠ 48 := fun q => by omega
    rw [rdT_go 16 lim s (by omega) e]
    exact nuDigits_hex_go s lim w hs l0 l1 _ (by omega) e rfl
  · rw [rdT_go 16 lim s (by omega) (fun _ => e)]
    exact nuDigits_hex_go s lim w hs l0 l1 _ (by omega) (fun _ => e) rfl
end Go.Proofs.YtmmofchfafnkcaaGreatDoor
