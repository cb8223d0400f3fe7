import Derived.Test.YtkpocljlmbihcaaGreatDoorPka
import Derived.Test.YtkpocljlmbihcaaGreatDoorPkb
import Derived.Laws.RangeAny
import Derived.Laws.Runes
import Derived.LoopTactic
import Derived.WalkMore
import Derived.Deep.RegionWith
import Derived.Laws.Rows
import Derived.OpenVars
import Derived.Lib.LaidTab
import Derived.LaidMore
import Derived.OpenShut
import Derived.WalkSmall
import Derived.Deep.QuietTactic
import Derived.BigQuiet
/- Space skipped: contracts of spaceSize and SkipSpace, program and model. -/
namespace Go.Proofs.YtkpocljlmbihcaaGreatDoor
set_option maxRecDepth 100000
open Go.RowKit
set_option linter.unusedVariables false

/-- a number, memory made -/
def SaysN (w : World) (n : Int) (e : Ending) (w' : World) : Prop := e = .returned (.int .i64 n) ∧ Below w.heap.size w w'
theorem byte_at (s : ByteArray) (k : Nat) (h : k < s.size) (m : Int) (hm : m = k) (w : World) : (Instr.index 9 (.string s) (.int .i64 m)).run Tryz.prog w = .ok (.int .u8 (s[k]'h).toNat) w := by
  subst hm
  rw [run_index_string w 9 s .i64 (k : Int) Tryz.underlying9, dif_pos (by omega)]
  rfl
/-- what stands from an index on -/
theorem rest_at (s : ByteArray) (k : Nat) (h : k ≤ s.size) : ∃ u : ByteArray, u.data.toList = s.data.toList.drop k ∧ u.size + k = s.size ∧ (∀ w, (Instr.slice 9 (.string s) (some (.int .i64 (k : Int))) none none).run Tryz.prog w = .ok (.string u) w) := by
  refine ⟨s.extract k s.size, ?_, ?_, fun w => ?_⟩
  · rw [Lib.extract_data, List.take_of_length_le]
    simp
  · simp; omega
  · rw [run_slice_string_l w 9 s Tryz.underlying9 .i64 (k : Int) (by omega) (by omega)]
    rfl
def SpRel (w : World) (s : ByteArray) (N : Nat) (c : Value) (wr : World) : Prop :=
  ∃ (k : Nat) (b : Bool), k ≤ s.size ∧ c = .bool b ∧ wr = w.iter s k ∧ Hid (k + skL b (s.data.toList.drop k) = N)
theorem below_iter (w : World) (s : ByteArray) (k : Nat) : Below w.heap.size w (w.iter s k) := (Below.refl _ _).alloc (Nat.le_refl _) _
def SkRel (s : ByteArray) (N : Nat) (v : Value) : Prop := ∃ k : Nat, k ≤ s.size ∧ v = .int .i64 k ∧ Hid (k + skL false (s.data.toList.drop k) = N)
def SkIn (s : ByteArray) (N k0 : Nat) (v : Value) : Prop := ∃ k : Nat, k0 ≤ k ∧ k ≤ s.size ∧ v = .int .i64 k ∧ Hid (k + skL true (s.data.toList.drop k) = N)
theorem plain35 : plainB 35 = true := by decide
end Go.Proofs.YtkpocljlmbihcaaGreatDoor

/- Key words, letters, words: contracts of IsKey and of the small functions, program and model. -/
namespace Go.Proofs.YtkpocljlmbihcaaGreatDoor
set_option maxRecDepth 100000
open Go.RowKit
set_option linter.unusedVariables false

theorem oneOf_at (s : ByteArray) (l : List ByteArray) (k : Nat) (h : k < l.length) : oneOf s (l.drop k) = (((l.getD k ⟨#[]⟩).toList == s.toList) || oneOf s (l.drop (k + 1))) := by
  rw [List.drop_eq_getElem_cons h, oneOf]
  simp [List.getD_eq_getElem?_getD, h]
theorem oneOf_end (s : ByteArray) (l : List ByteArray) (k : Nat) (h : l.length ≤ k) : oneOf s (l.drop k) = false := by
  rw [List.drop_eq_nil_of_le h]; rfl
/-- some texts lie from the start of a block on -/
def TextsAt (w : World) (g : Nat) (l : List ByteArray) : Prop := ∀ k, k < l.length → w.cell? ⟨g, k, none⟩ = some (.string (l.getD k ⟨#[]⟩))
theorem TextsAt.below {w w' : World} {g B : Nat} {l : List ByteArray} (h : TextsAt w g l) (hb : Below B w w') (hg : g < B) : TextsAt w' g l := fun k hk => (hb.cell (p := ⟨g, k, none⟩) hg).trans (h k hk)
theorem texts_new (w : World) (l : List ByteArray) (cs : Array Value) (hc : cs.toList = l.map Value.string) (ty : TypeId) : TextsAt (w.alloc (.cells cs ty)) w.heap.size l := by
  intro k hk
  rw [World.cell?_alloc_at _ _ _ _ rfl]
  have e : cs[k]? = (l.map Value.string)[k]? := by rw [← hc]; simp
  rw [e]
  simp [hk]
def HasRel (s : ByteArray) (l : List ByteArray) (b : Bool) (v : Value) : Prop := ∃ k : Nat, k ≤ l.length ∧ v = .int .i64 k ∧ Hid (oneOf s (l.drop k) = b)
set_option maxHeartbeats 800000 in
theorem l1HasS_any (g n c : Nat) (l : List ByteArray) (s : ByteArray) (w : World) (HT : Hid (TextsAt w g l)) (hn : Hid (n = l.length)) (hm : n ≤ 1048576) :
    Calls Tryz.prog 88 #[.slice (some ⟨g, 0, none⟩) n c, .string s] w fun e w' => e = .returned (.bool (oneOf s l)) ∧ w = w' := by
  obtain ⟨b, hb⟩ : ∃ b, oneOf s l = b := ⟨_, rfl⟩
  have H0 : Hid (oneOf s (l.drop 0) = b) := Lib.hid (by rw [← hb]; rfl)
  rw [hb]
  clear hb
  go_enter Tryz.func88, Tryz.ntmps88
  go_wp2_with fail
  go_loop [9] (fun v => HasRel s l b v) (fun v => n - (intOf v).toNat)
  case atStart => exact ⟨0, Nat.zero_le _, rfl, H0⟩
  case round =>
    obtain ⟨k, hk, rfl, HP⟩ := hrel
    by_cases hlt : k < n
    · have hc := HT.out k (by rw [← hn.out]; exact hlt)
      have HE := Lib.hid (oneOf_at s l k (by rw [← hn.out]; exact hlt))
      obtain ⟨x, hx⟩ : ∃ x, l.getD k ⟨#[]⟩ = x := ⟨_, rfl⟩
      rw [hx] at hc HE
      clear hx
      rcases Bool.eq_false_or_eq_true (x.toList == s.toList) with he | he
      · have HX : Hid (b = true) := Lib.hid (by rw [← HP.out, HE.out, he]; rfl)
        go_wp2_with fail
        go_ret
        exact ⟨ret_bool HX.out.symm, rfl⟩
      · have HX : Hid (oneOf s (l.drop (k + 1)) = b) := Lib.hid (by rw [← HP.out, HE.out, he]; rfl)
        have hk2 : k + 1 ≤ l.length := by rw [← hn.out]; exact hlt
        go_wp2_with fail
        go_round
        case rel => exact ⟨k + 1, hk2, by go_num, HX⟩
        case measure => simp [intOf]; omega
    · have HX : Hid (b = false) := Lib.hid (by rw [← HP.out, oneOf_end s l k (by rw [← hn.out]; omega)])
      go_wp2_with fail
      go_ret
      exact ⟨ret_bool HX.out.symm, rfl⟩
/-- a truth value, memory made -/
def SaysB (w : World) (b : Bool) (e : Ending) (w' : World) : Prop := e = .returned (.bool b) ∧ Below w.heap.size w w'
theorem tkKeys_any (w : World) :
    Calls Tryz.prog 89 #[] w fun e w' => e = .returned (.slice (some ⟨w.heap.size, 0, none⟩) 14 14) ∧ TextsAt w' w.heap.size kwA ∧ Below w.heap.size w w' := by
  go_enter Tryz.func89, Tryz.ntmps89
  go_wp2
  go_ret
  exact ⟨rfl, texts_new _ kwA _ rfl _, (Below.refl _ _).alloc (Nat.le_refl _) _⟩
theorem specIsKey_any (s : ByteArray) (w : World) : Calls Tryz.prog 62 #[.string s] w (SaysB w (isKw s)) := by
  have HL := Lib.hid (fun (g : Nat) (w : World) HT => l1HasS_any g 14 14 kwA s w HT (Lib.hid rfl) (by omega))
  obtain ⟨b, hb⟩ : ∃ b, isKw s = b := ⟨_, rfl⟩
  rw [show oneOf s kwA = isKw s from rfl, hb] at HL
  rw [hb]
  clear hb
  go_enter Tryz.func62, Tryz.ntmps62
  go_wp2_with (first | (go_at_call 89; refine (tkKeys_any _).mono ?_; rintro e w1 ⟨rfl, ht, b1⟩; have HT := Lib.hid ht; have B1 := Lib.hid b1; clear ht b1) | (go_at_call 88; refine (HL.out _ _ HT).mono ?_; rintro e w' ⟨rfl, rfl⟩))
  go_ret
  exact ⟨rfl, B1.out⟩
/-- the table of key words is in its place -/
def Kwt (w : World) : Prop := ∃ (t : TypeId) (fr : Nat × Nat), w.heap[1]? = some (.cells (kwA.map Value.string).toArray t fr)
theorem Kwt.below {w w' : World} (h : Kwt w) (hb : Below w.heap.size w w') : Kwt w' := by
  obtain ⟨t, fr, h⟩ := h
  refine ⟨t, fr, ?_⟩
  have hlt : 1 < w.heap.size := by
    rcases Nat.lt_or_ge 1 w.heap.size with q | q
    · exact q
    · rw [Array.getElem?_eq_none q] at h; cases h
  rw [hb.block _ hlt]; exact h
theorem kw_at (k : Nat) (h : k < 14) (w : World) : (Instr.index 124 (.agg (kwA.map Value.string).toArray) (.int .i64 (k : Int))).run Tryz.prog w = .ok (.string (kwA.getD k ⟨#[]⟩)) w := by
  rcases (show k = 0 ∨ k = 1 ∨ k = 2 ∨ k = 3 ∨ k = 4 ∨ k = 5 ∨ k = 6 ∨ k = 7 ∨ k = 8 ∨ k = 9 ∨ k = 10 ∨ k = 11 ∨ k = 12 ∨ k = 13 by omega) with rfl | rfl | rfl | rfl | rfl | rfl | rfl | rfl | rfl | rfl | rfl | rfl | rfl | rfl <;> kernel_rfl
theorem kw_len : kwA.length = 14 := rfl
set_option maxHeartbeats 800000 in
theorem implIsKey_any (s : ByteArray) (w : World) (hK : Hid (Kwt w)) :
    Calls Tryz.prog 92 #[.string s] w fun e w' => e = .returned (.bool (isKw s)) ∧ w = w' := by
  obtain ⟨b, hb⟩ : ∃ b, isKw s = b := ⟨_, rfl⟩
  have H0 : Hid (oneOf s (kwA.drop 0) = b) := Lib.hid (by rw [← hb]; rfl)
  rw [hb]
  clear hb
  obtain ⟨t, fr, hg⟩ := hK.out
  have HG := Lib.hid hg
  obtain ⟨arr, harr⟩ : ∃ arr, (kwA.map Value.string).toArray = arr := ⟨_, rfl⟩
  have HA := Lib.hid kw_at
  have hsz : Hid (14 = arr.size) := Lib.hid (by rw [← harr]; rfl)
  rw [harr] at HG HA
  clear harr hg
  go_enter Tryz.func92, Tryz.ntmps92
  go_wp2_with (refine wpList_load_row rfl 124 _ rfl 1 rfl t arr fr _ HG.out Tryz.underlying124 rfl (by rw [← hsz.out]; kernel_rfl) ?_)
  go_loop [6] (fun v => HasRel s kwA b v) (fun v => 14 - (intOf v).toNat)
  case atStart => exact ⟨0, Nat.zero_le _, rfl, H0⟩
  case round =>
    obtain ⟨k, hk, rfl, HP⟩ := hrel
    rw [kw_len] at hk
    by_cases hlt : k < 14
    · have hix := HA.out k hlt
      have HE := Lib.hid (oneOf_at s kwA k hlt)
      obtain ⟨x, hx⟩ : ∃ x, kwA.getD k ⟨#[]⟩ = x := ⟨_, rfl⟩
      rw [hx] at hix HE
      clear hx
      rcases Bool.eq_false_or_eq_true (x.toList == s.toList) with he | he
      · have HX : Hid (b = true) := Lib.hid (by rw [← HP.out, HE.out, he]; rfl)
        go_wp2_with fail
        go_ret
        exact ⟨ret_bool HX.out.symm, rfl⟩
      · have HX : Hid (oneOf s (kwA.drop (k + 1)) = b) := Lib.hid (by rw [← HP.out, HE.out, he]; rfl)
        have hk2 : k + 1 ≤ kwA.length := hlt
        go_wp2_with fail
        go_round
        case rel => exact ⟨k + 1, hk2, by go_num, HX⟩
        case measure => simp [intOf]; omega
    · have HX : Hid (b = false) := Lib.hid (by rw [← HP.out, oneOf_end s kwA k (by rw [kw_len]; omega)])
      go_wp2_with fail
      go_ret
      exact ⟨ret_bool HX.out.symm, rfl⟩
theorem let_cases (c : Int) : (97 ≤ c ∧ c ≤ 122 ∧ letB c = true) ∨ (c < 97 ∧ letB c = false) ∨ (97 ≤ c ∧ 122 < c ∧ letB c = false) := by
  unfold letB
  rcases Int.lt_or_le c 97 with h | h
  · exact .inr (.inl ⟨h, by simp; omega⟩)
  · rcases Int.lt_or_le 122 c with h2 | h2
    · exact .inr (.inr ⟨h, h2, by simp; omega⟩)
    · exact .inl ⟨h, h2, by simp; omega⟩
theorem dig_cases (c : Int) : (48 ≤ c ∧ c ≤ 57 ∧ digB c = true) ∨ (c < 48 ∧ digB c = false) ∨ (48 ≤ c ∧ 57 < c ∧ digB c = false) := by
  unfold digB
  rcases Int.lt_or_le c 48 with h | h
  · exact .inr (.inl ⟨h, by simp; omega⟩)
  · rcases Int.lt_or_le 57 c with h2 | h2
    · exact .inr (.inr ⟨h, h2, by simp; omega⟩)
    · exact .inl ⟨h, h2, by simp; omega⟩
theorem isLetter_any (c : Int) (w : World) : Calls Tryz.prog 111 #[.int .i32 c] w fun e w' => e = .returned (.bool (letB c)) ∧ w = w' := by
  rcases let_cases c with ⟨a, b, e⟩ | ⟨a, e⟩ | ⟨a, b, e⟩
  · rw [e]
    have d1 := is_le a
    have d2 := is_le b
    clear e
    go_enter Tryz.func111, Tryz.ntmps111
    go_wp2
    go_ret
    exact ⟨rfl, rfl⟩
  · rw [e]
    have d1 := not_le a
    clear e
    go_enter Tryz.func111, Tryz.ntmps111
    go_wp2
    go_ret
    exact ⟨rfl, rfl⟩
  · rw [e]
    have d1 := is_le a
    have d2 := not_le b
    clear e
    go_enter Tryz.func111, Tryz.ntmps111
    go_wp2
    go_ret
    exact ⟨rfl, rfl⟩
/-- only letters -/
def alB (l : List UInt8) : Bool := l.all (fun c => letB (c.toNat : Int))
theorem al_more (s : ByteArray) (k : Nat) (h : k < s.size) (hp : letB ((s[k]'h).toNat : Int) = true) : alB (s.data.toList.drop k) = alB (s.data.toList.drop (k + 1)) := by
  rw [drop_at s k h]; unfold alB; rw [List.all_cons, hp]; rfl
theorem al_stop (s : ByteArray) (k : Nat) (h : k < s.size) (hp : letB ((s[k]'h).toNat : Int) = false) : alB (s.data.toList.drop k) = false := by
  rw [drop_at s k h]; unfold alB; rw [List.all_cons, hp]; rfl
theorem al_end (s : ByteArray) (k : Nat) (h : s.size ≤ k) : alB (s.data.toList.drop k) = true := by
  rw [List.drop_eq_nil_of_le (by simpa using h)]; rfl
theorem wd_al (s : ByteArray) : wdB s.data.toList = (alB s.data.toList && decide (s.size ≤ 12)) := by unfold wdB alB; rw [size_list]
def AlRelW (w : World) (s : ByteArray) (b : Bool) (wr : World) : Prop := ∃ k : Nat, k ≤ s.size ∧ wr = w.iter s k ∧ Hid (alB (s.data.toList.drop k) = b)
def AlRel (s : ByteArray) (b : Bool) (v : Value) : Prop := ∃ k : Nat, k ≤ s.size ∧ v = .int .i64 k ∧ Hid (alB (s.data.toList.drop k) = b)
theorem and_false' {a b : Bool} (h : a = false) : (a && b) = false := by rw [h]; rfl
theorem and_true' {a b : Bool} (h : a = true) : (a && b) = b := by rw [h]; rfl
set_option maxHeartbeats 1600000 in
theorem isWord_any (s : ByteArray) (w : World) (hs : s.size ≤ 1048576) :
    Calls Tryz.prog 91 #[.string s] w (SaysB w (wdB s.data.toList)) := by
  rw [wd_al]
  obtain ⟨b, hb⟩ : ∃ b, alB s.data.toList = b := ⟨_, rfl⟩
  have H0 : Hid (alB (s.data.toList.drop 0) = b) := Lib.hid (by rw [← hb]; rfl)
  rw [hb]
  clear hb
  have d12 : decide ((s.size : Int) ≤ 12) = decide (s.size ≤ 12) := by rw [decide_eq_decide]; omega
  have D12 := Lib.hid d12
  clear d12
  go_enter Tryz.func91, Tryz.ntmps91
  go_wp2_with fail
  go_loopw [] (fun wr => AlRelW w s b wr) (fun wr => s.size - wr.iterPos w.heap.size)
  case atStart => exact ⟨0, Nat.zero_le _, rfl, H0⟩
  case round =>
    obtain ⟨k, hk, hw, HP⟩ := hrel
    subst hw
    by_cases hlt : k < s.size
    · obtain ⟨y, hy⟩ : ∃ y : Nat, (s[k]'hlt).toNat = y := ⟨_, rfl⟩
      have HY := Lib.hid hy
      rcases Nat.lt_or_ge y 128 with ha | ha
      · have hnx := fun ty => run_next_ascii (P := Tryz.prog) w s k ty hlt (by rw [hy]; exact ha)
        rw [hy] at hnx
        clear hy
        have HL := Lib.hid (fun w => isLetter_any (y : Int) w)
        rcases Bool.eq_false_or_eq_true (letB (y : Int)) with hl | hl
        · have HX : Hid (alB (s.data.toList.drop (k + 1)) = b) := Lib.hid ((al_more s k hlt (by rw [HY.out]; exact hl)).symm.trans HP.out)
          rw [hl] at HL
          clear hl
          go_wp2_with (go_at_call 111; refine (HL.out _).mono ?_; rintro e w' ⟨rfl, rfl⟩)
          go_roundw
          case rel => exact ⟨k + 1, by omega, rfl, HX⟩
          case measure => simp; omega
        · have HX : Hid (b = false) := Lib.hid (HP.out.symm.trans (al_stop s k hlt (by rw [HY.out]; exact hl)))
          rw [hl] at HL
          clear hl
          go_wp2_with (go_at_call 111; refine (HL.out _).mono ?_; rintro e w' ⟨rfl, rfl⟩)
          go_ret
          exact ⟨ret_bool (and_false' HX.out).symm, below_iter _ _ _⟩
      · obtain ⟨r0, h0⟩ : ∃ r0 : Nat, (Utf8.decode s k).1 = r0 := ⟨_, rfl⟩
        obtain ⟨wd, h1⟩ : ∃ wd : Nat, (Utf8.decode s k).2 = wd := ⟨_, rfl⟩
        have hnx := fun ty => run_next_any (P := Tryz.prog) w s k ty hlt
        have hh := (decode_high s k hlt (by rw [hy]; exact ha)).1
        rw [h0] at hh
        rw [h0, h1] at hnx
        have HL := Lib.hid (fun w => isLetter_any (r0 : Int) w)
        have hl : letB (r0 : Int) = false := by unfold letB; simp; omega
        have hl2 : letB (y : Int) = false := by unfold letB; simp; omega
        have HX : Hid (b = false) := Lib.hid (HP.out.symm.trans (al_stop s k hlt (by rw [hy]; exact hl2)))
        rw [hl] at HL
        clear hl hl2 hy h0 h1 hh
        go_wp2_with (go_at_call 111; refine (HL.out _).mono ?_; rintro e w' ⟨rfl, rfl⟩)
        go_ret
        exact ⟨ret_bool (and_false' HX.out).symm, below_iter _ _ _⟩
    · have hnx := fun ty => run_next_end (P := Tryz.prog) w s k ty hlt
      have HX : Hid (b = true) := Lib.hid (HP.out.symm.trans (al_end s k (by omega)))
      go_wp2_with fail
      go_ret
      exact ⟨ret_bool (by rw [and_true' HX.out]; exact D12.out), below_iter _ _ _⟩
theorem bcell {W w1 : World} (hb : Below W.heap.size W w1) : (∀ b o, b < W.heap.size → w1.cell? ⟨b, o, none⟩ = W.cell? ⟨b, o, none⟩) ∧ (∀ b o, b < W.heap.size → w1.frozen? ⟨b, o, none⟩ = W.frozen? ⟨b, o, none⟩) :=
  ⟨fun b o h => hb.cell (p := ⟨b, o, none⟩) h, fun b o h => hb.frozen (p := ⟨b, o, none⟩) h⟩
/-- any results, memory made -/
def SaysV (w : World) (v : Value) (e : Ending) (w' : World) : Prop := e = .returned v ∧ Below w.heap.size w w'
theorem one_new2 (w : World) (o : Obj) : Below w.heap.size w (w.alloc o) := (Below.refl _ _).alloc (Nat.le_refl _) _
theorem two_new (w : World) (o o' : Obj) : Below w.heap.size w ((w.alloc o).alloc o') := ((Below.refl _ _).alloc (Nat.le_refl _) _).alloc (by simp) _
theorem two_size {w w1 : World} {o o' : Obj} (b : Below ((w.alloc o).alloc o').heap.size ((w.alloc o).alloc o') w1) : w.heap.size + 1 < w1.heap.size := by have := b.size; simp at this; omega
theorem two_below {w w1 : World} {o o' : Obj} (b : Below ((w.alloc o).alloc o').heap.size ((w.alloc o).alloc o') w1) : Below w.heap.size w w1 := (two_new w o o').trans (b.mono (by simp; omega))
/-- a boxed token keeps its cells -/
def FourIs (w : World) (g : Nat) (a0 a1 a2 a3 : Value) : Prop := w.cell? ⟨g, 0, none⟩ = some a0 ∧ w.cell? ⟨g, 1, none⟩ = some a1 ∧ w.cell? ⟨g, 2, none⟩ = some a2 ∧ w.cell? ⟨g, 3, none⟩ = some a3 ∧ g < w.heap.size
theorem FourIs.on {w w1 : World} {g : Nat} {a0 a1 a2 a3 : Value} (h : FourIs w g a0 a1 a2 a3) (b : Below w.heap.size w w1) : FourIs w1 g a0 a1 a2 a3 := by
  obtain ⟨h0, h1, h2, h3, hg⟩ := h
  have hc := (bcell b).1
  exact ⟨(hc _ _ hg).trans h0, (hc _ _ hg).trans h1, (hc _ _ hg).trans h2, (hc _ _ hg).trans h3, Nat.lt_of_lt_of_le hg b.size⟩
theorem box_four {w w1 : World} {a0 a1 a2 a3 : Value} {t : TypeId} (b : Below (w.alloc (.cells #[a0, a1, a2, a3] t)).heap.size (w.alloc (.cells #[a0, a1, a2, a3] t)) w1) : FourIs w1 w.heap.size a0 a1 a2 a3 ∧ Below w.heap.size w w1 := by
  have h : FourIs (w.alloc (.cells #[a0, a1, a2, a3] t)) w.heap.size a0 a1 a2 a3 := by
    refine ⟨?_, ?_, ?_, ?_, ?_⟩ <;> simp [go_sem]
  exact ⟨h.on b, (one_new2 w _).trans (b.mono (by simp))⟩
def SaysI (w : World) (n : Int) (e : Ending) (w' : World) : Prop := e = .returned (.int .i64 n) ∧ Below w.heap.size w w'
/-- the cells of two tokens of the call's own are there -/
def Four (w1 : World) (b : Nat) : Prop := (w1.cell? ⟨b, 0, none⟩).isSome = true ∧ (w1.cell? ⟨b, 1, none⟩).isSome = true ∧ (w1.cell? ⟨b, 2, none⟩).isSome = true ∧ (w1.cell? ⟨b, 3, none⟩).isSome = true
theorem four_set {w1 : World} {b : Nat} (h : Four w1 b) (p : Addr) (v : Value) : Four (w1.setCell p v) b := by
  obtain ⟨h0, h1, h2, h3⟩ := h
  have q : ∀ a : Addr, (w1.cell? a).isSome = true → ((w1.setCell p v).cell? a).isSome = true := fun a ha => by
    by_cases e : p = a
    · subst e; rw [World.cell?_setCell_same' _ _ _ ha]; rfl
    · rw [World.cell?_setCell_other _ _ _ _ e]; exact ha
  exact ⟨q _ h0, q _ h1, q _ h2, q _ h3⟩
theorem read4 {w1 : World} {b : Nat} (h : Four w1 b) (v0 v1 v2 v3 : Value) (W : World) (hW : W = (((w1.setCell ⟨b, 0, none⟩ v0).setCell ⟨b, 1, none⟩ v1).setCell ⟨b, 2, none⟩ v2).setCell ⟨b, 3, none⟩ v3) :
    W.cell? ⟨b, 0, none⟩ = some v0 ∧ W.cell? ⟨b, 1, none⟩ = some v1 ∧ W.cell? ⟨b, 2, none⟩ = some v2 ∧ W.cell? ⟨b, 3, none⟩ = some v3 := by
  obtain ⟨h0, h1, h2, h3⟩ := h
  subst hW
  refine ⟨?_, ?_, ?_, ?_⟩ <;> simp [go_sem, World.cell?_setCell_other, World.cell?_setCell_same', h0, h1, h2, h3]
theorem set4 {n : Nat} {w w1 : World} (h : Below n w w1) (b : Nat) (hb : n ≤ b) (v0 v1 v2 v3 : Value) : Below n w ((((w1.setCell ⟨b, 0, none⟩ v0).setCell ⟨b, 1, none⟩ v1).setCell ⟨b, 2, none⟩ v2).setCell ⟨b, 3, none⟩ v3) :=
  (((h.setCell hb _).setCell hb _).setCell hb _).setCell hb _
theorem set2 {n : Nat} {w w1 : World} (h : Below n w w1) (b : Nat) (hb : n ≤ b) (v0 v1 : Value) : Below n w ((w1.setCell ⟨b, 0, none⟩ v0).setCell ⟨b, 1, none⟩ v1) :=
  (h.setCell hb _).setCell hb _
end Go.Proofs.YtkpocljlmbihcaaGreatDoor

/- The table of key words: the fact out of a row's condition; a world for the witness with the table in its place. -/
namespace Go.Proofs.YtkpocljlmbihcaaGreatDoor
set_option maxRecDepth 100000
open Go.RowKit

/-- an array of texts that reads as the table holds the table's texts, cell for cell -/
theorem cells_of_texts {H : Type} {enc : TypeId × Value → H} {P : Program} {w : World} {base : Nat} {sp : Nat → Bool} {held : Bool} {fuel : Nat} {t e : TypeId} {n : Nat} {cs : List Value} {zs : List (List UInt8)} {p : List MemPlace}
    (ht : P.underlying t = some (.array n e)) (he : P.underlying e = some .string) (hce : P.cellsOf e = 1) (hct : P.cellsOf t = n)
    (h : DataW.trod enc P w base sp held fuel t cs = some (.agg (zs.map fun z => .lit (.string z)), p)) : cs = zs.map fun z => Value.string ⟨z.toArray⟩ := by
  cases fuel with
  | zero => simp [DataW.trod] at h
  | succ fuel =>
    simp only [DataW.trod, ht, hce, hct, Nat.mul_one] at h
    split at h
    · rename_i hl
      obtain ⟨xs, hm, hx⟩ := Option.map_eq_some_iff.1 h
      have hxs : xs.map (·.1) = zs.map fun z => (DataW.lit (.string z) : DataW H) := by
        have := congrArg Prod.fst hx
        simpa using this
      have hxl : xs.length = n := by simpa using Lib.mapM_length hm
      have hzl : zs.length = n := by
        have := congrArg List.length hxs
        simp at this
        omega
      apply List.ext_getElem?
      intro i
      by_cases hi : i < n
      · obtain ⟨b, hb, hf⟩ := Lib.mapM_at hm i i (by simp [hi])
        obtain ⟨z, hc, rfl, _⟩ := DataW.trod_string he hf
        have h1 : cs[i]? = some (.string z) := by
          have := congrArg (·[0]?) hc
          simpa [List.getElem?_take, List.getElem?_drop] using this
        have h2 : (xs.map (·.1))[i]? = some (DataW.lit (.string z.data.toList) : DataW H) := by simp [hb]
        rw [hxs] at h2
        simp only [List.getElem?_map, Option.map_eq_some_iff, DataW.lit.injEq, Lit.string.injEq] at h2
        obtain ⟨z', hz', hz2⟩ := h2
        rw [h1, List.getElem?_map, hz', Option.map_some, hz2]
      · rw [List.getElem?_eq_none (by omega), List.getElem?_eq_none (by simp; omega)]
    · cases h
theorem block_of_var {P : Program} {w : World} {n : String} {g : Nat} {cs : Array Value} (hg : P.globalNamed n = some g) (h : w.var? P n = some cs) : ∃ (t : TypeId) (fr : Nat × Nat), w.heap[g]? = some (.cells cs t fr) := by
  simp only [World.var?, hg, Option.bind_some] at h
  split at h
  · rename_i c t fr hb
    simp only [Option.some.injEq] at h
    subst h
    exact ⟨t, fr, hb⟩
  · cases h
theorem gKwt : Tryz.prog.globalNamed "loop.example/g00838/impl.keyWords" = some 1 := by kernel_rfl
theorem tKwt : (Tryz.prog.globals[1]?).map (·.type) = some 124 := by kernel_rfl
theorem kwt_of_head {W : World} {r : List (String × DataW Unit)} (h : laidMet Tryz.prog (("loop.example/g00838/impl.keyWords", Rows.laid_loop_example_g00838_impl_keyWords) :: r) W) : Kwt W := by
  obtain ⟨ps, ⟨g', t', cs, fuel, p, q, hg', ht', hvar, hd, _, _⟩, _⟩ := h
  obtain rfl := Option.some.inj (gKwt.symm.trans hg')
  obtain rfl := Option.some.inj (tKwt.symm.trans ht')
  have hcs := cells_of_texts (zs := kwA.map fun s => s.data.toList) Tryz.underlying124 Tryz.underlying9 (by kernel_rfl) (by kernel_rfl) (show DataW.trod _ Tryz.prog W _ _ _ fuel 124 cs.toList = some (.agg ((kwA.map fun s => s.data.toList).map fun z => .lit (.string z)), p) from hd)
  obtain ⟨t, fr, hb⟩ := block_of_var gKwt hvar
  refine ⟨t, fr, ?_⟩
  rw [hb, show cs = (kwA.map Value.string).toArray from Array.toList_inj.1 (by rw [hcs]; rfl)]
/-- a world for the witness: the settled one, the table in its place -/
noncomputable def laidWorldK (os : Os) : World :=
  { World.holding Tryz.prog os ⟨#[], #[], []⟩ with heap := (World.holding Tryz.prog os ⟨#[], #[], []⟩).heap.modify 1 fun
      | .cells _ t frozen => .cells #[.string ⟨#[113, 100, 105, 115, 99]⟩, .string ⟨#[100, 101, 102, 97, 117, 108, 116]⟩, .string ⟨#[99, 108, 97, 115, 115]⟩, .string ⟨#[114, 97, 116, 101]⟩, .string ⟨#[99, 101, 105, 108]⟩, .string ⟨#[98, 117, 114, 115, 116]⟩, .string ⟨#[99, 98, 117, 114, 115, 116]⟩, .string ⟨#[112, 114, 105, 111]⟩, .string ⟨#[108, 105, 109, 105, 116]⟩, .string ⟨#[102, 105, 108, 116, 101, 114]⟩, .string ⟨#[115, 111, 117, 114, 99, 101]⟩, .string ⟨#[100, 101, 115, 116]⟩, .string ⟨#[112, 111, 114, 116]⟩, .string ⟨#[109, 97, 114, 107]⟩] t frozen
      | o => o }
end Go.Proofs.YtkpocljlmbihcaaGreatDoor

/- Classes and filters as lists, and when a configuration is valid: plain functions and facts. -/
namespace Go.Proofs.YtkpocljlmbihcaaGreatDoor
set_option maxRecDepth 100000
set_option linter.unusedVariables false

structure Cls where
  (i p r e b u o l : Int)
structure Flt where
  (o f m v t : Int)
def cls0 : Cls := ⟨0, 0, 0, 0, 0, 0, 0, 0⟩
def flt0 : Flt := ⟨0, 0, 0, 0, 0⟩

theorem inBR_iff {n lo hi : Int} : inB n lo hi = true ↔ lo ≤ n ∧ n ≤ hi := by unfold inB; simp
theorem inBR_yes {n lo hi : Int} (h : lo ≤ n) (h' : n ≤ hi) : inB n lo hi = true := inBR_iff.2 ⟨h, h'⟩
theorem inBR_no {n lo hi : Int} (h : n < lo ∨ hi < n) : inB n lo hi = false := by
  unfold inB; rcases h with h | h <;> simp <;> omega
theorem inBR_cases (n lo hi : Int) : (lo ≤ n ∧ n ≤ hi ∧ inB n lo hi = true) ∨ (n < lo ∧ inB n lo hi = false) ∨ (lo ≤ n ∧ hi < n ∧ inB n lo hi = false) := by
  rcases Int.lt_or_le n lo with h | h
  · exact .inr (.inl ⟨h, inBR_no (.inl h)⟩)
  · rcases Int.lt_or_le hi n with h2 | h2
    · exact .inr (.inr ⟨h, h2, inBR_no (.inr h2)⟩)
    · exact .inl ⟨h, h2, inBR_yes h h2⟩

/-- the numbers of a class that do not depend on other classes -/
def rateOk (x : Cls) : Bool := inB x.r 1 100000 && (inB x.e x.r 100000 && (inB x.b 1500 1000000 && (inB x.u 1500 1000000 && inB x.o 0 7)))
theorem rateOk_r {x : Cls} (h : rateOk x = true) : 1 ≤ x.r ∧ x.r ≤ 100000 := by
  unfold rateOk at h
  exact inBR_iff.1 (Bool.and_eq_true_iff.1 h).1
/-- classes by themselves, behind an Id -/
def okL : Int → List Cls → Bool
  | _, [] => true
  | b, x :: r => (decide (b < x.i) && (decide (x.i ≤ 999) && rateOk x)) && okL x.i r
theorem drop_cls (cs : List Cls) (k : Nat) (h : k < cs.length) (x : Cls) (hx : cs.getD k cls0 = x) : cs.drop k = x :: cs.drop (k + 1) := by
  rw [List.drop_eq_getElem_cons h]
  subst hx
  simp [List.getD_eq_getElem?_getD, h]
theorem okL_at (b : Int) (cs : List Cls) (k : Nat) (h : k < cs.length) (x : Cls) (hx : cs.getD k cls0 = x) :
    okL b (cs.drop k) = ((decide (b < x.i) && (decide (x.i ≤ 999) && rateOk x)) && okL x.i (cs.drop (k + 1))) := by
  rw [drop_cls cs k h x hx, okL]
theorem okL_end (b : Int) (cs : List Cls) (k : Nat) (h : cs.length ≤ k) : okL b (cs.drop k) = true := by
  rw [List.drop_eq_nil_of_le h]; rfl
def IncC (cs : List Cls) : Prop := ∀ j k, j < k → k < cs.length → (cs.getD j cls0).i < (cs.getD k cls0).i
theorem okL_ids : ∀ (cs : List Cls) (b : Int), okL b cs = true → ∀ k, k < cs.length → b < (cs.getD k cls0).i ∧ (cs.getD k cls0).i ≤ 999 ∧ rateOk (cs.getD k cls0) = true
  | [], _, _, k, hk => absurd hk (by simp)
  | x :: r, b, h, k, hk => by
    unfold okL at h
    simp only [Bool.and_eq_true, decide_eq_true_eq] at h
    match k, hk with
    | 0, _ => exact ⟨h.1.1, h.1.2.1, h.1.2.2⟩
    | k + 1, hk =>
      have := okL_ids r x.i h.2 k (by simpa using hk)
      exact ⟨by have := this.1; simp only [List.getD_cons_succ]; omega, by simpa using this.2⟩
theorem okL_inc : ∀ (cs : List Cls) (b : Int), okL b cs = true → IncC cs
  | [], _, _, j, k, _, hk => absurd hk (by simp)
  | x :: r, b, h, j, k, hjk, hk => by
    unfold okL at h
    rw [Bool.and_eq_true] at h
    match j, k, hjk, hk with
    | 0, k + 1, _, hk =>
      have := okL_ids r x.i h.2 k (by simpa using hk)
      simp only [List.getD_cons_succ, List.getD_cons_zero]
      exact this.1
    | j + 1, k + 1, hjk, hk =>
      simp only [List.getD_cons_succ]
      exact okL_inc r x.i h.2 j k (by omega) (by simpa using hk)

/-! Classes found. -/
def fnd : List Cls → Int → Option Nat
  | [], _ => .none
  | x :: r, id => if x.i = id then .some 0 else (fnd r id).map (· + 1)
theorem fnd_some : ∀ (cs : List Cls) (id : Int) (k : Nat), k < cs.length → (cs.getD k cls0).i = id → (∀ j, j < k → (cs.getD j cls0).i ≠ id) → fnd cs id = Option.some k
  | [], _, k, hk, _, _ => absurd hk (by simp)
  | x :: r, id, k, hk, he, hn => by
    unfold fnd
    match k, hk, he, hn with
    | 0, _, he, _ => rw [if_pos (by simpa using he)]
    | k + 1, hk, he, hn =>
      rw [if_neg (by have := hn 0 (by omega); simpa using this), fnd_some r id k (by simpa using hk) (by simpa using he) (fun j hj => by have := hn (j + 1) (by omega); simpa using this)]
      rfl
theorem fnd_none : ∀ (cs : List Cls) (id : Int), (∀ j, j < cs.length → (cs.getD j cls0).i ≠ id) → fnd cs id = Option.none
  | [], _, _ => rfl
  | x :: r, id, hn => by
    unfold fnd
    rw [if_neg (by have := hn 0 (by simp); simpa using this), fnd_none r id (fun j hj => by have := hn (j + 1) (by simpa using hj); simpa using this)]
    rfl
theorem fnd_get : ∀ (cs : List Cls) (id : Int) (k : Nat), fnd cs id = Option.some k → k < cs.length ∧ (cs.getD k cls0).i = id
  | [], _, _, h => by unfold fnd at h; cases h
  | x :: r, id, k, h => by
    unfold fnd at h
    by_cases hx : x.i = id
    · rw [if_pos hx] at h
      cases h
      exact ⟨by simp, by simpa using hx⟩
    · rw [if_neg hx] at h
      cases hr : fnd r id with
      | none => rw [hr] at h; cases h
      | some j =>
        rw [hr] at h
        cases h
        have := fnd_get r id j hr
        exact ⟨by simpa using this.1, by simpa using this.2⟩
theorem fnd_not (cs : List Cls) (id : Int) (h : fnd cs id = Option.none) (j : Nat) (hj : j < cs.length) : (cs.getD j cls0).i ≠ id := by
  intro he
  have : ∃ m, m < cs.length ∧ (cs.getD m cls0).i = id ∧ ∀ i, i < m → (cs.getD i cls0).i ≠ id := by
    induction j using Nat.strongRecOn with
    | _ j ih =>
      by_cases h' : ∃ i, i < j ∧ (cs.getD i cls0).i = id
      · obtain ⟨i, hi, hei⟩ := h'
        exact ih i hi (by omega) hei
      · exact ⟨j, hj, he, fun i hi hei => h' ⟨i, hi, hei⟩⟩
  obtain ⟨m, hm, hme, hmn⟩ := this
  rw [fnd_some cs id m hm hme hmn] at h
  cases h
theorem fnd_inc {cs : List Cls} (hi : IncC cs) {k : Nat} (hk : k < cs.length) : fnd cs (cs.getD k cls0).i = Option.some k :=
  fnd_some cs _ k hk rfl (fun j hj => by have := hi j k hj hk; omega)
/-- how many classes at the start have a less Id -/
def plc : List Cls → Int → Nat
  | [], _ => 0
  | x :: r, id => if x.i < id then plc r id + 1 else 0
theorem plc_eq : ∀ (cs : List Cls) (id : Int) (k : Nat), k ≤ cs.length → (∀ j, j < k → (cs.getD j cls0).i < id) → (k < cs.length → id ≤ (cs.getD k cls0).i) → plc cs id = k
  | [], _, k, hk, _, _ => by simp at hk; subst hk; rfl
  | x :: r, id, k, hk, hl, hg => by
    unfold plc
    match k, hk, hl, hg with
    | 0, _, _, hg => rw [if_neg (by have := hg (by simp); simp at this; omega)]
    | k + 1, hk, hl, hg =>
      rw [if_pos (by have := hl 0 (by omega); simpa using this), plc_eq r id k (by simpa using hk) (fun j hj => by have := hl (j + 1) (by omega); simpa using this) (fun h => by have := hg (by simpa using h); simpa using this)]
theorem plc_le : ∀ (cs : List Cls) (id : Int), plc cs id ≤ cs.length
  | [], _ => Nat.le_refl _
  | x :: r, id => by unfold plc; split <;> simp [plc_le r id]
theorem plc_less : ∀ (cs : List Cls) (id : Int) (j : Nat), j < plc cs id → (cs.getD j cls0).i < id
  | [], _, j, h => by unfold plc at h; omega
  | x :: r, id, j, h => by
    unfold plc at h
    by_cases hx : x.i < id
    · rw [if_pos hx] at h
      match j, h with
      | 0, _ => simpa using hx
      | j + 1, h => simpa using plc_less r id j (by omega)
    · rw [if_neg hx] at h; omega
theorem plc_more : ∀ (cs : List Cls) (id : Int), plc cs id < cs.length → id ≤ (cs.getD (plc cs id) cls0).i
  | [], _, h => by simp at h
  | x :: r, id, h => by
    by_cases hx : x.i < id
    · have e : plc (x :: r) id = plc r id + 1 := by conv => lhs; unfold plc; rw [if_pos hx]
      rw [e] at h ⊢
      simpa using plc_more r id (by simpa using h)
    · have e : plc (x :: r) id = 0 := by conv => lhs; unfold plc; rw [if_neg hx]
      rw [e]; simp; omega
/-- a class found among increasing Ids lies where it would be put -/
theorem fnd_plc {cs : List Cls} (hi : IncC cs) (id : Int) : fnd cs id = if plc cs id < cs.length ∧ (cs.getD (plc cs id) cls0).i = id then Option.some (plc cs id) else Option.none := by
  by_cases h : plc cs id < cs.length ∧ (cs.getD (plc cs id) cls0).i = id
  · rw [if_pos h]
    have := fnd_inc hi h.1
    rw [h.2] at this
    exact this
  · rw [if_neg h]
    apply fnd_none
    intro j hj he
    rcases Nat.lt_trichotomy j (plc cs id) with q | q | q
    · have := plc_less cs id j q; omega
    · exact h ⟨by omega, by rw [← q]; exact he⟩
    · have h1 := plc_more cs id (by omega)
      have h2 := hi (plc cs id) j q hj
      omega

/-! Children, rates, tops. -/
def hasK (cs : List Cls) (id : Int) : Bool := cs.any (fun y => y.p == id)
/-- the indices of the classes with a Parent, from an index on -/
def kidsF (id : Int) : Nat → List Cls → List Nat
  | _, [] => []
  | k, y :: r => if y.p = id then k :: kidsF id (k + 1) r else kidsF id (k + 1) r
def kids (cs : List Cls) (id : Int) : List Nat := kidsF id 0 cs
theorem kidsF_at (id : Int) (cs : List Cls) (k : Nat) (h : k < cs.length) (x : Cls) (hx : cs.getD k cls0 = x) :
    kidsF id k (cs.drop k) = if x.p = id then k :: kidsF id (k + 1) (cs.drop (k + 1)) else kidsF id (k + 1) (cs.drop (k + 1)) := by
  rw [drop_cls cs k h x hx, kidsF]
theorem kidsF_end (id : Int) (cs : List Cls) (k : Nat) (h : cs.length ≤ k) : kidsF id k (cs.drop k) = [] := by
  rw [List.drop_eq_nil_of_le h]; rfl
theorem kidsF_nil (id : Int) : ∀ (cs : List Cls) (k : Nat), (kidsF id k cs = []) ↔ hasK cs id = false
  | [], _ => by simp [kidsF, hasK]
  | y :: r, k => by
    have := kidsF_nil id r (k + 1)
    unfold kidsF hasK
    by_cases hy : y.p = id
    · rw [if_pos hy]; simp [hy]
    · rw [if_neg hy, this]; simp [hasK, hy]
theorem kidsF_len (id : Int) : ∀ (cs : List Cls) (k : Nat), (kidsF id k cs).length ≤ cs.length
  | [], _ => Nat.le_refl _
  | y :: r, k => by
    have := kidsF_len id r (k + 1)
    unfold kidsF
    split <;> simp <;> omega
theorem kidsF_lt (id : Int) : ∀ (cs : List Cls) (k : Nat), ∀ j ∈ kidsF id k cs, k ≤ j ∧ j < k + cs.length
  | [], _, j, h => by simp [kidsF] at h
  | y :: r, k, j, h => by
    have := kidsF_lt id r (k + 1) j
    unfold kidsF at h
    split at h
    · rcases List.mem_cons.1 h with h | h
      · subst h; simp
      · have := this h; simp; omega
    · have := this h; simp; omega
theorem kidsF_take (id : Int) (cs : List Cls) : ∀ (m k : Nat), cs.length - k = m → (kidsF id k (cs.drop k)).length ≤ m
  | m, k, h => by have := kidsF_len id (cs.drop k) k; rw [List.length_drop] at this; omega
/-- a rate without those of the children that follow -/
def spF (id : Int) : Int → List Cls → Int
  | n, [] => n
  | n, y :: r => spF id (if y.p = id then n - y.r else n) r
def spare (cs : List Cls) (x : Cls) : Int := spF x.i x.r cs
theorem spF_at (id n : Int) (cs : List Cls) (k : Nat) (h : k < cs.length) (x : Cls) (hx : cs.getD k cls0 = x) :
    spF id n (cs.drop k) = spF id (if x.p = id then n - x.r else n) (cs.drop (k + 1)) := by
  rw [drop_cls cs k h x hx, spF]
theorem spF_end (id n : Int) (cs : List Cls) (k : Nat) (h : cs.length ≤ k) : spF id n (cs.drop k) = n := by
  rw [List.drop_eq_nil_of_le h]; rfl
/-- the same over the list of the children -/
def spK (cs : List Cls) : Int → List Nat → Int
  | n, [] => n
  | n, j :: r => spK cs (n - (cs.getD j cls0).r) r
theorem spK_kids (cs : List Cls) (id : Int) : ∀ (m k : Nat) (n : Int), cs.length - k = m → spK cs n (kidsF id k (cs.drop k)) = spF id n (cs.drop k)
  | 0, k, n, h => by rw [kidsF_end id cs k (by omega), spF_end id n cs k (by omega)]; rfl
  | m + 1, k, n, h => by
    have hk : k < cs.length := by omega
    rw [kidsF_at id cs k hk _ rfl, spF_at id n cs k hk _ rfl]
    by_cases hp : (cs.getD k cls0).p = id
    · rw [if_pos hp, if_pos hp, spK, spK_kids cs id m (k + 1) _ (by omega)]
    · rw [if_neg hp, if_neg hp, spK_kids cs id m (k + 1) _ (by omega)]
theorem spare_kids (cs : List Cls) (x : Cls) : spK cs x.r (kids cs x.i) = spare cs x := by
  have := spK_kids cs x.i cs.length 0 x.r (by simp)
  rw [List.drop_zero] at this
  exact this
def cT (cs : List Cls) : Nat := (cs.filter (fun x => x.p == 0)).length
theorem cT_more (cs : List Cls) (k : Nat) (h : k < cs.length) (x : Cls) (hx : cs.getD k cls0 = x) : cT (cs.take (k + 1)) = cT (cs.take k) + (if x.p = 0 then 1 else 0) := by
  have hl : cs[k] = x := by rw [← hx]; simp [List.getD_eq_getElem?_getD, h]
  unfold cT
  rw [List.take_succ_eq_append_getElem h, List.filter_append, hl, List.length_append]
  by_cases hi : x.p = 0
  · simp [hi]
  · simp [hi]
theorem cT_le (cs : List Cls) : cT cs ≤ cs.length := List.length_filter_le _ _

/-! Ways up. -/
def up (cs : List Cls) : Nat → Nat → List Nat
  | 0, _ => []
  | f + 1, k => k :: (match fnd cs (cs.getD k cls0).p with | .none => [] | .some j => up cs f j)
theorem up_len (cs : List Cls) : ∀ (f k : Nat), (up cs f k).length ≤ f
  | 0, _ => Nat.le_refl _
  | f + 1, k => by
    unfold up
    cases fnd cs (cs.getD k cls0).p with
    | none => simp
    | some j => have := up_len cs f j; simp; omega
theorem up_lt (cs : List Cls) : ∀ (f k : Nat), k < cs.length → ∀ j ∈ up cs f k, j < cs.length
  | 0, _, _, j, h => by simp [up] at h
  | f + 1, k, hk, j, h => by
    unfold up at h
    rcases List.mem_cons.1 h with h | h
    · omega
    · cases hf : fnd cs (cs.getD k cls0).p with
      | none => rw [hf] at h; simp at h
      | some i =>
        rw [hf] at h
        exact up_lt cs f i (fnd_get cs _ i hf).1 j h
theorem up_cons (cs : List Cls) (f k : Nat) : ∃ r, up cs (f + 1) k = k :: r := ⟨_, rfl⟩
/-- the last class of a way -/
def lastN : List Nat → Nat
  | [] => 0
  | [k] => k
  | _ :: r => lastN r
theorem lastN_cons (k j : Nat) (r : List Nat) : lastN (k :: j :: r) = lastN (j :: r) := rfl
theorem lastN_get : ∀ (l : List Nat), 0 < l.length → l.getD (l.length - 1) 0 = lastN l
  | [], h => by simp at h
  | [k], _ => rfl
  | k :: j :: r, _ => by
    rw [lastN_cons, ← lastN_get (j :: r) (by simp)]
    simp
def wayOk (cs : List Cls) (k : Nat) : Bool := decide ((up cs 9 k).length ≤ 8) && ((cs.getD (lastN (up cs 9 k)) cls0).p == 0)
/-- as the program goes up -/
def reach (cs : List Cls) : Nat → Cls → Bool
  | 0, x => x.p == 0
  | f + 1, x => (x.p == 0) || (match fnd cs x.p with | .none => false | .some j => reach cs f (cs.getD j cls0))
def parOk (cs : List Cls) (x : Cls) : Bool := (x.p == 0) || (fnd cs x.p).isSome
theorem way_reach (cs : List Cls) (h0 : fnd cs 0 = Option.none) (hp : ∀ k, k < cs.length → parOk cs (cs.getD k cls0) = true) : ∀ (f k : Nat), k < cs.length →
    (((up cs (f + 2) k).length ≤ f + 1 ∧ (cs.getD (lastN (up cs (f + 2) k)) cls0).p = 0) ↔ reach cs f (cs.getD k cls0) = true)
  | f, k, hk => by
    have hpk := hp k hk
    unfold parOk at hpk
    by_cases hz : (cs.getD k cls0).p = 0
    · have e : up cs (f + 2) k = [k] := by
        show k :: (match fnd cs (cs.getD k cls0).p with | .none => [] | .some j => up cs (f + 1) j) = [k]
        rw [hz, h0]
      rw [e]
      refine ⟨fun _ => ?_, fun _ => ⟨by simp, hz⟩⟩
      have hzb : ((cs.getD k cls0).p == 0) = true := by rw [hz]; rfl
      cases f
      · exact hzb
      · unfold reach; rw [hzb]; rfl
    · have hz' : ((cs.getD k cls0).p == 0) = false := by simpa using hz
      rw [hz', Bool.false_or] at hpk
      obtain ⟨j, hj⟩ := Option.isSome_iff_exists.1 hpk
      have hjl := (fnd_get cs _ j hj).1
      have e : up cs (f + 2) k = k :: up cs (f + 1) j := by
        show k :: (match fnd cs (cs.getD k cls0).p with | .none => [] | .some j => up cs (f + 1) j) = _
        rw [hj]
      match f with
      | 0 =>
        obtain ⟨r, hr⟩ := up_cons cs 0 j
        have e4 : reach cs 0 (cs.getD k cls0) = false := hz'
        rw [e, hr, e4]
        simp
      | f + 1 =>
        have ih := way_reach cs h0 hp f j hjl
        obtain ⟨r, hr⟩ := up_cons cs (f + 1) j
        rw [e]
        have e2 : lastN (k :: up cs (f + 1 + 1) j) = lastN (up cs (f + 2) j) := by rw [hr, lastN_cons]
        have e3 : reach cs (f + 1) (cs.getD k cls0) = reach cs f (cs.getD j cls0) := by
          show (((cs.getD k cls0).p == 0) || (match fnd cs (cs.getD k cls0).p with | .none => false | .some j => reach cs f (cs.getD j cls0))) = _
          rw [hz', hj, Bool.false_or]
        rw [e2, e3, ← ih, List.length_cons]
        constructor
        · rintro ⟨a, b⟩; exact ⟨Nat.le_of_succ_le_succ a, b⟩
        · rintro ⟨a, b⟩; exact ⟨Nat.succ_le_succ a, b⟩
theorem way_par (cs : List Cls) (k : Nat) (h : wayOk cs k = true) : parOk cs (cs.getD k cls0) = true := by
  unfold wayOk at h
  simp only [Bool.and_eq_true, decide_eq_true_eq, beq_iff_eq] at h
  unfold parOk
  cases hf : fnd cs (cs.getD k cls0).p with
  | some j => simp
  | none =>
    have e : up cs 9 k = [k] := by
      show k :: (match fnd cs (cs.getD k cls0).p with | .none => [] | .some j => up cs 8 j) = [k]
      rw [hf]
    rw [e] at h
    have := h.2
    simp [lastN] at this
    simp [this]

/-! All classes at once. -/
/-- something holds of all numbers from one on -/
def fromK (P : Nat → Bool) (n : Nat) (k : Nat) : Bool := (List.range' k (n - k)).all P
theorem fromK_at (P : Nat → Bool) (n k : Nat) (h : k < n) : fromK P n k = (P k && fromK P n (k + 1)) := by
  unfold fromK
  rw [show n - k = (n - (k + 1)) + 1 by omega, List.range'_succ, List.all_cons]
theorem fromK_end (P : Nat → Bool) (n k : Nat) (h : n ≤ k) : fromK P n k = true := by
  unfold fromK
  rw [show n - k = 0 by omega]; rfl
theorem fromK_iff (P : Nat → Bool) (n : Nat) : fromK P n 0 = true ↔ ∀ k, k < n → P k = true := by
  unfold fromK
  rw [List.all_eq_true]
  constructor
  · intro h k hk; exact h k (List.mem_range'_1.2 ⟨Nat.zero_le _, by omega⟩)
  · intro h k hk; exact h k (by have := List.mem_range'_1.1 hk; omega)
theorem and_iff {a b c d : Bool} (h : a = true → b = true → (c = true ↔ d = true)) : (a && (b && c)) = (a && (b && d)) := by
  cases a <;> cases b <;> cases c <;> cases d <;> simp_all
def limOk (cs : List Cls) (x : Cls) : Bool := if hasK cs x.i then x.l == 0 else inB x.l 1 60
/-- as the model asks of each class -/
def nodeOk (cs : List Cls) (k : Nat) : Bool := wayOk cs k && (decide (0 ≤ spare cs (cs.getD k cls0)) && limOk cs (cs.getD k cls0))
def treeG (cs : List Cls) : Bool := okL 0 cs && ((cT cs == 1) && fromK (nodeOk cs) cs.length 0)
/-- as the program asks -/
def arG (cs : List Cls) : Bool := (decide (1 ≤ cs.length) && decide (cs.length ≤ 24)) && okL 0 cs
def itG (cs : List Cls) : Bool := fromK (fun k => parOk cs (cs.getD k cls0)) cs.length 0 && ((cT cs == 1) && fromK (fun k => reach cs 7 (cs.getD k cls0)) cs.length 0)
def rfG (cs : List Cls) : Bool := fromK (fun k => decide (0 ≤ spare cs (cs.getD k cls0))) cs.length 0
def lfG (cs : List Cls) : Bool := fromK (fun k => limOk cs (cs.getD k cls0)) cs.length 0
theorem no_zero {cs : List Cls} (h : okL 0 cs = true) : fnd cs 0 = Option.none :=
  fnd_none cs 0 (fun j hj => by have := (okL_ids cs 0 h j hj).1; omega)
theorem tree_eq (cs : List Cls) (h : okL 0 cs = true) : treeG cs = (itG cs && (rfG cs && lfG cs)) := by
  have hz := no_zero h
  unfold treeG itG rfG lfG
  rw [h, Bool.true_and]
  apply Bool.eq_iff_iff.2
  simp only [Bool.and_eq_true, fromK_iff, nodeOk, decide_eq_true_eq]
  constructor
  · rintro ⟨ht, hn⟩
    have hp : ∀ k, k < cs.length → parOk cs (cs.getD k cls0) = true := fun k hk => way_par cs k (hn k hk).1
    refine ⟨⟨hp, ht, fun k hk => ?_⟩, fun k hk => (hn k hk).2.1, fun k hk => (hn k hk).2.2⟩
    have hw := (hn k hk).1
    unfold wayOk at hw
    simp only [Bool.and_eq_true, decide_eq_true_eq, beq_iff_eq] at hw
    exact (way_reach cs hz hp 7 k hk).1 hw
  · rintro ⟨⟨hp, ht, hr⟩, hs, hl⟩
    refine ⟨ht, fun k hk => ⟨?_, hs k hk, hl k hk⟩⟩
    unfold wayOk
    simp only [Bool.and_eq_true, decide_eq_true_eq, beq_iff_eq]
    exact (way_reach cs hz hp 7 k hk).2 (hr k hk)

/-! Filters. -/
def leafB (cs : List Cls) (id : Int) : Bool := (fnd cs id).isSome && !hasK cs id
/-- no bit outside a mask -/
def bitB (v m : Int) : Bool := decide (v.toNat &&& m.toNat = v.toNat)
def patOk (x : Flt) : Bool := inB x.f 0 3 && (inB x.m 0 65535 && (inB x.v 0 65535 && bitB x.v x.m))
def okF : Int → List Flt → Bool
  | _, [] => true
  | b, x :: r => (decide (b < x.o) && (decide (x.o ≤ 99) && patOk x)) && okF x.o r
theorem drop_flt (fs : List Flt) (k : Nat) (h : k < fs.length) (x : Flt) (hx : fs.getD k flt0 = x) : fs.drop k = x :: fs.drop (k + 1) := by
  rw [List.drop_eq_getElem_cons h]
  subst hx
  simp [List.getD_eq_getElem?_getD, h]
theorem okF_at (b : Int) (fs : List Flt) (k : Nat) (h : k < fs.length) (x : Flt) (hx : fs.getD k flt0 = x) :
    okF b (fs.drop k) = ((decide (b < x.o) && (decide (x.o ≤ 99) && patOk x)) && okF x.o (fs.drop (k + 1))) := by
  rw [drop_flt fs k h x hx, okF]
theorem okF_end (b : Int) (fs : List Flt) (k : Nat) (h : fs.length ≤ k) : okF b (fs.drop k) = true := by
  rw [List.drop_eq_nil_of_le h]; rfl
/-- as the model goes over the filters -/
def mdF (cs : List Cls) : Int → List Flt → Bool
  | _, [] => true
  | b, x :: r => ((decide (b < x.o) && (decide (x.o ≤ 99) && patOk x)) && leafB cs x.t) && mdF cs x.o r
theorem mdF_at (cs : List Cls) (b : Int) (fs : List Flt) (k : Nat) (h : k < fs.length) (x : Flt) (hx : fs.getD k flt0 = x) :
    mdF cs b (fs.drop k) = (((decide (b < x.o) && (decide (x.o ≤ 99) && patOk x)) && leafB cs x.t) && mdF cs x.o (fs.drop (k + 1))) := by
  rw [drop_flt fs k h x hx, mdF]
theorem mdF_end (cs : List Cls) (b : Int) (fs : List Flt) (k : Nat) (h : fs.length ≤ k) : mdF cs b (fs.drop k) = true := by
  rw [List.drop_eq_nil_of_le h]; rfl
def lvF (cs : List Cls) (fs : List Flt) : Bool := fs.all (fun x => leafB cs x.t)
theorem lvF_at (cs : List Cls) (fs : List Flt) (k : Nat) (h : k < fs.length) (x : Flt) (hx : fs.getD k flt0 = x) : lvF cs (fs.drop k) = (leafB cs x.t && lvF cs (fs.drop (k + 1))) := by
  rw [drop_flt fs k h x hx]; rfl
theorem lvF_end (cs : List Cls) (fs : List Flt) (k : Nat) (h : fs.length ≤ k) : lvF cs (fs.drop k) = true := by
  rw [List.drop_eq_nil_of_le h]; rfl
theorem mdF_eq (cs : List Cls) : ∀ (fs : List Flt) (b : Int), mdF cs b fs = (okF b fs && lvF cs fs)
  | [], _ => rfl
  | x :: r, b => by
    unfold mdF okF
    rw [mdF_eq cs r x.o]
    show _ = (_ && (leafB cs x.t && lvF cs r))
    cases (decide (b < x.o) && (decide (x.o ≤ 99) && patOk x)) <;> cases leafB cs x.t <;> cases okF x.o r <;> cases lvF cs r <;> rfl
def dfG (cs : List Cls) (d : Int) : Bool := (d == 0) || leafB cs d
def afG (fs : List Flt) : Bool := decide (fs.length ≤ 16) && okF 0 fs
def fltG (cs : List Cls) (fs : List Flt) : Bool := mdF cs 0 fs && decide (fs.length ≤ 16)
/-- a name -/
def nmG (s : ByteArray) : Bool := ((s.data.toList.all (fun c => letB (c.toNat : Int))) && (decide (1 ≤ s.size) && decide (s.size ≤ 8))) && !isKw s
/-- a configuration is valid -/
structure Cfg where
  (s : ByteArray)
  (cs : List Cls)
  (fs : List Flt)
  (d : Int)
def goodC (c : Cfg) : Bool := nmG c.s && ((decide (1 ≤ c.cs.length) && decide (c.cs.length ≤ 24)) && (treeG c.cs && (fltG c.cs c.fs && dfG c.cs c.d)))
theorem goodC_prog (c : Cfg) : goodC c = (nmG c.s && (arG c.cs && (itG c.cs && (rfG c.cs && (lfG c.cs && (afG c.fs && (lvF c.cs c.fs && dfG c.cs c.d))))))) := by
  unfold goodC arG
  cases hn : nmG c.s
  · rfl
  cases hl : (decide (1 ≤ c.cs.length) && decide (c.cs.length ≤ 24))
  · rfl
  cases ho : okL 0 c.cs
  · unfold treeG; rw [ho]; rfl
  rw [tree_eq c.cs ho]
  unfold fltG afG
  rw [mdF_eq]
  cases itG c.cs <;> cases rfG c.cs <;> cases lfG c.cs <;> cases okF 0 c.fs <;> cases lvF c.cs c.fs <;> cases decide (c.fs.length ≤ 16) <;> cases dfG c.cs c.d <;> rfl
structure Good (c : Cfg) : Prop where
  n1 : 1 ≤ c.cs.length
  n24 : c.cs.length ≤ 24
  ok : okL 0 c.cs = true
  top : cT c.cs = 1
  node : ∀ k, k < c.cs.length → nodeOk c.cs k = true
  fl : c.fs.length ≤ 16
theorem good_of {c : Cfg} (h : goodC c = true) : Good c := by
  unfold goodC treeG fltG at h
  simp only [Bool.and_eq_true, decide_eq_true_eq, fromK_iff, beq_iff_eq] at h
  obtain ⟨_, ⟨h1, h2⟩, ⟨h3, h4, h5⟩, ⟨_, h6⟩, _⟩ := h
  exact ⟨h1, h2, h3, h4, h5, h6⟩
end Go.Proofs.YtkpocljlmbihcaaGreatDoor

/- Slices of bytes: what reads as a list of bytes, what the call made itself, and the contracts of the copying, comparing, marking and asking functions of the laws. -/
namespace Go.Proofs.YtkpocljlmbihcaaGreatDoor
set_option maxRecDepth 100000
open Go.RowKit

theorem infoU8 : (Tryz.prog.info? 5).map (fun i => (i.zero, i.size, i.bytes)) = some (some (.int .u8 0), 1, 1) := by kernel_rfl

/-- the cells of a list of bytes -/
def bv (zs : List Int) : List Value := zs.map (Value.int .u8)
theorem bv_length (zs : List Int) : (bv zs).length = zs.length := by simp [bv]
theorem bv_get (zs : List Int) (i : Nat) (h : i < zs.length) : (bv zs)[i]? = some (.int .u8 (zs.getD i 0)) := by
  simp [bv, h]

/-- in world w, the bytes zs lie from cell off of block b on -/
def Row (w : World) (b off : Nat) (zs : List Int) : Prop :=
  (∀ i, i < zs.length → w.cell? ⟨b, off + i, none⟩ = some (.int .u8 (zs.getD i 0))) ∧ ∀ n ∈ zs, 0 ≤ n ∧ n ≤ 255

/-- a slice of n bytes of the call's own: block g, the bytes zs -/
def OwnB (w : World) (B g n cap : Nat) (zs : List Int) : Prop :=
  w.ownsRow B 5 1 (.slice (some ⟨g, 0, none⟩) n cap) n (bv zs)

theorem OwnB.len {w : World} {B g n cap : Nat} {zs : List Int} (h : OwnB w B g n cap zs) : zs.length = n := by
  have := h.1; rw [bv_length] at this; omega
theorem OwnB.lt {w : World} {B g n cap : Nat} {zs : List Int} (h : OwnB w B g n cap zs) : B ≤ g ∧ g < w.heap.size := World.ownsRow.lt h g rfl
theorem OwnB.row {w : World} {B g n cap : Nat} {zs : List Int} (h : OwnB w B g n cap zs) (hr : ∀ n ∈ zs, 0 ≤ n ∧ n ≤ 255) : Row w g 0 zs := by
  refine ⟨fun i hi => ?_, hr⟩
  have hl := h.len
  have := World.ownsRow.cellAt h i (by omega)
  rw [Nat.zero_add, this, bv_get _ _ hi]
theorem OwnB.below {w w' : World} {B B' g n cap : Nat} {zs : List Int} (h : OwnB w B g n cap zs) (hb : Below B' w w') (hg : g < B') : OwnB w' B g n cap zs := by
  obtain ⟨h1, h2⟩ := h
  refine ⟨h1, ?_⟩
  rcases h2 with h2 | ⟨g', cap', cur, a, b, c, d⟩
  · exact .inl h2
  · cases a
    exact .inr ⟨g, cap, cur, rfl, b, by rw [hb.block g hg]; exact c, d⟩
theorem OwnB.base {w : World} {B B' g n cap : Nat} {zs : List Int} (h : OwnB w B g n cap zs) (hB : B' ≤ B) : OwnB w B' g n cap zs := by
  obtain ⟨h1, h2⟩ := h
  refine ⟨h1, ?_⟩
  rcases h2 with h2 | ⟨g', cap', cur, a, b, c, d⟩
  · exact .inl h2
  · exact .inr ⟨g', cap', cur, a, Nat.le_trans hB b, c, d⟩
theorem Row.below {w w' : World} {b off B : Nat} {zs : List Int} (h : Row w b off zs) (hb : Below B w w') (hB : b < B) : Row w' b off zs :=
  ⟨fun i hi => (hb.cell (p := ⟨b, off + i, none⟩) hB).trans (h.1 i hi), h.2⟩
theorem Row.drewN {w : World} {b off : Nat} {zs : List Int} (h : Row w b off zs) (q : Nat) : Row (w.drewN q) b off zs := h
theorem Row.at {w : World} {b off : Nat} {zs : List Int} (h : Row w b off zs) (k : Nat) (hk : k < zs.length) :
    ∃ c, Hid (c = zs.getD k 0) ∧ 0 ≤ c ∧ c ≤ 255 ∧ w.cell? ⟨b, off + k, none⟩ = some (.int .u8 c) := by
  refine ⟨zs.getD k 0, rfl, ?_, ?_, h.1 k hk⟩
  · exact (h.2 _ (by rw [List.getD_eq_getElem?_getD, List.getElem?_eq_getElem hk]; exact List.getElem_mem hk)).1
  · exact (h.2 _ (by rw [List.getD_eq_getElem?_getD, List.getElem?_eq_getElem hk]; exact List.getElem_mem hk)).2

/-- what a slice that came in reads as: nothing, or a row of bytes -/
def In (w : World) (a : Option Addr) (zs : List Int) : Prop :=
  zs = [] ∨ ∃ b off, a = some ⟨b, off, none⟩ ∧ Row w b off zs

/-- a copy was made: a new block that holds the bytes -/
def Made (w : World) (n : Nat) (zs : List Int) (e : Ending) (w' : World) : Prop :=
  e = .returned (.slice (some ⟨w.heap.size, 0, none⟩) n n) ∧ OwnB w' w.heap.size w.heap.size n n zs ∧ Below w.heap.size w w'

def fillTo (zs : List Int) (k : Nat) : List Int := zs.take k ++ List.replicate (zs.length - k) 0
theorem fillTo_zero (zs : List Int) : fillTo zs 0 = List.replicate zs.length 0 := by simp [fillTo]
theorem fillTo_all (zs : List Int) : fillTo zs zs.length = zs := by simp [fillTo]
theorem fillTo_set (zs : List Int) (k : Nat) (h : k < zs.length) : (fillTo zs k).set k (zs.getD k 0) = fillTo zs (k + 1) := by
  obtain ⟨m, hm⟩ : ∃ m, zs.length - k = m + 1 := ⟨zs.length - k - 1, by omega⟩
  have e1 : (zs.take k).length = k := by simp; omega
  unfold fillTo
  rw [hm, List.set_append_right _ _ (by omega), e1, Nat.sub_self, List.replicate_succ, List.set_cons_zero, show zs.length - (k + 1) = m by omega, List.take_succ_eq_append_getElem h, List.append_assoc, List.getD_eq_getElem?_getD, List.getElem?_eq_getElem h]
  rfl
theorem bv_set (zs : List Int) (k : Nat) (c : Int) : (bv zs).set k (.int .u8 c) = bv (zs.set k c) := by simp [bv, List.map_set]
theorem fillTo_length (zs : List Int) (k : Nat) (h : k ≤ zs.length) : (fillTo zs k).length = zs.length := by simp [fillTo]; omega
theorem OwnB.store {w : World} {B g n cap : Nat} {zs : List Int} (h : OwnB w B g n cap zs) (k : Nat) (c : Int) : OwnB (w.setCell ⟨g, k, none⟩ (.int .u8 c)) B g n cap (zs.set k c) := by
  have := (World.ownsRow.stored h k (.int .u8 c)).1
  rw [bv_set] at this
  exact this
theorem OwnB.cell {w : World} {B g n cap : Nat} {zs : List Int} (h : OwnB w B g n cap zs) (k : Nat) (hk : k < n) : w.cell? ⟨g, k, none⟩ = some (.int .u8 (zs.getD k 0)) := by
  have hl := h.len
  rw [World.ownsRow.cellAt h k (by omega), bv_get _ _ (by omega)]

theorem madeB {w : World} {B g n : Nat} (h : w.ownsRow B 5 1 (.slice (some ⟨g, 0, none⟩) n n) n (madeCells (Value.int .u8 0).cells (n * 1)).toList) : OwnB w B g n n (List.replicate n 0) := by
  have e : (madeCells (Value.int .u8 0).cells (n * 1)).toList = bv (List.replicate n 0) := by
    rw [Nat.mul_one, bv, List.map_replicate]
    exact toList_madeCells_one _ n
  rw [e] at h
  exact h

/-- at each round's head of the copying loop -/
def CopyRel (w : World) (n : Nat) (zs : List Int) (i : Value) (wr : World) : Prop :=
  ∃ k : Nat, k ≤ n ∧ i = .int .i64 k ∧ OwnB wr w.heap.size w.heap.size n n (fillTo zs k) ∧ Below w.heap.size w wr

/-- the world with some draws more -/
def Drawn (w w' : World) : Prop := ∃ q, w' = w.drewN q
theorem Drawn.below {w w' : World} (h : Drawn w w') (B : Nat) : Below B w w' := by obtain ⟨q, rfl⟩ := h; exact below_drewN (Below.refl _ _) q
def EqRel (w : World) (n : Nat) (i : Value) (wr : World) : Prop := ∃ k q : Nat, k ≤ n ∧ i = .int .i64 k ∧ wr = w.drewN q
def SaysDrawn (w : World) (b : Bool) (e : Ending) (w' : World) : Prop := e = .returned (.bool b) ∧ Drawn w w'

theorem laidOut : laidOutB Tryz.prog = true := by kernel_rfl
theorem own : ownKnob Tryz.prog.godebug = none := by kernel_rfl

/-- WHAT THE WALK IS TOLD OF A SLICE OF INTEGERS THAT CAME IN: it is nil; or it leads to a row of 'cap' cells, the numbers 'zs' (the first 'len' are its elements, the rest its spare room), each fitting its kind. -/
def IsRow (k : IntKind) (w : World) (a : Option Addr) (len cap : Nat) (zs : List Int) : Prop :=
  (a = none ∧ len = 0 ∧ cap = 0 ∧ zs = []) ∨
  ∃ x, a = some x ∧ len ≤ cap ∧ cap ≤ maxLen ∧ zs.length = cap ∧ (∀ i, i < zs.length → w.cell? (x.add i) = some (.int k (zs.getD i 0))) ∧ ∀ n ∈ zs, (Lit.int k n).wf = true
theorem wf_u8 {n : Int} (h : (Lit.int .u8 n).wf = true) : 0 ≤ n ∧ n ≤ 255 := by
  have h' : (decide (IntKind.u8.min ≤ n) && decide (n ≤ IntKind.u8.max)) = true := h
  have e1 : IntKind.u8.min = 0 := by decide
  have e2 : IntKind.u8.max = 255 := by decide
  rw [e1, e2] at h'
  simp at h'
  exact h'
theorem IsRow.view {w : World} {a : Option Addr} {len cap : Nat} {zs : List Int} (h : IsRow .u8 w a len cap zs) : len ≤ maxLen ∧ ∃ ys, Hid (ys.length = len) ∧ Hid (In w a ys) := by
  rcases h with ⟨rfl, rfl, rfl, rfl⟩ | ⟨x, rfl, hl, hm, hz, hcell, hwf⟩
  · exact ⟨Nat.zero_le _, [], rfl, .inl rfl⟩
  · refine ⟨Nat.le_trans hl hm, zs.take len, by unfold Hid; simp; omega, ?_⟩
    rcases Nat.eq_zero_or_pos len with rfl | hp
    · exact .inl (by simp)
    · obtain ⟨b, off, spot⟩ := x
      have hspot : spot = none := by simpa [Addr.add] using World.cell?_spot (hcell 0 (by omega))
      subst hspot
      refine .inr ⟨b, off, rfl, fun i hi => ?_, fun n hn => wf_u8 (hwf n (List.mem_of_mem_take hn))⟩
      simp at hi
      have := hcell i (by omega)
      rw [show (⟨b, off, none⟩ : Addr).add i = ⟨b, off + i, none⟩ by unfold Addr.add; split <;> simp_all] at this
      rw [this]
      simp [List.getD_eq_getElem?_getD]
      rw [List.getElem?_take, if_pos (by omega)]
theorem In.below {w w' : World} {a : Option Addr} {zs : List Int} (h : In w a zs) (hb : Below w.heap.size w w') : In w' a zs := by
  by_cases e : zs = []
  · exact .inl e
  · rcases h with h | ⟨b, off, rfl, hr⟩
    · exact absurd h e
    · have hp : 0 < zs.length := List.length_pos_iff.2 e
      exact .inr ⟨b, off, rfl, hr.below hb (World.block_lt_of_cell? w _ (hr.1 0 hp))⟩
theorem In.range {w : World} {a : Option Addr} {zs : List Int} (h : In w a zs) : ∀ n ∈ zs, 0 ≤ n ∧ n ≤ 255 := by
  rcases h with rfl | ⟨b, off, rfl, hr⟩
  · intro n hn; cases hn
  · exact hr.2
end Go.Proofs.YtkpocljlmbihcaaGreatDoor
