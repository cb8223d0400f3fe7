import Derived.Test.YthgbhnedfdnfpaaGreatDoorPka
import Derived.Test.YthgbhnedfdnfpaaGreatDoorPkb
import Derived.Laws.RangeAny
import Derived.Laws.Runes
import Derived.LoopTactic
import Derived.WalkMore
import Derived.Deep.RegionWith
import Derived.Laws.Rows
import Derived.OpenVars
import Derived.Lib.LaidTab
import Derived.LaidMore
import Derived.OpenShut
import Derived.Test.YthgbhnedfdnfpaaGreatDoorRows
import Derived.WalkKit
/- Space skipped: contracts of spaceSize and SkipSpace, program and model. -/
namespace Go.Proofs.YthgbhnedfdnfpaaGreatDoor
set_option maxRecDepth 100000
open Go.RowKit
set_option linter.unusedVariables false

theorem byte_at (s : ByteArray) (k : Nat) (h : k < s.size) (m : Int) (hm : m = k) (w : World) : (Instr.index 9 (.string s) (.int .i64 m)).run Tryz.prog w = .ok (.int .u8 (s[k]'h).toNat) w := by
  subst hm
  rw [run_index_string w 9 s .i64 (k : Int) Tryz.underlying9, dif_pos (by omega)]
  rfl
theorem below_iter (w : World) (s : ByteArray) (k : Nat) : Below w.heap.size w (w.iter s k) := (Below.refl _ _).alloc (Nat.le_refl _) _
end Go.Proofs.YthgbhnedfdnfpaaGreatDoor

/- Key words, letters, words: contracts of IsKey and of the small functions, program and model. -/
namespace Go.Proofs.YthgbhnedfdnfpaaGreatDoor
set_option maxRecDepth 100000
open Go.RowKit
set_option linter.unusedVariables false

theorem oneOf_at (s : ByteArray) (l : List ByteArray) (k : Nat) (h : k < l.length) : oneOf s (l.drop k) = (((l.getD k ⟨#[]⟩).toList == s.toList) || oneOf s (l.drop (k + 1))) := by
  rw [List.drop_eq_getElem_cons h, oneOf]
  simp [List.getD_eq_getElem?_getD, h]
theorem oneOf_end (s : ByteArray) (l : List ByteArray) (k : Nat) (h : l.length ≤ k) : oneOf s (l.drop k) = false := by
  rw [List.drop_eq_nil_of_le h]; rfl
def TextsAt (w : World) (g : Nat) (l : List ByteArray) : Prop := ∀ k, k < l.length → w.cell? ⟨g, k, none⟩ = some (.string (l.getD k ⟨#[]⟩))
theorem TextsAt.below {w w' : World} {g B : Nat} {l : List ByteArray} (h : TextsAt w g l) (hb : Below B w w') (hg : g < B) : TextsAt w' g l := fun k hk => (hb.cell (p := ⟨g, k, none⟩) hg).trans (h k hk)
theorem texts_new (w : World) (l : List ByteArray) (cs : Array Value) (hc : cs.toList = l.map Value.string) (ty : TypeId) : TextsAt (w.alloc (.cells cs ty)) w.heap.size l := by
  intro k hk
  rw [World.cell?_alloc_at _ _ _ _ rfl]
  have e : cs[k]? = (l.map Value.string)[k]? := by rw [← hc]; simp
  rw [e]
  simp [hk]
def HasRel (s : ByteArray) (l : List ByteArray) (b : Bool) (v : Value) : Prop := ∃ k : Nat, k ≤ l.length ∧ v = .int .i64 k ∧ Hid (oneOf s (l.drop k) = b)
set_option maxHeartbeats 800000 in
theorem l1HasS_any (g n c : Nat) (l : List ByteArray) (s : ByteArray) (w : World) (HT : Hid (TextsAt w g l)) (hn : Hid (n = l.length)) (hm : n ≤ 1048576) :
    Calls Tryz.prog 108 #[.slice (some ⟨g, 0, none⟩) n c, .string s] w fun e w' => e = .returned (.bool (oneOf s l)) ∧ w = w' := by
  obtain ⟨b, hb⟩ : ∃ b, oneOf s l = b := ⟨_, rfl⟩
  have H0 : Hid (oneOf s (l.drop 0) = b) := Lib.hid (by rw [← hb]; rfl)
  rw [hb]
  clear hb
  go_enter Tryz.func108, Tryz.ntmps108
  go_wp2_with fail
  go_loop [9] (fun v => HasRel s l b v) (fun v => n - (intOf v).toNat)
  case atStart => exact ⟨0, Nat.zero_le _, rfl, H0⟩
  case round =>
    obtain ⟨k, hk, rfl, HP⟩ := hrel
    by_cases hlt : k < n
    · have hc := HT.out k (by rw [← hn.out]; exact hlt)
      have HE := Lib.hid (oneOf_at s l k (by rw [← hn.out]; exact hlt))
      obtain ⟨x, hx⟩ : ∃ x, l.getD k ⟨#[]⟩ = x := ⟨_, rfl⟩
      rw [hx] at hc HE
      clear hx
      rcases Bool.eq_false_or_eq_true (x.toList == s.toList) with he | he
      · have HX : Hid (b = true) := Lib.hid (by rw [← HP.out, HE.out, he]; rfl)
        go_wp2_with fail
        go_ret
        exact ⟨ret_bool HX.out.symm, rfl⟩
      · have HX : Hid (oneOf s (l.drop (k + 1)) = b) := Lib.hid (by rw [← HP.out, HE.out, he]; rfl)
        have hk2 : k + 1 ≤ l.length := by rw [← hn.out]; exact hlt
        go_wp2_with fail
        go_round
        case rel => exact ⟨k + 1, hk2, by go_num, HX⟩
        case measure => simp [intOf]; omega
    · have HX : Hid (b = false) := Lib.hid (by rw [← HP.out, oneOf_end s l k (by rw [← hn.out]; omega)])
      go_wp2_with fail
      go_ret
      exact ⟨ret_bool HX.out.symm, rfl⟩
def SaysB (w : World) (b : Bool) (e : Ending) (w' : World) : Prop := e = .returned (.bool b) ∧ Below w.heap.size w w'
theorem tkKeys_any (w : World) :
    Calls Tryz.prog 109 #[] w fun e w' => e = .returned (.slice (some ⟨w.heap.size, 0, none⟩) 14 14) ∧ TextsAt w' w.heap.size kwA ∧ Below w.heap.size w w' := by
  go_enter Tryz.func109, Tryz.ntmps109
  go_wp2
  go_ret
  exact ⟨rfl, texts_new _ kwA _ rfl _, (Below.refl _ _).alloc (Nat.le_refl _) _⟩
theorem specIsKey_any (s : ByteArray) (w : World) : Calls Tryz.prog 80 #[.string s] w (SaysB w (isKw s)) := by
  have HL := Lib.hid (fun (g : Nat) (w : World) HT => l1HasS_any g 14 14 kwA s w HT (Lib.hid rfl) (by omega))
  obtain ⟨b, hb⟩ : ∃ b, isKw s = b := ⟨_, rfl⟩
  rw [show oneOf s kwA = isKw s from rfl, hb] at HL
  rw [hb]
  clear hb
  go_enter Tryz.func80, Tryz.ntmps80
  go_wp2_with (first | (go_at_call 109; refine (tkKeys_any _).mono ?_; rintro e w1 ⟨rfl, ht, b1⟩; have HT := Lib.hid ht; have B1 := Lib.hid b1; clear ht b1) | (go_at_call 108; refine (HL.out _ _ HT).mono ?_; rintro e w' ⟨rfl, rfl⟩))
  go_ret
  exact ⟨rfl, B1.out⟩
def Kwt (w : World) : Prop := ∃ (t : TypeId) (fr : Nat × Nat), w.heap[2]? = some (.cells (kwA.map Value.string).toArray t fr)
theorem Kwt.below {w w' : World} (h : Kwt w) (hb : Below w.heap.size w w') : Kwt w' := by
  obtain ⟨t, fr, h⟩ := h
  refine ⟨t, fr, ?_⟩
  have hlt : 2 < w.heap.size := by
    rcases Nat.lt_or_ge 2 w.heap.size with q | q
    · exact q
    · rw [Array.getElem?_eq_none q] at h; cases h
  rw [hb.block _ hlt]; exact h
theorem kw_at (k : Nat) (h : k < 14) (w : World) : (Instr.index 124 (.agg (kwA.map Value.string).toArray) (.int .i64 (k : Int))).run Tryz.prog w = .ok (.string (kwA.getD k ⟨#[]⟩)) w := by
  rcases (show k = 0 ∨ k = 1 ∨ k = 2 ∨ k = 3 ∨ k = 4 ∨ k = 5 ∨ k = 6 ∨ k = 7 ∨ k = 8 ∨ k = 9 ∨ k = 10 ∨ k = 11 ∨ k = 12 ∨ k = 13 by omega) with rfl | rfl | rfl | rfl | rfl | rfl | rfl | rfl | rfl | rfl | rfl | rfl | rfl | rfl <;> kernel_rfl
theorem kw_len : kwA.length = 14 := rfl
set_option maxHeartbeats 800000 in
theorem implIsKey_any (s : ByteArray) (w : World) (hK : Hid (Kwt w)) :
    Calls Tryz.prog 85 #[.string s] w fun e w' => e = .returned (.bool (isKw s)) ∧ w = w' := by
  obtain ⟨b, hb⟩ : ∃ b, isKw s = b := ⟨_, rfl⟩
  have H0 : Hid (oneOf s (kwA.drop 0) = b) := Lib.hid (by rw [← hb]; rfl)
  rw [hb]
  clear hb
  obtain ⟨t, fr, hg⟩ := hK.out
  have HG := Lib.hid hg
  obtain ⟨arr, harr⟩ : ∃ arr, (kwA.map Value.string).toArray = arr := ⟨_, rfl⟩
  have HA := Lib.hid kw_at
  have hsz : Hid (14 = arr.size) := Lib.hid (by rw [← harr]; rfl)
  rw [harr] at HG HA
  clear harr hg
  go_enter Tryz.func85, Tryz.ntmps85
  go_wp2_with (refine wpList_load_row rfl 124 _ rfl 2 rfl t arr fr _ HG.out Tryz.underlying124 rfl (by rw [← hsz.out]; kernel_rfl) ?_)
  go_loop [6] (fun v => HasRel s kwA b v) (fun v => 14 - (intOf v).toNat)
  case atStart => exact ⟨0, Nat.zero_le _, rfl, H0⟩
  case round =>
    obtain ⟨k, hk, rfl, HP⟩ := hrel
    rw [kw_len] at hk
    by_cases hlt : k < 14
    · have hix := HA.out k hlt
      have HE := Lib.hid (oneOf_at s kwA k hlt)
      obtain ⟨x, hx⟩ : ∃ x, kwA.getD k ⟨#[]⟩ = x := ⟨_, rfl⟩
      rw [hx] at hix HE
      clear hx
      rcases Bool.eq_false_or_eq_true (x.toList == s.toList) with he | he
      · have HX : Hid (b = true) := Lib.hid (by rw [← HP.out, HE.out, he]; rfl)
        go_wp2_with fail
        go_ret
        exact ⟨ret_bool HX.out.symm, rfl⟩
      · have HX : Hid (oneOf s (kwA.drop (k + 1)) = b) := Lib.hid (by rw [← HP.out, HE.out, he]; rfl)
        have hk2 : k + 1 ≤ kwA.length := hlt
        go_wp2_with fail
        go_round
        case rel => exact ⟨k + 1, hk2, by go_num, HX⟩
        case measure => simp [intOf]; omega
    · have HX : Hid (b = false) := Lib.hid (by rw [← HP.out, oneOf_end s kwA k (by rw [kw_len]; omega)])
      go_wp2_with fail
      go_ret
      exact ⟨ret_bool HX.out.symm, rfl⟩
theorem let_cases (c : Int) : (97 ≤ c ∧ c ≤ 122 ∧ letB c = true) ∨ (c < 97 ∧ letB c = false) ∨ (97 ≤ c ∧ 122 < c ∧ letB c = false) := by
  unfold letB
  rcases Int.lt_or_le c 97 with h | h
  · exact .inr (.inl ⟨h, by simp; omega⟩)
  · rcases Int.lt_or_le 122 c with h2 | h2
    · exact .inr (.inr ⟨h, h2, by simp; omega⟩)
    · exact .inl ⟨h, h2, by simp; omega⟩
theorem isLetter_any (c : Int) (w : World) : Calls Tryz.prog 110 #[.int .i32 c] w fun e w' => e = .returned (.bool (letB c)) ∧ w = w' := by
  rcases let_cases c with ⟨a, b, e⟩ | ⟨a, e⟩ | ⟨a, b, e⟩
  · rw [e]
    have d1 := is_le a
    have d2 := is_le b
    clear e
    go_enter Tryz.func110, Tryz.ntmps110
    go_wp2
    go_ret
    exact ⟨rfl, rfl⟩
  · rw [e]
    have d1 := not_le a
    clear e
    go_enter Tryz.func110, Tryz.ntmps110
    go_wp2
    go_ret
    exact ⟨rfl, rfl⟩
  · rw [e]
    have d1 := is_le a
    have d2 := not_le b
    clear e
    go_enter Tryz.func110, Tryz.ntmps110
    go_wp2
    go_ret
    exact ⟨rfl, rfl⟩
def alB (l : List UInt8) : Bool := l.all (fun c => letB (c.toNat : Int))
theorem al_more (s : ByteArray) (k : Nat) (h : k < s.size) (hp : letB ((s[k]'h).toNat : Int) = true) : alB (s.data.toList.drop k) = alB (s.data.toList.drop (k + 1)) := by
  rw [drop_at s k h]; unfold alB; rw [List.all_cons, hp]; rfl
theorem al_stop (s : ByteArray) (k : Nat) (h : k < s.size) (hp : letB ((s[k]'h).toNat : Int) = false) : alB (s.data.toList.drop k) = false := by
  rw [drop_at s k h]; unfold alB; rw [List.all_cons, hp]; rfl
theorem al_end (s : ByteArray) (k : Nat) (h : s.size ≤ k) : alB (s.data.toList.drop k) = true := by
  rw [List.drop_eq_nil_of_le (by simpa using h)]; rfl
theorem wd_al (s : ByteArray) : wdB s.data.toList = (alB s.data.toList && decide (s.size ≤ 12)) := by unfold wdB alB; rw [size_list]
def AlRelW (w : World) (s : ByteArray) (b : Bool) (wr : World) : Prop := ∃ k : Nat, k ≤ s.size ∧ wr = w.iter s k ∧ Hid (alB (s.data.toList.drop k) = b)
def AlRel (s : ByteArray) (b : Bool) (v : Value) : Prop := ∃ k : Nat, k ≤ s.size ∧ v = .int .i64 k ∧ Hid (alB (s.data.toList.drop k) = b)
theorem and_false' {a b : Bool} (h : a = false) : (a && b) = false := by rw [h]; rfl
theorem and_true' {a b : Bool} (h : a = true) : (a && b) = b := by rw [h]; rfl
set_option maxHeartbeats 1600000 in
theorem isWord_any (s : ByteArray) (w : World) (hs : s.size ≤ 1048576) :
    Calls Tryz.prog 84 #[.string s] w (SaysB w (wdB s.data.toList)) := by
  rw [wd_al]
  obtain ⟨b, hb⟩ : ∃ b, alB s.data.toList = b := ⟨_, rfl⟩
  have H0 : Hid (alB (s.data.toList.drop 0) = b) := Lib.hid (by rw [← hb]; rfl)
  rw [hb]
  clear hb
  have d12 : decide ((s.size : Int) ≤ 12) = decide (s.size ≤ 12) := by rw [decide_eq_decide]; omega
  have D12 := Lib.hid d12
  clear d12
  go_enter Tryz.func84, Tryz.ntmps84
  go_wp2_with fail
  go_loopw [] (fun wr => AlRelW w s b wr) (fun wr => s.size - wr.iterPos w.heap.size)
  case atStart => exact ⟨0, Nat.zero_le _, rfl, H0⟩
  case round =>
    obtain ⟨k, hk, hw, HP⟩ := hrel
    subst hw
    by_cases hlt : k < s.size
    · obtain ⟨y, hy⟩ : ∃ y : Nat, (s[k]'hlt).toNat = y := ⟨_, rfl⟩
      have HY := Lib.hid hy
      rcases Nat.lt_or_ge y 128 with ha | ha
      · have hnx := fun ty => run_next_ascii (P := Tryz.prog) w s k ty hlt (by rw [hy]; exact ha)
        rw [hy] at hnx
        clear hy
        have HL := Lib.hid (fun w => isLetter_any (y : Int) w)
        rcases Bool.eq_false_or_eq_true (letB (y : Int)) with hl | hl
        · have HX : Hid (alB (s.data.toList.drop (k + 1)) = b) := Lib.hid ((al_more s k hlt (by rw [HY.out]; exact hl)).symm.trans HP.out)
          rw [hl] at HL
          clear hl
          go_wp2_with (go_at_call 110; refine (HL.out _).mono ?_; rintro e w' ⟨rfl, rfl⟩)
          go_roundw
          case rel => exact ⟨k + 1, by omega, rfl, HX⟩
          case measure => simp; omega
        · have HX : Hid (b = false) := Lib.hid (HP.out.symm.trans (al_stop s k hlt (by rw [HY.out]; exact hl)))
          rw [hl] at HL
          clear hl
          go_wp2_with (go_at_call 110; refine (HL.out _).mono ?_; rintro e w' ⟨rfl, rfl⟩)
          go_ret
          exact ⟨ret_bool (and_false' HX.out).symm, below_iter _ _ _⟩
      · obtain ⟨r0, h0⟩ : ∃ r0 : Nat, (Utf8.decode s k).1 = r0 := ⟨_, rfl⟩
        obtain ⟨wd, h1⟩ : ∃ wd : Nat, (Utf8.decode s k).2 = wd := ⟨_, rfl⟩
        have hnx := fun ty => run_next_any (P := Tryz.prog) w s k ty hlt
        have hh := (decode_high s k hlt (by rw [hy]; exact ha)).1
        rw [h0] at hh
        rw [h0, h1] at hnx
        have HL := Lib.hid (fun w => isLetter_any (r0 : Int) w)
        have hl : letB (r0 : Int) = false := by unfold letB; simp; omega
        have hl2 : letB (y : Int) = false := by unfold letB; simp; omega
        have HX : Hid (b = false) := Lib.hid (HP.out.symm.trans (al_stop s k hlt (by rw [hy]; exact hl2)))
        rw [hl] at HL
        clear hl hl2 hy h0 h1 hh
        go_wp2_with (go_at_call 110; refine (HL.out _).mono ?_; rintro e w' ⟨rfl, rfl⟩)
        go_ret
        exact ⟨ret_bool (and_false' HX.out).symm, below_iter _ _ _⟩
    · have hnx := fun ty => run_next_end (P := Tryz.prog) w s k ty hlt
      have HX : Hid (b = true) := Lib.hid (HP.out.symm.trans (al_end s k (by omega)))
      go_wp2_with fail
      go_ret
      exact ⟨ret_bool (by rw [and_true' HX.out]; exact D12.out), below_iter _ _ _⟩
theorem bcell {W w1 : World} (hb : Below W.heap.size W w1) : (∀ b o, b < W.heap.size → w1.cell? ⟨b, o, none⟩ = W.cell? ⟨b, o, none⟩) ∧ (∀ b o, b < W.heap.size → w1.frozen? ⟨b, o, none⟩ = W.frozen? ⟨b, o, none⟩) :=
  ⟨fun b o h => hb.cell (p := ⟨b, o, none⟩) h, fun b o h => hb.frozen (p := ⟨b, o, none⟩) h⟩
def SaysV (w : World) (v : Value) (e : Ending) (w' : World) : Prop := e = .returned v ∧ Below w.heap.size w w'
theorem one_new2 (w : World) (o : Obj) : Below w.heap.size w (w.alloc o) := (Below.refl _ _).alloc (Nat.le_refl _) _
theorem two_new (w : World) (o o' : Obj) : Below w.heap.size w ((w.alloc o).alloc o') := ((Below.refl _ _).alloc (Nat.le_refl _) _).alloc (by simp) _
theorem two_size {w w1 : World} {o o' : Obj} (b : Below ((w.alloc o).alloc o').heap.size ((w.alloc o).alloc o') w1) : w.heap.size + 1 < w1.heap.size := by have := b.size; simp at this; omega
theorem two_below {w w1 : World} {o o' : Obj} (b : Below ((w.alloc o).alloc o').heap.size ((w.alloc o).alloc o') w1) : Below w.heap.size w w1 := (two_new w o o').trans (b.mono (by simp; omega))
def FourIs (w : World) (g : Nat) (a0 a1 a2 a3 : Value) : Prop := w.cell? ⟨g, 0, none⟩ = some a0 ∧ w.cell? ⟨g, 1, none⟩ = some a1 ∧ w.cell? ⟨g, 2, none⟩ = some a2 ∧ w.cell? ⟨g, 3, none⟩ = some a3 ∧ g < w.heap.size
theorem FourIs.on {w w1 : World} {g : Nat} {a0 a1 a2 a3 : Value} (h : FourIs w g a0 a1 a2 a3) (b : Below w.heap.size w w1) : FourIs w1 g a0 a1 a2 a3 := by
  obtain ⟨h0, h1, h2, h3, hg⟩ := h
  have hc := (bcell b).1
  exact ⟨(hc _ _ hg).trans h0, (hc _ _ hg).trans h1, (hc _ _ hg).trans h2, (hc _ _ hg).trans h3, Nat.lt_of_lt_of_le hg b.size⟩
theorem box_four {w w1 : World} {a0 a1 a2 a3 : Value} {t : TypeId} (b : Below (w.alloc (.cells #[a0, a1, a2, a3] t)).heap.size (w.alloc (.cells #[a0, a1, a2, a3] t)) w1) : FourIs w1 w.heap.size a0 a1 a2 a3 ∧ Below w.heap.size w w1 := by
  have h : FourIs (w.alloc (.cells #[a0, a1, a2, a3] t)) w.heap.size a0 a1 a2 a3 := by
    refine ⟨?_, ?_, ?_, ?_, ?_⟩ <;> simp [go_sem]
  exact ⟨h.on b, (one_new2 w _).trans (b.mono (by simp))⟩
def SaysI (w : World) (n : Int) (e : Ending) (w' : World) : Prop := e = .returned (.int .i64 n) ∧ Below w.heap.size w w'
def Four (w1 : World) (b : Nat) : Prop := (w1.cell? ⟨b, 0, none⟩).isSome = true ∧ (w1.cell? ⟨b, 1, none⟩).isSome = true ∧ (w1.cell? ⟨b, 2, none⟩).isSome = true ∧ (w1.cell? ⟨b, 3, none⟩).isSome = true
theorem read4 {w1 : World} {b : Nat} (h : Four w1 b) (v0 v1 v2 v3 : Value) (W : World) (hW : W = (((w1.setCell ⟨b, 0, none⟩ v0).setCell ⟨b, 1, none⟩ v1).setCell ⟨b, 2, none⟩ v2).setCell ⟨b, 3, none⟩ v3) :
    W.cell? ⟨b, 0, none⟩ = some v0 ∧ W.cell? ⟨b, 1, none⟩ = some v1 ∧ W.cell? ⟨b, 2, none⟩ = some v2 ∧ W.cell? ⟨b, 3, none⟩ = some v3 := by
  obtain ⟨h0, h1, h2, h3⟩ := h
  subst hW
  refine ⟨?_, ?_, ?_, ?_⟩ <;> simp [go_sem, World.cell?_setCell_other, World.cell?_setCell_same', h0, h1, h2, h3]
theorem set4 {n : Nat} {w w1 : World} (h : Below n w w1) (b : Nat) (hb : n ≤ b) (v0 v1 v2 v3 : Value) : Below n w ((((w1.setCell ⟨b, 0, none⟩ v0).setCell ⟨b, 1, none⟩ v1).setCell ⟨b, 2, none⟩ v2).setCell ⟨b, 3, none⟩ v3) :=
  (((h.setCell hb _).setCell hb _).setCell hb _).setCell hb _
theorem set2 {n : Nat} {w w1 : World} (h : Below n w w1) (b : Nat) (hb : n ≤ b) (v0 v1 : Value) : Below n w ((w1.setCell ⟨b, 0, none⟩ v0).setCell ⟨b, 1, none⟩ v1) :=
  (h.setCell hb _).setCell hb _
end Go.Proofs.YthgbhnedfdnfpaaGreatDoor

/- The table of key words: the fact out of a row's condition; a world for the witness with the table in its place. -/
namespace Go.Proofs.YthgbhnedfdnfpaaGreatDoor
set_option maxRecDepth 100000
open Go.RowKit

theorem cells_of_texts {H : Type} {enc : TypeId × Value → H} {P : Program} {w : World} {base : Nat} {sp : Nat → Bool} {held : Bool} {fuel : Nat} {t e : TypeId} {n : Nat} {cs : List Value} {zs : List (List UInt8)} {p : List MemPlace}
    (ht : P.underlying t = some (.array n e)) (he : P.underlying e = some .string) (hce : P.cellsOf e = 1) (hct : P.cellsOf t = n)
    (h : DataW.trod enc P w base sp held fuel t cs = some (.agg (zs.map fun z => .lit (.string z)), p)) : cs = zs.map fun z => Value.string ⟨z.toArray⟩ := by
  cases fuel with
  | zero => simp [DataW.trod] at h
  | succ fuel =>
    simp only [DataW.trod, ht, hce, hct, Nat.mul_one] at h
    split at h
    · rename_i hl
      obtain ⟨xs, hm, hx⟩ := Option.map_eq_some_iff.1 h
      have hxs : xs.map (·.1) = zs.map fun z => (DataW.lit (.string z) : DataW H) := by
        have := congrArg Prod.fst hx
        simpa using this
      have hxl : xs.length = n := by simpa using Lib.mapM_length hm
      have hzl : zs.length = n := by
        have := congrArg List.length hxs
        simp at this
        omega
      apply List.ext_getElem?
      intro i
      by_cases hi : i < n
      · obtain ⟨b, hb, hf⟩ := Lib.mapM_at hm i i (by simp [hi])
        obtain ⟨z, hc, rfl, _⟩ := DataW.trod_string he hf
        have h1 : cs[i]? = some (.string z) := by
          have := congrArg (·[0]?) hc
          simpa [List.getElem?_take, List.getElem?_drop] using this
        have h2 : (xs.map (·.1))[i]? = some (DataW.lit (.string z.data.toList) : DataW H) := by simp [hb]
        rw [hxs] at h2
        simp only [List.getElem?_map, Option.map_eq_some_iff, DataW.lit.injEq, Lit.string.injEq] at h2
        obtain ⟨z', hz', hz2⟩ := h2
        rw [h1, List.getElem?_map, hz', Option.map_some, hz2]
      · rw [List.getElem?_eq_none (by omega), List.getElem?_eq_none (by simp; omega)]
    · cases h
theorem block_of_var {P : Program} {w : World} {n : String} {g : Nat} {cs : Array Value} (hg : P.globalNamed n = some g) (h : w.var? P n = some cs) : ∃ (t : TypeId) (fr : Nat × Nat), w.heap[g]? = some (.cells cs t fr) := by
  simp only [World.var?, hg, Option.bind_some] at h
  split at h
  · rename_i c t fr hb
    simp only [Option.some.injEq] at h
    subst h
    exact ⟨t, fr, hb⟩
  · cases h
theorem gKwt : Tryz.prog.globalNamed "loop.example/g00838/impl.keyWords" = some 2 := by kernel_rfl
theorem tKwt : (Tryz.prog.globals[2]?).map (·.type) = some 124 := by kernel_rfl
theorem kwt_of_head {W : World} {r : List (String × DataW Unit)} (h : laidMet Tryz.prog (("loop.example/g00838/impl.keyWords", Rows.laid_loop_example_g00838_impl_keyWords) :: r) W) : Kwt W := by
  obtain ⟨ps, ⟨g', t', cs, fuel, p, q, hg', ht', hvar, hd, _, _⟩, _⟩ := h
  obtain rfl := Option.some.inj (gKwt.symm.trans hg')
  obtain rfl := Option.some.inj (tKwt.symm.trans ht')
  have hcs := cells_of_texts (zs := kwA.map fun s => s.data.toList) Tryz.underlying124 Tryz.underlying9 (by kernel_rfl) (by kernel_rfl) (show DataW.trod _ Tryz.prog W _ _ _ fuel 124 cs.toList = some (.agg ((kwA.map fun s => s.data.toList).map fun z => .lit (.string z)), p) from hd)
  obtain ⟨t, fr, hb⟩ := block_of_var gKwt hvar
  refine ⟨t, fr, ?_⟩
  rw [hb, show cs = (kwA.map Value.string).toArray from Array.toList_inj.1 (by rw [hcs]; rfl)]
end Go.Proofs.YthgbhnedfdnfpaaGreatDoor

/- A world for the witnesses of the laws: the tables that the rows list, in their places. -/
namespace Go.Proofs.YthgbhnedfdnfpaaGreatDoor
set_option maxRecDepth 100000
open Go.RowKit

def setTab (h : Array Obj) (g : Nat) (a : Array Value) : Array Obj := h.modify g fun
  | .cells _ t frozen => .cells a t frozen
  | o => o
noncomputable def laidG (os : Os) : World := { World.holding Tryz.prog os ⟨#[], #[], []⟩ with heap := setTab (setTab (setTab (setTab (setTab (setTab (setTab ((World.holding Tryz.prog os ⟨#[], #[], []⟩).heap) 6 #[.int .u8 0, .int .u8 1, .int .u8 28, .int .u8 2, .int .u8 29, .int .u8 14, .int .u8 24, .int .u8 3, .int .u8 30, .int .u8 22, .int .u8 20, .int .u8 15, .int .u8 25, .int .u8 17, .int .u8 4, .int .u8 8, .int .u8 31, .int .u8 27, .int .u8 13, .int .u8 23, .int .u8 21, .int .u8 19, .int .u8 16, .int .u8 7, .int .u8 26, .int .u8 12, .int .u8 18, .int .u8 6, .int .u8 11, .int .u8 5, .int .u8 10, .int .u8 9]) 7 #[.int .u8 0, .int .u8 1, .int .u8 56, .int .u8 2, .int .u8 57, .int .u8 49, .int .u8 28, .int .u8 3, .int .u8 61, .int .u8 58, .int .u8 42, .int .u8 50, .int .u8 38, .int .u8 29, .int .u8 17, .int .u8 4, .int .u8 62, .int .u8 47, .int .u8 59, .int .u8 36, .int .u8 45, .int .u8 43, .int .u8 51, .int .u8 22, .int .u8 53, .int .u8 39, .int .u8 33, .int .u8 30, .int .u8 24, .int .u8 18, .int .u8 12, .int .u8 5, .int .u8 63, .int .u8 55, .int .u8 48, .int .u8 27, .int .u8 60, .int .u8 41, .int .u8 37, .int .u8 16, .int .u8 46, .int .u8 35, .int .u8 44, .int .u8 21, .int .u8 52, .int .u8 32, .int .u8 23, .int .u8 11, .int .u8 54, .int .u8 26, .int .u8 40, .int .u8 15, .int .u8 34, .int .u8 20, .int .u8 31, .int .u8 10, .int .u8 25, .int .u8 14, .int .u8 19, .int .u8 9, .int .u8 13, .int .u8 8, .int .u8 7, .int .u8 6]) 3 #[.int .u64 1, .int .u64 10, .int .u64 100, .int .u64 1000, .int .u64 10000, .int .u64 100000, .int .u64 1000000, .int .u64 10000000, .int .u64 100000000, .int .u64 1000000000, .int .u64 10000000000, .int .u64 100000000000, .int .u64 1000000000000, .int .u64 10000000000000, .int .u64 100000000000000, .int .u64 1000000000000000, .int .u64 10000000000000000, .int .u64 100000000000000000, .int .u64 1000000000000000000, .int .u64 10000000000000000000]) 5 #[.string ⟨#[48, 49, 50, 51, 52, 53, 54, 55, 56, 57]⟩, .string ⟨#[48, 49, 50, 51, 52, 53, 54, 55, 56, 57, 97, 98, 99, 100, 101, 102]⟩]) 0 #[.string ⟨#[109]⟩, .int .i64 1000000, .string ⟨#[107]⟩, .int .i64 1000]) 2 #[.string ⟨#[113, 100, 105, 115, 99]⟩, .string ⟨#[100, 101, 102, 97, 117, 108, 116]⟩, .string ⟨#[99, 108, 97, 115, 115]⟩, .string ⟨#[114, 97, 116, 101]⟩, .string ⟨#[99, 101, 105, 108]⟩, .string ⟨#[98, 117, 114, 115, 116]⟩, .string ⟨#[99, 98, 117, 114, 115, 116]⟩, .string ⟨#[112, 114, 105, 111]⟩, .string ⟨#[108, 105, 109, 105, 116]⟩, .string ⟨#[102, 105, 108, 116, 101, 114]⟩, .string ⟨#[115, 111, 117, 114, 99, 101]⟩, .string ⟨#[100, 101, 115, 116]⟩, .string ⟨#[112, 111, 114, 116]⟩, .string ⟨#[109, 97, 114, 107]⟩]) 1 #[.string ⟨#[115, 111, 117, 114, 99, 101]⟩, .string ⟨#[100, 101, 115, 116]⟩, .string ⟨#[112, 111, 114, 116]⟩, .string ⟨#[109, 97, 114, 107]⟩] }
end Go.Proofs.YthgbhnedfdnfpaaGreatDoor
