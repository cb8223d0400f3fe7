/- Key words, letters and digits, words: contracts of IsKey and of the small functions, program and model. -/
import Derived.Test.YtnenfpbiobmlcaaDoorTkl
import Derived.Test.YtnenfpbiobmlcaaDoorTks
import Derived.Laws.Rows
namespace Go.Proofs.YtnenfpbiobmlcaaDoor
set_option maxRecDepth 100000
open Go.RowKit

theorem oneOf_at (s : ByteArray) (l : List ByteArray) (k : Nat) (h : k < l.length) : oneOf s (l.drop k) = (((l.getD k ⟨#[]⟩).toList == s.toList) || oneOf s (l.drop (k + 1))) := by
  rw [List.drop_eq_getElem_cons h, oneOf]
  simp [List.getD_eq_getElem?_getD, h]
theorem oneOf_end (s : ByteArray) (l : List ByteArray) (k : Nat) (h : l.length ≤ k) : oneOf s (l.drop k) = false := by
  rw [List.drop_eq_nil_of_le h]; rfl
/-- some texts lie from the start of a block on -/
def TextsAt (w : World) (g : Nat) (l : List ByteArray) : Prop := ∀ k, k < l.length → w.cell? ⟨g, k, none⟩ = some (.string (l.getD k ⟨#[]⟩))
theorem TextsAt.below {w w' : World} {g B : Nat} {l : List ByteArray} (h : TextsAt w g l) (hb : Below B w w') (hg : g < B) : TextsAt w' g l := fun k hk => (hb.cell (p := ⟨g, k, none⟩) hg).trans (h k hk)
theorem texts_new (w : World) (l : List ByteArray) (cs : Array Value) (hc : cs.toList = l.map Value.string) (ty : TypeId) : TextsAt (w.alloc (.cells cs ty)) w.heap.size l := by
  intro k hk
  rw [World.cell?_alloc_at _ _ _ _ rfl]
  have e : cs[k]? = (l.map Value.string)[k]? := by rw [← hc]; simp
  rw [e]
  simp [hk]
def HasRel (s : ByteArray) (l : List ByteArray) (b : Bool) (v : Value) : Prop := ∃ k : Nat, k ≤ l.length ∧ v = .int .i64 k ∧ Hid (oneOf s (l.drop k) = b)
set_option maxHeartbeats 800000 in
theorem l1HasS_any (g n c : Nat) (l : List ByteArray) (s : ByteArray) (w : World) (HT : Hid (TextsAt w g l)) (hn : Hid (n = l.length)) (hm : n ≤ 1048576) :
    Calls Tryd.prog 42 #[.slice (some ⟨g, 0, none⟩) n c, .string s] w fun e w' => e = .returned (.bool (oneOf s l)) ∧ w = w' := by
  obtain ⟨b, hb⟩ : ∃ b, oneOf s l = b := ⟨_, rfl⟩
  have H0 : Hid (oneOf s (l.drop 0) = b) := Lib.hid (by rw [← hb]; rfl)
  rw [hb]
  clear hb
  go_enter Tryd.func42, Tryd.ntmps42
  go_wp2_with fail
  go_loop [9] (fun v => HasRel s l b v) (fun v => n - (intOf v).toNat)
  case atStart => exact ⟨0, Nat.zero_le _, rfl, H0⟩
  case round =>
    obtain ⟨k, hk, rfl, HP⟩ := hrel
    by_cases hlt : k < n
    · have hc := HT.out k (by rw [← hn.out]; exact hlt)
      have HE := Lib.hid (oneOf_at s l k (by rw [← hn.out]; exact hlt))
      obtain ⟨x, hx⟩ : ∃ x, l.getD k ⟨#[]⟩ = x := ⟨_, rfl⟩
      rw [hx] at hc HE
      clear hx
      rcases Bool.eq_false_or_eq_true (x.toList == s.toList) with he | he
      · have HX : Hid (b = true) := Lib.hid (by rw [← HP.out, HE.out, he]; rfl)
        go_wp2_with fail
        go_ret
        exact ⟨ret_bool HX.out.symm, rfl⟩
      · have HX : Hid (oneOf s (l.drop (k + 1)) = b) := Lib.hid (by rw [← HP.out, HE.out, he]; rfl)
        have hk2 : k + 1 ≤ l.length := by rw [← hn.out]; exact hlt
        go_wp2_with fail
        go_round
        case rel => exact ⟨k + 1, hk2, by go_num, HX⟩
        case measure => simp [intOf]; omega
    · have HX : Hid (b = false) := Lib.hid (by rw [← HP.out, oneOf_end s l k (by rw [← hn.out]; omega)])
      go_wp2_with fail
      go_ret
      exact ⟨ret_bool HX.out.symm, rfl⟩
theorem tkKeys_any (w : World) :
    Calls Tryd.prog 43 #[] w fun e w' => e = .returned (.slice (some ⟨w.heap.size, 0, none⟩) 14 14) ∧ TextsAt w' w.heap.size kwA ∧ Below w.heap.size w w' := by
  go_enter Tryd.func43, Tryd.ntmps43
  go_wp2
  go_ret
  exact ⟨rfl, texts_new _ kwA _ rfl _, (Below.refl _ _).alloc (Nat.le_refl _) _⟩
/-- a truth value, memory made -/
def SaysB (w : World) (b : Bool) (e : Ending) (w' : World) : Prop := e = .returned (.bool b) ∧ Below w.heap.size w w'
theorem specIsKey_any (s : ByteArray) (w : World) : Calls Tryd.prog 12 #[.string s] w (SaysB w (isKw s)) := by
  have HL := Lib.hid (fun (g : Nat) (w : World) HT => l1HasS_any g 14 14 kwA s w HT (Lib.hid rfl) (by omega))
  obtain ⟨b, hb⟩ : ∃ b, isKw s = b := ⟨_, rfl⟩
  rw [show oneOf s kwA = isKw s from rfl, hb] at HL
  rw [hb]
  clear hb
  go_enter Tryd.func12, Tryd.ntmps12
  go_wp2_with (first | (go_at_call 43; refine (tkKeys_any _).mono ?_; rintro e w1 ⟨rfl, ht, b1⟩; have HT := Lib.hid ht; have B1 := Lib.hid b1; clear ht b1) | (go_at_call 42; refine (HL.out _ _ HT).mono ?_; rintro e w' ⟨rfl, rfl⟩))
  go_ret
  exact ⟨rfl, B1.out⟩
/-- the table of key words is in its place -/
def Kwt (w : World) : Prop := ∃ (t : TypeId) (fr : Nat × Nat), w.heap[0]? = some (.cells (kwA.map Value.string).toArray t fr)
theorem Kwt.below {w w' : World} (h : Kwt w) (hb : Below w.heap.size w w') : Kwt w' := by
  obtain ⟨t, fr, h⟩ := h
  refine ⟨t, fr, ?_⟩
  have hlt : 0 < w.heap.size := by
    rcases Nat.lt_or_ge 0 w.heap.size with q | q
    · exact q
    · rw [Array.getElem?_eq_none q] at h; cases h
  rw [hb.block _ hlt]; exact h
theorem kw_at (k : Nat) (h : k < 14) (w : World) : (Instr.index 62 (.agg (kwA.map Value.string).toArray) (.int .i64 (k : Int))).run Tryd.prog w = .ok (.string (kwA.getD k ⟨#[]⟩)) w := by
  rcases (show k = 0 ∨ k = 1 ∨ k = 2 ∨ k = 3 ∨ k = 4 ∨ k = 5 ∨ k = 6 ∨ k = 7 ∨ k = 8 ∨ k = 9 ∨ k = 10 ∨ k = 11 ∨ k = 12 ∨ k = 13 by omega) with rfl | rfl | rfl | rfl | rfl | rfl | rfl | rfl | rfl | rfl | rfl | rfl | rfl | rfl <;> kernel_rfl
theorem kw_len : kwA.length = 14 := rfl
set_option maxHeartbeats 800000 in
theorem implIsKey_any (s : ByteArray) (w : World) (hK : Hid (Kwt w)) :
    Calls Tryd.prog 13 #[.string s] w fun e w' => e = .returned (.bool (isKw s)) ∧ w = w' := by
  obtain ⟨b, hb⟩ : ∃ b, isKw s = b := ⟨_, rfl⟩
  have H0 : Hid (oneOf s (kwA.drop 0) = b) := Lib.hid (by rw [← hb]; rfl)
  rw [hb]
  clear hb
  obtain ⟨t, fr, hg⟩ := hK.out
  have HG := Lib.hid hg
  obtain ⟨arr, harr⟩ : ∃ arr, (kwA.map Value.string).toArray = arr := ⟨_, rfl⟩
  have HA := Lib.hid kw_at
  have hsz : Hid (14 = arr.size) := Lib.hid (by rw [← harr]; rfl)
  rw [harr] at HG HA
  clear harr hg
  go_enter Tryd.func13, Tryd.ntmps13
  go_wp2_with (refine wpList_load_row rfl 62 _ rfl 0 rfl t arr fr _ HG.out Tryd.underlying62 rfl (by rw [← hsz.out]; kernel_rfl) ?_)
  go_loop [6] (fun v => HasRel s kwA b v) (fun v => 14 - (intOf v).toNat)
  case atStart => exact ⟨0, Nat.zero_le _, rfl, H0⟩
  case round =>
    obtain ⟨k, hk, rfl, HP⟩ := hrel
    rw [kw_len] at hk
    by_cases hlt : k < 14
    · have hix := HA.out k hlt
      have HE := Lib.hid (oneOf_at s kwA k hlt)
      obtain ⟨x, hx⟩ : ∃ x, kwA.getD k ⟨#[]⟩ = x := ⟨_, rfl⟩
      rw [hx] at hix HE
      clear hx
      rcases Bool.eq_false_or_eq_true (x.toList == s.toList) with he | he
      · have HX : Hid (b = true) := Lib.hid (by rw [← HP.out, HE.out, he]; rfl)
        go_wp2_with fail
        go_ret
        exact ⟨ret_bool HX.out.symm, rfl⟩
      · have HX : Hid (oneOf s (kwA.drop (k + 1)) = b) := Lib.hid (by rw [← HP.out, HE.out, he]; rfl)
        have hk2 : k + 1 ≤ kwA.length := hlt
        go_wp2_with fail
        go_round
        case rel => exact ⟨k + 1, hk2, by go_num, HX⟩
        case measure => simp [intOf]; omega
    · have HX : Hid (b = false) := Lib.hid (by rw [← HP.out, oneOf_end s kwA k (by rw [kw_len]; omega)])
      go_wp2_with fail
      go_ret
      exact ⟨ret_bool HX.out.symm, rfl⟩
end Go.Proofs.YtnenfpbiobmlcaaDoor
