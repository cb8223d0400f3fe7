/- Tokens made of texts: contracts of tokenOf and of the model's tkMake. -/
import Derived.Test.YtdmcgjohpnojkaaDoorTkw
namespace Go.Proofs.YtdmcgjohpnojkaaDoor
set_option maxRecDepth 100000
open Go.RowKit
set_option linter.unusedVariables false

theorem ret_toks {a b a' b' : Value} (h : a = a' ∧ b = b') : Ending.returned (.tuple #[a', b']) = .returned (.tuple #[a, b]) := by rw [h.1, h.2]
/-- the tables are in their places -/
def Tabs (w : World) : Prop := Dig w ∧ Units w ∧ Kwt w ∧ Sgt w
theorem Tabs.below {w w' : World} (h : Tabs w) (hb : Below w.heap.size w w') : Tabs w' := ⟨h.1.below hb, h.2.1.below hb, h.2.2.1.below hb, h.2.2.2.below hb⟩

/-- the six cells of a token and a fault of the call's own are there -/
def Six (w w1 : World) : Prop := ((w1.cell? ⟨w.heap.size, 0, none⟩).isSome = true ∧ (w1.cell? ⟨w.heap.size, 1, none⟩).isSome = true ∧ (w1.cell? ⟨w.heap.size, 2, none⟩).isSome = true ∧ (w1.cell? ⟨w.heap.size, 3, none⟩).isSome = true) ∧ ((w1.cell? ⟨w.heap.size + 1, 0, none⟩).isSome = true ∧ (w1.cell? ⟨w.heap.size + 1, 1, none⟩).isSome = true)
theorem six_new {w w1 : World} {a0 a1 a2 a3 b0 b1 : Value} {t t' : TypeId} (b : Below ((w.alloc (.cells #[a0, a1, a2, a3] t)).alloc (.cells #[b0, b1] t')).heap.size ((w.alloc (.cells #[a0, a1, a2, a3] t)).alloc (.cells #[b0, b1] t')) w1) : Six w w1 := by
  have hc := (bcell b).1
  have e : ((w.alloc (.cells #[a0, a1, a2, a3] t)).alloc (.cells #[b0, b1] t')).heap.size = w.heap.size + 2 := by simp
  rw [e] at hc
  refine ⟨⟨?_, ?_, ?_, ?_⟩, ?_, ?_⟩ <;> rw [hc _ _ (by omega)] <;> simp [go_sem]
theorem eight_new {w w1 : World} {a0 a1 a2 a3 b0 b1 b2 b3 : Value} {t t' : TypeId} (b : Below ((w.alloc (.cells #[a0, a1, a2, a3] t)).alloc (.cells #[b0, b1, b2, b3] t')).heap.size ((w.alloc (.cells #[a0, a1, a2, a3] t)).alloc (.cells #[b0, b1, b2, b3] t')) w1) : Four w1 w.heap.size ∧ Four w1 (w.heap.size + 1) := by
  have hc := (bcell b).1
  have e : ((w.alloc (.cells #[a0, a1, a2, a3] t)).alloc (.cells #[b0, b1, b2, b3] t')).heap.size = w.heap.size + 2 := by simp
  rw [e] at hc
  refine ⟨⟨?_, ?_, ?_, ?_⟩, ?_, ?_, ?_, ?_⟩ <;> rw [hc _ _ (by omega)] <;> simp [go_sem]
theorem read42 {w w1 : World} (h : Six w w1) (v0 v1 v2 v3 u0 u1 : Value) (W : World) (hW : W = (((((w1.setCell ⟨w.heap.size, 0, none⟩ v0).setCell ⟨w.heap.size, 1, none⟩ v1).setCell ⟨w.heap.size, 2, none⟩ v2).setCell ⟨w.heap.size, 3, none⟩ v3).setCell ⟨w.heap.size + 1, 0, none⟩ u0).setCell ⟨w.heap.size + 1, 1, none⟩ u1) :
    (W.cell? ⟨w.heap.size, 0, none⟩ = some v0 ∧ W.cell? ⟨w.heap.size, 1, none⟩ = some v1 ∧ W.cell? ⟨w.heap.size, 2, none⟩ = some v2 ∧ W.cell? ⟨w.heap.size, 3, none⟩ = some v3) ∧ (W.cell? ⟨w.heap.size + 1, 0, none⟩ = some u0 ∧ W.cell? ⟨w.heap.size + 1, 1, none⟩ = some u1) := by
  obtain ⟨⟨h0, h1, h2, h3⟩, g0, g1⟩ := h
  subst hW
  refine ⟨⟨?_, ?_, ?_, ?_⟩, ?_, ?_⟩ <;> simp [go_sem, World.cell?_setCell_other, World.cell?_setCell_same', h0, h1, h2, h3, g0, g1]
set_option maxHeartbeats 1600000 in
theorem tokenOf_nil (s : ByteArray) (a : Int) (w : World) (h : s.size = 0) :
    Calls Tryd.prog 39 #[.string s, .int .i64 a] w (SaysV w (.tuple #[tokR s a, fauR s a])) := by
  have HR := Lib.hid (tokR_no a (tk_nil s h) (by decide))
  obtain ⟨f1, f2⟩ := empty_tests h
  clear h
  go_enter Tryd.func39, Tryd.ntmps39
  go_wp2
  exact bodyPost_ret (v := .tuple #[.agg #[.int .i64 0, .int .i64 0, .string ⟨#[]⟩, .int .i64 0], .agg #[.int .i64 1, .int .i64 a]]) (by simp [results, Tryd.results39, go_sem]) rfl ⟨ret_toks HR.out, two_new _ _ _⟩
set_option maxHeartbeats 1600000 in
theorem tokenOf_num (s : ByteArray) (a : Int) (w : World) (h : 0 < s.size) (hs : s.size ≤ 1048576) (hT : Hid (Tabs w)) (c : Int) (hc : Hid (((s[0]'h).toNat : Int) = c)) (v : Int) (d : Hid (digB c = true)) (r : Hid (ray s.data.toList = Option.some v)) (HR : Hid (tokR s a = tokV 3 a s v ∧ fauR s a = fauV 0 0)) :
    Calls Tryd.prog 39 #[.string s, .int .i64 a] w (SaysV w (.tuple #[tokR s a, fauR s a])) := by
  obtain ⟨f1, f2⟩ := full_tests h
  have hix := first_byte s h
  rw [hc.out] at hix
  have c0 : 0 ≤ c := by have := hc.out; omega
  have c1 : c ≤ 255 := by have := hc.out; have := (s[0]'h).toNat_lt; omega
  have HD := Lib.hid (fun w => isDigit_any c w)
  rw [d.out] at HD
  have HA : Hid (∀ o o' : Obj, Calls Tryd.prog 73 #[.string s] ((w.alloc o).alloc o') (SaysPair ((w.alloc o).alloc o') v true)) := Lib.hid (fun o o' => by
    have := implReadAny_any s ((w.alloc o).alloc o') (Lib.hid (hT.out.below (two_new w o o')).1) (Lib.hid (hT.out.below (two_new w o o')).2.1) hs
    rw [r.out] at this
    exact this)
  clear hc h
  go_enter Tryd.func39, Tryd.ntmps39
  go_wp2_with (first | (go_at_call 72; refine (HD.out _).mono ?_; rintro e w' ⟨rfl, rfl⟩) | (go_at_call 73; refine (HA.out _ _).mono ?_; rintro e w1 ⟨rfl, b1⟩; obtain ⟨hc, hf⟩ := bcell b1; have hz := two_size b1; have X1 := Lib.hid (six_new b1); have B1 := Lib.hid (two_below b1); clear b1))
  obtain ⟨⟨r0, r1, r2, r3⟩, q0, q1⟩ := read42 X1.out (.int .i64 3) (.int .i64 a) (.string s) (.int .i64 v) (.int .i64 0) (.int .i64 0) _ rfl
  exact bodyPost_ret (v := .tuple #[.agg #[.int .i64 3, .int .i64 a, .string s, .int .i64 v], .agg #[.int .i64 0, .int .i64 0]]) (by simp [results, Tryd.results39, go_sem, r0, r1, r2, r3, q0, q1]) rfl ⟨ret_toks HR.out, set2 (set4 B1.out _ (Nat.le_refl _) _ _ _ _) _ (Nat.le_succ _) _ _⟩
set_option maxHeartbeats 1600000 in
theorem tokenOf_bad (s : ByteArray) (a : Int) (w : World) (h : 0 < s.size) (hs : s.size ≤ 1048576) (hT : Hid (Tabs w)) (c : Int) (hc : Hid (((s[0]'h).toNat : Int) = c)) (d : Hid (digB c = true)) (r : Hid (ray s.data.toList = Option.none)) (HR : Hid (tokR s a = tokV 0 0 ⟨#[]⟩ 0 ∧ fauR s a = fauV 3 a)) :
    Calls Tryd.prog 39 #[.string s, .int .i64 a] w (SaysV w (.tuple #[tokR s a, fauR s a])) := by
  obtain ⟨f1, f2⟩ := full_tests h
  have hix := first_byte s h
  rw [hc.out] at hix
  have c0 : 0 ≤ c := by have := hc.out; omega
  have c1 : c ≤ 255 := by have := hc.out; have := (s[0]'h).toNat_lt; omega
  have HD := Lib.hid (fun w => isDigit_any c w)
  rw [d.out] at HD
  have HA : Hid (∀ o o' : Obj, Calls Tryd.prog 73 #[.string s] ((w.alloc o).alloc o') (SaysPair ((w.alloc o).alloc o') 0 false)) := Lib.hid (fun o o' => by
    have := implReadAny_any s ((w.alloc o).alloc o') (Lib.hid (hT.out.below (two_new w o o')).1) (Lib.hid (hT.out.below (two_new w o o')).2.1) hs
    rw [r.out] at this
    exact this)
  clear hc h
  go_enter Tryd.func39, Tryd.ntmps39
  go_wp2_with (first | (go_at_call 72; refine (HD.out _).mono ?_; rintro e w' ⟨rfl, rfl⟩) | (go_at_call 73; refine (HA.out _ _).mono ?_; rintro e w1 ⟨rfl, b1⟩; obtain ⟨hc, hf⟩ := bcell b1; have hz := two_size b1; have X1 := Lib.hid (six_new b1); have B1 := Lib.hid (two_below b1); clear b1))
  obtain ⟨⟨r0, r1, r2, r3⟩, q0, q1⟩ := read42 X1.out (.int .i64 0) (.int .i64 0) (.string ⟨#[]⟩) (.int .i64 0) (.int .i64 3) (.int .i64 a) _ rfl
  exact bodyPost_ret (v := .tuple #[.agg #[.int .i64 0, .int .i64 0, .string ⟨#[]⟩, .int .i64 0], .agg #[.int .i64 3, .int .i64 a]]) (by simp [results, Tryd.results39, go_sem, r0, r1, r2, r3, q0, q1]) rfl ⟨ret_toks HR.out, set2 (set4 B1.out _ (Nat.le_refl _) _ _ _ _) _ (Nat.le_succ _) _ _⟩
set_option maxHeartbeats 1600000 in
theorem tokenOf_sign (s : ByteArray) (a : Int) (w : World) (h : 0 < s.size) (hs : s.size ≤ 1048576) (hT : Hid (Tabs w)) (c : Int) (hc : Hid (((s[0]'h).toNat : Int) = c)) (d : Hid (digB c = false)) (l : Hid (letB c = false)) (HR : Hid (tokR s a = tokV 4 a s 0 ∧ fauR s a = fauV 0 0)) :
    Calls Tryd.prog 39 #[.string s, .int .i64 a] w (SaysV w (.tuple #[tokR s a, fauR s a])) := by
  obtain ⟨f1, f2⟩ := full_tests h
  have hix := first_byte s h
  rw [hc.out] at hix
  have c0 : 0 ≤ c := by have := hc.out; omega
  have c1 : c ≤ 255 := by have := hc.out; have := (s[0]'h).toNat_lt; omega
  have HD := Lib.hid (fun w => isDigit_any c w)
  rw [d.out] at HD
  have HL := Lib.hid (fun w => isLetter_any c w)
  rw [l.out] at HL
  clear hc h
  go_enter Tryd.func39, Tryd.ntmps39
  go_wp2_with (first | (go_at_call 72; refine (HD.out _).mono ?_; rintro e w' ⟨rfl, rfl⟩) | (go_at_call 74; refine (HL.out _).mono ?_; rintro e w' ⟨rfl, rfl⟩))
  exact bodyPost_ret (v := .tuple #[.agg #[.int .i64 4, .int .i64 a, .string s, .int .i64 0], .agg #[.int .i64 0, .int .i64 0]]) (by simp [results, Tryd.results39, go_sem]) rfl ⟨ret_toks HR.out, two_new _ _ _⟩
set_option maxHeartbeats 1600000 in
theorem tokenOf_word (s : ByteArray) (a : Int) (w : World) (h : 0 < s.size) (hs : s.size ≤ 1048576) (hT : Hid (Tabs w)) (c : Int) (hc : Hid (((s[0]'h).toNat : Int) = c)) (d : Hid (digB c = false)) (l : Hid (letB c = true)) (q : Hid (wdB s.data.toList = false)) (HR : Hid (tokR s a = tokV 0 0 ⟨#[]⟩ 0 ∧ fauR s a = fauV 7 a)) :
    Calls Tryd.prog 39 #[.string s, .int .i64 a] w (SaysV w (.tuple #[tokR s a, fauR s a])) := by
  obtain ⟨f1, f2⟩ := full_tests h
  have hix := first_byte s h
  rw [hc.out] at hix
  have c0 : 0 ≤ c := by have := hc.out; omega
  have c1 : c ≤ 255 := by have := hc.out; have := (s[0]'h).toNat_lt; omega
  have HD := Lib.hid (fun w => isDigit_any c w)
  rw [d.out] at HD
  have HL := Lib.hid (fun w => isLetter_any c w)
  rw [l.out] at HL
  have HW : Hid (∀ w : World, Calls Tryd.prog 75 #[.string s] w (SaysB w false)) := Lib.hid (fun w => by
    have := isWord_any s w hs
    rw [q.out] at this
    exact this)
  clear hc h
  go_enter Tryd.func39, Tryd.ntmps39
  go_wp2_with (first | (go_at_call 72; refine (HD.out _).mono ?_; rintro e w' ⟨rfl, rfl⟩) | (go_at_call 74; refine (HL.out _).mono ?_; rintro e w' ⟨rfl, rfl⟩) | (go_at_call 75; refine (HW.out _).mono ?_; rintro e w1 ⟨rfl, b1⟩; obtain ⟨hc, hf⟩ := bcell b1; have hz := two_size b1; have X1 := Lib.hid (six_new b1); have B1 := Lib.hid (two_below b1); have K1 := Lib.hid (hT.out.below (two_below b1)).2.2.1; clear b1))
  obtain ⟨⟨r0, r1, r2, r3⟩, q0, q1⟩ := read42 X1.out (.int .i64 0) (.int .i64 0) (.string ⟨#[]⟩) (.int .i64 0) (.int .i64 7) (.int .i64 a) _ rfl
  exact bodyPost_ret (v := .tuple #[.agg #[.int .i64 0, .int .i64 0, .string ⟨#[]⟩, .int .i64 0], .agg #[.int .i64 7, .int .i64 a]]) (by simp [results, Tryd.results39, go_sem, r0, r1, r2, r3, q0, q1]) rfl ⟨ret_toks HR.out, set2 (set4 B1.out _ (Nat.le_refl _) _ _ _ _) _ (Nat.le_succ _) _ _⟩
set_option maxHeartbeats 1600000 in
theorem tokenOf_key (s : ByteArray) (a : Int) (w : World) (h : 0 < s.size) (hs : s.size ≤ 1048576) (hT : Hid (Tabs w)) (c : Int) (hc : Hid (((s[0]'h).toNat : Int) = c)) (d : Hid (digB c = false)) (l : Hid (letB c = true)) (q : Hid (wdB s.data.toList = true)) (i : Hid (isKw s = true)) (HR : Hid (tokR s a = tokV 1 a s 0 ∧ fauR s a = fauV 0 0)) :
    Calls Tryd.prog 39 #[.string s, .int .i64 a] w (SaysV w (.tuple #[tokR s a, fauR s a])) := by
  obtain ⟨f1, f2⟩ := full_tests h
  have hix := first_byte s h
  rw [hc.out] at hix
  have c0 : 0 ≤ c := by have := hc.out; omega
  have c1 : c ≤ 255 := by have := hc.out; have := (s[0]'h).toNat_lt; omega
  have HD := Lib.hid (fun w => isDigit_any c w)
  rw [d.out] at HD
  have HL := Lib.hid (fun w => isLetter_any c w)
  rw [l.out] at HL
  have HW : Hid (∀ w : World, Calls Tryd.prog 75 #[.string s] w (SaysB w true)) := Lib.hid (fun w => by
    have := isWord_any s w hs
    rw [q.out] at this
    exact this)
  have HK := Lib.hid (fun w hK => implIsKey_any s w hK)
  rw [i.out] at HK
  clear hc h
  go_enter Tryd.func39, Tryd.ntmps39
  go_wp2_with (first | (go_at_call 72; refine (HD.out _).mono ?_; rintro e w' ⟨rfl, rfl⟩) | (go_at_call 74; refine (HL.out _).mono ?_; rintro e w' ⟨rfl, rfl⟩) | (go_at_call 75; refine (HW.out _).mono ?_; rintro e w1 ⟨rfl, b1⟩; obtain ⟨hc, hf⟩ := bcell b1; have hz := two_size b1; have X1 := Lib.hid (six_new b1); have B1 := Lib.hid (two_below b1); have K1 := Lib.hid (hT.out.below (two_below b1)).2.2.1; clear b1) | (go_at_call 76; refine (HK.out _ K1).mono ?_; rintro e w' ⟨rfl, rfl⟩))
  obtain ⟨⟨r0, r1, r2, r3⟩, q0, q1⟩ := read42 X1.out (.int .i64 1) (.int .i64 a) (.string s) (.int .i64 0) (.int .i64 0) (.int .i64 0) _ rfl
  exact bodyPost_ret (v := .tuple #[.agg #[.int .i64 1, .int .i64 a, .string s, .int .i64 0], .agg #[.int .i64 0, .int .i64 0]]) (by simp [results, Tryd.results39, go_sem, r0, r1, r2, r3, q0, q1]) rfl ⟨ret_toks HR.out, set2 (set4 B1.out _ (Nat.le_refl _) _ _ _ _) _ (Nat.le_succ _) _ _⟩
set_option maxHeartbeats 1600000 in
theorem tokenOf_name (s : ByteArray) (a : Int) (w : World) (h : 0 < s.size) (hs : s.size ≤ 1048576) (hT : Hid (Tabs w)) (c : Int) (hc : Hid (((s[0]'h).toNat : Int) = c)) (d : Hid (digB c = false)) (l : Hid (letB c = true)) (q : Hid (wdB s.data.toList = true)) (i : Hid (isKw s = false)) (HR : Hid (tokR s a = tokV 2 a s 0 ∧ fauR s a = fauV 0 0)) :
    Calls Tryd.prog 39 #[.string s, .int .i64 a] w (SaysV w (.tuple #[tokR s a, fauR s a])) := by
  obtain ⟨f1, f2⟩ := full_tests h
  have hix := first_byte s h
  rw [hc.out] at hix
  have c0 : 0 ≤ c := by have := hc.out; omega
  have c1 : c ≤ 255 := by have := hc.out; have := (s[0]'h).toNat_lt; omega
  have HD := Lib.hid (fun w => isDigit_any c w)
  rw [d.out] at HD
  have HL := Lib.hid (fun w => isLetter_any c w)
  rw [l.out] at HL
  have HW : Hid (∀ w : World, Calls Tryd.prog 75 #[.string s] w (SaysB w true)) := Lib.hid (fun w => by
    have := isWord_any s w hs
    rw [q.out] at this
    exact this)
  have HK := Lib.hid (fun w hK => implIsKey_any s w hK)
  rw [i.out] at HK
  clear hc h
  go_enter Tryd.func39, Tryd.ntmps39
  go_wp2_with (first | (go_at_call 72; refine (HD.out _).mono ?_; rintro e w' ⟨rfl, rfl⟩) | (go_at_call 74; refine (HL.out _).mono ?_; rintro e w' ⟨rfl, rfl⟩) | (go_at_call 75; refine (HW.out _).mono ?_; rintro e w1 ⟨rfl, b1⟩; obtain ⟨hc, hf⟩ := bcell b1; have hz := two_size b1; have X1 := Lib.hid (six_new b1); have B1 := Lib.hid (two_below b1); have K1 := Lib.hid (hT.out.below (two_below b1)).2.2.1; clear b1) | (go_at_call 76; refine (HK.out _ K1).mono ?_; rintro e w' ⟨rfl, rfl⟩))
  obtain ⟨⟨r0, r1, r2, r3⟩, q0, q1⟩ := read42 X1.out (.int .i64 2) (.int .i64 a) (.string s) (.int .i64 0) (.int .i64 0) (.int .i64 0) _ rfl
  exact bodyPost_ret (v := .tuple #[.agg #[.int .i64 2, .int .i64 a, .string s, .int .i64 0], .agg #[.int .i64 0, .int .i64 0]]) (by simp [results, Tryd.results39, go_sem, r0, r1, r2, r3, q0, q1]) rfl ⟨ret_toks HR.out, set2 (set4 B1.out _ (Nat.le_refl _) _ _ _ _) _ (Nat.le_succ _) _ _⟩
theorem tokenOf_any (s : ByteArray) (a : Int) (w : World) (hs : s.size ≤ 1048576) (hT : Hid (Tabs w)) :
    Calls Tryd.prog 39 #[.string s, .int .i64 a] w (SaysV w (.tuple #[tokR s a, fauR s a])) := by
  rcases Nat.eq_zero_or_pos s.size with h | h
  · exact tokenOf_nil s a w h
  · rcases tk_way s h with ⟨v, d, r, e, k, x⟩ | ⟨d, r, e⟩ | ⟨d, l, e, k, x⟩ | ⟨d, l, q, e⟩ | ⟨d, l, q, i, e, k, x⟩ | ⟨d, l, q, i, e, k, x⟩
    · exact tokenOf_num s a w h hs hT _ (Lib.hid rfl) v d r (tokR_yes a e k x)
    · exact tokenOf_bad s a w h hs hT _ (Lib.hid rfl) d r (tokR_no a e (by decide))
    · exact tokenOf_sign s a w h hs hT _ (Lib.hid rfl) d l (tokR_yes a e k x)
    · exact tokenOf_word s a w h hs hT _ (Lib.hid rfl) d l q (tokR_no a e (by decide))
    · exact tokenOf_key s a w h hs hT _ (Lib.hid rfl) d l q i (tokR_yes a e k x)
    · exact tokenOf_name s a w h hs hT _ (Lib.hid rfl) d l q i (tokR_yes a e k x)
theorem ret_make {a b : Value} {m n : Int} (h : a = b ∧ m = n) : Ending.returned (.tuple #[b, .int .i64 n]) = .returned (.tuple #[a, .int .i64 m]) := by rw [h.1, h.2]
theorem let_dig {c : Int} (h : digB c = true) : letB c = false := by unfold digB at h; unfold letB; simp at h; simp; omega
set_option maxHeartbeats 1600000 in
theorem tkMake_num (s : ByteArray) (a : Int) (w : World) (h : 0 < s.size) (hs : s.size ≤ 1048576) (c : Int) (hc : Hid (((s[0]'h).toNat : Int) = c)) (v : Int) (l : Hid (letB c = false)) (d : Hid (digB c = true)) (r : Hid (ray s.data.toList = Option.some v)) (HR : Hid (tokR s a = tokV 3 a s v ∧ tkFa s = 0)) :
    Calls Tryd.prog 81 #[.string s, .int .i64 a] w (SaysV w (.tuple #[tokR s a, .int .i64 (tkFa s)])) := by
  have hix := first_byte s h
  rw [hc.out] at hix
  have HL := Lib.hid (fun w => tkLetter_any c w)
  rw [l.out] at HL
  have HM := Lib.hid (fun w => tkMark_any c w)
  rw [show mkB c = true by unfold mkB; rw [l.out, d.out]; rfl] at HM
  have HA : Hid (∀ w : World, Calls Tryd.prog 117 #[.string s] w (SaysPair w v true)) := Lib.hid (fun w => by
    have := specReadAny_any s w hs
    rw [r.out] at this
    exact this)
  clear hc h
  go_enter Tryd.func81, Tryd.ntmps81
  go_wp2_with (first | (go_at_call 114; refine (HL.out _).mono ?_; rintro e w' ⟨rfl, rfl⟩) | (go_at_call 113; refine (HM.out _).mono ?_; rintro e w' ⟨rfl, rfl⟩) | (go_at_call 117; refine (HA.out _).mono ?_; rintro e w1 ⟨rfl, b1⟩; obtain ⟨hc, hf⟩ := bcell b1; have hz := two_size b1; have X1 := Lib.hid (eight_new b1); have B1 := Lib.hid (two_below b1); clear b1))
  obtain ⟨r0, r1, r2, r3⟩ := read4 (four_set (four_set X1.out.1 ⟨w.heap.size + 1, 0, none⟩ (.int .i64 3)) ⟨w.heap.size + 1, 3, none⟩ (.int .i64 v)) (.int .i64 3) (.int .i64 a) (.string s) (.int .i64 v) _ rfl
  exact bodyPost_ret (v := .tuple #[.agg #[.int .i64 3, .int .i64 a, .string s, .int .i64 v], .int .i64 0]) (by simp [results, Tryd.results81, go_sem, r0, r1, r2, r3]) rfl ⟨ret_make HR.out, set4 ((B1.out.setCell (Nat.le_succ _) _).setCell (Nat.le_succ _) _) _ (Nat.le_refl _) _ _ _ _⟩
set_option maxHeartbeats 1600000 in
theorem tkMake_bad (s : ByteArray) (a : Int) (w : World) (h : 0 < s.size) (hs : s.size ≤ 1048576) (c : Int) (hc : Hid (((s[0]'h).toNat : Int) = c)) (l : Hid (letB c = false)) (d : Hid (digB c = true)) (r : Hid (ray s.data.toList = Option.none)) (HR : Hid (tokR s a = tokV 0 0 ⟨#[]⟩ 0 ∧ tkFa s = 3)) :
    Calls Tryd.prog 81 #[.string s, .int .i64 a] w (SaysV w (.tuple #[tokR s a, .int .i64 (tkFa s)])) := by
  have hix := first_byte s h
  rw [hc.out] at hix
  have HL := Lib.hid (fun w => tkLetter_any c w)
  rw [l.out] at HL
  have HM := Lib.hid (fun w => tkMark_any c w)
  rw [show mkB c = true by unfold mkB; rw [l.out, d.out]; rfl] at HM
  have HA : Hid (∀ w : World, Calls Tryd.prog 117 #[.string s] w (SaysPair w 0 false)) := Lib.hid (fun w => by
    have := specReadAny_any s w hs
    rw [r.out] at this
    exact this)
  clear hc h
  go_enter Tryd.func81, Tryd.ntmps81
  go_wp2_with (first | (go_at_call 114; refine (HL.out _).mono ?_; rintro e w' ⟨rfl, rfl⟩) | (go_at_call 113; refine (HM.out _).mono ?_; rintro e w' ⟨rfl, rfl⟩) | (go_at_call 117; refine (HA.out _).mono ?_; rintro e w1 ⟨rfl, b1⟩; obtain ⟨hc, hf⟩ := bcell b1; have hz := two_size b1; have X1 := Lib.hid (eight_new b1); have B1 := Lib.hid (two_below b1); clear b1))
  obtain ⟨r0, r1, r2, r3⟩ := read4 X1.out.1 (.int .i64 0) (.int .i64 0) (.string ⟨#[]⟩) (.int .i64 0) _ rfl
  exact bodyPost_ret (v := .tuple #[.agg #[.int .i64 0, .int .i64 0, .string ⟨#[]⟩, .int .i64 0], .int .i64 3]) (by simp [results, Tryd.results81, go_sem, r0, r1, r2, r3]) rfl ⟨ret_make HR.out, set4 B1.out _ (Nat.le_refl _) _ _ _ _⟩
set_option maxHeartbeats 1600000 in
theorem tkMake_sign (s : ByteArray) (a : Int) (w : World) (h : 0 < s.size) (hs : s.size ≤ 1048576) (c : Int) (hc : Hid (((s[0]'h).toNat : Int) = c)) (d : Hid (digB c = false)) (l : Hid (letB c = false)) (HR : Hid (tokR s a = tokV 4 a s 0 ∧ tkFa s = 0)) :
    Calls Tryd.prog 81 #[.string s, .int .i64 a] w (SaysV w (.tuple #[tokR s a, .int .i64 (tkFa s)])) := by
  have hix := first_byte s h
  rw [hc.out] at hix
  have HL := Lib.hid (fun w => tkLetter_any c w)
  rw [l.out] at HL
  have HM := Lib.hid (fun w => tkMark_any c w)
  rw [show mkB c = false by unfold mkB; rw [l.out, d.out]; rfl] at HM
  clear hc h
  go_enter Tryd.func81, Tryd.ntmps81
  go_wp2_with (first | (go_at_call 114; refine (HL.out _).mono ?_; rintro e w' ⟨rfl, rfl⟩) | (go_at_call 113; refine (HM.out _).mono ?_; rintro e w' ⟨rfl, rfl⟩))
  exact bodyPost_ret (v := .tuple #[.agg #[.int .i64 4, .int .i64 a, .string s, .int .i64 0], .int .i64 0]) (by simp [results, Tryd.results81, go_sem]) rfl ⟨ret_make HR.out, two_new _ _ _⟩
set_option maxHeartbeats 1600000 in
theorem tkMake_word (s : ByteArray) (a : Int) (w : World) (h : 0 < s.size) (hs : s.size ≤ 1048576) (c : Int) (hc : Hid (((s[0]'h).toNat : Int) = c)) (l : Hid (letB c = true)) (q : Hid (wdB s.data.toList = false)) (HR : Hid (tokR s a = tokV 0 0 ⟨#[]⟩ 0 ∧ tkFa s = 7)) :
    Calls Tryd.prog 81 #[.string s, .int .i64 a] w (SaysV w (.tuple #[tokR s a, .int .i64 (tkFa s)])) := by
  have hix := first_byte s h
  rw [hc.out] at hix
  have HL := Lib.hid (fun w => tkLetter_any c w)
  rw [l.out] at HL
  have HW := Lib.hid (fun w => tkWord_any s w hs h)
  rw [q.out] at HW
  clear hc h
  go_enter Tryd.func81, Tryd.ntmps81
  go_wp2_with (first | (go_at_call 114; refine (HL.out _).mono ?_; rintro e w' ⟨rfl, rfl⟩) | (go_at_call 115; refine (HW.out _).mono ?_; rintro e w' ⟨rfl, rfl⟩))
  exact bodyPost_ret (v := .tuple #[.agg #[.int .i64 0, .int .i64 0, .string ⟨#[]⟩, .int .i64 0], .int .i64 7]) (by simp [results, Tryd.results81, go_sem]) rfl ⟨ret_make HR.out, two_new _ _ _⟩
set_option maxHeartbeats 1600000 in
theorem tkMake_key (s : ByteArray) (a : Int) (w : World) (h : 0 < s.size) (hs : s.size ≤ 1048576) (c : Int) (hc : Hid (((s[0]'h).toNat : Int) = c)) (l : Hid (letB c = true)) (q : Hid (wdB s.data.toList = true)) (i : Hid (isKw s = true)) (HR : Hid (tokR s a = tokV 1 a s 0 ∧ tkFa s = 0)) :
    Calls Tryd.prog 81 #[.string s, .int .i64 a] w (SaysV w (.tuple #[tokR s a, .int .i64 (tkFa s)])) := by
  have hix := first_byte s h
  rw [hc.out] at hix
  have HL := Lib.hid (fun w => tkLetter_any c w)
  rw [l.out] at HL
  have HW := Lib.hid (fun w => tkWord_any s w hs h)
  rw [q.out] at HW
  have HK : Hid (∀ w : World, Calls Tryd.prog 116 #[.string s] w (SaysB w true)) := Lib.hid (fun w => by
    have := specIsKey_any s w
    rw [i.out] at this
    exact this)
  clear hc h
  go_enter Tryd.func81, Tryd.ntmps81
  go_wp2_with (first | (go_at_call 114; refine (HL.out _).mono ?_; rintro e w' ⟨rfl, rfl⟩) | (go_at_call 115; refine (HW.out _).mono ?_; rintro e w' ⟨rfl, rfl⟩) | (go_at_call 116; refine (HK.out _).mono ?_; rintro e w1 ⟨rfl, b1⟩; obtain ⟨hc, hf⟩ := bcell b1; have hz := two_size b1; have X1 := Lib.hid (eight_new b1); have B1 := Lib.hid (two_below b1); clear b1))
  obtain ⟨r0, r1, r2, r3⟩ := read4 (four_set X1.out.1 ⟨w.heap.size + 1, 0, none⟩ (.int .i64 1)) (.int .i64 1) (.int .i64 a) (.string s) (.int .i64 0) _ rfl
  exact bodyPost_ret (v := .tuple #[.agg #[.int .i64 1, .int .i64 a, .string s, .int .i64 0], .int .i64 0]) (by simp [results, Tryd.results81, go_sem, r0, r1, r2, r3]) rfl ⟨ret_make HR.out, set4 (B1.out.setCell (Nat.le_succ _) _) _ (Nat.le_refl _) _ _ _ _⟩
set_option maxHeartbeats 1600000 in
theorem tkMake_name (s : ByteArray) (a : Int) (w : World) (h : 0 < s.size) (hs : s.size ≤ 1048576) (c : Int) (hc : Hid (((s[0]'h).toNat : Int) = c)) (l : Hid (letB c = true)) (q : Hid (wdB s.data.toList = true)) (i : Hid (isKw s = false)) (HR : Hid (tokR s a = tokV 2 a s 0 ∧ tkFa s = 0)) :
    Calls Tryd.prog 81 #[.string s, .int .i64 a] w (SaysV w (.tuple #[tokR s a, .int .i64 (tkFa s)])) := by
  have hix := first_byte s h
  rw [hc.out] at hix
  have HL := Lib.hid (fun w => tkLetter_any c w)
  rw [l.out] at HL
  have HW := Lib.hid (fun w => tkWord_any s w hs h)
  rw [q.out] at HW
  have HK : Hid (∀ w : World, Calls Tryd.prog 116 #[.string s] w (SaysB w false)) := Lib.hid (fun w => by
    have := specIsKey_any s w
    rw [i.out] at this
    exact this)
  clear hc h
  go_enter Tryd.func81, Tryd.ntmps81
  go_wp2_with (first | (go_at_call 114; refine (HL.out _).mono ?_; rintro e w' ⟨rfl, rfl⟩) | (go_at_call 115; refine (HW.out _).mono ?_; rintro e w' ⟨rfl, rfl⟩) | (go_at_call 116; refine (HK.out _).mono ?_; rintro e w1 ⟨rfl, b1⟩; obtain ⟨hc, hf⟩ := bcell b1; have hz := two_size b1; have X1 := Lib.hid (eight_new b1); have B1 := Lib.hid (two_below b1); clear b1))
  obtain ⟨r0, r1, r2, r3⟩ := read4 X1.out.1 (.int .i64 2) (.int .i64 a) (.string s) (.int .i64 0) _ rfl
  exact bodyPost_ret (v := .tuple #[.agg #[.int .i64 2, .int .i64 a, .string s, .int .i64 0], .int .i64 0]) (by simp [results, Tryd.results81, go_sem, r0, r1, r2, r3]) rfl ⟨ret_make HR.out, set4 B1.out _ (Nat.le_refl _) _ _ _ _⟩
theorem tkMake_any (s : ByteArray) (a : Int) (w : World) (h : 0 < s.size) (hs : s.size ≤ 1048576) :
    Calls Tryd.prog 81 #[.string s, .int .i64 a] w (SaysV w (.tuple #[tokR s a, .int .i64 (tkFa s)])) := by
  rcases tk_way s h with ⟨v, d, r, e, k, x⟩ | ⟨d, r, e⟩ | ⟨d, l, e, k, x⟩ | ⟨d, l, q, e⟩ | ⟨d, l, q, i, e, k, x⟩ | ⟨d, l, q, i, e, k, x⟩
  · exact tkMake_num s a w h hs _ (Lib.hid rfl) v (let_dig d) d r ⟨(tokR_yes a e k x).1, e⟩
  · exact tkMake_bad s a w h hs _ (Lib.hid rfl) (let_dig d) d r ⟨(tokR_no a e (by decide)).1, e⟩
  · exact tkMake_sign s a w h hs _ (Lib.hid rfl) d l ⟨(tokR_yes a e k x).1, e⟩
  · exact tkMake_word s a w h hs _ (Lib.hid rfl) l q ⟨(tokR_no a e (by decide)).1, e⟩
  · exact tkMake_key s a w h hs _ (Lib.hid rfl) l q i ⟨(tokR_yes a e k x).1, e⟩
  · exact tkMake_name s a w h hs _ (Lib.hid rfl) l q i ⟨(tokR_yes a e k x).1, e⟩
end Go.Proofs.YtdmcgjohpnojkaaDoor
