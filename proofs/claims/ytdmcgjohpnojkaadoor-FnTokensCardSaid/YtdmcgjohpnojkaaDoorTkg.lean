/- Tokens that a text can have, in the program: contracts of IsToken. -/
import Derived.Test.YtdmcgjohpnojkaaDoorTkj
import Derived.Test.YtdmcgjohpnojkaaDoorBxw
import Derived.Deep.RegionWith
import Derived.Deep.RegionHeld3
namespace Go.Proofs.YtdmcgjohpnojkaaDoor
set_option maxRecDepth 100000
open Go.RowKit
set_option linter.unusedVariables false

theorem one_size {w w1 : World} {o : Obj} (b : Below (w.alloc o).heap.size (w.alloc o) w1) : w.heap.size < w1.heap.size := by have := b.size; simp at this; omega
theorem box_facts {w w1 : World} {k a t v : Value} {T : TypeId} (b : Below (w.alloc (.cells #[k, a, t, v] T)).heap.size (w.alloc (.cells #[k, a, t, v] T)) w1) :
    w1.cell? ⟨w.heap.size, 0, none⟩ = some k ∧ w1.cell? ⟨w.heap.size, 1, none⟩ = some a ∧ w1.cell? ⟨w.heap.size, 2, none⟩ = some t ∧ w1.cell? ⟨w.heap.size, 3, none⟩ = some v ∧ Below w.heap.size w w1 := by
  have hc := (bcell b).1
  have e : (w.alloc (.cells #[k, a, t, v] T)).heap.size = w.heap.size + 1 := by simp
  rw [e] at hc
  refine ⟨?_, ?_, ?_, ?_, (one_new2 w _).trans (b.mono (by simp))⟩ <;> rw [hc _ _ (by omega)] <;> simp [go_sem]
theorem sz1 {w w1 : World} {o : Obj} (b : Below (w.alloc o).heap.size (w.alloc o) w1) : w.heap.size < w1.heap.size := by have := b.size; simp at this; omega
theorem sz2 {w w1 : World} {o o' : Obj} (b : Below ((w.alloc o).alloc o').heap.size ((w.alloc o).alloc o') w1) : w.heap.size < w1.heap.size ∧ w.heap.size + 1 < w1.heap.size := by have := b.size; simp at this; omega
theorem BX.cells {w w' : World} {k a t v : Value} {T : TypeId} (h : BX (w.alloc (.cells #[k, a, t, v] T)) w') :
    w'.cell? ⟨w.heap.size, 0, none⟩ = some k ∧ w'.cell? ⟨w.heap.size, 1, none⟩ = some a ∧ w'.cell? ⟨w.heap.size, 2, none⟩ = some t ∧ w'.cell? ⟨w.heap.size, 3, none⟩ = some v ∧ BX (w.alloc (.cells #[k, a, t, v] T)) w' := by
  obtain ⟨c0, c1, c2, c3, _⟩ := box_facts h
  exact ⟨c0, c1, c2, c3, h⟩
/-- a token's variable, made and not yet written; a fault's -/
def LocT (w : World) (b : Nat) : Prop := b < w.heap.size ∧ (w.cell? ⟨b, 0, none⟩ = some (.int .i64 0) ∧ w.cell? ⟨b, 1, none⟩ = some (.int .i64 0) ∧ w.cell? ⟨b, 2, none⟩ = some (.string ⟨#[]⟩) ∧ w.cell? ⟨b, 3, none⟩ = some (.int .i64 0)) ∧ (w.frozen? ⟨b, 0, none⟩ = false ∧ w.frozen? ⟨b, 1, none⟩ = false ∧ w.frozen? ⟨b, 2, none⟩ = false ∧ w.frozen? ⟨b, 3, none⟩ = false)
def LocF (w : World) (b : Nat) : Prop := b < w.heap.size ∧ (w.cell? ⟨b, 0, none⟩ = some (.int .i64 0) ∧ w.cell? ⟨b, 1, none⟩ = some (.int .i64 0)) ∧ (w.frozen? ⟨b, 0, none⟩ = false ∧ w.frozen? ⟨b, 1, none⟩ = false)
theorem LocT.below {w w' : World} {b : Nat} (h : LocT w b) (hb : Below w.heap.size w w') : LocT w' b := by
  obtain ⟨hc, hf⟩ := bcell hb
  obtain ⟨hl, ⟨h0, h1, h2, h3⟩, f0, f1, f2, f3⟩ := h
  exact ⟨Nat.lt_of_lt_of_le hl hb.size, ⟨by rw [hc _ _ hl]; exact h0, by rw [hc _ _ hl]; exact h1, by rw [hc _ _ hl]; exact h2, by rw [hc _ _ hl]; exact h3⟩, by rw [hf _ _ hl]; exact f0, by rw [hf _ _ hl]; exact f1, by rw [hf _ _ hl]; exact f2, by rw [hf _ _ hl]; exact f3⟩
theorem LocF.below {w w' : World} {b : Nat} (h : LocF w b) (hb : Below w.heap.size w w') : LocF w' b := by
  obtain ⟨hc, hf⟩ := bcell hb
  obtain ⟨hl, ⟨h0, h1⟩, f0, f1⟩ := h
  exact ⟨Nat.lt_of_lt_of_le hl hb.size, ⟨by rw [hc _ _ hl]; exact h0, by rw [hc _ _ hl]; exact h1⟩, by rw [hf _ _ hl]; exact f0, by rw [hf _ _ hl]; exact f1⟩
theorem locT_new (w : World) (T : TypeId) : LocT (w.alloc (.cells #[.int .i64 0, .int .i64 0, .string ⟨#[]⟩, .int .i64 0] T)) w.heap.size := by
  refine ⟨by simp, ⟨?_, ?_, ?_, ?_⟩, ?_, ?_, ?_, ?_⟩ <;> simp [go_sem]
theorem locF_new (w : World) (T : TypeId) : LocF (w.alloc (.cells #[.int .i64 0, .int .i64 0] T)) w.heap.size := by
  refine ⟨by simp, ⟨?_, ?_⟩, ?_, ?_⟩ <;> simp [go_sem]
theorem size_alloc1 (w : World) (o : Obj) : (w.alloc o).heap.size = w.heap.size + 1 := by simp
abbrev tokZ (T : TypeId) : Obj := .cells #[.int .i64 0, .int .i64 0, .string ⟨#[]⟩, .int .i64 0] T
abbrev fauZ (T : TypeId) : Obj := .cells #[.int .i64 0, .int .i64 0] T
theorem locTF {u w1 : World} {T T' : TypeId} (b : Below ((u.alloc (.cells #[.int .i64 0, .int .i64 0, .string ⟨#[]⟩, .int .i64 0] T)).alloc (.cells #[.int .i64 0, .int .i64 0] T')).heap.size ((u.alloc (.cells #[.int .i64 0, .int .i64 0, .string ⟨#[]⟩, .int .i64 0] T)).alloc (.cells #[.int .i64 0, .int .i64 0] T')) w1) : LocT w1 u.heap.size ∧ LocF w1 (u.heap.size + 1) := by
  have h := locF_new (u.alloc (.cells #[.int .i64 0, .int .i64 0, .string ⟨#[]⟩, .int .i64 0] T)) T'
  rw [size_alloc1] at h
  exact ⟨((locT_new u T).below (one_new2 _ _)).below b, h.below b⟩
theorem locFT {u w1 : World} {T T' : TypeId} (b : Below ((u.alloc (.cells #[.int .i64 0, .int .i64 0] T')).alloc (.cells #[.int .i64 0, .int .i64 0, .string ⟨#[]⟩, .int .i64 0] T)).heap.size ((u.alloc (.cells #[.int .i64 0, .int .i64 0] T')).alloc (.cells #[.int .i64 0, .int .i64 0, .string ⟨#[]⟩, .int .i64 0] T)) w1) : LocF w1 u.heap.size ∧ LocT w1 (u.heap.size + 1) := by
  have h := locT_new (u.alloc (.cells #[.int .i64 0, .int .i64 0] T')) T
  rw [size_alloc1] at h
  exact ⟨((locF_new u T').below (one_new2 _ _)).below b, h.below b⟩
theorem locT {u w1 : World} {T : TypeId} (b : Below (u.alloc (.cells #[.int .i64 0, .int .i64 0, .string ⟨#[]⟩, .int .i64 0] T)).heap.size (u.alloc (.cells #[.int .i64 0, .int .i64 0, .string ⟨#[]⟩, .int .i64 0] T)) w1) : LocT w1 u.heap.size := (locT_new u T).below b
theorem locF {u w1 : World} {T : TypeId} (b : Below (u.alloc (.cells #[.int .i64 0, .int .i64 0] T)).heap.size (u.alloc (.cells #[.int .i64 0, .int .i64 0] T)) w1) : LocF w1 u.heap.size := (locF_new u T).below b
theorem LocT.call {w1 X w2 : World} {b : Nat} (h : LocT w1 b) (hX : Below w1.heap.size w1 X) (b2 : Below X.heap.size X w2) : LocT w2 b := (h.below hX).below b2
theorem LocF.call {w1 X w2 : World} {b : Nat} (h : LocF w1 b) (hX : Below w1.heap.size w1 X) (b2 : Below X.heap.size X w2) : LocF w2 b := (h.below hX).below b2
/-- what the walk asks, of a world and of it behind one allocation -/
theorem LocT.facts {w : World} {b : Nat} (h : LocT w b) : ((w.cell? ⟨b, 0, none⟩ = some (.int .i64 0) ∧ w.cell? ⟨b, 1, none⟩ = some (.int .i64 0) ∧ w.cell? ⟨b, 2, none⟩ = some (.string ⟨#[]⟩) ∧ w.cell? ⟨b, 3, none⟩ = some (.int .i64 0)) ∧ (w.frozen? ⟨b, 0, none⟩ = false ∧ w.frozen? ⟨b, 1, none⟩ = false ∧ w.frozen? ⟨b, 2, none⟩ = false ∧ w.frozen? ⟨b, 3, none⟩ = false)) ∧
    (((∀ o, (w.alloc o).cell? ⟨b, 0, none⟩ = some (.int .i64 0)) ∧ (∀ o, (w.alloc o).cell? ⟨b, 1, none⟩ = some (.int .i64 0)) ∧ (∀ o, (w.alloc o).cell? ⟨b, 2, none⟩ = some (.string ⟨#[]⟩)) ∧ (∀ o, (w.alloc o).cell? ⟨b, 3, none⟩ = some (.int .i64 0))) ∧ ((∀ o, (w.alloc o).frozen? ⟨b, 0, none⟩ = false) ∧ (∀ o, (w.alloc o).frozen? ⟨b, 1, none⟩ = false) ∧ (∀ o, (w.alloc o).frozen? ⟨b, 2, none⟩ = false) ∧ (∀ o, (w.alloc o).frozen? ⟨b, 3, none⟩ = false))) :=
  have q := fun o => h.below (one_new2 w o)
  ⟨⟨h.2.1, h.2.2⟩, ⟨fun o => (q o).2.1.1, fun o => (q o).2.1.2.1, fun o => (q o).2.1.2.2.1, fun o => (q o).2.1.2.2.2⟩, fun o => (q o).2.2.1, fun o => (q o).2.2.2.1, fun o => (q o).2.2.2.2.1, fun o => (q o).2.2.2.2.2⟩
theorem LocF.facts {w : World} {b : Nat} (h : LocF w b) : ((w.cell? ⟨b, 0, none⟩ = some (.int .i64 0) ∧ w.cell? ⟨b, 1, none⟩ = some (.int .i64 0)) ∧ (w.frozen? ⟨b, 0, none⟩ = false ∧ w.frozen? ⟨b, 1, none⟩ = false)) ∧
    (((∀ o, (w.alloc o).cell? ⟨b, 0, none⟩ = some (.int .i64 0)) ∧ (∀ o, (w.alloc o).cell? ⟨b, 1, none⟩ = some (.int .i64 0))) ∧ ((∀ o, (w.alloc o).frozen? ⟨b, 0, none⟩ = false) ∧ (∀ o, (w.alloc o).frozen? ⟨b, 1, none⟩ = false))) :=
  have q := fun o => h.below (one_new2 w o)
  ⟨⟨h.2.1, h.2.2⟩, ⟨fun o => (q o).2.1.1, fun o => (q o).2.1.2⟩, fun o => (q o).2.2.1, fun o => (q o).2.2.2⟩
set_option maxHeartbeats 40000000 in
theorem implIsToken_go (k a v : Int) (s : ByteArray) (w : World) (hs : s.size ≤ 1048576) (hT : Hid (Tabs w)) (h0 : 0 ≤ a) (h1 : a ≤ 4000) (f : ByteArray) (hf : Hid (ftS s = f)) (K A V F G : Int) (t : ByteArray)
    (HM : Hid (∀ w, Hid (Tabs w) → Calls Tryd.prog 39 #[.string f, .int .i64 a] w (SaysV w (.tuple #[.agg #[.int .i64 K, .int .i64 A, .string t, .int .i64 V], .agg #[.int .i64 F, .int .i64 G]]))))
    (r : Bool) (HR : Hid (r = ((F == 0) && ((K == k) && ((t.toList == s.toList) && (V == v)))))) (HA : Hid (F = 0 → (A == a) = true)) :
    Calls Tryd.prog 14 #[.agg #[.int .i64 k, .int .i64 a, .string s, .int .i64 v]] w (SaysB w r) := by
  have HF := Lib.hid (fun w hS => firstText_any s w hs hS)
  rw [hf.out] at HF
  have d0 := not_lt h0
  have d1 := not_lt h1
  obtain ⟨wb, hwb⟩ : ∃ wb, w.alloc (.cells #[.int .i64 k, .int .i64 a, .string s, .int .i64 v] 32) = wb := ⟨_, rfl⟩
  have HW := Lib.hid hwb
  have HB : Hid (∀ w', BX wb w' → w'.cell? ⟨w.heap.size, 0, none⟩ = some (.int .i64 k) ∧ w'.cell? ⟨w.heap.size, 1, none⟩ = some (.int .i64 a) ∧ w'.cell? ⟨w.heap.size, 2, none⟩ = some (.string s) ∧ w'.cell? ⟨w.heap.size, 3, none⟩ = some (.int .i64 v) ∧ BX wb w') := Lib.hid (fun w' h => by subst hwb; exact h.cells)
  have HBel : Hid (∀ w', BX wb w' → Below w.heap.size w w') := Lib.hid (fun w' h => by subst hwb; exact (one_new2 _ _).trans (Below.mono h (by simp)))
  have HTb : Hid (∀ w', BX wb w' → Tabs w') := Lib.hid (fun w' h => by subst hwb; exact hT.out.below ((one_new2 _ _).trans (Below.mono h (by simp))))
  clear hwb
  go_enter Tryd.func14, Tryd.ntmps14
  go_wp2_with fail
  rw [HW.out]
  go_region_held3 (fun w' => w'.cell? ⟨w.heap.size, 0, none⟩ = some (.int .i64 k) ∧ w'.cell? ⟨w.heap.size, 1, none⟩ = some (.int .i64 a) ∧ w'.cell? ⟨w.heap.size, 2, none⟩ = some (.string s) ∧ w'.cell? ⟨w.heap.size, 3, none⟩ = some (.int .i64 v) ∧ BX wb w')
    (first
      | (go_split_ands; refine HB.out _ ?_; repeat' (with_reducible first | exact BX.drew0 _ | exact BX.refl _ | assumption | refine BX.set ?_ ?_ _ | refine BX.alloc ?_ _ | refine BX.call' (by assumption) ?_ | refine BX.drew ?_ | refine BX.size ?_ | refine BX.size1 ?_)))
    (first
      | (go_at_call 40; go_split_ands; refine (HF.out _ (HTb.out _ (by assumption)).2.2.2).mono ?_; rintro e w1 ⟨rfl, b0⟩; have b1 := undrew b0; clear b0; (first | (have q := locTF b1; have LT1 := Lib.hid q.1; have LF1 := Lib.hid q.2; clear q) | (have q := locFT b1; have LF1 := Lib.hid q.1; have LT1 := Lib.hid q.2; clear q) | (have LT1 := Lib.hid (locT b1)) | (have LF1 := Lib.hid (locF b1)) | skip); (first | (have ql := LT1.out.1; have qn := Nat.ne_of_lt ql; have qm := Nat.ne_of_gt ql) | skip); (first | (have rl := LF1.out.1; have rn := Nat.ne_of_lt rl; have rm := Nat.ne_of_gt rl) | skip))
      | (go_at_call 39; go_split_ands; refine (HM.out _ (HTb.out _ (by assumption))).mono ?_; rintro e w2 ⟨rfl, b2⟩; (first | (have q := locTF b2; have LT2 := Lib.hid q.1; have LF2 := Lib.hid q.2; clear q) | (have q := locFT b2; have LF2 := Lib.hid q.1; have LT2 := Lib.hid q.2; clear q) | (have LT2 := Lib.hid (locT b2)) | (have LF2 := Lib.hid (locF b2)) | skip); (first | (have LT2 := Lib.hid (LT1.out.call (one_new2 _ _) b2)) | (have LT2 := Lib.hid (LT1.out.call (Below.refl _ _) b2)) | skip); (first | (have LF2 := Lib.hid (LF1.out.call (one_new2 _ _) b2)) | (have LF2 := Lib.hid (LF1.out.call (Below.refl _ _) b2)) | skip); (first | (have q := LT2.out.facts; go_split_ands) | skip); (first | (have q := LF2.out.facts; go_split_ands) | skip); (first | (have sl := LT2.out.1; have sn := Nat.ne_of_lt sl; have sm := Nat.ne_of_gt sl) | skip); (first | (have tl := LF2.out.1; have tn := Nat.ne_of_lt tl; have tm := Nat.ne_of_gt tl) | skip)))
  all_goals
    go_split_ands
    rcases Bool.eq_false_or_eq_true (F == 0) with e1 | e1
    · have e2 := HA.out (by simpa using e1)
      rcases Bool.eq_false_or_eq_true (K == k) with e3 | e3
      · rcases Bool.eq_false_or_eq_true (t.toList == s.toList) with e4 | e4
        · rcases Bool.eq_false_or_eq_true (V == v) with e5 | e5
          · have HX : Hid (r = true) := Lib.hid (by rw [HR.out, e1, e3, e4, e5]; rfl)
            go_wp2
            go_ret
            exact ⟨ret_bool HX.out.symm, HBel.out _ (by assumption)⟩
          · have HX : Hid (r = false) := Lib.hid (by rw [HR.out, e1, e3, e4, e5]; rfl)
            go_wp2
            go_ret
            exact ⟨ret_bool HX.out.symm, HBel.out _ (by assumption)⟩
        · have HX : Hid (r = false) := Lib.hid (by rw [HR.out, e1, e3, e4]; rfl)
          go_wp2
          go_ret
          exact ⟨ret_bool HX.out.symm, HBel.out _ (by assumption)⟩
      · have HX : Hid (r = false) := Lib.hid (by rw [HR.out, e1, e3]; rfl)
        go_wp2
        go_ret
        exact ⟨ret_bool HX.out.symm, HBel.out _ (by assumption)⟩
    · have HX : Hid (r = false) := Lib.hid (by rw [HR.out, e1]; rfl)
      go_wp2
      go_ret
      exact ⟨ret_bool HX.out.symm, HBel.out _ (by assumption)⟩
theorem implIsToken_out (k a v : Int) (s : ByteArray) (w : World) (h : a < 0 ∨ (0 ≤ a ∧ 4000 < a)) :
    Calls Tryd.prog 14 #[.agg #[.int .i64 k, .int .i64 a, .string s, .int .i64 v]] w (SaysB w false) := by
  rcases h with h | ⟨h, h2⟩
  · have d0 := is_lt h
    go_enter Tryd.func14, Tryd.ntmps14
    go_wp2
    go_ret
    exact ⟨rfl, one_new2 _ _⟩
  · have d0 := not_lt h
    have d1 := is_lt h2
    go_enter Tryd.func14, Tryd.ntmps14
    go_wp2
    go_ret
    exact ⟨rfl, one_new2 _ _⟩
theorem implIsToken_any (k a v : Int) (s : ByteArray) (w : World) (hs : s.size ≤ 1048576) (hT : Hid (Tabs w)) :
    Calls Tryd.prog 14 #[.agg #[.int .i64 k, .int .i64 a, .string s, .int .i64 v]] w (SaysB w (goodT k a s v)) := by
  rcases in_cases a with ⟨h0, h1, hi⟩ | ⟨h, hi⟩ | ⟨h, h2, hi⟩
  · have hsz : (ftS s).size ≤ 1048576 := by rw [ftS_eq]; have := ftL_len s.data.toList; rw [← size_list] at this; omega
    have HM := fun w hT => tokenOf_any (ftS s) a w hsz hT
    have hg := good_in (k := k) (v := v) (s := s) hi
    rw [← ftS_eq] at hg
    by_cases hf : tkFa (ftS s) = 0
    · rw [(tokR_yes a hf rfl rfl).1, (tokR_yes a hf rfl rfl).2] at HM
      refine implIsToken_go k a v s w hs hT h0 h1 (ftS s) rfl _ _ _ _ _ _ (Lib.hid HM) _ (Lib.hid ?_) (Lib.hid fun _ => by simp)
      rw [hg, decide_eq_true hf]; rfl
    · rw [(tokR_no a rfl hf).1, (tokR_no a rfl hf).2] at HM
      refine implIsToken_go k a v s w hs hT h0 h1 (ftS s) rfl _ _ _ _ _ _ (Lib.hid HM) _ (Lib.hid ?_) (Lib.hid fun q => absurd q hf)
      rw [hg, decide_eq_false hf]
      have : (tkFa (ftS s) == 0) = false := by simpa using hf
      rw [this]; rfl
  · rw [good_out hi]; exact implIsToken_out k a v s w (.inl h)
  · rw [good_out hi]; exact implIsToken_out k a v s w (.inr ⟨h, h2⟩)
end Go.Proofs.YtdmcgjohpnojkaaDoor
