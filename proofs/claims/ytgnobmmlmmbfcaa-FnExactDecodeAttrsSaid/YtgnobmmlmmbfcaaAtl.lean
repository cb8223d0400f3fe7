/- A binary form read, its panic caught: the program's DecodeAttrs. -/
import Derived.Test.YtgnobmmlmmbfcaaAtv
import Derived.Test.YtgnobmmlmmbfcaaAtb
namespace Go.Proofs.Ytgnobmmlmmbfcaa
open Go.RowKit
set_option linter.unusedVariables false
set_option linter.unusedSimpArgs false
set_option maxRecDepth 100000

theorem hdF_zero {s : ByteArray} {cnt dp a en : Nat} (h : (hdF s cnt dp a en).1 = 0) : hdF s cnt dp a en = (0, 0) := by
  unfold hdF at h ⊢
  split at h <;> first | cases h | skip
  rename_i h1
  rw [if_neg h1]
  split at h <;> first | cases h | skip
  rename_i h2
  rw [if_neg h2]
  split at h <;> first | cases h | skip
  rename_i h3
  rw [if_neg h3]
  split at h <;> first | cases h | skip
  rename_i h4
  rw [if_neg h4]
  split at h <;> first | cases h | skip
  rename_i h5
  rw [if_neg h5]
  split at h <;> first | cases h | skip
  rename_i h6
  rw [if_neg h6]
  split at h <;> first | cases h | skip
  rfl
theorem lsF_zero (s : ByteArray) : ∀ (f dp a en : Nat) (out : List At), (lsF s f dp a en out).2.1 = 0 → (lsF s f dp a en out).2 = (0, 0)
  | 0, _, _, _, _, _ => rfl
  | f + 1, dp, a, en, out, h => by
    rw [lsF] at h ⊢
    split at h
    · rename_i hlt
      rw [if_pos hlt]
      split at h
      · rename_i hf
        exact absurd h (by simp only; omega)
      · rename_i hf
        rw [if_neg hf]
        split at h
        · rename_i hk
          rw [if_pos hk]
          exact lsF_zero s f _ _ _ _ h
        · rename_i hk
          rw [if_neg hk]
          split at h
          · rename_i hg
            exact absurd h (by omega)
          · rename_i hg
            rw [if_neg hg]
            exact lsF_zero s f _ _ _ _ h
    · rename_i hlt
      rw [if_neg hlt]
theorem pair_eta {R : List At × (Nat × Nat)} {o : List At} {a b : Nat} (h : R = (o, (a, b))) : R.1 = o ∧ R.2 = (a, b) := by subst h; exact ⟨rfl, rfl⟩
set_option maxHeartbeats 12800000 in
theorem readForm_any (s : ByteArray) (w : World) : Calls Try.prog 11 #[.string s] w (SaysD w (dcF s)) := by
  have hmf : ∀ (fn : Fn) (first cap : Array Value) (w : World), (Instr.makeFunc fn first cap).run Try.prog w = .ok (.func fn first cap) w := fun _ _ _ _ => rfl
  obtain ⟨W0, hW0⟩ : ∃ W0, w.alloc (.cells #[.int .i64 0, .int .i64 0] 24) = W0 := ⟨_, rfl⟩
  have b0 : Below w.heap.size w W0 := by rw [← hW0]; exact one_new2 _ _
  have X0 : Hid (BoxAt W0 w.heap.size #[.int .i64 0, .int .i64 0] 24) := Lib.hid (by rw [← hW0]; exact box_two0 w)
  have HW := Lib.hid hW0
  have B0 := Lib.hid b0
  have hs0 : w.heap.size < W0.heap.size := X0.out.lt
  clear hW0 b0
  by_cases hs : 6000 < s.size
  · rw [show dcF s = ([], (5, 0)) by rw [dcF_eq, if_pos hs]]
    have ds : decide ((6000 : Int) < (s.size : Int)) = true := is_lt (by omega)
    show Calls _ _ _ _ fun e w' => ∃ v, e = .returned (.tuple #[v, .agg #[.int .i64 5, .int .i64 0]]) ∧ OwnA w' w.heap.size v [] ∧ Below w.heap.size w w'
    go_enter_defers Try.func11, Try.ntmps11
    go_wp2_with fail
    rw [HW.out]
    go_wp2_with (go_at_call 17; refine (refuse_yes 5 0 _).mono ?_; rintro e w' ⟨rfl, rfl⟩; unfold pnE fuV)
    refine leaves_cons (f := 16) (args := #[.pointer (some ⟨w.heap.size, 0, none⟩)]) (by simp) (by simp [go_sem]) ?_
    refine (catchPanicForm _ 5 0 _ _ [] _ X0).mono ?_
    rintro e u' w'' ⟨rfl, rfl, rfl⟩
    obtain ⟨y0, y1⟩ := res2 X0.out (.int .i64 5) (.int .i64 0)
    simp [Leaves, settle, results, Try.results11, go_sem, y0, y1]
    exact ⟨OwnA.nil _ _, (B0.out.setCell (Nat.le_refl _) _).setCell (Nat.le_refl _) _⟩
  · have ds : decide ((6000 : Int) < (s.size : Int)) = false := not_lt (by omega)
    obtain ⟨⟨o, fk, fa⟩, hr⟩ : ∃ r, LS s 1 0 s.size [] = r := ⟨_, rfl⟩
    have HC : Hid (∀ g v' w', RdrAt w' g s 45 v' [] → Calls Try.prog 18 #[.pointer (some ⟨g, 0, none⟩), .int .i64 0, .int .i64 (s.size : Int), .int .i64 1] w' (SaysP g s v' w' (o, (fk, fa)) (.tuple #[]))) := Lib.hid (fun g v' w' h => by
      have q := attrs_all g s (by omega) (s.size - 0) 1 0 s.size [] v' w' (Nat.le_refl _) h (Nat.le_refl _) (Nat.zero_le _) (by omega) (by simp)
      rw [hr] at q
      exact q)
    have HR0 := Lib.hid (RdrAt.new W0 s 45)
    have X1 := Lib.hid (X0.out.below (one_new2 W0 (.cells #[.string s, .slice none 0 0] 45)))
    have B1 := Lib.hid (B0.out.alloc B0.out.size (.cells #[.string s, .slice none 0 0] 45))
    obtain ⟨W1, hW1⟩ : ∃ W1, W0.alloc (.cells #[.string s, .slice none 0 0] 45) = W1 := ⟨_, rfl⟩
    rw [hW1] at HR0 X1 B1
    have HW1 := Lib.hid hW1
    clear hW1
    by_cases hf : 0 < fk
    · rw [show dcF s = ([], (fk, fa)) by rw [dcF_eq, if_neg hs, hr, if_pos hf]]
      clear hr hs
      show Calls _ _ _ _ fun e w' => ∃ v, e = .returned (.tuple #[v, .agg #[.int .i64 (fk : Int), .int .i64 (fa : Int)]]) ∧ OwnA w' w.heap.size v [] ∧ Below w.heap.size w w'
      go_enter_defers Try.func11, Try.ntmps11
      go_wp2_with fail
      rw [HW.out]
      go_wp2_with (first | (go_at_call 17; (with_reducible refine (refuse_no _ _ _).mono ?_); rintro e w' ⟨rfl, rfl⟩) | (go_at_call 18; rw [HW1.out]; refine (HC.out _ _ _ HR0.out).mono ?_; rintro e w9 h9; obtain ⟨rfl, b9⟩ := h9.bad hf; have X9 : Hid (BoxAt w9 w.heap.size #[.int .i64 0, .int .i64 0] 24) := Lib.hid ((b9.block _ hs0).trans X1.out); have B9 := Lib.hid (B1.out.trans (b9.mono (Nat.le_of_lt hs0))); clear h9 b9; unfold pnE fuV))
      refine leaves_cons (f := 16) (args := #[.pointer (some ⟨w.heap.size, 0, none⟩)]) (by simp) (by simp [go_sem]) ?_
      refine (catchPanicForm _ fk fa _ _ [] _ X9).mono ?_
      rintro e u' w'' ⟨rfl, rfl, rfl⟩
      obtain ⟨y0, y1⟩ := res2 X9.out (.int .i64 fk) (.int .i64 fa)
      simp [Leaves, settle, results, Try.results11, go_sem, y0, y1]
      exact ⟨OwnA.nil _ _, (B9.out.setCell (Nat.le_refl _) _).setCell (Nat.le_refl _) _⟩
    · rw [show dcF s = (o, (fk, fa)) by rw [dcF_eq, if_neg hs, hr, if_neg hf]]
      have hf0 : fk = 0 := by omega
      have hfa : fk = 0 → fa = 0 := fun h0 => by
        have q := lsF_zero s (s.size - 0) 1 0 s.size []
        rw [show lsF s (s.size - 0) 1 0 s.size [] = (o, (fk, fa)) from hr] at q
        exact congrArg Prod.snd (q h0)
      clear hr hs
      go_enter_defers Try.func11, Try.ntmps11
      go_wp2_with fail
      rw [HW.out]
      go_wp2_with (go_at_call 17; (with_reducible refine (refuse_no _ _ _).mono ?_); rintro e w' ⟨rfl, rfl⟩)
      rw [HW1.out]
      go_wp2_with (go_at_call 18; refine (HC.out _ _ _ HR0.out).mono ?_; rintro e w9 h9; obtain ⟨rfl, v9, r9, k9⟩ := h9.ok hf; have R9 := Lib.hid r9; have X9 := Lib.hid (X1.out.keep k9 (by omega) (by simp [Value.ownBlock])); have B9 := Lib.hid (B1.out.trans (k9.below (by omega))); clear h9 r9 k9; have c1 := R9.out.1.cell 1; have f0 := X9.out.open 0; have f1 := X9.out.open 1; have c20 := X9.out.cell 0; have c21 := X9.out.cell 1)
      refine leaves_cons (f := 16) (args := #[.pointer (some ⟨w.heap.size, 0, none⟩)]) (by simp) (by simp [go_sem]) ?_
      have XZ : BoxAt ((w9.setCell ⟨w.heap.size, 0, none⟩ (.int .i64 0)).setCell ⟨w.heap.size, 1, none⟩ (.int .i64 0)) w.heap.size #[.int .i64 0, .int .i64 0] 24 := (X9.out.set0 _).set1 _
      refine (catchIdleForm _ _ _ _ (Lib.hid XZ)).mono ?_
      rintro e u' w'' ⟨rfl, rfl, rfl⟩
      obtain ⟨y0, y1⟩ := res2 XZ (.int .i64 0) (.int .i64 0)
      simp [Leaves, settle, results, Try.results11, go_sem, y0, y1]
      have hq : v9.ownBlock ≠ some w.heap.size := fun q => by have := (World.ownsRow.lt R9.out.2 w.heap.size q).1; omega
      exact ⟨v9, by rw [hf0, show fa = 0 from hfa hf0]; rfl, own_base (B' := w.heap.size) (B := W0.heap.size + 1) (own_other (own_other (own_other (own_other R9.out.2 hq _) hq _) hq _) hq _) (by omega), (((B9.out.setCell (Nat.le_refl _) _).setCell (Nat.le_refl _) _).setCell (Nat.le_refl _) _).setCell (Nat.le_refl _) _⟩
set_option maxHeartbeats 12800000 in
theorem implDecodeAttrs_any (s : ByteArray) (w : World) : Calls Try.prog 5 #[.string s] w (SaysD3 w (dcF s)) := by
  have HC := Lib.hid (fun w => readForm_any s w)
  obtain ⟨⟨o, fk, fa⟩, hR⟩ : ∃ R, dcF s = R := ⟨_, rfl⟩
  rw [hR] at HC ⊢
  clear hR
  obtain ⟨b, hb⟩ : ∃ b, decide (fk = 0) = b := ⟨_, rfl⟩
  have de : ((fk : Int) == 0) = b := by rw [← hb, Bool.eq_iff_iff]; simp
  have HE := Lib.hid hb
  clear hb
  go_enter Try.func5, Try.ntmps5
  go_upto_region 2 with (go_at_call 11; refine (HC.out _).mono ?_; rintro e w9 ⟨v, rfl, o9, b9⟩; unfold fuV; have O9 := Lib.hid o9; have B9 := Lib.hid ((box_two0 w).below b9); have W9 := Lib.hid ((one_new2 w (.cells #[.int .i64 0, .int .i64 0] 24)).trans (b9.mono (by simp))); clear o9 b9)
  have bn := one_new2 w9 (.cells #[.int .i64 fk, .int .i64 fa] 24)
  have OA := Lib.hid (own_low O9.out bn (Nat.le_refl _))
  have BA := Lib.hid (B9.out.below bn)
  have TA := Lib.hid (BoxAt.new w9 #[.int .i64 fk, .int .i64 fa] 24)
  have WA := Lib.hid (W9.out.alloc W9.out.size (.cells #[.int .i64 fk, .int .i64 fa] 24))
  have hn3 : w.heap.size < w9.heap.size := B9.out.lt
  obtain ⟨wa, hwa⟩ : ∃ wa, w9.alloc (.cells #[.int .i64 fk, .int .i64 fa] 24) = wa := ⟨_, rfl⟩
  rw [hwa] at OA BA TA WA ⊢
  obtain ⟨t5, ht5⟩ : ∃ t5, w9.heap.size = t5 := ⟨_, rfl⟩
  rw [ht5] at TA hn3 ⊢
  clear bn hwa ht5 O9 B9 W9
  have XD : Hid (Below wa.heap.size wa wa.drew) := Lib.hid (below_drewN (Below.refl _ _) 1)
  have OD := Lib.hid (own_low OA.out XD.out (Nat.le_refl _))
  have BD := Lib.hid (BA.out.below XD.out)
  have TD := Lib.hid (TA.out.below XD.out)
  have WD := Lib.hid (WA.out.trans (XD.out.mono WA.out.size))
  rw [show (w.alloc (.cells #[.int .i64 0, .int .i64 0] 24)).heap.size = w.heap.size + 1 by simp] at OD
  clear OA BA TA WA XD
  refine wp_region_held_drew (S := fun w' => w'.cell? ⟨t5, 0, none⟩ = some (.int .i64 (fk : Int)) ∧ w'.cell? ⟨t5, 1, none⟩ = some (.int .i64 (fa : Int))) (by kernel_rfl) ?_ (fun hHeld => ?_)
  · exact ⟨TD.out.cell 0, TD.out.cell 1⟩
  generalize wa.drew = wd at OD BD TD WD hHeld ⊢
  refine held_take (i := 0) (d := 12) (v := ?_) rfl rfl (by kernel_rfl) (by kernel_rfl) (by kernel_rfl) (fun _ _ _ h => h) (by rfl) ?_ (by assumption) ?_
  rotate_left
  · intro w' hSw
    (try dsimp only at hSw)
    go_simp
    try with_reducible rfl
  set_option linter.unusedSimpArgs false in try simp only [Act.put, List.setIfInBounds_toArray, List.set_cons_zero, List.set_cons_succ]
  refine held_take (i := 1) (d := 13) (v := ?_) rfl rfl (by kernel_rfl) (by kernel_rfl) (by kernel_rfl) (fun _ _ _ h => h) (by rfl) ?_ (by assumption) ?_
  rotate_left
  · intro w' hSw
    (try dsimp only at hSw)
    go_simp
    try with_reducible rfl
  set_option linter.unusedSimpArgs false in try simp only [Act.put, List.setIfInBounds_toArray, List.set_cons_zero, List.set_cons_succ]
  refine held_take (i := 2) (d := 14) (v := ?_) rfl rfl (by kernel_rfl) (by kernel_rfl) (by kernel_rfl) (fun _ _ _ h => h) (by rfl) ?_ (by assumption) ?_
  rotate_left
  · intro w' hSw
    (try dsimp only at hSw)
    go_simp
    try with_reducible rfl
  set_option linter.unusedSimpArgs false in try simp only [Act.put, List.setIfInBounds_toArray, List.set_cons_zero, List.set_cons_succ]
  refine held_take (i := 3) (d := 15) (v := ?_) rfl rfl (by kernel_rfl) (by kernel_rfl) (by kernel_rfl) (fun _ _ _ h => h) (by rfl) ?_ (by assumption) ?_
  rotate_left
  · intro w' hSw
    (try dsimp only at hSw)
    go_simp
    try with_reducible rfl
  set_option linter.unusedSimpArgs false in try simp only [Act.put, List.setIfInBounds_toArray, List.set_cons_zero, List.set_cons_succ]
  refine held_take (i := 4) (d := 16) (v := .bool b) rfl rfl (by kernel_rfl) (by kernel_rfl) (by kernel_rfl) (fun _ _ _ h => h) (by rfl) ?_ (by assumption) ?_
  · intro w' hSw
    (try dsimp only at hSw)
    go_simp
    try with_reducible rfl
  set_option linter.unusedSimpArgs false in try simp only [Act.put, List.setIfInBounds_toArray, List.set_cons_zero, List.set_cons_succ]
  refine held_take (i := 5) (d := 2) (v := ?_) rfl rfl (by kernel_rfl) (by kernel_rfl) (by kernel_rfl) (fun _ _ _ h => h) (by rfl) ?_ (by assumption) ?_
  rotate_left
  · intro w' hSw
    (try dsimp only at hSw)
    go_simp
    try with_reducible rfl
  set_option linter.unusedSimpArgs false in try simp only [Act.put, List.setIfInBounds_toArray, List.set_cons_zero, List.set_cons_succ]
  have d0 := BD.out.cell 0
  have d1 := BD.out.cell 1
  have f0 := BD.out.open 0
  have f1 := BD.out.open 1
  refine wpAnyH_ready (rs := [6]) (by kernel_rfl) (by simp) ?_
  refine AllReadyH.cons rfl (fun K' hK => ?_) AllReadyH.nil
  go_simp
  refine hK.out _ _ ?_ (fun hHeld => ?_)
  · exact ⟨((TD.out.other (b' := w.heap.size) (j := 0) (by omega) _).other (b' := w.heap.size) (j := 1) (by omega) _).cell 0, ((TD.out.other (b' := w.heap.size) (j := 0) (by omega) _).other (b' := w.heap.size) (j := 1) (by omega) _).cell 1⟩
  clear hK K'
  set_option linter.unusedSimpArgs false in try simp only [Act.put, List.setIfInBounds_toArray, List.set_cons_zero, List.set_cons_succ]
  refine held_take (i := 7) (d := 4) (v := ?_) rfl rfl (by kernel_rfl) (by kernel_rfl) (by kernel_rfl) (fun _ _ _ h => h) (by rfl) ?_ (by assumption) ?_
  rotate_left
  · intro w' hSw
    (try dsimp only at hSw)
    go_simp
    try with_reducible rfl
  set_option linter.unusedSimpArgs false in try simp only [Act.put, List.setIfInBounds_toArray, List.set_cons_zero, List.set_cons_succ]
  refine wpAnyH_done (by kernel_rfl) ?_ _
  obtain ⟨z0, z1⟩ := res2 BD.out (.int .i64 fk) (.int .i64 fa)
  go_wp2_with fail
  exact bodyPost_ret (v := .tuple #[v, .agg #[.int .i64 fk, .int .i64 fa], .bool b]) (by simp [results, Try.results5, go_sem, z0, z1]) rfl ⟨v, by rw [HE.out]; rfl, own_base (B' := w.heap.size) (B := w.heap.size + 1) (own_other (own_other OD.out (fun q => by have := (World.ownsRow.lt OD.out w.heap.size q).1; omega) _) (fun q => by have := (World.ownsRow.lt OD.out w.heap.size q).1; omega) _) (by omega), set_two WD.out _ _⟩
end Go.Proofs.Ytgnobmmlmmbfcaa
