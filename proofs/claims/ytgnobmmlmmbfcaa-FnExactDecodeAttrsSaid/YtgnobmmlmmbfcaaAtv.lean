/- What a binary form holds: the model's. -/
import Derived.Test.YtgnobmmlmmbfcaaAtu
namespace Go.Proofs.Ytgnobmmlmmbfcaa
open Go.RowKit
set_option linter.unusedVariables false
set_option linter.unusedSimpArgs false
set_option maxRecDepth 100000

theorem list_all (g : Nat) (s : ByteArray) (hs : s.size ≤ 6000) : ∀ M, ListAt g M s := by
  intro M
  induction M using Nat.strongRecOn with
  | ind M ih => exact fun dp a en out v w hM hR hen hae hdp hlen => list_of g M dp a en out s v w (Lib.hid ih) hM (Lib.hid hR) hs hen hae hdp hlen
theorem RdrAt.new (w : World) (s : ByteArray) (T : TypeId) : RdrAt (w.alloc (.cells #[.string s, .slice none 0 0] T)) w.heap.size s T (.slice none 0 0) [] := ⟨BoxAt.new _ _ _, OwnA.nil _ _⟩
/-- what a reading answers -/
def SaysD (w : World) (R : List At × (Nat × Nat)) (e : Ending) (w' : World) : Prop := ∃ v, e = .returned (.tuple #[v, fuV R.2]) ∧ OwnA w' w.heap.size v R.1 ∧ Below w.heap.size w w'
theorem res2 {wr : World} {b : Nat} {T : TypeId} (h : BoxAt wr b #[.int .i64 0, .int .i64 0] T) (x y : Value) :
    ((wr.setCell ⟨b, 0, none⟩ x).setCell ⟨b, 1, none⟩ y).cell? ⟨b, 0, none⟩ = some x ∧ ((wr.setCell ⟨b, 0, none⟩ x).setCell ⟨b, 1, none⟩ y).cell? ⟨b, 1, none⟩ = some y :=
  ⟨(((h.set0 x).set1 y).cell 0).trans rfl, (((h.set0 x).set1 y).cell 1).trans rfl⟩
set_option maxHeartbeats 12800000 in
theorem tvDecode_any (s : ByteArray) (w : World) : Calls Try.prog 10 #[.string s] w (SaysD w (dcF s)) := by
  obtain ⟨R, hR⟩ : ∃ R, dcF s = R := ⟨_, rfl⟩
  rw [hR]
  by_cases hs : 6000 < s.size
  · have HX : Hid (R = ([], (5, 0))) := Lib.hid (by rw [← hR]; unfold dcF; rw [if_pos hs])
    clear hR
    obtain rfl := HX.out
    have ds : decide ((6000 : Int) < (s.size : Int)) = true := is_lt (by omega)
    have HF := Lib.hid (fun w => tvFault_any 5 0 w)
    go_enter Try.func10, Try.ntmps10
    go_wp2_with (go_at_call 14; refine (HF.out _).mono ?_; rintro e wf ⟨rfl, b⟩; unfold fuV; obtain ⟨r0, r1, f0, f1, bb⟩ := res_cell (b); have BF := Lib.hid ((box_two0 w).below b); have BB := Lib.hid bb; clear b bb)
    obtain ⟨q0, q1⟩ := res2 BF.out (.int .i64 5) (.int .i64 0)
    exact bodyPost_ret (v := .tuple #[.slice none 0 0, .agg #[.int .i64 5, .int .i64 0]]) (by simp [results, Try.results10, go_sem, q0, q1]) rfl ⟨.slice none 0 0, rfl, OwnA.nil _ _, set_two BB.out _ _⟩
  · have ds : decide ((6000 : Int) < (s.size : Int)) = false := not_lt (by omega)
    obtain ⟨⟨o, fk, fa⟩, hr⟩ : ∃ r, LS s 1 0 s.size [] = r := ⟨_, rfl⟩
    have HX : Hid (R = if 0 < fk then ([], (fk, fa)) else (o, (fk, fa))) := Lib.hid (by rw [← hR, dcF_eq, if_neg hs, hr])
    have HC : Hid (∀ g v' w', RdrAt w' g s 40 v' [] → Calls Try.prog 15 #[.pointer (some ⟨g, 0, none⟩), .int .i64 1, .int .i64 0, .int .i64 (s.size : Int)] w' (SaysL g s 40 v' w' (o, (fk, fa)))) := Lib.hid (fun g v' w' h => by
      have q := list_all g s (by omega) (s.size - 0) 1 0 s.size [] v' w' (Nat.le_refl _) h (Nat.le_refl _) (Nat.zero_le _) (by omega) (by simp)
      rw [hr] at q
      exact q)
    clear hr hR
    have HR0 := Lib.hid (RdrAt.new (w.alloc (.cells #[.int .i64 0, .int .i64 0] 24)) s 40)
    have HB0 := Lib.hid ((box_two0 w).below (one_new2 _ (.cells #[.string s, .slice none 0 0] 40)))
    rw [show (w.alloc (.cells #[.int .i64 0, .int .i64 0] 24)).heap.size = w.heap.size + 1 by simp] at HR0
    go_enter Try.func10, Try.ntmps10
    go_upto_region 5 with (go_at_call 15; refine (HC.out _ _ _ HR0.out).mono ?_; rintro e w9 ⟨rfl, v9, r9, k9⟩; unfold fuV; have R9 := Lib.hid r9; have K9 := Lib.hid k9; have B9 := Lib.hid (HB0.out.keep k9 (by omega) (by simp [Value.ownBlock])); clear r9 k9)
    have bn := one_new2 w9 (.cells #[.int .i64 fk, .int .i64 fa] 24)
    have RA := Lib.hid (R9.out.on bn)
    have BA := Lib.hid (B9.out.below bn)
    have TA := Lib.hid (BoxAt.new w9 #[.int .i64 fk, .int .i64 fa] 24)
    have KA := Lib.hid (K9.out.call (by simp) bn)
    have hn3 : w.heap.size < w9.heap.size := B9.out.lt
    obtain ⟨wa, hwa⟩ : ∃ wa, w9.alloc (.cells #[.int .i64 fk, .int .i64 fa] 24) = wa := ⟨_, rfl⟩
    rw [hwa] at RA BA TA KA ⊢
    obtain ⟨t5, ht5⟩ : ∃ t5, w9.heap.size = t5 := ⟨_, rfl⟩
    rw [ht5] at TA hn3 ⊢
    have BW := Lib.hid ((two_new w (.cells #[.int .i64 0, .int .i64 0] 24) (.cells #[.string s, .slice none 0 0] 40)).trans ((KA.out.below (B := w.heap.size) (by omega))))
    have q5 := TA.out.cell 0
    clear bn hwa ht5 R9 B9 K9 HR0 HB0 HC KA
    have XD : Hid (Below wa.heap.size wa wa.drew) := Lib.hid (below_drewN (Below.refl _ _) 1)
    have RD := Lib.hid (RA.out.on XD.out)
    have BD := Lib.hid (BA.out.below XD.out)
    have TD := Lib.hid (TA.out.below XD.out)
    have WD := Lib.hid (BW.out.trans (XD.out.mono (by have := BW.out.size; omega)))
    by_cases hf : 0 < fk
    · have HY : Hid (R = ([], (fk, fa))) := Lib.hid (by rw [HX.out, if_pos hf])
      clear HX
      obtain rfl := HY.out
      go_upto_region 6 with fail
      refine wp_region_held_drew (S := fun w' => w'.cell? ⟨t5, 0, none⟩ = some (.int .i64 (fk : Int)) ∧ w'.cell? ⟨t5, 1, none⟩ = some (.int .i64 (fa : Int))) (by kernel_rfl) ?_ (fun hHeld => ?_)
      · exact ⟨TD.out.cell 0, TD.out.cell 1⟩
      generalize wa.drew = wd at RD BD TD WD hHeld ⊢
      refine held_take (i := 0) (d := 20) (v := ?_) rfl rfl (by kernel_rfl) (by kernel_rfl) (by kernel_rfl) (fun _ _ _ h => h) (by rfl) ?_ (by assumption) ?_
      rotate_left
      · intro w' hSw
        (try dsimp only at hSw)
        go_simp
        try with_reducible rfl
      set_option linter.unusedSimpArgs false in try simp only [Act.put, List.setIfInBounds_toArray, List.set_cons_zero, List.set_cons_succ]
      refine held_take (i := 1) (d := 2) (v := ?_) rfl rfl (by kernel_rfl) (by kernel_rfl) (by kernel_rfl) (fun _ _ _ h => h) (by rfl) ?_ (by assumption) ?_
      rotate_left
      · intro w' hSw
        (try dsimp only at hSw)
        go_simp
        try with_reducible rfl
      set_option linter.unusedSimpArgs false in try simp only [Act.put, List.setIfInBounds_toArray, List.set_cons_zero, List.set_cons_succ]
      have d0 := BD.out.cell 0
      have d1 := BD.out.cell 1
      have f0 := BD.out.open 0
      have f1 := BD.out.open 1
      refine wpAnyH_ready (rs := [2]) (by kernel_rfl) (by simp) ?_
      refine AllReadyH.cons rfl (fun K' hK => ?_) AllReadyH.nil
      go_simp
      refine hK.out _ _ ?_ (fun hHeld => ?_)
      · exact ⟨((TD.out.other (b' := w.heap.size) (j := 0) (by omega) _).other (b' := w.heap.size) (j := 1) (by omega) _).cell 0, ((TD.out.other (b' := w.heap.size) (j := 0) (by omega) _).other (b' := w.heap.size) (j := 1) (by omega) _).cell 1⟩
      clear hK K'
      set_option linter.unusedSimpArgs false in try simp only [Act.put, List.setIfInBounds_toArray, List.set_cons_zero, List.set_cons_succ]
      refine wpAnyH_done (by kernel_rfl) ?_ _
      obtain ⟨z0, z1⟩ := res2 BD.out (.int .i64 fk) (.int .i64 fa)
      go_wp2_with fail
      exact bodyPost_ret (v := .tuple #[.slice none 0 0, .agg #[.int .i64 fk, .int .i64 fa]]) (by simp [results, Try.results10, go_sem, z0, z1]) rfl ⟨.slice none 0 0, rfl, OwnA.nil _ _, set_two WD.out _ _⟩
    · have HY : Hid (R = (o, (fk, fa))) := Lib.hid (by rw [HX.out, if_neg hf])
      clear HX
      obtain rfl := HY.out
      go_upto_region 7 with fail
      refine wp_region_held_drew (S := fun w' => (w'.cell? ⟨t5, 0, none⟩ = some (.int .i64 (fk : Int)) ∧ w'.cell? ⟨t5, 1, none⟩ = some (.int .i64 (fa : Int))) ∧ w'.cell? ⟨w.heap.size + 1, 1, none⟩ = some v9) (by kernel_rfl) ?_ (fun hHeld => ?_)
      · exact ⟨⟨TD.out.cell 0, TD.out.cell 1⟩, RD.out.1.cell 1⟩
      generalize wa.drew = wd at RD BD TD WD hHeld ⊢
      refine held_take (i := 0) (d := 21) (v := ?_) rfl rfl (by kernel_rfl) (by kernel_rfl) (by kernel_rfl) (fun _ _ _ h => h) (by rfl) ?_ (by assumption) ?_
      rotate_left
      · intro w' hSw
        (try dsimp only at hSw)
        go_simp
        try with_reducible rfl
      set_option linter.unusedSimpArgs false in try simp only [Act.put, List.setIfInBounds_toArray, List.set_cons_zero, List.set_cons_succ]
      refine held_take (i := 1) (d := 22) (v := ?_) rfl rfl (by kernel_rfl) (by kernel_rfl) (by kernel_rfl) (fun _ _ _ h => h) (by rfl) ?_ (by assumption) ?_
      rotate_left
      · intro w' hSw
        (try dsimp only at hSw)
        go_simp
        try with_reducible rfl
      set_option linter.unusedSimpArgs false in try simp only [Act.put, List.setIfInBounds_toArray, List.set_cons_zero, List.set_cons_succ]
      refine held_take (i := 2) (d := 23) (v := ?_) rfl rfl (by kernel_rfl) (by kernel_rfl) (by kernel_rfl) (fun _ _ _ h => h) (by rfl) ?_ (by assumption) ?_
      rotate_left
      · intro w' hSw
        (try dsimp only at hSw)
        go_simp
        try with_reducible rfl
      set_option linter.unusedSimpArgs false in try simp only [Act.put, List.setIfInBounds_toArray, List.set_cons_zero, List.set_cons_succ]
      refine held_take (i := 3) (d := 24) (v := ?_) rfl rfl (by kernel_rfl) (by kernel_rfl) (by kernel_rfl) (fun _ _ _ h => h) (by rfl) ?_ (by assumption) ?_
      rotate_left
      · intro w' hSw
        (try dsimp only at hSw)
        go_simp
        try with_reducible rfl
      set_option linter.unusedSimpArgs false in try simp only [Act.put, List.setIfInBounds_toArray, List.set_cons_zero, List.set_cons_succ]
      refine held_take (i := 4) (d := 25) (v := ?_) rfl rfl (by kernel_rfl) (by kernel_rfl) (by kernel_rfl) (fun _ _ _ h => h) (by rfl) ?_ (by assumption) ?_
      rotate_left
      · intro w' hSw
        (try dsimp only at hSw)
        go_simp
        try with_reducible rfl
      set_option linter.unusedSimpArgs false in try simp only [Act.put, List.setIfInBounds_toArray, List.set_cons_zero, List.set_cons_succ]
      refine held_take (i := 5) (d := 2) (v := ?_) rfl rfl (by kernel_rfl) (by kernel_rfl) (by kernel_rfl) (fun _ _ _ h => h) (by rfl) ?_ (by assumption) ?_
      rotate_left
      · intro w' hSw
        (try dsimp only at hSw)
        go_simp
        try with_reducible rfl
      set_option linter.unusedSimpArgs false in try simp only [Act.put, List.setIfInBounds_toArray, List.set_cons_zero, List.set_cons_succ]
      have d0 := BD.out.cell 0
      have d1 := BD.out.cell 1
      have f0 := BD.out.open 0
      have f1 := BD.out.open 1
      refine wpAnyH_ready (rs := [6]) (by kernel_rfl) (by simp) ?_
      refine AllReadyH.cons rfl (fun K' hK => ?_) AllReadyH.nil
      go_simp
      refine hK.out _ _ ?_ (fun hHeld => ?_)
      · exact ⟨⟨((TD.out.other (b' := w.heap.size) (j := 0) (by omega) _).other (b' := w.heap.size) (j := 1) (by omega) _).cell 0, ((TD.out.other (b' := w.heap.size) (j := 0) (by omega) _).other (b' := w.heap.size) (j := 1) (by omega) _).cell 1⟩, ((RD.out.1.other (b' := w.heap.size) (j := 0) (by omega) _).other (b' := w.heap.size) (j := 1) (by omega) _).cell 1⟩
      clear hK K'
      set_option linter.unusedSimpArgs false in try simp only [Act.put, List.setIfInBounds_toArray, List.set_cons_zero, List.set_cons_succ]
      refine wpAnyH_done (by kernel_rfl) ?_ _
      obtain ⟨z0, z1⟩ := res2 BD.out (.int .i64 fk) (.int .i64 fa)
      go_wp2_with fail
      exact bodyPost_ret (v := .tuple #[v9, .agg #[.int .i64 fk, .int .i64 fa]]) (by simp [results, Try.results10, go_sem, z0, z1]) rfl ⟨v9, rfl, own_base (B' := w.heap.size) (B := w.heap.size + 1 + 1) (own_other (own_other RD.out.2 (fun q => by have := (World.ownsRow.lt RD.out.2 w.heap.size q).1; omega) _) (fun q => by have := (World.ownsRow.lt RD.out.2 w.heap.size q).1; omega) _) (by omega), set_two WD.out _ _⟩
def SaysD3 (w : World) (R : List At × (Nat × Nat)) (e : Ending) (w' : World) : Prop := ∃ v, e = .returned (.tuple #[v, fuV R.2, .bool (decide (R.2.1 = 0))]) ∧ OwnA w' w.heap.size v R.1 ∧ Below w.heap.size w w'
set_option maxHeartbeats 12800000 in
theorem specDecodeAttrs_any (s : ByteArray) (w : World) : Calls Try.prog 4 #[.string s] w (SaysD3 w (dcF s)) := by
  have HC := Lib.hid (fun w => tvDecode_any s w)
  obtain ⟨⟨o, fk, fa⟩, hR⟩ : ∃ R, dcF s = R := ⟨_, rfl⟩
  rw [hR] at HC ⊢
  clear hR
  obtain ⟨b, hb⟩ : ∃ b, decide (fk = 0) = b := ⟨_, rfl⟩
  have de : ((fk : Int) == 0) = b := by rw [← hb, Bool.eq_iff_iff]; simp
  have HE := Lib.hid hb
  clear hb
  go_enter Try.func4, Try.ntmps4
  go_upto_region 2 with (go_at_call 10; refine (HC.out _).mono ?_; rintro e w9 ⟨v, rfl, o9, b9⟩; unfold fuV; have O9 := Lib.hid o9; have B9 := Lib.hid ((box_two0 w).below b9); have W9 := Lib.hid ((one_new2 w (.cells #[.int .i64 0, .int .i64 0] 24)).trans (b9.mono (by simp))); clear o9 b9)
  have bn := one_new2 w9 (.cells #[.int .i64 fk, .int .i64 fa] 24)
  have OA := Lib.hid (own_low O9.out bn (Nat.le_refl _))
  have BA := Lib.hid (B9.out.below bn)
  have TA := Lib.hid (BoxAt.new w9 #[.int .i64 fk, .int .i64 fa] 24)
  have WA := Lib.hid (W9.out.alloc W9.out.size (.cells #[.int .i64 fk, .int .i64 fa] 24))
  have hn3 : w.heap.size < w9.heap.size := B9.out.lt
  obtain ⟨wa, hwa⟩ : ∃ wa, w9.alloc (.cells #[.int .i64 fk, .int .i64 fa] 24) = wa := ⟨_, rfl⟩
  rw [hwa] at OA BA TA WA ⊢
  obtain ⟨t5, ht5⟩ : ∃ t5, w9.heap.size = t5 := ⟨_, rfl⟩
  rw [ht5] at TA hn3 ⊢
  clear bn hwa ht5 O9 B9 W9
  have XD : Hid (Below wa.heap.size wa wa.drew) := Lib.hid (below_drewN (Below.refl _ _) 1)
  have OD := Lib.hid (own_low OA.out XD.out (Nat.le_refl _))
  have BD := Lib.hid (BA.out.below XD.out)
  have TD := Lib.hid (TA.out.below XD.out)
  have WD := Lib.hid (WA.out.trans (XD.out.mono WA.out.size))
  rw [show (w.alloc (.cells #[.int .i64 0, .int .i64 0] 24)).heap.size = w.heap.size + 1 by simp] at OD
  clear OA BA TA WA XD
  refine wp_region_held_drew (S := fun w' => w'.cell? ⟨t5, 0, none⟩ = some (.int .i64 (fk : Int)) ∧ w'.cell? ⟨t5, 1, none⟩ = some (.int .i64 (fa : Int))) (by kernel_rfl) ?_ (fun hHeld => ?_)
  · exact ⟨TD.out.cell 0, TD.out.cell 1⟩
  generalize wa.drew = wd at OD BD TD WD hHeld ⊢
  refine held_take (i := 0) (d := 12) (v := ?_) rfl rfl (by kernel_rfl) (by kernel_rfl) (by kernel_rfl) (fun _ _ _ h => h) (by rfl) ?_ (by assumption) ?_
  rotate_left
  · intro w' hSw
    (try dsimp only at hSw)
    go_simp
    try with_reducible rfl
  set_option linter.unusedSimpArgs false in try simp only [Act.put, List.setIfInBounds_toArray, List.set_cons_zero, List.set_cons_succ]
  refine held_take (i := 1) (d := 13) (v := ?_) rfl rfl (by kernel_rfl) (by kernel_rfl) (by kernel_rfl) (fun _ _ _ h => h) (by rfl) ?_ (by assumption) ?_
  rotate_left
  · intro w' hSw
    (try dsimp only at hSw)
    go_simp
    try with_reducible rfl
  set_option linter.unusedSimpArgs false in try simp only [Act.put, List.setIfInBounds_toArray, List.set_cons_zero, List.set_cons_succ]
  refine held_take (i := 2) (d := 14) (v := ?_) rfl rfl (by kernel_rfl) (by kernel_rfl) (by kernel_rfl) (fun _ _ _ h => h) (by rfl) ?_ (by assumption) ?_
  rotate_left
  · intro w' hSw
    (try dsimp only at hSw)
    go_simp
    try with_reducible rfl
  set_option linter.unusedSimpArgs false in try simp only [Act.put, List.setIfInBounds_toArray, List.set_cons_zero, List.set_cons_succ]
  refine held_take (i := 3) (d := 15) (v := ?_) rfl rfl (by kernel_rfl) (by kernel_rfl) (by kernel_rfl) (fun _ _ _ h => h) (by rfl) ?_ (by assumption) ?_
  rotate_left
  · intro w' hSw
    (try dsimp only at hSw)
    go_simp
    try with_reducible rfl
  set_option linter.unusedSimpArgs false in try simp only [Act.put, List.setIfInBounds_toArray, List.set_cons_zero, List.set_cons_succ]
  refine held_take (i := 4) (d := 16) (v := .bool b) rfl rfl (by kernel_rfl) (by kernel_rfl) (by kernel_rfl) (fun _ _ _ h => h) (by rfl) ?_ (by assumption) ?_
  · intro w' hSw
    (try dsimp only at hSw)
    go_simp
    try with_reducible rfl
  set_option linter.unusedSimpArgs false in try simp only [Act.put, List.setIfInBounds_toArray, List.set_cons_zero, List.set_cons_succ]
  refine held_take (i := 5) (d := 2) (v := ?_) rfl rfl (by kernel_rfl) (by kernel_rfl) (by kernel_rfl) (fun _ _ _ h => h) (by rfl) ?_ (by assumption) ?_
  rotate_left
  · intro w' hSw
    (try dsimp only at hSw)
    go_simp
    try with_reducible rfl
  set_option linter.unusedSimpArgs false in try simp only [Act.put, List.setIfInBounds_toArray, List.set_cons_zero, List.set_cons_succ]
  have d0 := BD.out.cell 0
  have d1 := BD.out.cell 1
  have f0 := BD.out.open 0
  have f1 := BD.out.open 1
  refine wpAnyH_ready (rs := [6]) (by kernel_rfl) (by simp) ?_
  refine AllReadyH.cons rfl (fun K' hK => ?_) AllReadyH.nil
  go_simp
  refine hK.out _ _ ?_ (fun hHeld => ?_)
  · exact ⟨((TD.out.other (b' := w.heap.size) (j := 0) (by omega) _).other (b' := w.heap.size) (j := 1) (by omega) _).cell 0, ((TD.out.other (b' := w.heap.size) (j := 0) (by omega) _).other (b' := w.heap.size) (j := 1) (by omega) _).cell 1⟩
  clear hK K'
  set_option linter.unusedSimpArgs false in try simp only [Act.put, List.setIfInBounds_toArray, List.set_cons_zero, List.set_cons_succ]
  refine held_take (i := 7) (d := 4) (v := ?_) rfl rfl (by kernel_rfl) (by kernel_rfl) (by kernel_rfl) (fun _ _ _ h => h) (by rfl) ?_ (by assumption) ?_
  rotate_left
  · intro w' hSw
    (try dsimp only at hSw)
    go_simp
    try with_reducible rfl
  set_option linter.unusedSimpArgs false in try simp only [Act.put, List.setIfInBounds_toArray, List.set_cons_zero, List.set_cons_succ]
  refine wpAnyH_done (by kernel_rfl) ?_ _
  obtain ⟨z0, z1⟩ := res2 BD.out (.int .i64 fk) (.int .i64 fa)
  go_wp2_with fail
  exact bodyPost_ret (v := .tuple #[v, .agg #[.int .i64 fk, .int .i64 fa], .bool b]) (by simp [results, Try.results4, go_sem, z0, z1]) rfl ⟨v, by rw [HE.out]; rfl, own_base (B' := w.heap.size) (B := w.heap.size + 1) (own_other (own_other OD.out (fun q => by have := (World.ownsRow.lt OD.out w.heap.size q).1; omega) _) (fun q => by have := (World.ownsRow.lt OD.out w.heap.size q).1; omega) _) (by omega), set_two WD.out _ _⟩
end Go.Proofs.Ytgnobmmlmmbfcaa
