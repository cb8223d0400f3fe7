/- ParseCurve: the model's contract (written by tools/gen_cvr.py). -/
import Derived.Test.YteogadbjnmcblaaDoorCvq
import Derived.Deep.CutRange
import Derived.Deep.RegionHeld3
namespace Go.Proofs.YteogadbjnmcblaaDoor
set_option maxRecDepth 100000
open Go.RowKit
set_option linter.unusedVariables false
set_option linter.unusedSimpArgs false

/-- the curve that three texts name -/
def pcV (l : List ByteArray) : Cv := ⟨optM (rnr (l.getD 0 ⟨#[]⟩).data.toList), optM (rnr (l.getD 1 ⟨#[]⟩).data.toList), optM (rnr (l.getD 2 ⟨#[]⟩).data.toList)⟩
def resParseCurve2 (s : ByteArray) : Bool := ((spB s).length == 3) && (goodV (pcV (spB s)) && ((resCurveText (pcV (spB s))).toList == s.toList))
def resParseCurve1 (s : ByteArray) : Cv := if resParseCurve2 s then pcV (spB s) else cv0
theorem pc_no {s : ByteArray} (h : resParseCurve2 s = false) : resParseCurve1 s = cv0 := by unfold resParseCurve1; rw [h]; rfl
theorem pc_yes {s : ByteArray} (h : resParseCurve2 s = true) : resParseCurve1 s = pcV (spB s) := by unfold resParseCurve1; rw [h]; rfl
theorem pc_len {s : ByteArray} (h : ¬ (spB s).length = 3) : resParseCurve2 s = false := by unfold resParseCurve2; rw [beq_false_of_ne h]; rfl
theorem pc_bad {s : ByteArray} (h : goodV (pcV (spB s)) = false) : resParseCurve2 s = false := by unfold resParseCurve2; rw [h]; simp
theorem pc_good {s : ByteArray} (h3 : (spB s).length = 3) (h : goodV (pcV (spB s)) = true) : resParseCurve2 s = ((resCurveText (pcV (spB s))).toList == s.toList) := by unfold resParseCurve2; rw [h, h3]; simp
theorem list3 {α : Type} {l : List α} (h : l.length = 3) : ∃ a b c, l = [a, b, c] := by
  match l, h with
  | [a, b, c], _ => exact ⟨a, b, c, rfl⟩
theorem spF_size (s : ByteArray) : ∀ (k a : Nat) (p : ByteArray), p ∈ spF s a k → p.size ≤ s.size
  | 0, a, p, h => by
    simp only [spF, List.mem_cons, List.not_mem_nil, or_false] at h
    subst h
    rw [ByteArray.size_extract]; omega
  | k + 1, a, p, h => by
    unfold spF at h
    split at h
    · rcases List.mem_cons.1 h with h | h
      · subst h; rw [ByteArray.size_extract]; omega
      · exact spF_size s k _ p h
    · exact spF_size s k _ p h
theorem spB_size (s p : ByteArray) (h : p ∈ spB s) : p.size ≤ s.size := spF_size s _ _ p h
/-- the cells of a result that is a curve are there -/
def ThreeS (w1 : World) (b : Nat) : Prop := (w1.cell? ⟨b, 0, none⟩).isSome = true ∧ (w1.cell? ⟨b, 1, none⟩).isSome = true ∧ (w1.cell? ⟨b, 2, none⟩).isSome = true
theorem ThreeIs.some {w : World} {b : Nat} {a0 a1 a2 : Value} (h : ThreeIs w b a0 a1 a2) : ThreeS w b := by
  obtain ⟨h0, h1, h2, _⟩ := h
  exact ⟨by rw [h0]; rfl, by rw [h1]; rfl, by rw [h2]; rfl⟩
theorem readS3 {w1 : World} {b : Nat} (h : ThreeS w1 b) (v0 v1 v2 : Value) (W : World) (hW : W = ((w1.setCell ⟨b, 0, none⟩ v0).setCell ⟨b, 1, none⟩ v1).setCell ⟨b, 2, none⟩ v2) :
    W.cell? ⟨b, 0, none⟩ = some v0 ∧ W.cell? ⟨b, 1, none⟩ = some v1 ∧ W.cell? ⟨b, 2, none⟩ = some v2 := by
  obtain ⟨h0, h1, h2⟩ := h
  subst hW
  refine ⟨?_, ?_, ?_⟩ <;> simp [go_sem, World.cell?_setCell_other, World.cell?_setCell_same', h0, h1, h2]
theorem setS3 {n : Nat} {w w1 : World} (h : Below n w w1) (b : Nat) (hb : n ≤ b) (v0 v1 v2 : Value) : Below n w (((w1.setCell ⟨b, 0, none⟩ v0).setCell ⟨b, 1, none⟩ v1).setCell ⟨b, 2, none⟩ v2) :=
  ((h.setCell hb _).setCell hb _).setCell hb _
theorem putS3 {w1 : World} {b : Nat} (h : ThreeS w1 b) (hb : b < w1.heap.size) (v0 v1 v2 : Value) : ThreeIs (((w1.setCell ⟨b, 0, none⟩ v0).setCell ⟨b, 1, none⟩ v1).setCell ⟨b, 2, none⟩ v2) b v0 v1 v2 := by
  obtain ⟨r0, r1, r2⟩ := readS3 h v0 v1 v2 _ rfl
  exact ⟨r0, r1, r2, by simpa [Go.Deep.nblk_setCell] using hb⟩
def FroC (w : World) (g : Nat) : Prop := ∀ o, w.frozen? ⟨g, o, none⟩ = false
theorem FroC.on {w w1 : World} {g : Nat} (h : FroC w g) (b : Below w.heap.size w w1) (hg : g < w.heap.size) : FroC w1 g := fun o => ((bcell b).2 g o hg).trans (h o)
theorem FroC.new (w : World) (a : Array Value) (t : TypeId) : FroC (w.alloc (.cells a t)) w.heap.size := fun o => by simp
def DbR (w1 : World) (n0 n1 n2 : Int) (v : Value) (wx : World) : Prop := ∃ bx, v = .pointer (some ⟨bx, 0, none⟩) ∧ Below w1.heap.size w1 wx ∧ w1.heap.size ≤ bx ∧ ThreeIs wx bx (.int .i64 n0) (.int .i64 n1) (.int .i64 n2)
set_option maxHeartbeats 6400000 in
theorem cuParse_any (s : ByteArray) (w : World) (hs : s.size ≤ 1048576) : Calls Tryd.prog 16 #[.string s] w (SaysT2 w (cvV (resParseCurve1 s)) (.bool (resParseCurve2 s))) := by
  have HS := Lib.hid (fun w => l1Split_any s w hs)
  have SP := Lib.hid (spB_size s)
  have T0 : ThreeIs (w.alloc (Obj.cells #[.int .i64 0, .int .i64 0, .int .i64 0] 26)) w.heap.size (.int .i64 0) (.int .i64 0) (.int .i64 0) := three_is w _ _ _ _
  have F0 : FroC (w.alloc (Obj.cells #[.int .i64 0, .int .i64 0, .int .i64 0] 26)) w.heap.size := FroC.new w _ _
  have hw0 : w.heap.size < (w.alloc (Obj.cells #[.int .i64 0, .int .i64 0, .int .i64 0] 26)).heap.size := by simp
  by_cases h3 : (spB s).length = 3
  case neg =>
    have dq : (((spB s).length : Int) != 3) = true := by simp; omega
    rw [pc_no (pc_len h3), pc_len h3]
    unfold cvV cv0
    simp only
    go_enter Tryd.func16, Tryd.ntmps16
    go_wp2_with (go_at_call 26; refine (HS.out _).mono ?_; rintro e w1 ⟨v1, rfl, o1, b1⟩; have B1 := Lib.hid ((one_new2 w _).trans (b1.mono (by simp))); have F1 := Lib.hid (T0.on b1); obtain ⟨y0, y1, y2, _⟩ := F1.out; have G1 := F0.on b1 hw0; have z0 := G1 0; have z1 := G1 1; have z2 := G1 2; obtain ⟨a1, c1, rfl, _⟩ := own_in o1; clear b1 o1 G1)
    obtain ⟨r0, r1, r2⟩ := readS3 F1.out.some (.int .i64 0) (.int .i64 0) (.int .i64 0) _ rfl
    exact bodyPost_ret (v := .tuple #[.agg #[.int .i64 0, .int .i64 0, .int .i64 0], .bool false]) (by simp [results, Tryd.results16, go_sem, r0, r1, r2]) rfl ⟨rfl, setS3 B1.out _ (Nat.le_refl _) _ _ _⟩
  obtain ⟨p0, p1, p2, hp⟩ := list3 h3
  have H3 := Lib.hid h3
  have HG1 := Lib.hid (fun h => pc_bad (s := s) h)
  have HG2 := Lib.hid (fun h => pc_good (s := s) h3 h)
  have HN := Lib.hid (fun h => pc_no (s := s) h)
  have HY := Lib.hid (fun h => pc_yes (s := s) h)
  rw [hp] at HS SP HG1 HG2 HY
  have hs0 : p0.size ≤ 1048576 := by have := SP.out p0 (by simp); omega
  have hs1 : p1.size ≤ 1048576 := by have := SP.out p1 (by simp); omega
  have hs2 : p2.size ≤ 1048576 := by have := SP.out p2 (by simp); omega
  have HR0 := Lib.hid (fun w => nuRead_any p0 w hs0)
  have HR1 := Lib.hid (fun w => nuRead_any p1 w hs1)
  have HR2 := Lib.hid (fun w => nuRead_any p2 w hs2)
  simp only [pcV, List.getD_cons_zero, List.getD_cons_succ] at HG1 HG2 HY
  generalize optM (rnr p0.data.toList) = n0 at HR0 HG1 HG2 HY
  generalize optM (rnr p1.data.toList) = n1 at HR1 HG1 HG2 HY
  generalize optM (rnr p2.data.toList) = n2 at HR2 HG1 HG2 HY
  generalize resParseCurve1 s = R1 at HN HY ⊢
  generalize resParseCurve2 s = R2 at HN HY HG1 HG2 ⊢
  clear hp h3 SP H3
  have HGD := Lib.hid (fun w => cuGood_any ⟨n0, n1, n2⟩ w)
  unfold cvV at HGD
  simp only at HGD
  go_enter Tryd.func16, Tryd.ntmps16
  go_wp2_with (go_at_call 26; refine (HS.out _).mono ?_; rintro e w1 ⟨v1, rfl, o1, b1⟩; have B1 := Lib.hid ((one_new2 w _).trans (b1.mono (by simp))); have F1 := Lib.hid (T0.on b1); have G1 := Lib.hid (F0.on b1 hw0); obtain ⟨g, c1, rfl, os⟩ := OwnZ.some o1 (by simp); have O1 := Lib.hid os; clear b1 o1 os; refine Hid.out ?_)
  refine Lib.hid ?_
  have HS4 : Hid (∀ w', Below w1.heap.size w1 w' → w'.cell? ⟨g, 0, none⟩ = some (.string p0) ∧ w'.cell? ⟨g, 1, none⟩ = some (.string p1) ∧ w'.cell? ⟨g, 2, none⟩ = some (.string p2) ∧ Below w1.heap.size w1 w') := Lib.hid (fun w' h => by
    have q := fun j (hj : j < 3) => (h.cell (p := ⟨g, j, none⟩) O1.out.lt.2).trans (O1.out.cell j hj)
    exact ⟨q 0 (by decide), q 1 (by decide), q 2 (by decide), h⟩)
  go_upto_region 3 with fail
  go_cut [5] from 12 to 24 (fun x5 wx => DbR w1 n0 n1 n2 x5 wx)
  case first =>
    refine wp_region_held_drew (S := fun w' => w'.cell? ⟨g, 0, none⟩ = some (.string p0) ∧ w'.cell? ⟨g, 1, none⟩ = some (.string p1) ∧ w'.cell? ⟨g, 2, none⟩ = some (.string p2) ∧ Below w1.heap.size w1 w') (by kernel_rfl) ?_ (fun hHeld => ?_)
    · (try dsimp only)
      exact HS4.out _ (below_drewN (Below.refl _ _) 1)
    refine held_take (i := 0) (d := 12) (v := ?_) rfl rfl (by kernel_rfl) (by kernel_rfl) (by kernel_rfl) (fun _ _ _ h => h) (by rfl) ?_ (by assumption) ?_
    rotate_left
    · intro w hSw
      (try dsimp only at hSw)
      go_simp
      try with_reducible rfl
    try simp only [Act.put, List.setIfInBounds_toArray, List.set_cons_zero, List.set_cons_succ]
    refine held_take (i := 1) (d := 13) (v := ?_) rfl rfl (by kernel_rfl) (by kernel_rfl) (by kernel_rfl) (fun _ _ _ h => h) (by rfl) ?_ (by assumption) ?_
    rotate_left
    · intro w hSw
      (try dsimp only at hSw)
      go_simp
      try with_reducible rfl
    try simp only [Act.put, List.setIfInBounds_toArray, List.set_cons_zero, List.set_cons_succ]
    refine held_take (i := 2) (d := 14) (v := ?_) rfl rfl (by kernel_rfl) (by kernel_rfl) (by kernel_rfl) (fun _ _ _ h => h) (by rfl) ?_ (by assumption) ?_
    rotate_left
    · intro w hSw
      (try dsimp only at hSw)
      go_simp
      try with_reducible rfl
    try simp only [Act.put, List.setIfInBounds_toArray, List.set_cons_zero, List.set_cons_succ]
    refine held_take (i := 4) (d := 16) (v := ?_) rfl rfl (by kernel_rfl) (by kernel_rfl) (by kernel_rfl) (fun _ _ _ h => h) (by rfl) ?_ (by assumption) ?_
    rotate_left
    · intro w hSw
      (try dsimp only at hSw)
      go_simp
      try with_reducible rfl
    try simp only [Act.put, List.setIfInBounds_toArray, List.set_cons_zero, List.set_cons_succ]
    refine held_take (i := 5) (d := 17) (v := ?_) rfl rfl (by kernel_rfl) (by kernel_rfl) (by kernel_rfl) (fun _ _ _ h => h) (by rfl) ?_ (by assumption) ?_
    rotate_left
    · intro w hSw
      (try dsimp only at hSw)
      go_simp
      try with_reducible rfl
    try simp only [Act.put, List.setIfInBounds_toArray, List.set_cons_zero, List.set_cons_succ]
    refine held_take (i := 6) (d := 18) (v := ?_) rfl rfl (by kernel_rfl) (by kernel_rfl) (by kernel_rfl) (fun _ _ _ h => h) (by rfl) ?_ (by assumption) ?_
    rotate_left
    · intro w hSw
      (try dsimp only at hSw)
      go_simp
      try with_reducible rfl
    try simp only [Act.put, List.setIfInBounds_toArray, List.set_cons_zero, List.set_cons_succ]
    refine held_take (i := 8) (d := 20) (v := ?_) rfl rfl (by kernel_rfl) (by kernel_rfl) (by kernel_rfl) (fun _ _ _ h => h) (by rfl) ?_ (by assumption) ?_
    rotate_left
    · intro w hSw
      (try dsimp only at hSw)
      go_simp
      try with_reducible rfl
    try simp only [Act.put, List.setIfInBounds_toArray, List.set_cons_zero, List.set_cons_succ]
    refine held_take (i := 9) (d := 21) (v := ?_) rfl rfl (by kernel_rfl) (by kernel_rfl) (by kernel_rfl) (fun _ _ _ h => h) (by rfl) ?_ (by assumption) ?_
    rotate_left
    · intro w hSw
      (try dsimp only at hSw)
      go_simp
      try with_reducible rfl
    try simp only [Act.put, List.setIfInBounds_toArray, List.set_cons_zero, List.set_cons_succ]
    refine held_take (i := 10) (d := 22) (v := ?_) rfl rfl (by kernel_rfl) (by kernel_rfl) (by kernel_rfl) (fun _ _ _ h => h) (by rfl) ?_ (by assumption) ?_
    rotate_left
    · intro w hSw
      (try dsimp only at hSw)
      go_simp
      try with_reducible rfl
    try simp only [Act.put, List.setIfInBounds_toArray, List.set_cons_zero, List.set_cons_succ]
    have BX0 : Hid (Below w1.heap.size w1 w1.drew) := Lib.hid (below_drewN (Below.refl _ _) 1)
    obtain ⟨u0, hu0⟩ : ∃ u0, w1.drew = u0 := ⟨_, rfl⟩
    rw [hu0] at hHeld BX0 ⊢
    clear hu0
    refine wpAnyH_ready (rs := [3, 13]) (by kernel_rfl) (by simp) ?_
    refine ((AllReadyH.cons rfl (fun K' hK => ?_) (AllReadyH.cons rfl (fun K' hK => ?_) AllReadyH.nil)))
    · skip
      go_simp
      go_at_call 27
      refine (HR0.out _).mono ?_
      rintro e u1 ⟨rfl, b4⟩
      have BX1 := Lib.hid (BX0.out.trans (b4.mono BX0.out.size))
      clear b4
      refine hK.out _ _ ?_ (fun hHeld => ?_)
      · (try dsimp only)
        exact HS4.out _ BX1.out
      clear hK K'
      try simp only [Act.put, List.setIfInBounds_toArray, List.set_cons_zero, List.set_cons_succ]
      refine wpAnyH_ready (rs := [7, 13]) (by kernel_rfl) (by simp) ?_
      refine ((AllReadyH.cons rfl (fun K' hK => ?_) (AllReadyH.cons rfl (fun K' hK => ?_) AllReadyH.nil)))
      · skip
        go_simp
        go_at_call 27
        refine (HR1.out _).mono ?_
        rintro e u2 ⟨rfl, b4⟩
        have BX2 := Lib.hid (BX1.out.trans (b4.mono BX1.out.size))
        clear b4
        refine hK.out _ _ ?_ (fun hHeld => ?_)
        · (try dsimp only)
          exact HS4.out _ BX2.out
        clear hK K'
        try simp only [Act.put, List.setIfInBounds_toArray, List.set_cons_zero, List.set_cons_succ]
        refine wpAnyH_ready (rs := [11, 13]) (by kernel_rfl) (by simp) ?_
        refine ((AllReadyH.cons rfl (fun K' hK => ?_) (AllReadyH.cons rfl (fun K' hK => ?_) AllReadyH.nil)))
        · skip
          go_simp
          go_at_call 27
          refine (HR2.out _).mono ?_
          rintro e u3 ⟨rfl, b4⟩
          have BX3 := Lib.hid (BX2.out.trans (b4.mono BX2.out.size))
          clear b4
          refine hK.out _ _ ?_ (fun hHeld => ?_)
          · (try dsimp only)
            exact HS4.out _ BX3.out
          clear hK K'
          try simp only [Act.put, List.setIfInBounds_toArray, List.set_cons_zero, List.set_cons_succ]
          refine held_take (i := 12) (d := 24) (v := ?_) rfl rfl (by kernel_rfl) (by kernel_rfl) (by kernel_rfl) (fun _ _ _ h => h) (by rfl) ?_ (by assumption) ?_
          rotate_left
          · intro w hSw
            (try dsimp only at hSw)
            go_simp
            try with_reducible rfl
          try simp only [Act.put, List.setIfInBounds_toArray, List.set_cons_zero, List.set_cons_succ]
          refine wpAnyH_ready (rs := [13]) (by kernel_rfl) (by simp) ?_
          refine ((AllReadyH.cons rfl (fun K' hK => ?_) AllReadyH.nil))
          go_simp
          refine hK.out _ _ ?_ (fun hHeld => ?_)
          · (try dsimp only)
            exact HS4.out _ (BX3.out.alloc BX3.out.size _)
          clear hK K'
          try simp only [Act.put, List.setIfInBounds_toArray, List.set_cons_zero, List.set_cons_succ]
          have BX4 := Lib.hid (BX3.out.alloc BX3.out.size (Obj.cells #[.int .i64 0, .int .i64 0, .int .i64 0] 26))
          have TB4 := Lib.hid (three_is u3 (.int .i64 0) (.int .i64 0) (.int .i64 0) 26)
          have FB4 := Lib.hid (FroC.new u3 #[.int .i64 0, .int .i64 0, .int .i64 0] 26)
          have hb4 : u3.heap.size < (u3.alloc (Obj.cells #[.int .i64 0, .int .i64 0, .int .i64 0] 26)).heap.size := by simp
          obtain ⟨u4, hu4⟩ : ∃ u, u3.alloc (Obj.cells #[.int .i64 0, .int .i64 0, .int .i64 0] 26) = u := ⟨_, rfl⟩
          rw [hu4] at hHeld BX4 TB4 FB4 hb4 ⊢
          clear hu4
          refine wpAnyH_ready (rs := [14]) (by kernel_rfl) (by simp) ?_
          refine ((AllReadyH.cons rfl (fun K' hK => ?_) AllReadyH.nil))
          obtain ⟨z0, z1, z2, zl⟩ := TB4.out
          have y0 := FB4.out 0
          have y1 := FB4.out 1
          have y2 := FB4.out 2
          go_simp
          refine hK.out _ _ ?_ (fun hHeld => ?_)
          · (try dsimp only)
            exact HS4.out _ (setS3 BX4.out _ BX3.out.size _ _ _)
          clear hK K'
          refine wpAnyH_done (by kernel_rfl) ?_ _
          go_wp2_with fail
          go_meet
          exact ⟨_, rfl, setS3 BX4.out _ BX3.out.size _ _ _, BX3.out.size, putS3 TB4.out.some zl _ _ _⟩
        · skip
          go_simp
          refine hK.out _ _ ?_ (fun hHeld => ?_)
          · (try dsimp only)
            exact HS4.out _ (BX2.out.alloc BX2.out.size _)
          clear hK K'
          try simp only [Act.put, List.setIfInBounds_toArray, List.set_cons_zero, List.set_cons_succ]
          have BX3 := Lib.hid (BX2.out.alloc BX2.out.size (Obj.cells #[.int .i64 0, .int .i64 0, .int .i64 0] 26))
          have TB3 := Lib.hid (three_is u2 (.int .i64 0) (.int .i64 0) (.int .i64 0) 26)
          have FB3 := Lib.hid (FroC.new u2 #[.int .i64 0, .int .i64 0, .int .i64 0] 26)
          have hb3 : u2.heap.size < (u2.alloc (Obj.cells #[.int .i64 0, .int .i64 0, .int .i64 0] 26)).heap.size := by simp
          obtain ⟨u3, hu3⟩ : ∃ u, u2.alloc (Obj.cells #[.int .i64 0, .int .i64 0, .int .i64 0] 26) = u := ⟨_, rfl⟩
          rw [hu3] at hHeld BX3 TB3 FB3 hb3 ⊢
          clear hu3
          refine wpAnyH_ready (rs := [11]) (by kernel_rfl) (by simp) ?_
          refine ((AllReadyH.cons rfl (fun K' hK => ?_) AllReadyH.nil))
          go_simp
          go_at_call 27
          refine (HR2.out _).mono ?_
          rintro e u4 ⟨rfl, b4⟩
          have BX4 := Lib.hid (BX3.out.trans (b4.mono BX3.out.size))
          have TB4 := Lib.hid (TB3.out.on b4)
          have FB4 := Lib.hid (FB3.out.on b4 hb3)
          have hb4 : u2.heap.size < u4.heap.size := Nat.lt_of_lt_of_le hb3 b4.size
          clear b4
          refine hK.out _ _ ?_ (fun hHeld => ?_)
          · (try dsimp only)
            exact HS4.out _ BX4.out
          clear hK K'
          try simp only [Act.put, List.setIfInBounds_toArray, List.set_cons_zero, List.set_cons_succ]
          refine held_take (i := 12) (d := 24) (v := ?_) rfl rfl (by kernel_rfl) (by kernel_rfl) (by kernel_rfl) (fun _ _ _ h => h) (by rfl) ?_ (by assumption) ?_
          rotate_left
          · intro w hSw
            (try dsimp only at hSw)
            go_simp
            try with_reducible rfl
          try simp only [Act.put, List.setIfInBounds_toArray, List.set_cons_zero, List.set_cons_succ]
          refine wpAnyH_ready (rs := [14]) (by kernel_rfl) (by simp) ?_
          refine ((AllReadyH.cons rfl (fun K' hK => ?_) AllReadyH.nil))
          obtain ⟨z0, z1, z2, zl⟩ := TB4.out
          have y0 := FB4.out 0
          have y1 := FB4.out 1
          have y2 := FB4.out 2
          go_simp
          refine hK.out _ _ ?_ (fun hHeld => ?_)
          · (try dsimp only)
            exact HS4.out _ (setS3 BX4.out _ BX2.out.size _ _ _)
          clear hK K'
          refine wpAnyH_done (by kernel_rfl) ?_ _
          go_wp2_with fail
          go_meet
          exact ⟨_, rfl, setS3 BX4.out _ BX2.out.size _ _ _, BX2.out.size, putS3 TB4.out.some zl _ _ _⟩
      · skip
        go_simp
        refine hK.out _ _ ?_ (fun hHeld => ?_)
        · (try dsimp only)
          exact HS4.out _ (BX1.out.alloc BX1.out.size _)
        clear hK K'
        try simp only [Act.put, List.setIfInBounds_toArray, List.set_cons_zero, List.set_cons_succ]
        have BX2 := Lib.hid (BX1.out.alloc BX1.out.size (Obj.cells #[.int .i64 0, .int .i64 0, .int .i64 0] 26))
        have TB2 := Lib.hid (three_is u1 (.int .i64 0) (.int .i64 0) (.int .i64 0) 26)
        have FB2 := Lib.hid (FroC.new u1 #[.int .i64 0, .int .i64 0, .int .i64 0] 26)
        have hb2 : u1.heap.size < (u1.alloc (Obj.cells #[.int .i64 0, .int .i64 0, .int .i64 0] 26)).heap.size := by simp
        obtain ⟨u2, hu2⟩ : ∃ u, u1.alloc (Obj.cells #[.int .i64 0, .int .i64 0, .int .i64 0] 26) = u := ⟨_, rfl⟩
        rw [hu2] at hHeld BX2 TB2 FB2 hb2 ⊢
        clear hu2
        refine wpAnyH_ready (rs := [7]) (by kernel_rfl) (by simp) ?_
        refine ((AllReadyH.cons rfl (fun K' hK => ?_) AllReadyH.nil))
        go_simp
        go_at_call 27
        refine (HR1.out _).mono ?_
        rintro e u3 ⟨rfl, b4⟩
        have BX3 := Lib.hid (BX2.out.trans (b4.mono BX2.out.size))
        have TB3 := Lib.hid (TB2.out.on b4)
        have FB3 := Lib.hid (FB2.out.on b4 hb2)
        have hb3 : u1.heap.size < u3.heap.size := Nat.lt_of_lt_of_le hb2 b4.size
        clear b4
        refine hK.out _ _ ?_ (fun hHeld => ?_)
        · (try dsimp only)
          exact HS4.out _ BX3.out
        clear hK K'
        try simp only [Act.put, List.setIfInBounds_toArray, List.set_cons_zero, List.set_cons_succ]
        refine wpAnyH_ready (rs := [11]) (by kernel_rfl) (by simp) ?_
        refine ((AllReadyH.cons rfl (fun K' hK => ?_) AllReadyH.nil))
        go_simp
        go_at_call 27
        refine (HR2.out _).mono ?_
        rintro e u4 ⟨rfl, b4⟩
        have BX4 := Lib.hid (BX3.out.trans (b4.mono BX3.out.size))
        have TB4 := Lib.hid (TB3.out.on b4)
        have FB4 := Lib.hid (FB3.out.on b4 hb3)
        have hb4 : u1.heap.size < u4.heap.size := Nat.lt_of_lt_of_le hb3 b4.size
        clear b4
        refine hK.out _ _ ?_ (fun hHeld => ?_)
        · (try dsimp only)
          exact HS4.out _ BX4.out
        clear hK K'
        try simp only [Act.put, List.setIfInBounds_toArray, List.set_cons_zero, List.set_cons_succ]
        refine held_take (i := 12) (d := 24) (v := ?_) rfl rfl (by kernel_rfl) (by kernel_rfl) (by kernel_rfl) (fun _ _ _ h => h) (by rfl) ?_ (by assumption) ?_
        rotate_left
        · intro w hSw
          (try dsimp only at hSw)
          go_simp
          try with_reducible rfl
        try simp only [Act.put, List.setIfInBounds_toArray, List.set_cons_zero, List.set_cons_succ]
        refine wpAnyH_ready (rs := [14]) (by kernel_rfl) (by simp) ?_
        refine ((AllReadyH.cons rfl (fun K' hK => ?_) AllReadyH.nil))
        obtain ⟨z0, z1, z2, zl⟩ := TB4.out
        have y0 := FB4.out 0
        have y1 := FB4.out 1
        have y2 := FB4.out 2
        go_simp
        refine hK.out _ _ ?_ (fun hHeld => ?_)
        · (try dsimp only)
          exact HS4.out _ (setS3 BX4.out _ BX1.out.size _ _ _)
        clear hK K'
        refine wpAnyH_done (by kernel_rfl) ?_ _
        go_wp2_with fail
        go_meet
        exact ⟨_, rfl, setS3 BX4.out _ BX1.out.size _ _ _, BX1.out.size, putS3 TB4.out.some zl _ _ _⟩
    · skip
      go_simp
      refine hK.out _ _ ?_ (fun hHeld => ?_)
      · (try dsimp only)
        exact HS4.out _ (BX0.out.alloc BX0.out.size _)
      clear hK K'
      try simp only [Act.put, List.setIfInBounds_toArray, List.set_cons_zero, List.set_cons_succ]
      have BX1 := Lib.hid (BX0.out.alloc BX0.out.size (Obj.cells #[.int .i64 0, .int .i64 0, .int .i64 0] 26))
      have TB1 := Lib.hid (three_is u0 (.int .i64 0) (.int .i64 0) (.int .i64 0) 26)
      have FB1 := Lib.hid (FroC.new u0 #[.int .i64 0, .int .i64 0, .int .i64 0] 26)
      have hb1 : u0.heap.size < (u0.alloc (Obj.cells #[.int .i64 0, .int .i64 0, .int .i64 0] 26)).heap.size := by simp
      obtain ⟨u1, hu1⟩ : ∃ u, u0.alloc (Obj.cells #[.int .i64 0, .int .i64 0, .int .i64 0] 26) = u := ⟨_, rfl⟩
      rw [hu1] at hHeld BX1 TB1 FB1 hb1 ⊢
      clear hu1
      refine wpAnyH_ready (rs := [3]) (by kernel_rfl) (by simp) ?_
      refine ((AllReadyH.cons rfl (fun K' hK => ?_) AllReadyH.nil))
      go_simp
      go_at_call 27
      refine (HR0.out _).mono ?_
      rintro e u2 ⟨rfl, b4⟩
      have BX2 := Lib.hid (BX1.out.trans (b4.mono BX1.out.size))
      have TB2 := Lib.hid (TB1.out.on b4)
      have FB2 := Lib.hid (FB1.out.on b4 hb1)
      have hb2 : u0.heap.size < u2.heap.size := Nat.lt_of_lt_of_le hb1 b4.size
      clear b4
      refine hK.out _ _ ?_ (fun hHeld => ?_)
      · (try dsimp only)
        exact HS4.out _ BX2.out
      clear hK K'
      try simp only [Act.put, List.setIfInBounds_toArray, List.set_cons_zero, List.set_cons_succ]
      refine wpAnyH_ready (rs := [7]) (by kernel_rfl) (by simp) ?_
      refine ((AllReadyH.cons rfl (fun K' hK => ?_) AllReadyH.nil))
      go_simp
      go_at_call 27
      refine (HR1.out _).mono ?_
      rintro e u3 ⟨rfl, b4⟩
      have BX3 := Lib.hid (BX2.out.trans (b4.mono BX2.out.size))
      have TB3 := Lib.hid (TB2.out.on b4)
      have FB3 := Lib.hid (FB2.out.on b4 hb2)
      have hb3 : u0.heap.size < u3.heap.size := Nat.lt_of_lt_of_le hb2 b4.size
      clear b4
      refine hK.out _ _ ?_ (fun hHeld => ?_)
      · (try dsimp only)
        exact HS4.out _ BX3.out
      clear hK K'
      try simp only [Act.put, List.setIfInBounds_toArray, List.set_cons_zero, List.set_cons_succ]
      refine wpAnyH_ready (rs := [11]) (by kernel_rfl) (by simp) ?_
      refine ((AllReadyH.cons rfl (fun K' hK => ?_) AllReadyH.nil))
      go_simp
      go_at_call 27
      refine (HR2.out _).mono ?_
      rintro e u4 ⟨rfl, b4⟩
      have BX4 := Lib.hid (BX3.out.trans (b4.mono BX3.out.size))
      have TB4 := Lib.hid (TB3.out.on b4)
      have FB4 := Lib.hid (FB3.out.on b4 hb3)
      have hb4 : u0.heap.size < u4.heap.size := Nat.lt_of_lt_of_le hb3 b4.size
      clear b4
      refine hK.out _ _ ?_ (fun hHeld => ?_)
      · (try dsimp only)
        exact HS4.out _ BX4.out
      clear hK K'
      try simp only [Act.put, List.setIfInBounds_toArray, List.set_cons_zero, List.set_cons_succ]
      refine held_take (i := 12) (d := 24) (v := ?_) rfl rfl (by kernel_rfl) (by kernel_rfl) (by kernel_rfl) (fun _ _ _ h => h) (by rfl) ?_ (by assumption) ?_
      rotate_left
      · intro w hSw
        (try dsimp only at hSw)
        go_simp
        try with_reducible rfl
      try simp only [Act.put, List.setIfInBounds_toArray, List.set_cons_zero, List.set_cons_succ]
      refine wpAnyH_ready (rs := [14]) (by kernel_rfl) (by simp) ?_
      refine ((AllReadyH.cons rfl (fun K' hK => ?_) AllReadyH.nil))
      obtain ⟨z0, z1, z2, zl⟩ := TB4.out
      have y0 := FB4.out 0
      have y1 := FB4.out 1
      have y2 := FB4.out 2
      go_simp
      refine hK.out _ _ ?_ (fun hHeld => ?_)
      · (try dsimp only)
        exact HS4.out _ (setS3 BX4.out _ BX0.out.size _ _ _)
      clear hK K'
      refine wpAnyH_done (by kernel_rfl) ?_ _
      go_wp2_with fail
      go_meet
      exact ⟨_, rfl, setS3 BX4.out _ BX0.out.size _ _ _, BX0.out.size, putS3 TB4.out.some zl _ _ _⟩
  case rest =>
    obtain ⟨bx, rfl, hbx, hbx1, ht⟩ := hcut
    obtain ⟨w2, rfl⟩ : ∃ w2, w2 = wc := ⟨_, rfl⟩
    have HT := Lib.hid ht
    have B2 := Lib.hid (B1.out.trans (hbx.mono B1.out.size))
    have F2 := Lib.hid (F1.out.on hbx)
    have G2 := Lib.hid (G1.out.on hbx F1.out.2.2.2)
    clear ht hbx HS4 HR0 HR1 HR2 HS
    obtain ⟨x0, x1, x2, xl⟩ := HT.out
    cases hg : goodV ⟨n0, n1, n2⟩
    · rw [hg] at HGD
      have hR2 := HG1.out hg
      have hR1 := HN.out hR2
      subst hR2 hR1
      clear hg HG1 HG2 HN HY
      go_wp2_with (go_at_call 11; refine (HGD.out _).mono ?_; rintro e w3 ⟨rfl, b3⟩; have B3 := Lib.hid (B2.out.trans (b3.mono B2.out.size)); have F3 := Lib.hid (F2.out.on b3); have G3 := G2.out.on b3 F2.out.2.2.2; obtain ⟨y0, y1, y2, _⟩ := F3.out; have z0 := G3 0; have z1 := G3 1; have z2 := G3 2; clear b3 G3 x0 x1 x2)
      obtain ⟨r0, r1, r2⟩ := readS3 F3.out.some (.int .i64 0) (.int .i64 0) (.int .i64 0) _ rfl
      exact bodyPost_ret (v := .tuple #[.agg #[.int .i64 0, .int .i64 0, .int .i64 0], .bool false]) (by simp [results, Tryd.results16, go_sem, r0, r1, r2, cvV]) rfl ⟨rfl, setS3 B3.out _ (Nat.le_refl _) _ _ _⟩
    · rw [hg] at HGD
      have N := cvn (cvok hg)
      have HCT := Lib.hid (fun w => cuText_any _ _ _ N.rf N.rl N.rs w)
      have hR2 := HG2.out hg
      rw [ct_yes hg] at hR2
      have e0 : ((Int.toNat n0 : Nat) : Int) = n0 := N.ef.symm
      have e1 : ((Int.toNat n1 : Nat) : Int) = n1 := N.el.symm
      have e2 : ((Int.toNat n2 : Nat) : Int) = n2 := N.es.symm
      simp only at hR2 HCT
      rw [e0, e1, e2] at HCT
      generalize txN n0.toNat n1.toNat n2.toNat = R at HCT hR2
      clear hg HG1 HG2 N e0 e1 e2
      cases hd : (R.toList == s.toList)
      · rw [hd] at hR2
        have hR1 := HN.out hR2
        subst hR2 hR1
        have hd2 : (R.toList != s.toList) = true := by simp [bne, hd]
        clear HN HY
        go_wp2_with (go_at_call 11; refine (HGD.out _).mono ?_; rintro e w3 ⟨rfl, b3⟩; have B3 := Lib.hid (B2.out.trans (b3.mono B2.out.size)); have F3 := Lib.hid (F2.out.on b3); have G3 := Lib.hid (G2.out.on b3 F2.out.2.2.2); have T3 := Lib.hid (HT.out.on b3); clear b3 x0 x1 x2; obtain ⟨x0, x1, x2, _⟩ := T3.out; refine Hid.out ?_)
        refine Lib.hid ?_
        go_wp2_with (go_at_call 12; refine (HCT.out _).mono ?_; rintro e w4 ⟨rfl, b4⟩; have B4 := Lib.hid (B3.out.trans (b4.mono B3.out.size)); have F4 := Lib.hid (F3.out.on b4); have G4 := G3.out.on b4 F3.out.2.2.2; obtain ⟨y0, y1, y2, _⟩ := F4.out; have z0 := G4 0; have z1 := G4 1; have z2 := G4 2; have T4 := Lib.hid (T3.out.on b4); clear b4 G4 x0 x1 x2; obtain ⟨x0, x1, x2, _⟩ := T4.out)
        obtain ⟨r0, r1, r2⟩ := readS3 F4.out.some (.int .i64 0) (.int .i64 0) (.int .i64 0) _ rfl
        exact bodyPost_ret (v := .tuple #[.agg #[.int .i64 0, .int .i64 0, .int .i64 0], .bool false]) (by simp [results, Tryd.results16, go_sem, r0, r1, r2, cvV]) rfl ⟨rfl, setS3 B4.out _ (Nat.le_refl _) _ _ _⟩
      · rw [hd] at hR2
        have hR1 := HY.out hR2
        subst hR2 hR1
        have hd2 : (R.toList != s.toList) = false := by simp [bne, hd]
        clear HN HY
        go_wp2_with (go_at_call 11; refine (HGD.out _).mono ?_; rintro e w3 ⟨rfl, b3⟩; have B3 := Lib.hid (B2.out.trans (b3.mono B2.out.size)); have F3 := Lib.hid (F2.out.on b3); have G3 := Lib.hid (G2.out.on b3 F2.out.2.2.2); have T3 := Lib.hid (HT.out.on b3); clear b3 x0 x1 x2; obtain ⟨x0, x1, x2, _⟩ := T3.out; refine Hid.out ?_)
        refine Lib.hid ?_
        go_wp2_with (go_at_call 12; refine (HCT.out _).mono ?_; rintro e w4 ⟨rfl, b4⟩; have B4 := Lib.hid (B3.out.trans (b4.mono B3.out.size)); have F4 := Lib.hid (F3.out.on b4); have G4 := G3.out.on b4 F3.out.2.2.2; obtain ⟨y0, y1, y2, _⟩ := F4.out; have z0 := G4 0; have z1 := G4 1; have z2 := G4 2; have T4 := Lib.hid (T3.out.on b4); clear b4 G4 x0 x1 x2; obtain ⟨x0, x1, x2, _⟩ := T4.out)
        obtain ⟨r0, r1, r2⟩ := readS3 F4.out.some (.int .i64 n0) (.int .i64 n1) (.int .i64 n2) _ rfl
        exact bodyPost_ret (v := .tuple #[.agg #[.int .i64 n0, .int .i64 n1, .int .i64 n2], .bool true]) (by simp [results, Tryd.results16, go_sem, r0, r1, r2, cvV]) rfl ⟨rfl, setS3 B4.out _ (Nat.le_refl _) _ _ _⟩
end Go.Proofs.YteogadbjnmcblaaDoor
