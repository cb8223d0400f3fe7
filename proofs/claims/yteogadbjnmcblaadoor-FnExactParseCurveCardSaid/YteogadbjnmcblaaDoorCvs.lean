/- ParseCurve: the program's contract. -/
import Derived.Test.YteogadbjnmcblaaDoorCvr
namespace Go.Proofs.YteogadbjnmcblaaDoor
set_option maxRecDepth 100000
open Go.RowKit
set_option linter.unusedVariables false
set_option linter.unusedSimpArgs false

def MaxL (w : World) : Prop := ∃ m : Int, w.cell? ⟨2, 0, none⟩ = some (.int .i64 m)
theorem MaxL.below {w w' : World} (h : MaxL w) (hb : Below w.heap.size w w') : MaxL w' := by
  obtain ⟨m, hm⟩ := h
  exact ⟨m, (hb.cell (p := ⟨2, 0, none⟩) (World.block_lt_of_cell? w _ hm)).trans hm⟩
def cutB (s : ByteArray) : List ByteArray := Lib.splitB ⟨#[47]⟩ 0 (min 4 (s.size + 1) - 1) s
theorem cutB_list (s : ByteArray) : (cutB s).map (·.data.toList) = Lib.splitK [47] 0 (min 4 (s.data.toList.length + 1) - 1) s.data.toList := by
  unfold cutB
  rw [Lib.splitB_data, ← Lib.size_eq]
theorem data_inj : ∀ (l m : List ByteArray), l.map (·.data.toList) = m.map (·.data.toList) → l = m
  | [], [], _ => rfl
  | [], _ :: _, h => by simp at h
  | _ :: _, [], h => by simp at h
  | a :: l, b :: m, h => by
    simp only [List.map_cons, List.cons.injEq] at h
    obtain ⟨h1, h2⟩ := h
    have e : a = b := by
      obtain ⟨⟨a⟩⟩ := a
      obtain ⟨⟨b⟩⟩ := b
      simp only at h1
      rw [h1]
    rw [e, data_inj l m h2]
theorem cutB_len (s : ByteArray) : (cutB s).length = 3 ↔ (spB s).length = 3 := by
  have h1 := congrArg List.length (cutB_list s)
  have h2 := congrArg List.length (spB_list s)
  rw [List.length_map] at h1 h2
  rw [h1, h2]
  exact splitN_three _
theorem cutB_eq (s : ByteArray) (h : (spB s).length = 3) : cutB s = spB s := by
  refine data_inj _ _ ?_
  have h2 := congrArg List.length (spB_list s)
  rw [List.length_map] at h2
  rw [cutB_list, spB_list]
  exact splitN_eq _ (by rw [← h2]; exact h)
theorem rnr_zero : rnr (headS 0).data.toList = Option.some 0 := by kernel_rfl
theorem dec_no : ∀ (n : Nat) (x : UInt8), x ∈ Lib.decDigits n → 48 ≤ x.toNat ∧ x.toNat ≤ 57 := by
  intro n
  induction n using Nat.strongRecOn with
  | ind n ih =>
    intro x hx
    rw [Lib.decDigits] at hx
    split at hx
    · rename_i h
      simp only [List.mem_cons, List.not_mem_nil, or_false] at hx
      subst hx
      rw [UInt8.toNat_ofNat']; omega
    · rename_i h
      rcases List.mem_append.1 hx with hx | hx
      · exact ih (n / 10) (by omega) x hx
      · simp only [List.mem_cons, List.not_mem_nil, or_false] at hx
        subst hx
        rw [UInt8.toNat_ofNat']; omega
theorem num_no (n : Nat) (x : UInt8) (h : x ∈ (numS n).data.toList) : x ≠ 47 := by
  have := dec_no n x (by simpa [numS] using h)
  intro q; subst q; simp at this
theorem head_no (n : Nat) : ∀ x ∈ (headS n).data.toList, x ≠ 47 := by
  have q1 : ∀ x ∈ (mF n).data.toList, x ≠ 47 := by
    intro x h
    unfold mF at h
    rw [ByteArray.data_append] at h
    simp only [Array.toList_append, List.mem_append, List.mem_cons, List.not_mem_nil, or_false] at h
    rcases h with h | h
    · exact num_no _ x h
    · subst h; decide
  have q2 : ∀ x ∈ (kF n).data.toList, x ≠ 47 := by
    intro x h
    unfold kF at h
    rw [ByteArray.data_append] at h
    simp only [Array.toList_append, List.mem_append, List.mem_cons, List.not_mem_nil, or_false] at h
    rcases h with h | h
    · exact num_no _ x h
    · subst h; decide
  unfold headS formsL preL
  cases isM n
  · cases isK n
    · show ∀ x ∈ (numS n).data.toList, x ≠ 47
      exact num_no n
    · exact q2
  · cases isK n <;> exact q1
theorem sp_txN (f l s : Nat) : spL (txN f l s).data.toList = [(headS f).data.toList, (headS l).data.toList, (headS s).data.toList] := by
  have e : (txN f l s).data.toList = (headS f).data.toList ++ 47 :: ((headS l).data.toList ++ 47 :: (headS s).data.toList) := by
    unfold txN
    simp [ByteArray.data_append]
  rw [e]
  exact sp_three _ _ _ (head_no f) (head_no l) (head_no s)
def pcO (p0 p1 p2 : ByteArray) : Cv := ⟨optR (rnr p0.data.toList), optR (rnr p1.data.toList), optR (rnr p2.data.toList)⟩
theorem toNat_none {o : Option Int} (h : o = none) : (optR o).toNat = 0 := by subst h; rfl
theorem pc_all {s p0 p1 p2 : ByteArray} (hp : spB s = [p0, p1, p2]) (hg : goodV (pcO p0 p1 p2) = true) (ht : resCurveText (pcO p0 p1 p2) = s) : pcV (spB s) = pcO p0 p1 p2 := by
  have hl := spB_list s
  rw [hp] at hl
  rw [ct_yes hg] at ht
  have h2 := sp_txN (pcO p0 p1 p2).f.toNat (pcO p0 p1 p2).l.toNat (pcO p0 p1 p2).s.toNat
  rw [ht, ← hl] at h2
  simp only [List.map_cons, List.map_nil, List.cons.injEq, and_true] at h2
  obtain ⟨g0, g1, g2⟩ := h2
  have key : ∀ (p : ByteArray), p.data.toList = (headS (optR (rnr p.data.toList)).toNat).data.toList → optM (rnr p.data.toList) = optR (rnr p.data.toList) := by
    intro p h
    cases ho : rnr p.data.toList with
    | some v => rfl
    | none =>
      rw [toNat_none ho] at h
      rw [h, rnr_zero] at ho
      cases ho
  rw [hp]
  simp only [pcV, pcO, List.getD_cons_zero, List.getD_cons_succ, Cv.mk.injEq]
  exact ⟨key p0 g0, key p1 g1, key p2 g2⟩
theorem goodM {a b c : Option Int} (h : goodV ⟨optM a, optM b, optM c⟩ = true) : optM a = optR a ∧ optM b = optR b ∧ optM c = optR c := by
  have q := cvok h
  have := q.f0; have := q.l0; have := q.s0
  refine ⟨?_, ?_, ?_⟩
  · cases a with
    | some v => rfl
    | none => simp [optM] at *
  · cases b with
    | some v => rfl
    | none => simp [optM] at *
  · cases c with
    | some v => rfl
    | none => simp [optM] at *
theorem toList_inj {a b : ByteArray} (h : a.toList = b.toList) : a = b := by
  rw [Lib.toList_data, Lib.toList_data] at h
  obtain ⟨⟨a⟩⟩ := a
  obtain ⟨⟨b⟩⟩ := b
  simp only at h
  rw [h]
/-- what the program asks -/
theorem pc_prog {s p0 p1 p2 : ByteArray} (hp : spB s = [p0, p1, p2]) : resParseCurve2 s = (goodV (pcO p0 p1 p2) && ((resCurveText (pcO p0 p1 p2)).toList == s.toList)) ∧ (resParseCurve2 s = true → resParseCurve1 s = pcO p0 p1 p2) := by
  have h3 : (spB s).length = 3 := by rw [hp]; rfl
  have e0 : pcV (spB s) = ⟨optM (rnr p0.data.toList), optM (rnr p1.data.toList), optM (rnr p2.data.toList)⟩ := by rw [hp]; rfl
  have main : resParseCurve2 s = (goodV (pcO p0 p1 p2) && ((resCurveText (pcO p0 p1 p2)).toList == s.toList)) := by
    cases hm : goodV (pcV (spB s)) with
    | true =>
      have e : pcV (spB s) = pcO p0 p1 p2 := by
        rw [e0] at hm ⊢
        obtain ⟨a, b, c⟩ := goodM hm
        simp only [pcO, Cv.mk.injEq]
        exact ⟨a, b, c⟩
      rw [pc_good h3 hm, ← e, hm]; simp
    | false =>
      rw [pc_bad hm]
      cases hg : goodV (pcO p0 p1 p2) with
      | false => rfl
      | true =>
        cases ht : ((resCurveText (pcO p0 p1 p2)).toList == s.toList) with
        | false => rfl
        | true =>
          have e := pc_all hp hg (toList_inj (by simpa using ht))
          rw [e, hg] at hm
          cases hm
  refine ⟨main, fun h => ?_⟩
  rw [pc_yes h]
  rw [main] at h
  obtain ⟨hg, ht⟩ := Bool.and_eq_true_iff.1 h
  exact pc_all hp hg (toList_inj (by simpa using ht))
theorem ThreeIs.st0 {w : World} {b : Nat} {a0 a1 a2 : Value} (h : ThreeIs w b a0 a1 a2) (v : Value) : ThreeIs (w.setCell ⟨b, 0, none⟩ v) b v a1 a2 := by
  obtain ⟨h0, h1, h2, hb⟩ := h
  refine ⟨?_, ?_, ?_, by simpa [Go.Deep.nblk_setCell] using hb⟩ <;> simp [go_sem, World.cell?_setCell_other, World.cell?_setCell_same', h0, h1, h2]
theorem ThreeIs.st1 {w : World} {b : Nat} {a0 a1 a2 : Value} (h : ThreeIs w b a0 a1 a2) (v : Value) : ThreeIs (w.setCell ⟨b, 1, none⟩ v) b a0 v a2 := by
  obtain ⟨h0, h1, h2, hb⟩ := h
  refine ⟨?_, ?_, ?_, by simpa [Go.Deep.nblk_setCell] using hb⟩ <;> simp [go_sem, World.cell?_setCell_other, World.cell?_setCell_same', h0, h1, h2]
theorem ThreeIs.st2 {w : World} {b : Nat} {a0 a1 a2 : Value} (h : ThreeIs w b a0 a1 a2) (v : Value) : ThreeIs (w.setCell ⟨b, 2, none⟩ v) b a0 a1 v := by
  obtain ⟨h0, h1, h2, hb⟩ := h
  refine ⟨?_, ?_, ?_, by simpa [Go.Deep.nblk_setCell] using hb⟩ <;> simp [go_sem, World.cell?_setCell_other, World.cell?_setCell_same', h0, h1, h2]
theorem ThreeIs.far {w : World} {b c o : Nat} {a0 a1 a2 : Value} (h : ThreeIs w b a0 a1 a2) (hc : c ≠ b) (v : Value) : ThreeIs (w.setCell ⟨c, o, none⟩ v) b a0 a1 a2 := by
  obtain ⟨h0, h1, h2, hb⟩ := h
  have q := fun k => World.cell?_setCell_far w ⟨c, o, none⟩ ⟨b, k, none⟩ v hc
  exact ⟨(q _).trans h0, (q _).trans h1, (q _).trans h2, by simpa [Go.Deep.nblk_setCell] using hb⟩
theorem FroC.set {w : World} {g : Nat} (h : FroC w g) (p : Addr) (v : Value) : FroC (w.setCell p v) g := fun o => by rw [World.frozen?_setCell]; exact h o
/-- what the loop over the pieces keeps: the result's box, the numbers' box and the pieces -/
def PcAt (w : World) (p0 p1 p2 : ByteArray) (a0 a1 a2 : Int) (wr : World) : Prop :=
  ThreeIs wr w.heap.size (.int .i64 0) (.int .i64 0) (.int .i64 0) ∧ FroC wr w.heap.size ∧ ThreeIs wr (w.heap.size + 1) (.int .i64 a0) (.int .i64 a1) (.int .i64 a2) ∧ FroC wr (w.heap.size + 1) ∧
  ThreeIs wr (w.heap.size + 2) (.string p0) (.string p1) (.string p2) ∧ Below w.heap.size w wr
theorem PcAt.on {w wr w' : World} {p0 p1 p2 : ByteArray} {a0 a1 a2 : Int} (h : PcAt w p0 p1 p2 a0 a1 a2 wr) (b : Below wr.heap.size wr w') : PcAt w p0 p1 p2 a0 a1 a2 w' := by
  obtain ⟨h1, h2, h3, h4, h5, h6⟩ := h
  exact ⟨h1.on b, h2.on b h1.2.2.2, h3.on b, h4.on b h3.2.2.2, h5.on b, h6.trans (b.mono h6.size)⟩
theorem PcAt.s0 {w wr : World} {p0 p1 p2 : ByteArray} {a0 a1 a2 : Int} (h : PcAt w p0 p1 p2 a0 a1 a2 wr) (v : Int) : PcAt w p0 p1 p2 v a1 a2 (wr.setCell ⟨w.heap.size + 1, 0, none⟩ (.int .i64 v)) := by
  obtain ⟨h1, h2, h3, h4, h5, h6⟩ := h
  exact ⟨h1.far (by omega) _, h2.set _ _, h3.st0 _, h4.set _ _, h5.far (by omega) _, h6.setCell (Nat.le_succ _) _⟩
theorem PcAt.s1 {w wr : World} {p0 p1 p2 : ByteArray} {a0 a1 a2 : Int} (h : PcAt w p0 p1 p2 a0 a1 a2 wr) (v : Int) : PcAt w p0 p1 p2 a0 v a2 (wr.setCell ⟨w.heap.size + 1, 1, none⟩ (.int .i64 v)) := by
  obtain ⟨h1, h2, h3, h4, h5, h6⟩ := h
  exact ⟨h1.far (by omega) _, h2.set _ _, h3.st1 _, h4.set _ _, h5.far (by omega) _, h6.setCell (Nat.le_succ _) _⟩
theorem PcAt.s2 {w wr : World} {p0 p1 p2 : ByteArray} {a0 a1 a2 : Int} (h : PcAt w p0 p1 p2 a0 a1 a2 wr) (v : Int) : PcAt w p0 p1 p2 a0 a1 v (wr.setCell ⟨w.heap.size + 1, 2, none⟩ (.int .i64 v)) := by
  obtain ⟨h1, h2, h3, h4, h5, h6⟩ := h
  exact ⟨h1.far (by omega) _, h2.set _ _, h3.st2 _, h4.set _ _, h5.far (by omega) _, h6.setCell (Nat.le_succ _) _⟩
def PcRel (w : World) (p0 p1 p2 : ByteArray) (n0 n1 n2 : Int) (i : Value) (wr : World) : Prop :=
  (i = .int .i64 0 ∧ PcAt w p0 p1 p2 0 0 0 wr) ∨ (i = .int .i64 1 ∧ PcAt w p0 p1 p2 n0 0 0 wr) ∨ (i = .int .i64 2 ∧ PcAt w p0 p1 p2 n0 n1 0 wr) ∨ (i = .int .i64 3 ∧ PcAt w p0 p1 p2 n0 n1 n2 wr)
theorem pieces_at (w : World) (p0 p1 p2 : ByteArray) (N : Nat) (t : TypeId) : ThreeIs (w.alloc (.cells (Lib.cellsOf [p0, p1, p2] N) t)) w.heap.size (.string p0) (.string p1) (.string p2) := by
  refine ⟨?_, ?_, ?_, ?_⟩ <;> simp [Lib.cellsOf]
set_option maxHeartbeats 6400000 in
theorem implParseCurve_any (s : ByteArray) (w : World) (hs : s.size ≤ 1048576) (hU : Hid (Units w)) (hP : Hid (Pow w)) (hD : Hid (Dig w)) (hM : Hid (MaxL w)) : Calls Tryd.prog 9 #[.string s] w (SaysT2 w (cvV (resParseCurve1 s)) (.bool (resParseCurve2 s))) := by
  have HSP : Hid (∀ (m : Int) (w : World), w.cell? ⟨2, 0, none⟩ = some (.int .i64 m) → Calls Tryd.prog 17 #[.string s, .string ⟨#[47]⟩, .int .i64 4] w fun e w' => e = .returned (.slice (some ⟨w.heap.size, 0, none⟩) (cutB s).length (min 4 (s.size + 1))) ∧ w' = w.alloc (.cells (Lib.cellsOf (cutB s) (min 4 (s.size + 1))) 9)) := Lib.hid (fun m w hm => Tryd.strings_SplitN s ⟨#[47]⟩ 4 m w (by omega) hm (by decide) (by decide) (by decide))
  generalize min 4 (s.size + 1) = N at HSP
  have hM2 : Hid (MaxL ((w.alloc (Obj.cells #[.int .i64 0, .int .i64 0, .int .i64 0] 26)).alloc (Obj.cells #[.int .i64 0, .int .i64 0, .int .i64 0] 36))) := Lib.hid (hM.out.below (two_new _ _ _))
  have hz2 : ((w.alloc (Obj.cells #[.int .i64 0, .int .i64 0, .int .i64 0] 26)).alloc (Obj.cells #[.int .i64 0, .int .i64 0, .int .i64 0] 36)).heap.size = w.heap.size + 2 := by simp
  have T0 : ThreeIs ((w.alloc (Obj.cells #[.int .i64 0, .int .i64 0, .int .i64 0] 26)).alloc (Obj.cells #[.int .i64 0, .int .i64 0, .int .i64 0] 36)) w.heap.size (.int .i64 0) (.int .i64 0) (.int .i64 0) := (three_is w _ _ _ _).on (one_new2 _ _)
  have F0 : FroC ((w.alloc (Obj.cells #[.int .i64 0, .int .i64 0, .int .i64 0] 26)).alloc (Obj.cells #[.int .i64 0, .int .i64 0, .int .i64 0] 36)) w.heap.size := (FroC.new w _ _).on (one_new2 _ _) (by simp)
  have T1 : ThreeIs ((w.alloc (Obj.cells #[.int .i64 0, .int .i64 0, .int .i64 0] 26)).alloc (Obj.cells #[.int .i64 0, .int .i64 0, .int .i64 0] 36)) (w.heap.size + 1) (.int .i64 0) (.int .i64 0) (.int .i64 0) := by
    have q := three_is (w.alloc (Obj.cells #[.int .i64 0, .int .i64 0, .int .i64 0] 26)) (.int .i64 0) (.int .i64 0) (.int .i64 0) 36
    rw [show (w.alloc (Obj.cells #[.int .i64 0, .int .i64 0, .int .i64 0] 26)).heap.size = w.heap.size + 1 by simp] at q
    exact q
  have F1 : FroC ((w.alloc (Obj.cells #[.int .i64 0, .int .i64 0, .int .i64 0] 26)).alloc (Obj.cells #[.int .i64 0, .int .i64 0, .int .i64 0] 36)) (w.heap.size + 1) := by
    have q := FroC.new (w.alloc (Obj.cells #[.int .i64 0, .int .i64 0, .int .i64 0] 26)) #[.int .i64 0, .int .i64 0, .int .i64 0] 36
    rw [show (w.alloc (Obj.cells #[.int .i64 0, .int .i64 0, .int .i64 0] 26)).heap.size = w.heap.size + 1 by simp] at q
    exact q
  by_cases h3 : (spB s).length = 3
  case neg =>
    have h3c : ¬ (cutB s).length = 3 := fun h => h3 ((cutB_len s).1 h)
    have dq : (((cutB s).length : Int) != 3) = true := by simp; omega
    rw [pc_no (pc_len h3), pc_len h3]
    go_enter Tryd.func9, Tryd.ntmps9
    go_wp2_with (go_at_call 17; obtain ⟨m, hm⟩ := hM2.out; refine (HSP.out m _ hm).mono ?_; rintro e w1 ⟨rfl, hw1⟩; have b1 : Below ((w.alloc (Obj.cells #[.int .i64 0, .int .i64 0, .int .i64 0] 26)).alloc (Obj.cells #[.int .i64 0, .int .i64 0, .int .i64 0] 36)).heap.size ((w.alloc (Obj.cells #[.int .i64 0, .int .i64 0, .int .i64 0] 26)).alloc (Obj.cells #[.int .i64 0, .int .i64 0, .int .i64 0] 36)) w1 := by { rw [hw1]; exact one_new2 _ _ }; have B1 := Lib.hid ((two_new w _ _).trans (b1.mono (by simp; omega))); have F1 := Lib.hid (T0.on b1); obtain ⟨y0, y1, y2, _⟩ := F1.out; have G1 := F0.on b1 (by simp; omega); have z0 := G1 0; have z1 := G1 1; have z2 := G1 2; clear b1 G1 hw1)
    obtain ⟨r0, r1, r2⟩ := readS3 F1.out.some (.int .i64 0) (.int .i64 0) (.int .i64 0) _ rfl
    exact bodyPost_ret (v := .tuple #[.agg #[.int .i64 0, .int .i64 0, .int .i64 0], .bool false]) (by simp [results, Tryd.results9, go_sem, r0, r1, r2]) rfl ⟨rfl, setS3 B1.out _ (Nat.le_refl _) _ _ _⟩
  obtain ⟨p0, p1, p2, hp⟩ := list3 h3
  obtain ⟨x1, x2⟩ := pc_prog hp
  have HN := Lib.hid (fun h => pc_no (s := s) h)
  have HX1 := Lib.hid x1
  have HX2 := Lib.hid x2
  have SP := Lib.hid (spB_size s)
  rw [cutB_eq s h3] at HSP
  rw [hp] at HSP SP
  have hs0 : p0.size ≤ 1048576 := by have := SP.out p0 (by simp); omega
  have hs1 : p1.size ≤ 1048576 := by have := SP.out p1 (by simp); omega
  have hs2 : p2.size ≤ 1048576 := by have := SP.out p2 (by simp); omega
  have HR0 := Lib.hid (fun w hD hU => implReadNumber_any p0 w (Lib.hid (show Dig w from hD)) (Lib.hid (show Units w from hU)) hs0)
  have HR1 := Lib.hid (fun w hD hU => implReadNumber_any p1 w (Lib.hid (show Dig w from hD)) (Lib.hid (show Units w from hU)) hs1)
  have HR2 := Lib.hid (fun w hD hU => implReadNumber_any p2 w (Lib.hid (show Dig w from hD)) (Lib.hid (show Units w from hU)) hs2)
  unfold SaysRd at HR0 HR1 HR2
  simp only [pcO] at HX1 HX2
  generalize optR (rnr p0.data.toList) = n0 at HR0 HX1 HX2
  generalize optR (rnr p1.data.toList) = n1 at HR1 HX1 HX2
  generalize optR (rnr p2.data.toList) = n2 at HR2 HX1 HX2
  generalize optK (rnr p0.data.toList) = k0 at HR0
  generalize optK (rnr p1.data.toList) = k1 at HR1
  generalize optK (rnr p2.data.toList) = k2 at HR2
  generalize resParseCurve1 s = R1 at HN HX2 ⊢
  generalize resParseCurve2 s = R2 at HN HX1 HX2 ⊢
  clear hp h3 SP x1 x2
  have HCT := Lib.hid (fun w hU hP => implCurveText_any ⟨n0, n1, n2⟩ w (Lib.hid (show Units w from hU)) (Lib.hid (show Pow w from hP)))
  unfold cvV at HCT
  simp only at HCT
  go_enter Tryd.func9, Tryd.ntmps9
  go_wp2_with (go_at_call 17; obtain ⟨m, hm⟩ := hM2.out; refine (HSP.out m _ hm).mono ?_; rintro e w1 ⟨rfl, hw1⟩; have PC : Hid (PcAt w p0 p1 p2 0 0 0 w1) := Lib.hid (by { have b1 := one_new2 ((w.alloc (Obj.cells #[.int .i64 0, .int .i64 0, .int .i64 0] 26)).alloc (Obj.cells #[.int .i64 0, .int .i64 0, .int .i64 0] 36)) (.cells (Lib.cellsOf [p0, p1, p2] N) 9); have q := pieces_at ((w.alloc (Obj.cells #[.int .i64 0, .int .i64 0, .int .i64 0] 26)).alloc (Obj.cells #[.int .i64 0, .int .i64 0, .int .i64 0] 36)) p0 p1 p2 N 9; rw [← hw1] at b1 q; rw [hz2] at q; exact ⟨T0.on b1, F0.on b1 (by simp; omega), T1.on b1, F1.on b1 (by simp), q, (two_new w _ _).trans (b1.mono (by simp; omega))⟩ }); clear hw1 hm; refine Hid.out ?_)
  refine Lib.hid ?_
  clear T0 T1 F0 F1 hM2 HSP
  try rw [hz2]
  go_wp2_with fail
  go_loopw [19] (fun i wr => PcRel w p0 p1 p2 n0 n1 n2 i wr) (fun i _ => 3 - (intOf i).toNat)
  case atStart => exact .inl ⟨rfl, PC.out⟩
  case round =>
    rcases hrel with ⟨rfl, hr⟩ | ⟨rfl, hr⟩ | ⟨rfl, hr⟩ | ⟨rfl, hr⟩
    · have PR := Lib.hid hr
      obtain ⟨⟨_, _, _, _⟩, _, ⟨y0, y1, y2, _⟩, fy, ⟨q0, q1, q2, _⟩, hb⟩ := hr
      have UD : Hid (Units wr ∧ Dig wr) := Lib.hid ⟨hU.out.below hb, hD.out.below hb⟩
      have f1 := fy 0
      clear hb fy
      go_wp2_with (go_at_call 18; refine (HR0.out _ UD.out.2 UD.out.1).mono ?_; rintro e w2 ⟨rfl, b2⟩; have P2 := Lib.hid (PR.out.on b2); clear b2 y0 y1 y2 q0 q1 q2 f1; obtain ⟨_, _, ⟨y0, y1, y2, _⟩, fy, _⟩ := P2.out; have f1 := fy 0; clear fy)
      go_roundw
      case rel => exact .inr (.inl ⟨by go_num, P2.out.s0 _⟩)
      case measure => simp [intOf]
    · have PR := Lib.hid hr
      obtain ⟨⟨_, _, _, _⟩, _, ⟨y0, y1, y2, _⟩, fy, ⟨q0, q1, q2, _⟩, hb⟩ := hr
      have UD : Hid (Units wr ∧ Dig wr) := Lib.hid ⟨hU.out.below hb, hD.out.below hb⟩
      have f1 := fy 1
      clear hb fy
      go_wp2_with (go_at_call 18; refine (HR1.out _ UD.out.2 UD.out.1).mono ?_; rintro e w2 ⟨rfl, b2⟩; have P2 := Lib.hid (PR.out.on b2); clear b2 y0 y1 y2 q0 q1 q2 f1; obtain ⟨_, _, ⟨y0, y1, y2, _⟩, fy, _⟩ := P2.out; have f1 := fy 1; clear fy)
      go_roundw
      case rel => exact .inr (.inr (.inl ⟨by go_num, P2.out.s1 _⟩))
      case measure => simp [intOf]
    · have PR := Lib.hid hr
      obtain ⟨⟨_, _, _, _⟩, _, ⟨y0, y1, y2, _⟩, fy, ⟨q0, q1, q2, _⟩, hb⟩ := hr
      have UD : Hid (Units wr ∧ Dig wr) := Lib.hid ⟨hU.out.below hb, hD.out.below hb⟩
      have f1 := fy 2
      clear hb fy
      go_wp2_with (go_at_call 18; refine (HR2.out _ UD.out.2 UD.out.1).mono ?_; rintro e w2 ⟨rfl, b2⟩; have P2 := Lib.hid (PR.out.on b2); clear b2 y0 y1 y2 q0 q1 q2 f1; obtain ⟨_, _, ⟨y0, y1, y2, _⟩, fy, _⟩ := P2.out; have f1 := fy 2; clear fy)
      go_roundw
      case rel => exact .inr (.inr (.inr ⟨by go_num, P2.out.s2 _⟩))
      case measure => simp [intOf]
    · have PR := Lib.hid hr
      obtain ⟨⟨_, _, _, _⟩, _, ⟨y0, y1, y2, _⟩, fy, _, hb⟩ := hr
      have UP : Hid (Units wr ∧ Pow wr) := Lib.hid ⟨hU.out.below hb, hP.out.below hb⟩
      clear hb fy HR0 HR1 HR2 PC
      cases hg : goodV ⟨n0, n1, n2⟩
      · rw [ct_no hg, hg] at HCT
        rw [hg] at HX1
        have hR2 := HX1.out
        rw [Bool.false_and] at hR2
        have hR1 := HN.out hR2
        subst hR2 hR1
        clear HX1 HX2 HN hg
        go_wp2_with (go_at_call 7; refine (HCT.out _ (UP.out.1.below (one_new2 _ _)) (UP.out.2.below (one_new2 _ _))).mono ?_; rintro e w3 ⟨rfl, b3⟩; have P3 := Lib.hid ((PR.out.on (one_new2 wr (Obj.cells #[.int .i64 n0, .int .i64 n1, .int .i64 n2] 26))).on b3); have C3 := Lib.hid ((three_is wr (.int .i64 n0) (.int .i64 n1) (.int .i64 n2) 26).on b3); clear b3 y0 y1 y2; obtain ⟨⟨y0, y1, y2, _⟩, fz, _⟩ := P3.out; obtain ⟨x0, x1, x2, _⟩ := C3.out; have z0 := fz 0; have z1 := fz 1; have z2 := fz 2; clear fz)
        obtain ⟨r0, r1, r2⟩ := readS3 P3.out.1.some (.int .i64 0) (.int .i64 0) (.int .i64 0) _ rfl
        exact bodyPost_ret (v := .tuple #[.agg #[.int .i64 0, .int .i64 0, .int .i64 0], .bool false]) (by simp [results, Tryd.results9, go_sem, r0, r1, r2]) rfl ⟨rfl, setS3 P3.out.2.2.2.2.2 _ (Nat.le_refl _) _ _ _⟩
      · rw [hg] at HX1 HCT
        have hR2 := HX1.out
        rw [Bool.true_and] at hR2
        generalize resCurveText ⟨n0, n1, n2⟩ = R at HCT hR2
        cases hd : (R.toList == s.toList)
        · rw [hd] at hR2
          have hR1 := HN.out hR2
          subst hR2 hR1
          have hd2 : (R.toList != s.toList) = true := by simp [bne, hd]
          clear HX1 HX2 HN hg
          go_wp2_with (go_at_call 7; refine (HCT.out _ (UP.out.1.below (one_new2 _ _)) (UP.out.2.below (one_new2 _ _))).mono ?_; rintro e w3 ⟨rfl, b3⟩; have P3 := Lib.hid ((PR.out.on (one_new2 wr (Obj.cells #[.int .i64 n0, .int .i64 n1, .int .i64 n2] 26))).on b3); have C3 := Lib.hid ((three_is wr (.int .i64 n0) (.int .i64 n1) (.int .i64 n2) 26).on b3); clear b3 y0 y1 y2; obtain ⟨⟨y0, y1, y2, _⟩, fz, _⟩ := P3.out; obtain ⟨x0, x1, x2, _⟩ := C3.out; have z0 := fz 0; have z1 := fz 1; have z2 := fz 2; clear fz)
          obtain ⟨r0, r1, r2⟩ := readS3 P3.out.1.some (.int .i64 0) (.int .i64 0) (.int .i64 0) _ rfl
          exact bodyPost_ret (v := .tuple #[.agg #[.int .i64 0, .int .i64 0, .int .i64 0], .bool false]) (by simp [results, Tryd.results9, go_sem, r0, r1, r2]) rfl ⟨rfl, setS3 P3.out.2.2.2.2.2 _ (Nat.le_refl _) _ _ _⟩
        · rw [hd] at hR2
          have hR1 := HX2.out hR2
          subst hR2 hR1
          have hd2 : (R.toList != s.toList) = false := by simp [bne, hd]
          clear HX1 HX2 HN hg
          go_wp2_with (go_at_call 7; refine (HCT.out _ (UP.out.1.below (one_new2 _ _)) (UP.out.2.below (one_new2 _ _))).mono ?_; rintro e w3 ⟨rfl, b3⟩; have P3 := Lib.hid ((PR.out.on (one_new2 wr (Obj.cells #[.int .i64 n0, .int .i64 n1, .int .i64 n2] 26))).on b3); have C3 := Lib.hid ((three_is wr (.int .i64 n0) (.int .i64 n1) (.int .i64 n2) 26).on b3); clear b3 y0 y1 y2; obtain ⟨⟨y0, y1, y2, _⟩, fz, _⟩ := P3.out; obtain ⟨x0, x1, x2, _⟩ := C3.out; have z0 := fz 0; have z1 := fz 1; have z2 := fz 2; clear fz)
          obtain ⟨r0, r1, r2⟩ := readS3 P3.out.1.some (.int .i64 n0) (.int .i64 n1) (.int .i64 n2) _ rfl
          exact bodyPost_ret (v := .tuple #[.agg #[.int .i64 n0, .int .i64 n1, .int .i64 n2], .bool true]) (by simp [results, Tryd.results9, go_sem, r0, r1, r2]) rfl ⟨rfl, setS3 P3.out.2.2.2.2.2 _ (Nat.le_refl _) _ _ _⟩
theorem specParseCurve_any (s : ByteArray) (w : World) (hs : s.size ≤ 1048576) : Calls Tryd.prog 8 #[.string s] w (SaysT2 w (cvV (resParseCurve1 s)) (.bool (resParseCurve2 s))) := by
  have HC := Lib.hid (fun w => cuParse_any s w hs)
  generalize resParseCurve1 s = r at HC ⊢
  generalize resParseCurve2 s = g at HC ⊢
  obtain ⟨rf, rl, rs⟩ := r
  unfold cvV at HC ⊢
  simp only at HC ⊢
  have T0 : ThreeIs (w.alloc (Obj.cells #[.int .i64 0, .int .i64 0, .int .i64 0] 26)) w.heap.size (.int .i64 0) (.int .i64 0) (.int .i64 0) := three_is w _ _ _ _
  have F0 : FroC (w.alloc (Obj.cells #[.int .i64 0, .int .i64 0, .int .i64 0] 26)) w.heap.size := FroC.new w _ _
  go_enter Tryd.func8, Tryd.ntmps8
  go_wp2_with (go_at_call 16; refine (HC.out _).mono ?_; rintro e w1 ⟨rfl, b⟩; have B1 := Lib.hid ((one_new2 w _).trans (b.mono (by simp))); have F1 := Lib.hid (T0.on b); obtain ⟨y0, y1, y2, _⟩ := F1.out; have G1 := F0.on b (by simp); have z0 := G1 0; have z1 := G1 1; have z2 := G1 2; clear b G1)
  obtain ⟨r0, r1, r2⟩ := readS3 F1.out.some (.int .i64 rf) (.int .i64 rl) (.int .i64 rs) _ rfl
  exact bodyPost_ret (v := .tuple #[.agg #[.int .i64 rf, .int .i64 rl, .int .i64 rs], .bool g]) (by simp [results, Tryd.results8, go_sem, r0, r1, r2]) rfl ⟨rfl, setS3 B1.out _ (Nat.le_refl _) _ _ _⟩
theorem maxl_of {W : World} (h : W.ShapedOpen Tryd.prog) : MaxL W := Tryd.laysM147.s1_3 W h
def setTab (h : Array Obj) (g : Nat) (a : Array Value) : Array Obj := h.modify g fun
  | .cells _ t frozen => .cells a t frozen
  | o => o
/-- a world for the witness of ParseCurve: the tables in their places -/
noncomputable def laidWorld5 (os : Os) : World :=
  { laidWorld2 os with heap := setTab (setTab (laidWorld2 os).heap 4 #[.int .u8 128, .int .u8 191, .int .u8 160, .int .u8 191, .int .u8 128, .int .u8 159, .int .u8 144, .int .u8 191, .int .u8 128, .int .u8 143, .int .u8 0, .int .u8 0, .int .u8 0, .int .u8 0, .int .u8 0, .int .u8 0, .int .u8 0, .int .u8 0, .int .u8 0, .int .u8 0, .int .u8 0, .int .u8 0, .int .u8 0, .int .u8 0, .int .u8 0, .int .u8 0, .int .u8 0, .int .u8 0, .int .u8 0, .int .u8 0, .int .u8 0, .int .u8 0]) 3 (Go.Pinned.utf8FirstZ.map (fun (n : Nat) => Value.int .u8 (n : Int))).toArray }
end Go.Proofs.YteogadbjnmcblaaDoor
