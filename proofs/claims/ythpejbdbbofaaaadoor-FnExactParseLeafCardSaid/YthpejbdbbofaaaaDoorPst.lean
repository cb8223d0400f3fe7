/- A text read as one part, the model's: psStart, ParseFilter, ParseLeaf. -/
import Derived.Test.YthpejbdbbofaaaaDoorPsr
import Derived.Test.YthpejbdbbofaaaaDoorPsf
namespace Go.Proofs.YthpejbdbbofaaaaDoor
set_option maxRecDepth 100000
open Go.RowKit
set_option linter.unusedVariables false
set_option linter.unusedSimpArgs false

set_option maxHeartbeats 3200000 in
theorem psStart_any (s : ByteArray) (w : World) (hs : s.size ≤ 1048576) :
    Calls Tryd.prog 104 #[.string s] w fun e w' => ∃ g va vc, e = .returned (.pointer (some ⟨g, 0, none⟩)) ∧ StAt w' g (.slice va (tkL s).l.length vc) 0 s.size (.string ⟨#[]⟩) (.slice none 0 0) (.slice none 0 0) (.int .i64 0) (.int .i64 0) (tkL s).f (tkL s).g ∧ TkB w' g (.slice va (tkL s).l.length vc) (tkL s).l ∧ w.heap.size ≤ g ∧ Below w.heap.size w w' := by
  have HA := Lib.hid (fun w => tkAll_any s w hs)
  obtain ⟨R, hR⟩ : ∃ R, tkL s = R := ⟨_, rfl⟩
  rw [hR] at HA ⊢
  clear hR
  obtain ⟨l, f, g⟩ := R
  go_enter Tryd.func104, Tryd.ntmps104
  go_wp2_with (go_at_call 55; refine (HA.out _).mono ?_; rintro e w1 ⟨v, rfl, o1, b1⟩; obtain ⟨va, vc, rfl⟩ := o1.slt.formS; have B1 := Lib.hid b1; have O1 := Lib.hid o1.slt; clear b1 o1)
  go_ret
  have hs2 : (w1.alloc (.cells #[.int .i64 f, .int .i64 g] 26)).heap.size = w1.heap.size + 1 := by simp
  refine ⟨w1.heap.size + 1, va, vc, rfl, ?_, O1.out.tkb (two_new _ _ _) (Nat.le_succ _), by have := B1.out.size; omega, B1.out.trans ((two_new _ _ _).mono B1.out.size)⟩
  have q := BoxAt.new (w1.alloc (.cells #[.int .i64 f, .int .i64 g] 26)) #[.slice va l.length vc, .int .i64 0, .int .i64 s.size, .string ⟨#[]⟩, .slice none 0 0, .slice none 0 0, .int .i64 0, .int .i64 0, .int .i64 f, .int .i64 g] 135
  rw [hs2] at q
  exact q
set_option maxHeartbeats 12800000 in
theorem specParseFilter_any (s : ByteArray) (w : World) (hs : s.size ≤ 1048576) :
    Calls Tryd.prog 45 #[.string s] w fun e w' => e = .returned (.tuple #[fltV (resParseFilter s).1, faV (resParseFilter s).2.1, .bool (resParseFilter s).2.2]) ∧ Below w.heap.size w w' := by
  unfold resParseFilter
  obtain ⟨W0, hW0⟩ : ∃ W0, (w.alloc (.cells #[.int .i64 0, .int .i64 0, .int .i64 0, .int .i64 0, .int .i64 0] 77)).alloc (.cells #[.int .i64 0, .int .i64 0] 26) = W0 := ⟨_, rfl⟩
  have b0 : Below w.heap.size w W0 := by rw [← hW0]; exact two_new _ _ _
  have X4 : Hid (BoxAt W0 w.heap.size #[.int .i64 0, .int .i64 0, .int .i64 0, .int .i64 0, .int .i64 0] 77) := Lib.hid (by rw [← hW0]; exact (BoxAt.new w _ _).below (one_new2 _ _))
  have X5 : Hid (BoxAt W0 (w.heap.size + 1) #[.int .i64 0, .int .i64 0] 26) := Lib.hid (by rw [← hW0]; have q := BoxAt.new (w.alloc (.cells #[.int .i64 0, .int .i64 0, .int .i64 0, .int .i64 0, .int .i64 0] 77)) #[.int .i64 0, .int .i64 0] 26; rw [show (w.alloc (.cells #[.int .i64 0, .int .i64 0, .int .i64 0, .int .i64 0, .int .i64 0] 77)).heap.size = w.heap.size + 1 by simp] at q; exact q)
  have HW := Lib.hid hW0
  have B0 := Lib.hid b0
  have hs0 : w.heap.size + 1 < W0.heap.size := X5.out.lt
  clear hW0 b0
  by_cases h4 : s.size ≤ 4000
  rotate_left
  · have hn4 := h4
    have HSC := Lib.hid (fun w => scBytes_false s.size w (by omega))
    rw [whP_no hn4]
    show Calls _ _ _ _ fun e w' => e = .returned (.tuple #[fltV flt0, .agg #[.int .i64 (0), .int .i64 (0)], .bool false]) ∧ Below w.heap.size w w'
    obtain ⟨x0, x1, x2, x3, x4, xf⟩ := box_fives (X4.out)
    have y0 : W0.cell? ⟨w.heap.size + 1, 0, none⟩ = some (.int .i64 0) := by rw [(X5.out).cell 0]; rfl
    have y1 : W0.cell? ⟨w.heap.size + 1, 1, none⟩ = some (.int .i64 0) := by rw [(X5.out).cell 1]; rfl
    have yf := (X5.out).open
    go_enter Tryd.func45, Tryd.ntmps45
    go_wp2_with fail
    rw [HW.out]
    go_wp2_with (go_at_call 54; (with_reducible refine (HSC.out _).mono ?_); rintro e w' ⟨rfl, rfl⟩)
    have q4 := (((((((X4.out).set 0 (.int .i64 0)).set 1 (.int .i64 0)).set 2 (.int .i64 0)).set 3 (.int .i64 0)).set 4 (.int .i64 0)).other2 (c := w.heap.size + 1) (by omega) 0 (.int .i64 (0))).other2 (c := w.heap.size + 1) (by omega) 1 (.int .i64 (0))
    have q5 := (((X5.out).fiveO (c := w.heap.size) (by omega) (.int .i64 0) (.int .i64 0) (.int .i64 0) (.int .i64 0) (.int .i64 0)).set 0 (.int .i64 (0))).set 1 (.int .i64 (0))
    have r0 := q4.cell 0; have r1 := q4.cell 1; have r2 := q4.cell 2; have r3 := q4.cell 3; have r4 := q4.cell 4
    have u0 := q5.cell 0
    have u1 := q5.cell 1
    exact bodyPost_ret (v := .tuple #[fltV flt0, .agg #[.int .i64 (0), .int .i64 (0)], .bool false]) (by simp [results, Tryd.results45, go_sem, fltV, flt0, r0, r1, r2, r3, r4, u0, u1]) rfl ⟨rfl, (((((((B0.out).setCell (Nat.le_refl _) _).setCell (Nat.le_refl _) _).setCell (Nat.le_refl _) _).setCell (Nat.le_refl _) _).setCell (Nat.le_refl _) _).setCell (Nat.le_succ _) _).setCell (Nat.le_succ _) _⟩
  have HSC := Lib.hid (fun w => scBytes_true s.size w (by omega))
  have HS := Lib.hid (fun w => psStart_any s w hs)
  have hg0 := tkL_g s
  have hlen := tkL_len s
  have HG := Lib.hid (tkL_good s)
  by_cases hf : (tkL s).f = 0
  rotate_left
  · have df : ((tkL s).f != 0) = true := by simpa using hf
    rw [whP_fault h4 hf]
    show Calls _ _ _ _ fun e w' => e = .returned (.tuple #[fltV flt0, .agg #[.int .i64 ((tkL s).f), .int .i64 ((tkL s).g)], .bool true]) ∧ Below w.heap.size w w'
    go_enter Tryd.func45, Tryd.ntmps45
    go_wp2_with fail
    rw [HW.out]
    go_wp2_with (first | (go_at_call 54; (with_reducible refine (HSC.out _).mono ?_); rintro e w' ⟨rfl, rfl⟩) | (go_at_call 104; (with_reducible refine (HS.out _).mono ?_); rintro e w1 ⟨g, va, vc, rfl, st, tk, hgw, b1⟩; have S1 := Lib.hid st; have T1 := Lib.hid tk; have B1 := Lib.hid b1; obtain ⟨c0, c1, c2, c8, c9, fz⟩ := st.cells; clear st tk b1))
    have X41 := Lib.hid (X4.out.below B1.out)
    have X51 := Lib.hid (X5.out.below B1.out)
    have BW := Lib.hid (B0.out.trans (B1.out.mono B0.out.size))
    obtain ⟨x0, x1, x2, x3, x4, xf⟩ := box_fives (X41.out)
    have y0 : w1.cell? ⟨w.heap.size + 1, 0, none⟩ = some (.int .i64 0) := by rw [(X51.out).cell 0]; rfl
    have y1 : w1.cell? ⟨w.heap.size + 1, 1, none⟩ = some (.int .i64 0) := by rw [(X51.out).cell 1]; rfl
    have yf := (X51.out).open
    go_region
    all_goals
      go_wp2
      have q4 := (((((((X41.out).set 0 (.int .i64 0)).set 1 (.int .i64 0)).set 2 (.int .i64 0)).set 3 (.int .i64 0)).set 4 (.int .i64 0)).other2 (c := w.heap.size + 1) (by omega) 0 (.int .i64 ((tkL s).f))).other2 (c := w.heap.size + 1) (by omega) 1 (.int .i64 ((tkL s).g))
      have q5 := (((X51.out).fiveO (c := w.heap.size) (by omega) (.int .i64 0) (.int .i64 0) (.int .i64 0) (.int .i64 0) (.int .i64 0)).set 0 (.int .i64 ((tkL s).f))).set 1 (.int .i64 ((tkL s).g))
      have r0 := q4.cell 0; have r1 := q4.cell 1; have r2 := q4.cell 2; have r3 := q4.cell 3; have r4 := q4.cell 4
      have u0 := q5.cell 0
      have u1 := q5.cell 1
      exact bodyPost_ret (v := .tuple #[fltV flt0, .agg #[.int .i64 ((tkL s).f), .int .i64 ((tkL s).g)], .bool true]) (by simp [results, Tryd.results45, go_sem, fltV, flt0, r0, r1, r2, r3, r4, u0, u1]) rfl ⟨rfl, below_drewN ((((((((BW.out).setCell (Nat.le_refl _) _).setCell (Nat.le_refl _) _).setCell (Nat.le_refl _) _).setCell (Nat.le_refl _) _).setCell (Nat.le_refl _) _).setCell (Nat.le_succ _) _).setCell (Nat.le_succ _) _) 1⟩
  have hgz := hg0 hf
  rw [hf, hgz] at HS
  rw [whP_an h4 hf]
  obtain ⟨ts, hts⟩ : ∃ ts, (tkL s).l = ts := ⟨_, rfl⟩
  rw [hts] at HS hlen HG ⊢
  clear hf hgz hg0 h4 hts
  have hm : ts.length ≤ 1048576 := by omega
  obtain ⟨en, hen⟩ : ∃ en : Int, (s.size : Int) = en := ⟨_, rfl⟩
  rw [hen] at HS HSC ⊢
  have HFI := Lib.hid (fun g tv w HP HT => filter_any g 0 en tv (.string ⟨#[]⟩) (.slice none 0 0) (.slice none 0 0) (.int .i64 0) (.int .i64 0) ts w HP HT (Nat.zero_le _) hm HG)
  have HDO := Lib.hid (fun j g tv w HP HT hj => done_any g j en tv (.string ⟨#[]⟩) (.slice none 0 0) (.slice none 0 0) (.int .i64 0) (.int .i64 0) ts w HP HT hj hm)
  cases h : flP ts 0 with
  | bad k j =>
    rw [h] at HFI
    unfold fltV at HFI
    show Calls _ _ _ _ fun e w' => e = .returned (.tuple #[fltV flt0, .agg #[.int .i64 ((fltP ts en k j).1), .int .i64 ((fltP ts en k j).2)], .bool true]) ∧ Below w.heap.size w w'
    go_enter Tryd.func45, Tryd.ntmps45
    go_wp2_with fail
    rw [HW.out]
    go_wp2_with (first | (go_at_call 54; (with_reducible refine (HSC.out _).mono ?_); rintro e w' ⟨rfl, rfl⟩) | (go_at_call 104; (with_reducible refine (HS.out _).mono ?_); rintro e w1 ⟨g, va, vc, rfl, st, tk, hgw, b1⟩; have S1 := Lib.hid st; have T1 := Lib.hid tk; have B1 := Lib.hid b1; obtain ⟨c0, c1, c2, c8, c9, fz⟩ := st.cells; clear st tk b1) | (go_at_call 105; (with_reducible refine (HFI.out _ _ _ S1 T1).mono ?_); rintro e w2 ⟨⟨x, rfl⟩, hj, s, f⟩; have S2 := Lib.hid s; have F2 := Lib.hid f; clear s f))
    obtain ⟨W6, hW6⟩ : ∃ W6, w2.alloc (.cells #[.int .i64 x.o, .int .i64 x.f, .int .i64 x.m, .int .i64 x.v, .int .i64 x.t] 77) = W6 := ⟨_, rfl⟩
    rw [hW6]
    have b6 : Below w2.heap.size w2 W6 := by rw [← hW6]; exact one_new2 _ _
    have S6 := Lib.hid (S2.out.below b6)
    have BB : Hid (Below W0.heap.size w1 W6) := Lib.hid ((F2.out.1.mono hgw).trans (b6.mono (by have := B1.out.size; have := F2.out.1.size; omega)))
    have FF := Lib.hid (F2.out.below b6 S2.out.lt)
    have X46 := Lib.hid ((X4.out.below B1.out).far FF.out (by omega))
    have X56 := Lib.hid ((X5.out.below B1.out).far FF.out (by omega))
    have hw1 : W0.heap.size ≤ w1.heap.size := B1.out.size
    have hw2 : w1.heap.size ≤ w2.heap.size := F2.out.1.size
    have Y6 : Hid (BoxAt W6 w2.heap.size #[.int .i64 x.o, .int .i64 x.f, .int .i64 x.m, .int .i64 x.v, .int .i64 x.t] 77) := Lib.hid (by rw [← hW6]; exact BoxAt.new _ _ _)
    clear hW6
    have BW := Lib.hid ((B0.out.trans (B1.out.mono B0.out.size)).trans (BB.out.mono (by have := B0.out.size; have := B1.out.size; omega)))
    obtain ⟨x0, x1, x2, x3, x4, xf⟩ := box_fives (X46.out)
    have y0 : W6.cell? ⟨w.heap.size + 1, 0, none⟩ = some (.int .i64 0) := by rw [(X56.out).cell 0]; rfl
    have y1 : W6.cell? ⟨w.heap.size + 1, 1, none⟩ = some (.int .i64 0) := by rw [(X56.out).cell 1]; rfl
    have yf := (X56.out).open
    obtain ⟨c0, c1, c2, c8, c9, fz⟩ := S6.out.cells
    go_region
    all_goals
      go_wp2
      have q4 := (((((((X46.out).set 0 (.int .i64 0)).set 1 (.int .i64 0)).set 2 (.int .i64 0)).set 3 (.int .i64 0)).set 4 (.int .i64 0)).other2 (c := w.heap.size + 1) (by omega) 0 (.int .i64 ((fltP ts en k j).1))).other2 (c := w.heap.size + 1) (by omega) 1 (.int .i64 ((fltP ts en k j).2))
      have q5 := (((X56.out).fiveO (c := w.heap.size) (by omega) (.int .i64 0) (.int .i64 0) (.int .i64 0) (.int .i64 0) (.int .i64 0)).set 0 (.int .i64 ((fltP ts en k j).1))).set 1 (.int .i64 ((fltP ts en k j).2))
      have r0 := q4.cell 0; have r1 := q4.cell 1; have r2 := q4.cell 2; have r3 := q4.cell 3; have r4 := q4.cell 4
      have u0 := q5.cell 0
      have u1 := q5.cell 1
      exact bodyPost_ret (v := .tuple #[fltV flt0, .agg #[.int .i64 ((fltP ts en k j).1), .int .i64 ((fltP ts en k j).2)], .bool true]) (by simp [results, Tryd.results45, go_sem, fltV, flt0, r0, r1, r2, r3, r4, u0, u1]) rfl ⟨rfl, below_drewN ((((((((BW.out).setCell (Nat.le_refl _) _).setCell (Nat.le_refl _) _).setCell (Nat.le_refl _) _).setCell (Nat.le_refl _) _).setCell (Nat.le_refl _) _).setCell (Nat.le_succ _) _).setCell (Nat.le_succ _) _) 1⟩
  | ok x j =>
    rw [h] at HFI
    unfold fltV at HFI
    by_cases hj : j = ts.length
    · have hA : alP ts (PR.ok x j) = PR.ok x j := if_pos hj
      have HD := Lib.hid (fun g tv w HP HT hj => HDO.out j g tv w HP HT hj)
      rw [if_pos hj] at HD
      rw [hA]
      show Calls _ _ _ _ fun e w' => e = .returned (.tuple #[fltV x, .agg #[.int .i64 (0), .int .i64 (0)], .bool true]) ∧ Below w.heap.size w w'
      go_enter Tryd.func45, Tryd.ntmps45
      go_wp2_with fail
      rw [HW.out]
      go_wp2_with (first | (go_at_call 54; (with_reducible refine (HSC.out _).mono ?_); rintro e w' ⟨rfl, rfl⟩) | (go_at_call 104; (with_reducible refine (HS.out _).mono ?_); rintro e w1 ⟨g, va, vc, rfl, st, tk, hgw, b1⟩; have S1 := Lib.hid st; have T1 := Lib.hid tk; have B1 := Lib.hid b1; obtain ⟨c0, c1, c2, c8, c9, fz⟩ := st.cells; clear st tk b1) | (go_at_call 105; (with_reducible refine (HFI.out _ _ _ S1 T1).mono ?_); rintro e w2 ⟨rfl, hj2, s, f⟩; have S2 := Lib.hid s; have F2 := Lib.hid f; have hg2 : g < w2.heap.size := s.lt; clear s f))
      obtain ⟨W6, hW6⟩ : ∃ W6, w2.alloc (.cells #[.int .i64 x.o, .int .i64 x.f, .int .i64 x.m, .int .i64 x.v, .int .i64 x.t] 77) = W6 := ⟨_, rfl⟩
      rw [hW6]
      have b6 : Below w2.heap.size w2 W6 := by rw [← hW6]; exact one_new2 _ _
      have S6 := Lib.hid (S2.out.below b6)
      have BB : Hid (Below W0.heap.size w1 W6) := Lib.hid ((F2.out.1.mono hgw).trans (b6.mono (by have := B1.out.size; have := F2.out.1.size; omega)))
      have FF := Lib.hid (F2.out.below b6 S2.out.lt)
      have X46 := Lib.hid ((X4.out.below B1.out).far FF.out (by omega))
      have X56 := Lib.hid ((X5.out.below B1.out).far FF.out (by omega))
      have hw1 : W0.heap.size ≤ w1.heap.size := B1.out.size
      have hw2 : w1.heap.size ≤ w2.heap.size := F2.out.1.size
      have Y6 : Hid (BoxAt W6 w2.heap.size #[.int .i64 x.o, .int .i64 x.f, .int .i64 x.m, .int .i64 x.v, .int .i64 x.t] 77) := Lib.hid (by rw [← hW6]; exact BoxAt.new _ _ _)
      clear hW6
      have T6 := Lib.hid (T1.out.far FF.out)
      go_wp2_with (go_at_call 106; (with_reducible refine (HD.out _ _ _ S6 T6 hj2).mono ?_); rintro e w7 ⟨rfl, hj7, s, f⟩; have S7 := Lib.hid s; have F7 := Lib.hid f; clear s f; have X47 := Lib.hid (X46.out.far F7.out (by omega)); have X57 := Lib.hid (X56.out.far F7.out (by omega)); have Y7 := Lib.hid (Y6.out.far F7.out (by omega)); obtain ⟨x0, x1, x2, x3, x4, xf⟩ := box_fives X47.out; have y0 : w7.cell? ⟨w.heap.size + 1, 0, none⟩ = some (.int .i64 0) := (by rw [X57.out.cell 0]; rfl); have y1 : w7.cell? ⟨w.heap.size + 1, 1, none⟩ = some (.int .i64 0) := (by rw [X57.out.cell 1]; rfl); have yf := X57.out.open; obtain ⟨z0, z1, z2, z3, z4, zf⟩ := box_fives Y7.out)
      have BW : Hid (Below w.heap.size w w7) := Lib.hid (((B0.out.trans (B1.out.mono B0.out.size)).trans (BB.out.mono (by omega))).trans (F7.out.1.mono (by omega)))
      have q4 := (((((((X47.out).set 0 (.int .i64 x.o)).set 1 (.int .i64 x.f)).set 2 (.int .i64 x.m)).set 3 (.int .i64 x.v)).set 4 (.int .i64 x.t)).other2 (c := w.heap.size + 1) (by omega) 0 (.int .i64 (0))).other2 (c := w.heap.size + 1) (by omega) 1 (.int .i64 (0))
      have q5 := (((X57.out).fiveO (c := w.heap.size) (by omega) (.int .i64 x.o) (.int .i64 x.f) (.int .i64 x.m) (.int .i64 x.v) (.int .i64 x.t)).set 0 (.int .i64 (0))).set 1 (.int .i64 (0))
      have r0 := q4.cell 0; have r1 := q4.cell 1; have r2 := q4.cell 2; have r3 := q4.cell 3; have r4 := q4.cell 4
      have u0 := q5.cell 0
      have u1 := q5.cell 1
      exact bodyPost_ret (v := .tuple #[fltV x, .agg #[.int .i64 (0), .int .i64 (0)], .bool true]) (by simp [results, Tryd.results45, go_sem, fltV, flt0, r0, r1, r2, r3, r4, u0, u1]) rfl ⟨rfl, (((((((BW.out).setCell (Nat.le_refl _) _).setCell (Nat.le_refl _) _).setCell (Nat.le_refl _) _).setCell (Nat.le_refl _) _).setCell (Nat.le_refl _) _).setCell (Nat.le_succ _) _).setCell (Nat.le_succ _) _⟩
    · have hA : alP ts (PR.ok x j) = PR.bad 2 j := if_neg hj
      have HD := Lib.hid (fun g tv w HP HT hj => HDO.out j g tv w HP HT hj)
      rw [if_neg hj] at HD
      rw [hA]
      show Calls _ _ _ _ fun e w' => e = .returned (.tuple #[fltV flt0, .agg #[.int .i64 ((fltP ts en 2 j).1), .int .i64 ((fltP ts en 2 j).2)], .bool true]) ∧ Below w.heap.size w w'
      go_enter Tryd.func45, Tryd.ntmps45
      go_wp2_with fail
      rw [HW.out]
      go_wp2_with (first | (go_at_call 54; (with_reducible refine (HSC.out _).mono ?_); rintro e w' ⟨rfl, rfl⟩) | (go_at_call 104; (with_reducible refine (HS.out _).mono ?_); rintro e w1 ⟨g, va, vc, rfl, st, tk, hgw, b1⟩; have S1 := Lib.hid st; have T1 := Lib.hid tk; have B1 := Lib.hid b1; obtain ⟨c0, c1, c2, c8, c9, fz⟩ := st.cells; clear st tk b1) | (go_at_call 105; (with_reducible refine (HFI.out _ _ _ S1 T1).mono ?_); rintro e w2 ⟨rfl, hj2, s, f⟩; have S2 := Lib.hid s; have F2 := Lib.hid f; have hg2 : g < w2.heap.size := s.lt; clear s f))
      obtain ⟨W5, hW5⟩ : ∃ W5, w2.alloc (.cells #[.int .i64 x.o, .int .i64 x.f, .int .i64 x.m, .int .i64 x.v, .int .i64 x.t] 77) = W5 := ⟨_, rfl⟩
      rw [hW5]
      have b5 : Below w2.heap.size w2 W5 := by rw [← hW5]; exact one_new2 _ _
      have S5 := Lib.hid (S2.out.below b5)
      have BB5 : Hid (Below W0.heap.size w1 W5) := Lib.hid ((F2.out.1.mono hgw).trans (b5.mono (by have := B1.out.size; have := F2.out.1.size; omega)))
      have FF := Lib.hid (F2.out.below b5 S2.out.lt)
      have X45 := Lib.hid ((X4.out.below B1.out).far FF.out (by omega))
      have X55 := Lib.hid ((X5.out.below B1.out).far FF.out (by omega))
      have hw1 : W0.heap.size ≤ w1.heap.size := B1.out.size
      have hw2 : w1.heap.size ≤ w2.heap.size := F2.out.1.size
      have Y5 : Hid (BoxAt W5 w2.heap.size #[.int .i64 x.o, .int .i64 x.f, .int .i64 x.m, .int .i64 x.v, .int .i64 x.t] 77) := Lib.hid (by rw [← hW5]; exact BoxAt.new _ _ _)
      clear hW5
      have T5 := Lib.hid (T1.out.far FF.out)
      go_wp2_with (go_at_call 106; (with_reducible refine (HD.out _ _ _ S5 T5 hj2).mono ?_); rintro e W6 ⟨rfl, hj7, s, f⟩; have S6 := Lib.hid s; have F7 := Lib.hid f; clear s f; have X46 := Lib.hid (X45.out.far F7.out (by omega)); have X56 := Lib.hid (X55.out.far F7.out (by omega)))
      have BB : Hid (Below W0.heap.size w1 W6) := Lib.hid (BB5.out.trans (F7.out.1.mono (by omega)))
      have BW := Lib.hid ((B0.out.trans (B1.out.mono B0.out.size)).trans (BB.out.mono (by have := B0.out.size; have := B1.out.size; omega)))
      obtain ⟨x0, x1, x2, x3, x4, xf⟩ := box_fives (X46.out)
      have y0 : W6.cell? ⟨w.heap.size + 1, 0, none⟩ = some (.int .i64 0) := by rw [(X56.out).cell 0]; rfl
      have y1 : W6.cell? ⟨w.heap.size + 1, 1, none⟩ = some (.int .i64 0) := by rw [(X56.out).cell 1]; rfl
      have yf := (X56.out).open
      obtain ⟨c0, c1, c2, c8, c9, fz⟩ := S6.out.cells
      go_region
      all_goals
        go_wp2
        have q4 := (((((((X46.out).set 0 (.int .i64 0)).set 1 (.int .i64 0)).set 2 (.int .i64 0)).set 3 (.int .i64 0)).set 4 (.int .i64 0)).other2 (c := w.heap.size + 1) (by omega) 0 (.int .i64 ((fltP ts en 2 j).1))).other2 (c := w.heap.size + 1) (by omega) 1 (.int .i64 ((fltP ts en 2 j).2))
        have q5 := (((X56.out).fiveO (c := w.heap.size) (by omega) (.int .i64 0) (.int .i64 0) (.int .i64 0) (.int .i64 0) (.int .i64 0)).set 0 (.int .i64 ((fltP ts en 2 j).1))).set 1 (.int .i64 ((fltP ts en 2 j).2))
        have r0 := q4.cell 0; have r1 := q4.cell 1; have r2 := q4.cell 2; have r3 := q4.cell 3; have r4 := q4.cell 4
        have u0 := q5.cell 0
        have u1 := q5.cell 1
        exact bodyPost_ret (v := .tuple #[fltV flt0, .agg #[.int .i64 ((fltP ts en 2 j).1), .int .i64 ((fltP ts en 2 j).2)], .bool true]) (by simp [results, Tryd.results45, go_sem, fltV, flt0, r0, r1, r2, r3, r4, u0, u1]) rfl ⟨rfl, below_drewN ((((((((BW.out).setCell (Nat.le_refl _) _).setCell (Nat.le_refl _) _).setCell (Nat.le_refl _) _).setCell (Nat.le_refl _) _).setCell (Nat.le_refl _) _).setCell (Nat.le_succ _) _).setCell (Nat.le_succ _) _) 1⟩
set_option maxHeartbeats 12800000 in
theorem specParseLeaf_any (s : ByteArray) (p : Int) (w : World) (hs : s.size ≤ 1048576) :
    Calls Tryd.prog 49 #[.string s, .int .i64 p] w fun e w' => e = .returned (.tuple #[clsV (resParseLeaf s p).1, faV (resParseLeaf s p).2.1, .bool (resParseLeaf s p).2.2]) ∧ Below w.heap.size w w' := by
  unfold resParseLeaf
  obtain ⟨W0, hW0⟩ : ∃ W0, (w.alloc (.cells #[.int .i64 0, .int .i64 0, .int .i64 0, .int .i64 0, .int .i64 0, .int .i64 0, .int .i64 0, .int .i64 0] 62)).alloc (.cells #[.int .i64 0, .int .i64 0] 26) = W0 := ⟨_, rfl⟩
  have b0 : Below w.heap.size w W0 := by rw [← hW0]; exact two_new _ _ _
  have X4 : Hid (BoxAt W0 w.heap.size #[.int .i64 0, .int .i64 0, .int .i64 0, .int .i64 0, .int .i64 0, .int .i64 0, .int .i64 0, .int .i64 0] 62) := Lib.hid (by rw [← hW0]; exact (BoxAt.new w _ _).below (one_new2 _ _))
  have X5 : Hid (BoxAt W0 (w.heap.size + 1) #[.int .i64 0, .int .i64 0] 26) := Lib.hid (by rw [← hW0]; have q := BoxAt.new (w.alloc (.cells #[.int .i64 0, .int .i64 0, .int .i64 0, .int .i64 0, .int .i64 0, .int .i64 0, .int .i64 0, .int .i64 0] 62)) #[.int .i64 0, .int .i64 0] 26; rw [show (w.alloc (.cells #[.int .i64 0, .int .i64 0, .int .i64 0, .int .i64 0, .int .i64 0, .int .i64 0, .int .i64 0, .int .i64 0] 62)).heap.size = w.heap.size + 1 by simp] at q; exact q)
  have HW := Lib.hid hW0
  have B0 := Lib.hid b0
  have hs0 : w.heap.size + 1 < W0.heap.size := X5.out.lt
  clear hW0 b0
  have HIN := Lib.hid (fun w => l1In_any p 0 999 w)
  by_cases h4 : s.size ≤ 4000
  rotate_left
  · have hn4 := h4
    have HSC := Lib.hid (fun w => scBytes_false s.size w (by omega))
    rw [show (if inB p 0 999 = true then whP s (fun ts => lfP ts 0 p) cls0 else (cls0, (0, 0), false)) = (cls0, (0, 0), false) by rw [whP_no hn4]; split <;> rfl]
    show Calls _ _ _ _ fun e w' => e = .returned (.tuple #[clsV cls0, .agg #[.int .i64 (0), .int .i64 (0)], .bool false]) ∧ Below w.heap.size w w'
    obtain ⟨x0, x1, x2, x3, x4, x5, x6, x7, xf⟩ := box_eights (X4.out)
    have y0 : W0.cell? ⟨w.heap.size + 1, 0, none⟩ = some (.int .i64 0) := by rw [(X5.out).cell 0]; rfl
    have y1 : W0.cell? ⟨w.heap.size + 1, 1, none⟩ = some (.int .i64 0) := by rw [(X5.out).cell 1]; rfl
    have yf := (X5.out).open
    go_enter Tryd.func49, Tryd.ntmps49
    go_wp2_with fail
    rw [HW.out]
    go_wp2_with (go_at_call 54; (with_reducible refine (HSC.out _).mono ?_); rintro e w' ⟨rfl, rfl⟩)
    have q4 := ((((((((((X4.out).set 0 (.int .i64 0)).set 1 (.int .i64 0)).set 2 (.int .i64 0)).set 3 (.int .i64 0)).set 4 (.int .i64 0)).set 5 (.int .i64 0)).set 6 (.int .i64 0)).set 7 (.int .i64 0)).other2 (c := w.heap.size + 1) (by omega) 0 (.int .i64 (0))).other2 (c := w.heap.size + 1) (by omega) 1 (.int .i64 (0))
    have q5 := (((X5.out).eightO (c := w.heap.size) (by omega) (.int .i64 0) (.int .i64 0) (.int .i64 0) (.int .i64 0) (.int .i64 0) (.int .i64 0) (.int .i64 0) (.int .i64 0)).set 0 (.int .i64 (0))).set 1 (.int .i64 (0))
    have r0 := q4.cell 0; have r1 := q4.cell 1; have r2 := q4.cell 2; have r3 := q4.cell 3; have r4 := q4.cell 4; have r5 := q4.cell 5; have r6 := q4.cell 6; have r7 := q4.cell 7
    have u0 := q5.cell 0
    have u1 := q5.cell 1
    exact bodyPost_ret (v := .tuple #[clsV cls0, .agg #[.int .i64 (0), .int .i64 (0)], .bool false]) (by simp [results, Tryd.results49, go_sem, clsV, cls0, r0, r1, r2, r3, r4, r5, r6, r7, u0, u1]) rfl ⟨rfl, ((((((((((B0.out).setCell (Nat.le_refl _) _).setCell (Nat.le_refl _) _).setCell (Nat.le_refl _) _).setCell (Nat.le_refl _) _).setCell (Nat.le_refl _) _).setCell (Nat.le_refl _) _).setCell (Nat.le_refl _) _).setCell (Nat.le_refl _) _).setCell (Nat.le_succ _) _).setCell (Nat.le_succ _) _⟩
  have HSC := Lib.hid (fun w => scBytes_true s.size w (by omega))
  rcases Bool.eq_false_or_eq_true (inB p 0 999) with hb | hb
  rotate_left
  · rw [if_neg (by rw [hb]; simp)]
    rw [hb] at HIN
    show Calls _ _ _ _ fun e w' => e = .returned (.tuple #[clsV cls0, .agg #[.int .i64 (0), .int .i64 (0)], .bool false]) ∧ Below w.heap.size w w'
    obtain ⟨x0, x1, x2, x3, x4, x5, x6, x7, xf⟩ := box_eights (X4.out)
    have y0 : W0.cell? ⟨w.heap.size + 1, 0, none⟩ = some (.int .i64 0) := by rw [(X5.out).cell 0]; rfl
    have y1 : W0.cell? ⟨w.heap.size + 1, 1, none⟩ = some (.int .i64 0) := by rw [(X5.out).cell 1]; rfl
    have yf := (X5.out).open
    go_enter Tryd.func49, Tryd.ntmps49
    go_wp2_with fail
    rw [HW.out]
    go_wp2_with (first | (go_at_call 54; (with_reducible refine (HSC.out _).mono ?_); rintro e w' ⟨rfl, rfl⟩) | (go_at_call 109; (with_reducible refine (HIN.out _).mono ?_); rintro e w' ⟨rfl, rfl⟩))
    have q4 := ((((((((((X4.out).set 0 (.int .i64 0)).set 1 (.int .i64 0)).set 2 (.int .i64 0)).set 3 (.int .i64 0)).set 4 (.int .i64 0)).set 5 (.int .i64 0)).set 6 (.int .i64 0)).set 7 (.int .i64 0)).other2 (c := w.heap.size + 1) (by omega) 0 (.int .i64 (0))).other2 (c := w.heap.size + 1) (by omega) 1 (.int .i64 (0))
    have q5 := (((X5.out).eightO (c := w.heap.size) (by omega) (.int .i64 0) (.int .i64 0) (.int .i64 0) (.int .i64 0) (.int .i64 0) (.int .i64 0) (.int .i64 0) (.int .i64 0)).set 0 (.int .i64 (0))).set 1 (.int .i64 (0))
    have r0 := q4.cell 0; have r1 := q4.cell 1; have r2 := q4.cell 2; have r3 := q4.cell 3; have r4 := q4.cell 4; have r5 := q4.cell 5; have r6 := q4.cell 6; have r7 := q4.cell 7
    have u0 := q5.cell 0
    have u1 := q5.cell 1
    exact bodyPost_ret (v := .tuple #[clsV cls0, .agg #[.int .i64 (0), .int .i64 (0)], .bool false]) (by simp [results, Tryd.results49, go_sem, clsV, cls0, r0, r1, r2, r3, r4, r5, r6, r7, u0, u1]) rfl ⟨rfl, ((((((((((B0.out).setCell (Nat.le_refl _) _).setCell (Nat.le_refl _) _).setCell (Nat.le_refl _) _).setCell (Nat.le_refl _) _).setCell (Nat.le_refl _) _).setCell (Nat.le_refl _) _).setCell (Nat.le_refl _) _).setCell (Nat.le_refl _) _).setCell (Nat.le_succ _) _).setCell (Nat.le_succ _) _⟩
  rw [if_pos hb]
  rw [hb] at HIN
  have HS := Lib.hid (fun w => psStart_any s w hs)
  have hg0 := tkL_g s
  have hlen := tkL_len s
  have HG := Lib.hid (tkL_good s)
  by_cases hf : (tkL s).f = 0
  rotate_left
  · have df : ((tkL s).f != 0) = true := by simpa using hf
    rw [whP_fault h4 hf]
    show Calls _ _ _ _ fun e w' => e = .returned (.tuple #[clsV cls0, .agg #[.int .i64 ((tkL s).f), .int .i64 ((tkL s).g)], .bool true]) ∧ Below w.heap.size w w'
    go_enter Tryd.func49, Tryd.ntmps49
    go_wp2_with fail
    rw [HW.out]
    go_wp2_with (first | (go_at_call 54; (with_reducible refine (HSC.out _).mono ?_); rintro e w' ⟨rfl, rfl⟩) | (go_at_call 109; (with_reducible refine (HIN.out _).mono ?_); rintro e w' ⟨rfl, rfl⟩) | (go_at_call 104; (with_reducible refine (HS.out _).mono ?_); rintro e w1 ⟨g, va, vc, rfl, st, tk, hgw, b1⟩; have S1 := Lib.hid st; have T1 := Lib.hid tk; have B1 := Lib.hid b1; obtain ⟨c0, c1, c2, c8, c9, fz⟩ := st.cells; clear st tk b1))
    have X41 := Lib.hid (X4.out.below B1.out)
    have X51 := Lib.hid (X5.out.below B1.out)
    have BW := Lib.hid (B0.out.trans (B1.out.mono B0.out.size))
    obtain ⟨x0, x1, x2, x3, x4, x5, x6, x7, xf⟩ := box_eights (X41.out)
    have y0 : w1.cell? ⟨w.heap.size + 1, 0, none⟩ = some (.int .i64 0) := by rw [(X51.out).cell 0]; rfl
    have y1 : w1.cell? ⟨w.heap.size + 1, 1, none⟩ = some (.int .i64 0) := by rw [(X51.out).cell 1]; rfl
    have yf := (X51.out).open
    go_region
    all_goals
      go_wp2
      have q4 := ((((((((((X41.out).set 0 (.int .i64 0)).set 1 (.int .i64 0)).set 2 (.int .i64 0)).set 3 (.int .i64 0)).set 4 (.int .i64 0)).set 5 (.int .i64 0)).set 6 (.int .i64 0)).set 7 (.int .i64 0)).other2 (c := w.heap.size + 1) (by omega) 0 (.int .i64 ((tkL s).f))).other2 (c := w.heap.size + 1) (by omega) 1 (.int .i64 ((tkL s).g))
      have q5 := (((X51.out).eightO (c := w.heap.size) (by omega) (.int .i64 0) (.int .i64 0) (.int .i64 0) (.int .i64 0) (.int .i64 0) (.int .i64 0) (.int .i64 0) (.int .i64 0)).set 0 (.int .i64 ((tkL s).f))).set 1 (.int .i64 ((tkL s).g))
      have r0 := q4.cell 0; have r1 := q4.cell 1; have r2 := q4.cell 2; have r3 := q4.cell 3; have r4 := q4.cell 4; have r5 := q4.cell 5; have r6 := q4.cell 6; have r7 := q4.cell 7
      have u0 := q5.cell 0
      have u1 := q5.cell 1
      exact bodyPost_ret (v := .tuple #[clsV cls0, .agg #[.int .i64 ((tkL s).f), .int .i64 ((tkL s).g)], .bool true]) (by simp [results, Tryd.results49, go_sem, clsV, cls0, r0, r1, r2, r3, r4, r5, r6, r7, u0, u1]) rfl ⟨rfl, below_drewN (((((((((((BW.out).setCell (Nat.le_refl _) _).setCell (Nat.le_refl _) _).setCell (Nat.le_refl _) _).setCell (Nat.le_refl _) _).setCell (Nat.le_refl _) _).setCell (Nat.le_refl _) _).setCell (Nat.le_refl _) _).setCell (Nat.le_refl _) _).setCell (Nat.le_succ _) _).setCell (Nat.le_succ _) _) 1⟩
  have hgz := hg0 hf
  rw [hf, hgz] at HS
  rw [whP_an h4 hf]
  obtain ⟨ts, hts⟩ : ∃ ts, (tkL s).l = ts := ⟨_, rfl⟩
  rw [hts] at HS hlen HG ⊢
  clear hf hgz hg0 h4 hts
  have hm : ts.length ≤ 1048576 := by omega
  obtain ⟨en, hen⟩ : ∃ en : Int, (s.size : Int) = en := ⟨_, rfl⟩
  rw [hen] at HS HSC ⊢
  have HHD := Lib.hid (fun g tv w HP HT => head_any g 0 en p tv (.string ⟨#[]⟩) (.slice none 0 0) (.slice none 0 0) (.int .i64 0) (.int .i64 0) ts w HP HT (Nat.zero_le _) hm HG)
  have HLI := Lib.hid (fun j g tv w HP HT hj => limit_any g j en tv (.string ⟨#[]⟩) (.slice none 0 0) (.slice none 0 0) (.int .i64 0) (.int .i64 0) ts w HP HT hj hm HG)
  have HDO := Lib.hid (fun j g tv w HP HT hj => done_any g j en tv (.string ⟨#[]⟩) (.slice none 0 0) (.slice none 0 0) (.int .i64 0) (.int .i64 0) ts w HP HT hj hm)
  cases h : hdP ts 0 p with
  | bad k j =>
    have hR : lfP ts 0 p = .bad k j := PR.bind_bad h
    rw [hR]
    rw [h] at HHD
    unfold clsV at HHD
    show Calls _ _ _ _ fun e w' => e = .returned (.tuple #[clsV cls0, .agg #[.int .i64 ((fltP ts en k j).1), .int .i64 ((fltP ts en k j).2)], .bool true]) ∧ Below w.heap.size w w'
    go_enter Tryd.func49, Tryd.ntmps49
    go_wp2_with fail
    rw [HW.out]
    go_wp2_with (first | (go_at_call 54; (with_reducible refine (HSC.out _).mono ?_); rintro e w' ⟨rfl, rfl⟩) | (go_at_call 109; (with_reducible refine (HIN.out _).mono ?_); rintro e w' ⟨rfl, rfl⟩) | (go_at_call 104; (with_reducible refine (HS.out _).mono ?_); rintro e w1 ⟨g, va, vc, rfl, st, tk, hgw, b1⟩; have S1 := Lib.hid st; have T1 := Lib.hid tk; have B1 := Lib.hid b1; obtain ⟨c0, c1, c2, c8, c9, fz⟩ := st.cells; clear st tk b1) | (go_at_call 110; (with_reducible refine (HHD.out _ _ _ S1 T1).mono ?_); rintro e w2 ⟨⟨x, rfl⟩, hj2, s, f⟩; have S2 := Lib.hid s; have F2 := Lib.hid f; have hg2 : g < w2.heap.size := s.lt; clear s f))
    obtain ⟨W6, hW6⟩ : ∃ W6, w2.alloc (.cells #[.int .i64 x.i, .int .i64 x.p, .int .i64 x.r, .int .i64 x.e, .int .i64 x.b, .int .i64 x.u, .int .i64 x.o, .int .i64 x.l] 62) = W6 := ⟨_, rfl⟩
    rw [hW6]
    have b6 : Below w2.heap.size w2 W6 := by rw [← hW6]; exact one_new2 _ _
    have S6 := Lib.hid (S2.out.below b6)
    have BB : Hid (Below W0.heap.size w1 W6) := Lib.hid ((F2.out.1.mono hgw).trans (b6.mono (by have := B1.out.size; have := F2.out.1.size; omega)))
    have FF := Lib.hid (F2.out.below b6 S2.out.lt)
    have X46 := Lib.hid ((X4.out.below B1.out).far FF.out (by omega))
    have X56 := Lib.hid ((X5.out.below B1.out).far FF.out (by omega))
    have hw1 : W0.heap.size ≤ w1.heap.size := B1.out.size
    have hw2 : w1.heap.size ≤ w2.heap.size := F2.out.1.size
    have Y6 : Hid (BoxAt W6 w2.heap.size #[.int .i64 x.i, .int .i64 x.p, .int .i64 x.r, .int .i64 x.e, .int .i64 x.b, .int .i64 x.u, .int .i64 x.o, .int .i64 x.l] 62) := Lib.hid (by rw [← hW6]; exact BoxAt.new _ _ _)
    clear hW6
    have BW := Lib.hid ((B0.out.trans (B1.out.mono B0.out.size)).trans (BB.out.mono (by have := B0.out.size; have := B1.out.size; omega)))
    obtain ⟨x0, x1, x2, x3, x4, x5, x6, x7, xf⟩ := box_eights (X46.out)
    have y0 : W6.cell? ⟨w.heap.size + 1, 0, none⟩ = some (.int .i64 0) := by rw [(X56.out).cell 0]; rfl
    have y1 : W6.cell? ⟨w.heap.size + 1, 1, none⟩ = some (.int .i64 0) := by rw [(X56.out).cell 1]; rfl
    have yf := (X56.out).open
    obtain ⟨c0, c1, c2, c8, c9, fz⟩ := S6.out.cells
    go_region
    all_goals
      go_wp2
      have q4 := ((((((((((X46.out).set 0 (.int .i64 0)).set 1 (.int .i64 0)).set 2 (.int .i64 0)).set 3 (.int .i64 0)).set 4 (.int .i64 0)).set 5 (.int .i64 0)).set 6 (.int .i64 0)).set 7 (.int .i64 0)).other2 (c := w.heap.size + 1) (by omega) 0 (.int .i64 ((fltP ts en k j).1))).other2 (c := w.heap.size + 1) (by omega) 1 (.int .i64 ((fltP ts en k j).2))
      have q5 := (((X56.out).eightO (c := w.heap.size) (by omega) (.int .i64 0) (.int .i64 0) (.int .i64 0) (.int .i64 0) (.int .i64 0) (.int .i64 0) (.int .i64 0) (.int .i64 0)).set 0 (.int .i64 ((fltP ts en k j).1))).set 1 (.int .i64 ((fltP ts en k j).2))
      have r0 := q4.cell 0; have r1 := q4.cell 1; have r2 := q4.cell 2; have r3 := q4.cell 3; have r4 := q4.cell 4; have r5 := q4.cell 5; have r6 := q4.cell 6; have r7 := q4.cell 7
      have u0 := q5.cell 0
      have u1 := q5.cell 1
      exact bodyPost_ret (v := .tuple #[clsV cls0, .agg #[.int .i64 ((fltP ts en k j).1), .int .i64 ((fltP ts en k j).2)], .bool true]) (by simp [results, Tryd.results49, go_sem, clsV, cls0, r0, r1, r2, r3, r4, r5, r6, r7, u0, u1]) rfl ⟨rfl, below_drewN (((((((((((BW.out).setCell (Nat.le_refl _) _).setCell (Nat.le_refl _) _).setCell (Nat.le_refl _) _).setCell (Nat.le_refl _) _).setCell (Nat.le_refl _) _).setCell (Nat.le_refl _) _).setCell (Nat.le_refl _) _).setCell (Nat.le_refl _) _).setCell (Nat.le_succ _) _).setCell (Nat.le_succ _) _) 1⟩
  | ok x j =>
    rw [h] at HHD
    unfold clsV at HHD
    have hR := PR.bind_ok (f := fun x j => (liP ts j).bind fun n j1 => PR.ok { x with l := n } j1) h
    have HL := Lib.hid (fun g tv w HP HT hj => HLI.out j g tv w HP HT hj)
    cases hl : liP ts j with
    | bad k2 j2 =>
      have hR2 : lfP ts 0 p = .bad k2 j2 := hR.trans (PR.bind_bad hl)
      rw [hR2]
      rw [hl] at HL
      unfold intV at HL
      show Calls _ _ _ _ fun e w' => e = .returned (.tuple #[clsV cls0, .agg #[.int .i64 ((fltP ts en k2 j2).1), .int .i64 ((fltP ts en k2 j2).2)], .bool true]) ∧ Below w.heap.size w w'
      go_enter Tryd.func49, Tryd.ntmps49
      go_wp2_with fail
      rw [HW.out]
      go_wp2_with (first | (go_at_call 54; (with_reducible refine (HSC.out _).mono ?_); rintro e w' ⟨rfl, rfl⟩) | (go_at_call 109; (with_reducible refine (HIN.out _).mono ?_); rintro e w' ⟨rfl, rfl⟩) | (go_at_call 104; (with_reducible refine (HS.out _).mono ?_); rintro e w1 ⟨g, va, vc, rfl, st, tk, hgw, b1⟩; have S1 := Lib.hid st; have T1 := Lib.hid tk; have B1 := Lib.hid b1; obtain ⟨c0, c1, c2, c8, c9, fz⟩ := st.cells; clear st tk b1) | (go_at_call 110; (with_reducible refine (HHD.out _ _ _ S1 T1).mono ?_); rintro e w2 ⟨rfl, hj2, s, f⟩; have S2 := Lib.hid s; have F2 := Lib.hid f; have hg2 : g < w2.heap.size := s.lt; clear s f))
      obtain ⟨W5, hW5⟩ : ∃ W5, w2.alloc (.cells #[.int .i64 x.i, .int .i64 x.p, .int .i64 x.r, .int .i64 x.e, .int .i64 x.b, .int .i64 x.u, .int .i64 x.o, .int .i64 x.l] 62) = W5 := ⟨_, rfl⟩
      rw [hW5]
      have b5 : Below w2.heap.size w2 W5 := by rw [← hW5]; exact one_new2 _ _
      have S5 := Lib.hid (S2.out.below b5)
      have BB5 : Hid (Below W0.heap.size w1 W5) := Lib.hid ((F2.out.1.mono hgw).trans (b5.mono (by have := B1.out.size; have := F2.out.1.size; omega)))
      have FF := Lib.hid (F2.out.below b5 S2.out.lt)
      have X45 := Lib.hid ((X4.out.below B1.out).far FF.out (by omega))
      have X55 := Lib.hid ((X5.out.below B1.out).far FF.out (by omega))
      have hw1 : W0.heap.size ≤ w1.heap.size := B1.out.size
      have hw2 : w1.heap.size ≤ w2.heap.size := F2.out.1.size
      have Y5 : Hid (BoxAt W5 w2.heap.size #[.int .i64 x.i, .int .i64 x.p, .int .i64 x.r, .int .i64 x.e, .int .i64 x.b, .int .i64 x.u, .int .i64 x.o, .int .i64 x.l] 62) := Lib.hid (by rw [← hW5]; exact BoxAt.new _ _ _)
      clear hW5
      have T5 := Lib.hid (T1.out.far FF.out)
      go_wp2_with (go_at_call 111; (with_reducible refine (HL.out _ _ _ S5 T5 hj2).mono ?_); rintro e W6 ⟨⟨v, rfl⟩, hj7, s, f⟩; have S6 := Lib.hid s; have F7 := Lib.hid f; clear s f; have X46 := Lib.hid (X45.out.far F7.out (by omega)); have X56 := Lib.hid (X55.out.far F7.out (by omega)))
      have BB : Hid (Below W0.heap.size w1 W6) := Lib.hid (BB5.out.trans (F7.out.1.mono (by omega)))
      have BW := Lib.hid ((B0.out.trans (B1.out.mono B0.out.size)).trans (BB.out.mono (by have := B0.out.size; have := B1.out.size; omega)))
      obtain ⟨x0, x1, x2, x3, x4, x5, x6, x7, xf⟩ := box_eights (X46.out)
      have y0 : W6.cell? ⟨w.heap.size + 1, 0, none⟩ = some (.int .i64 0) := by rw [(X56.out).cell 0]; rfl
      have y1 : W6.cell? ⟨w.heap.size + 1, 1, none⟩ = some (.int .i64 0) := by rw [(X56.out).cell 1]; rfl
      have yf := (X56.out).open
      obtain ⟨c0, c1, c2, c8, c9, fz⟩ := S6.out.cells
      go_region
      all_goals
        go_wp2
        have q4 := ((((((((((X46.out).set 0 (.int .i64 0)).set 1 (.int .i64 0)).set 2 (.int .i64 0)).set 3 (.int .i64 0)).set 4 (.int .i64 0)).set 5 (.int .i64 0)).set 6 (.int .i64 0)).set 7 (.int .i64 0)).other2 (c := w.heap.size + 1) (by omega) 0 (.int .i64 ((fltP ts en k2 j2).1))).other2 (c := w.heap.size + 1) (by omega) 1 (.int .i64 ((fltP ts en k2 j2).2))
        have q5 := (((X56.out).eightO (c := w.heap.size) (by omega) (.int .i64 0) (.int .i64 0) (.int .i64 0) (.int .i64 0) (.int .i64 0) (.int .i64 0) (.int .i64 0) (.int .i64 0)).set 0 (.int .i64 ((fltP ts en k2 j2).1))).set 1 (.int .i64 ((fltP ts en k2 j2).2))
        have r0 := q4.cell 0; have r1 := q4.cell 1; have r2 := q4.cell 2; have r3 := q4.cell 3; have r4 := q4.cell 4; have r5 := q4.cell 5; have r6 := q4.cell 6; have r7 := q4.cell 7
        have u0 := q5.cell 0
        have u1 := q5.cell 1
        exact bodyPost_ret (v := .tuple #[clsV cls0, .agg #[.int .i64 ((fltP ts en k2 j2).1), .int .i64 ((fltP ts en k2 j2).2)], .bool true]) (by simp [results, Tryd.results49, go_sem, clsV, cls0, r0, r1, r2, r3, r4, r5, r6, r7, u0, u1]) rfl ⟨rfl, below_drewN (((((((((((BW.out).setCell (Nat.le_refl _) _).setCell (Nat.le_refl _) _).setCell (Nat.le_refl _) _).setCell (Nat.le_refl _) _).setCell (Nat.le_refl _) _).setCell (Nat.le_refl _) _).setCell (Nat.le_refl _) _).setCell (Nat.le_refl _) _).setCell (Nat.le_succ _) _).setCell (Nat.le_succ _) _) 1⟩
    | ok n j2 =>
      have hR2 : lfP ts 0 p = .ok { x with l := n } j2 := hR.trans (PR.bind_ok hl)
      rw [hR2]
      rw [hl] at HL
      unfold intV at HL
      have HD := Lib.hid (fun g tv w HP HT hj => HDO.out j2 g tv w HP HT hj)
      by_cases hjn : j2 = ts.length
      · have hA : alP ts (PR.ok { x with l := n } j2) = PR.ok { x with l := n } j2 := if_pos hjn
        rw [if_pos hjn] at HD
        rw [hA]
        show Calls _ _ _ _ fun e w' => e = .returned (.tuple #[clsV { x with l := n }, .agg #[.int .i64 (0), .int .i64 (0)], .bool true]) ∧ Below w.heap.size w w'
        go_enter Tryd.func49, Tryd.ntmps49
        go_wp2_with fail
        rw [HW.out]
        go_wp2_with (first | (go_at_call 54; (with_reducible refine (HSC.out _).mono ?_); rintro e w' ⟨rfl, rfl⟩) | (go_at_call 109; (with_reducible refine (HIN.out _).mono ?_); rintro e w' ⟨rfl, rfl⟩) | (go_at_call 104; (with_reducible refine (HS.out _).mono ?_); rintro e w1 ⟨g, va, vc, rfl, st, tk, hgw, b1⟩; have S1 := Lib.hid st; have T1 := Lib.hid tk; have B1 := Lib.hid b1; obtain ⟨c0, c1, c2, c8, c9, fz⟩ := st.cells; clear st tk b1) | (go_at_call 110; (with_reducible refine (HHD.out _ _ _ S1 T1).mono ?_); rintro e w2 ⟨rfl, hj2, s, f⟩; have S2 := Lib.hid s; have F2 := Lib.hid f; have hg2 : g < w2.heap.size := s.lt; clear s f))
        obtain ⟨W5, hW5⟩ : ∃ W5, w2.alloc (.cells #[.int .i64 x.i, .int .i64 x.p, .int .i64 x.r, .int .i64 x.e, .int .i64 x.b, .int .i64 x.u, .int .i64 x.o, .int .i64 x.l] 62) = W5 := ⟨_, rfl⟩
        rw [hW5]
        have b5 : Below w2.heap.size w2 W5 := by rw [← hW5]; exact one_new2 _ _
        have S5 := Lib.hid (S2.out.below b5)
        have BB5 : Hid (Below W0.heap.size w1 W5) := Lib.hid ((F2.out.1.mono hgw).trans (b5.mono (by have := B1.out.size; have := F2.out.1.size; omega)))
        have FF := Lib.hid (F2.out.below b5 S2.out.lt)
        have X45 := Lib.hid ((X4.out.below B1.out).far FF.out (by omega))
        have X55 := Lib.hid ((X5.out.below B1.out).far FF.out (by omega))
        have hw1 : W0.heap.size ≤ w1.heap.size := B1.out.size
        have hw2 : w1.heap.size ≤ w2.heap.size := F2.out.1.size
        have Y5 : Hid (BoxAt W5 w2.heap.size #[.int .i64 x.i, .int .i64 x.p, .int .i64 x.r, .int .i64 x.e, .int .i64 x.b, .int .i64 x.u, .int .i64 x.o, .int .i64 x.l] 62) := Lib.hid (by rw [← hW5]; exact BoxAt.new _ _ _)
        clear hW5
        have T5 := Lib.hid (T1.out.far FF.out)
        go_wp2_with (first | (go_at_call 111; (with_reducible refine (HL.out _ _ _ S5 T5 hj2).mono ?_); rintro e w6 ⟨rfl, hj6, s, f⟩; have S8 := Lib.hid s; have F8 := Lib.hid f; have T8 := Lib.hid (T5.out.far f); have hg8 : g < w6.heap.size := s.lt; have X48 := Lib.hid (X45.out.far f (by omega)); have X58 := Lib.hid (X55.out.far f (by omega)); have Y8 := Lib.hid (Y5.out.far f (by omega)); clear s f) | (go_at_call 106; (with_reducible refine (HD.out _ _ _ S8 T8 hj6).mono ?_); rintro e w7 ⟨rfl, hj7, s, f⟩; have S7 := Lib.hid s; have F7 := Lib.hid f; clear s f; have X47 := Lib.hid (X48.out.far F7.out (by omega)); have X57 := Lib.hid (X58.out.far F7.out (by omega)); have Y7 := Lib.hid (Y8.out.far F7.out (by omega)); have hne : w2.heap.size ≠ w.heap.size := (by omega); have hne2 : w2.heap.size ≠ w.heap.size + 1 := (by omega); obtain ⟨x0, x1, x2, x3, x4, x5, x6, x7, xf⟩ := box_eights X47.out; have y0 : w7.cell? ⟨w.heap.size + 1, 0, none⟩ = some (.int .i64 0) := (by rw [X57.out.cell 0]; rfl); have y1 : w7.cell? ⟨w.heap.size + 1, 1, none⟩ = some (.int .i64 0) := (by rw [X57.out.cell 1]; rfl); have yf := X57.out.open; obtain ⟨z0, z1, z2, z3, z4, z5, z6, z7, zf⟩ := box_eights Y7.out))
        have BW : Hid (Below w.heap.size w w7) := Lib.hid ((((B0.out.trans (B1.out.mono B0.out.size)).trans (BB5.out.mono (by omega))).trans (F8.out.1.mono (by omega))).trans (F7.out.1.mono (by omega)))
        have q4 := (((((((((((X47.out.other2 (b := w.heap.size) (c := w2.heap.size) (by omega) 7 (.int .i64 n))).set 0 (.int .i64 x.i)).set 1 (.int .i64 x.p)).set 2 (.int .i64 x.r)).set 3 (.int .i64 x.e)).set 4 (.int .i64 x.b)).set 5 (.int .i64 x.u)).set 6 (.int .i64 x.o)).set 7 (.int .i64 n)).other2 (c := w.heap.size + 1) (by omega) 0 (.int .i64 (0))).other2 (c := w.heap.size + 1) (by omega) 1 (.int .i64 (0))
        have q5 := ((((X57.out.other2 (b := w.heap.size + 1) (c := w2.heap.size) (by omega) 7 (.int .i64 n))).eightO (c := w.heap.size) (by omega) (.int .i64 x.i) (.int .i64 x.p) (.int .i64 x.r) (.int .i64 x.e) (.int .i64 x.b) (.int .i64 x.u) (.int .i64 x.o) (.int .i64 n)).set 0 (.int .i64 (0))).set 1 (.int .i64 (0))
        have r0 := q4.cell 0; have r1 := q4.cell 1; have r2 := q4.cell 2; have r3 := q4.cell 3; have r4 := q4.cell 4; have r5 := q4.cell 5; have r6 := q4.cell 6; have r7 := q4.cell 7
        have u0 := q5.cell 0
        have u1 := q5.cell 1
        exact bodyPost_ret (v := .tuple #[clsV { x with l := n }, .agg #[.int .i64 (0), .int .i64 (0)], .bool true]) (by simp [results, Tryd.results49, go_sem, clsV, cls0, r0, r1, r2, r3, r4, r5, r6, r7, u0, u1]) rfl ⟨rfl, ((((((((((BW.out.setCell (p := ⟨w2.heap.size, 7, none⟩) (by show w.heap.size ≤ w2.heap.size; omega) _).setCell (Nat.le_refl _) _).setCell (Nat.le_refl _) _).setCell (Nat.le_refl _) _).setCell (Nat.le_refl _) _).setCell (Nat.le_refl _) _).setCell (Nat.le_refl _) _).setCell (Nat.le_refl _) _).setCell (Nat.le_refl _) _).setCell (Nat.le_succ _) _).setCell (Nat.le_succ _) _⟩
      · have hA : alP ts (PR.ok { x with l := n } j2) = PR.bad 2 j2 := if_neg hjn
        rw [if_neg hjn] at HD
        rw [hA]
        show Calls _ _ _ _ fun e w' => e = .returned (.tuple #[clsV cls0, .agg #[.int .i64 ((fltP ts en 2 j2).1), .int .i64 ((fltP ts en 2 j2).2)], .bool true]) ∧ Below w.heap.size w w'
        go_enter Tryd.func49, Tryd.ntmps49
        go_wp2_with fail
        rw [HW.out]
        go_wp2_with (first | (go_at_call 54; (with_reducible refine (HSC.out _).mono ?_); rintro e w' ⟨rfl, rfl⟩) | (go_at_call 109; (with_reducible refine (HIN.out _).mono ?_); rintro e w' ⟨rfl, rfl⟩) | (go_at_call 104; (with_reducible refine (HS.out _).mono ?_); rintro e w1 ⟨g, va, vc, rfl, st, tk, hgw, b1⟩; have S1 := Lib.hid st; have T1 := Lib.hid tk; have B1 := Lib.hid b1; obtain ⟨c0, c1, c2, c8, c9, fz⟩ := st.cells; clear st tk b1) | (go_at_call 110; (with_reducible refine (HHD.out _ _ _ S1 T1).mono ?_); rintro e w2 ⟨rfl, hj2, s, f⟩; have S2 := Lib.hid s; have F2 := Lib.hid f; have hg2 : g < w2.heap.size := s.lt; clear s f))
        obtain ⟨W5, hW5⟩ : ∃ W5, w2.alloc (.cells #[.int .i64 x.i, .int .i64 x.p, .int .i64 x.r, .int .i64 x.e, .int .i64 x.b, .int .i64 x.u, .int .i64 x.o, .int .i64 x.l] 62) = W5 := ⟨_, rfl⟩
        rw [hW5]
        have b5 : Below w2.heap.size w2 W5 := by rw [← hW5]; exact one_new2 _ _
        have S5 := Lib.hid (S2.out.below b5)
        have BB5 : Hid (Below W0.heap.size w1 W5) := Lib.hid ((F2.out.1.mono hgw).trans (b5.mono (by have := B1.out.size; have := F2.out.1.size; omega)))
        have FF := Lib.hid (F2.out.below b5 S2.out.lt)
        have X45 := Lib.hid ((X4.out.below B1.out).far FF.out (by omega))
        have X55 := Lib.hid ((X5.out.below B1.out).far FF.out (by omega))
        have hw1 : W0.heap.size ≤ w1.heap.size := B1.out.size
        have hw2 : w1.heap.size ≤ w2.heap.size := F2.out.1.size
        have Y5 : Hid (BoxAt W5 w2.heap.size #[.int .i64 x.i, .int .i64 x.p, .int .i64 x.r, .int .i64 x.e, .int .i64 x.b, .int .i64 x.u, .int .i64 x.o, .int .i64 x.l] 62) := Lib.hid (by rw [← hW5]; exact BoxAt.new _ _ _)
        clear hW5
        have T5 := Lib.hid (T1.out.far FF.out)
        go_wp2_with (first | (go_at_call 111; (with_reducible refine (HL.out _ _ _ S5 T5 hj2).mono ?_); rintro e w6 ⟨rfl, hj6, s, f⟩; have S8 := Lib.hid s; have F8 := Lib.hid f; have T8 := Lib.hid (T5.out.far f); have hg8 : g < w6.heap.size := s.lt; have X48 := Lib.hid (X45.out.far f (by omega)); have X58 := Lib.hid (X55.out.far f (by omega)); have Y8 := Lib.hid (Y5.out.far f (by omega)); clear s f) | (go_at_call 106; (with_reducible refine (HD.out _ _ _ S8 T8 hj6).mono ?_); rintro e W6 ⟨rfl, hj7, s, f⟩; have S6 := Lib.hid s; have F7 := Lib.hid f; clear s f; have X46 := Lib.hid (X48.out.far F7.out (by omega)); have X56 := Lib.hid (X58.out.far F7.out (by omega))))
        have BB : Hid (Below W0.heap.size w1 W6) := Lib.hid ((BB5.out.trans (F8.out.1.mono (by omega))).trans (F7.out.1.mono (by omega)))
        have BW := Lib.hid ((B0.out.trans (B1.out.mono B0.out.size)).trans (BB.out.mono (by have := B0.out.size; have := B1.out.size; omega)))
        obtain ⟨x0, x1, x2, x3, x4, x5, x6, x7, xf⟩ := box_eights (X46.out)
        have y0 : W6.cell? ⟨w.heap.size + 1, 0, none⟩ = some (.int .i64 0) := by rw [(X56.out).cell 0]; rfl
        have y1 : W6.cell? ⟨w.heap.size + 1, 1, none⟩ = some (.int .i64 0) := by rw [(X56.out).cell 1]; rfl
        have yf := (X56.out).open
        obtain ⟨c0, c1, c2, c8, c9, fz⟩ := S6.out.cells
        go_region
        all_goals
          go_wp2
          have q4 := ((((((((((X46.out).set 0 (.int .i64 0)).set 1 (.int .i64 0)).set 2 (.int .i64 0)).set 3 (.int .i64 0)).set 4 (.int .i64 0)).set 5 (.int .i64 0)).set 6 (.int .i64 0)).set 7 (.int .i64 0)).other2 (c := w.heap.size + 1) (by omega) 0 (.int .i64 ((fltP ts en 2 j2).1))).other2 (c := w.heap.size + 1) (by omega) 1 (.int .i64 ((fltP ts en 2 j2).2))
          have q5 := (((X56.out).eightO (c := w.heap.size) (by omega) (.int .i64 0) (.int .i64 0) (.int .i64 0) (.int .i64 0) (.int .i64 0) (.int .i64 0) (.int .i64 0) (.int .i64 0)).set 0 (.int .i64 ((fltP ts en 2 j2).1))).set 1 (.int .i64 ((fltP ts en 2 j2).2))
          have r0 := q4.cell 0; have r1 := q4.cell 1; have r2 := q4.cell 2; have r3 := q4.cell 3; have r4 := q4.cell 4; have r5 := q4.cell 5; have r6 := q4.cell 6; have r7 := q4.cell 7
          have u0 := q5.cell 0
          have u1 := q5.cell 1
          exact bodyPost_ret (v := .tuple #[clsV cls0, .agg #[.int .i64 ((fltP ts en 2 j2).1), .int .i64 ((fltP ts en 2 j2).2)], .bool true]) (by simp [results, Tryd.results49, go_sem, clsV, cls0, r0, r1, r2, r3, r4, r5, r6, r7, u0, u1]) rfl ⟨rfl, below_drewN (((((((((((BW.out).setCell (Nat.le_refl _) _).setCell (Nat.le_refl _) _).setCell (Nat.le_refl _) _).setCell (Nat.le_refl _) _).setCell (Nat.le_refl _) _).setCell (Nat.le_refl _) _).setCell (Nat.le_refl _) _).setCell (Nat.le_refl _) _).setCell (Nat.le_succ _) _).setCell (Nat.le_succ _) _) 1⟩
end Go.Proofs.YthpejbdbbofaaaaDoor
