/- A text read as one part: parse of the program, ParseFilter, ParseLeaf. -/
import Derived.Test.YthpejbdbbofaaaaDoorPse
import Derived.Test.YthpejbdbbofaaaaDoorIsi
namespace Go.Proofs.YthpejbdbbofaaaaDoor
set_option maxRecDepth 100000
open Go.RowKit
set_option linter.unusedVariables false
set_option linter.unusedSimpArgs false

theorem SlT.formS {w : World} {v : Value} {l : List Tok} (h : SlT w v l) : ∃ a c, v = .slice a l.length c := by
  rcases h with ⟨h0, a, c, hv⟩ | ⟨b, c, hv, _⟩
  · exact ⟨a, c, by rw [hv, h0]; rfl⟩
  · exact ⟨_, c, hv⟩
theorem whP_an {α : Type} {s : ByteArray} {part : List Tok → PR α} {z : α} (h : s.size ≤ 4000) (hf : (tkL s).f = 0) : whP s part z = ((anP (tkL s).l s.size (alP (tkL s).l (part (tkL s).l)) z).1, (anP (tkL s).l s.size (alP (tkL s).l (part (tkL s).l)) z).2, true) := by
  unfold whP anP
  rw [if_pos h, if_pos hf]
  cases alP (tkL s).l (part (tkL s).l) <;> rfl
theorem Fwt.lt {w : World} (h : Fwt w) : 2 < w.heap.size := by
  obtain ⟨t, fr, h⟩ := h
  rcases Nat.lt_or_ge 2 w.heap.size with q | q
  · exact q
  · rw [Array.getElem?_eq_none q] at h; cases h
set_option maxHeartbeats 12800000 in
theorem parseFilter_any (s : ByteArray) (w : World) (HTb : Hid (Tabs w)) (HF : Hid (Fwt w)) :
    Calls Tryd.prog 107 #[.string s, .func (Fn.func 108) #[] #[]] w fun e w' => e = .returned (.tuple #[fltV (whP s (fun ts => flP ts 0) flt0).1, faV (whP s (fun ts => flP ts 0) flt0).2.1, .bool (whP s (fun ts => flP ts 0) flt0).2.2]) ∧ Below w.heap.size w w' := by
  obtain ⟨W0, hW0⟩ : ∃ W0, (w.alloc (.cells #[.int .i64 0, .int .i64 0, .int .i64 0, .int .i64 0, .int .i64 0] 77)).alloc (.cells #[.int .i64 0, .int .i64 0] 26) = W0 := ⟨_, rfl⟩
  have b0 : Below w.heap.size w W0 := by rw [← hW0]; exact two_new _ _ _
  have X4 : Hid (BoxAt W0 w.heap.size #[.int .i64 0, .int .i64 0, .int .i64 0, .int .i64 0, .int .i64 0] 77) := Lib.hid (by rw [← hW0]; exact (BoxAt.new w _ _).below (one_new2 _ _))
  have X5 : Hid (BoxAt W0 (w.heap.size + 1) #[.int .i64 0, .int .i64 0] 26) := Lib.hid (by rw [← hW0]; have q := BoxAt.new (w.alloc (.cells #[.int .i64 0, .int .i64 0, .int .i64 0, .int .i64 0, .int .i64 0] 77)) #[.int .i64 0, .int .i64 0] 26; rw [show (w.alloc (.cells #[.int .i64 0, .int .i64 0, .int .i64 0, .int .i64 0, .int .i64 0] 77)).heap.size = w.heap.size + 1 by simp] at q; exact q)
  have HW := Lib.hid hW0
  have B0 := Lib.hid b0
  have HT0 := Lib.hid (HTb.out.below b0)
  have hs0 : w.heap.size + 1 < W0.heap.size := X5.out.lt
  clear hW0 b0
  have HTO := Lib.hid (fun w HT => implTokensOf_any s w HT)
  by_cases h4 : s.size ≤ 4000
  rotate_left
  · rw [(tkT_no h4).1, (tkT_no h4).2] at HTO
    rw [whP_no h4]
    show Calls _ _ _ _ fun e w' => e = .returned (.tuple #[fltV flt0, .agg #[.int .i64 0, .int .i64 0], .bool false]) ∧ Below w.heap.size w w'
    go_enter Tryd.func107, Tryd.ntmps107
    go_wp2_with fail
    rw [HW.out]
    go_wp2_with (go_at_call 9; refine (HTO.out _ HT0).mono ?_; rintro e w1 ⟨v, rfl, o1, b1⟩; have B1 := Lib.hid b1; clear b1 o1)
    obtain ⟨Wb, hWb⟩ : ∃ Wb, (w1.alloc (.cells #[.int .i64 0, .int .i64 0] 26)).alloc (.cells #[.int .i64 0, .int .i64 0, .int .i64 0, .int .i64 0, .int .i64 0] 77) = Wb := ⟨_, rfl⟩
    rw [hWb]
    have bb : Below w1.heap.size w1 Wb := by rw [← hWb]; exact two_new _ _ _
    have X4b := Lib.hid ((X4.out.below B1.out).below bb)
    have X5b := Lib.hid ((X5.out.below B1.out).below bb)
    have Y8 : Hid (BoxAt Wb w1.heap.size #[.int .i64 0, .int .i64 0] 26) := Lib.hid (by rw [← hWb]; exact (BoxAt.new _ _ _).below (one_new2 _ _))
    have Y10 : Hid (BoxAt Wb (w1.heap.size + 1) #[.int .i64 0, .int .i64 0, .int .i64 0, .int .i64 0, .int .i64 0] 77) := Lib.hid (by rw [← hWb]; have q := BoxAt.new (w1.alloc (.cells #[.int .i64 0, .int .i64 0] 26)) #[.int .i64 0, .int .i64 0, .int .i64 0, .int .i64 0, .int .i64 0] 77; rw [show (w1.alloc (.cells #[.int .i64 0, .int .i64 0] 26)).heap.size = w1.heap.size + 1 by simp] at q; exact q)
    have BW : Hid (Below w.heap.size w Wb) := Lib.hid ((B0.out.trans (B1.out.mono B0.out.size)).trans (bb.mono (by have := B0.out.size; have := B1.out.size; omega)))
    have hs1 : w.heap.size + 1 < w1.heap.size := by have := B1.out.size; omega
    clear hWb bb
    obtain ⟨x0, x1, x2, x3, x4, xf⟩ := box_fives X4b.out
    have y0 : Wb.cell? ⟨w.heap.size + 1, 0, none⟩ = some (.int .i64 0) := by rw [X5b.out.cell 0]; rfl
    have y1 : Wb.cell? ⟨w.heap.size + 1, 1, none⟩ = some (.int .i64 0) := by rw [X5b.out.cell 1]; rfl
    have yf := X5b.out.open
    have v0 : Wb.cell? ⟨w1.heap.size, 0, none⟩ = some (.int .i64 0) := by rw [Y8.out.cell 0]; rfl
    have v1 : Wb.cell? ⟨w1.heap.size, 1, none⟩ = some (.int .i64 0) := by rw [Y8.out.cell 1]; rfl
    obtain ⟨z0, z1, z2, z3, z4, zf⟩ := box_fives Y10.out
    go_region
    all_goals
      go_wp2
      have q4 := ((((((X4b.out.set 0 (.int .i64 0)).set 1 (.int .i64 0)).set 2 (.int .i64 0)).set 3 (.int .i64 0)).set 4 (.int .i64 0)).other2 (c := w.heap.size + 1) (by omega) 0 (.int .i64 (0))).other2 (c := w.heap.size + 1) (by omega) 1 (.int .i64 (0))
      have q5 := ((X5b.out.fiveO (c := w.heap.size) (by omega) (.int .i64 0) (.int .i64 0) (.int .i64 0) (.int .i64 0) (.int .i64 0)).set 0 (.int .i64 (0))).set 1 (.int .i64 (0))
      have r0 := q4.cell 0
      have r1 := q4.cell 1
      have r2 := q4.cell 2
      have r3 := q4.cell 3
      have r4 := q4.cell 4
      have u0 := q5.cell 0
      have u1 := q5.cell 1
      exact bodyPost_ret (v := .tuple #[fltV flt0, .agg #[.int .i64 (0), .int .i64 (0)], .bool false]) (by simp [results, Tryd.results107, go_sem, fltV, flt0, r0, r1, r2, r3, r4, u0, u1]) rfl ⟨rfl, below_drewN ((((((((BW.out).setCell (Nat.le_refl _) _).setCell (Nat.le_refl _) _).setCell (Nat.le_refl _) _).setCell (Nat.le_refl _) _).setCell (Nat.le_refl _) _).setCell (Nat.le_succ _) _).setCell (Nat.le_succ _) _) 1⟩
  have hg0 := tkL_g s
  have hlen := tkL_len s
  rw [(tkT_yes h4).1, (tkT_yes h4).2] at HTO
  by_cases hf : (tkL s).f = 0
  rotate_left
  · have df : ((tkL s).f != 0) = true := by simpa using hf
    rw [whP_fault h4 hf]
    show Calls _ _ _ _ fun e w' => e = .returned (.tuple #[fltV flt0, .agg #[.int .i64 (tkL s).f, .int .i64 (tkL s).g], .bool true]) ∧ Below w.heap.size w w'
    go_enter Tryd.func107, Tryd.ntmps107
    go_wp2_with fail
    rw [HW.out]
    go_wp2_with (go_at_call 9; refine (HTO.out _ HT0).mono ?_; rintro e w1 ⟨v, rfl, o1, b1⟩; have B1 := Lib.hid b1; clear b1 o1)
    obtain ⟨Wb, hWb⟩ : ∃ Wb, (w1.alloc (.cells #[.int .i64 (tkL s).f, .int .i64 (tkL s).g] 26)).alloc (.cells #[.int .i64 0, .int .i64 0, .int .i64 0, .int .i64 0, .int .i64 0] 77) = Wb := ⟨_, rfl⟩
    rw [hWb]
    have bb : Below w1.heap.size w1 Wb := by rw [← hWb]; exact two_new _ _ _
    have X4b := Lib.hid ((X4.out.below B1.out).below bb)
    have X5b := Lib.hid ((X5.out.below B1.out).below bb)
    have Y8 : Hid (BoxAt Wb w1.heap.size #[.int .i64 (tkL s).f, .int .i64 (tkL s).g] 26) := Lib.hid (by rw [← hWb]; exact (BoxAt.new _ _ _).below (one_new2 _ _))
    have Y10 : Hid (BoxAt Wb (w1.heap.size + 1) #[.int .i64 0, .int .i64 0, .int .i64 0, .int .i64 0, .int .i64 0] 77) := Lib.hid (by rw [← hWb]; have q := BoxAt.new (w1.alloc (.cells #[.int .i64 (tkL s).f, .int .i64 (tkL s).g] 26)) #[.int .i64 0, .int .i64 0, .int .i64 0, .int .i64 0, .int .i64 0] 77; rw [show (w1.alloc (.cells #[.int .i64 (tkL s).f, .int .i64 (tkL s).g] 26)).heap.size = w1.heap.size + 1 by simp] at q; exact q)
    have BW : Hid (Below w.heap.size w Wb) := Lib.hid ((B0.out.trans (B1.out.mono B0.out.size)).trans (bb.mono (by have := B0.out.size; have := B1.out.size; omega)))
    have hs1 : w.heap.size + 1 < w1.heap.size := by have := B1.out.size; omega
    clear hWb bb
    obtain ⟨x0, x1, x2, x3, x4, xf⟩ := box_fives X4b.out
    have y0 : Wb.cell? ⟨w.heap.size + 1, 0, none⟩ = some (.int .i64 0) := by rw [X5b.out.cell 0]; rfl
    have y1 : Wb.cell? ⟨w.heap.size + 1, 1, none⟩ = some (.int .i64 0) := by rw [X5b.out.cell 1]; rfl
    have yf := X5b.out.open
    have v0 : Wb.cell? ⟨w1.heap.size, 0, none⟩ = some (.int .i64 (tkL s).f) := by rw [Y8.out.cell 0]; rfl
    have v1 : Wb.cell? ⟨w1.heap.size, 1, none⟩ = some (.int .i64 (tkL s).g) := by rw [Y8.out.cell 1]; rfl
    obtain ⟨z0, z1, z2, z3, z4, zf⟩ := box_fives Y10.out
    go_region
    all_goals
      go_wp2
      have q4 := ((((((X4b.out.set 0 (.int .i64 0)).set 1 (.int .i64 0)).set 2 (.int .i64 0)).set 3 (.int .i64 0)).set 4 (.int .i64 0)).other2 (c := w.heap.size + 1) (by omega) 0 (.int .i64 ((tkL s).f))).other2 (c := w.heap.size + 1) (by omega) 1 (.int .i64 ((tkL s).g))
      have q5 := ((X5b.out.fiveO (c := w.heap.size) (by omega) (.int .i64 0) (.int .i64 0) (.int .i64 0) (.int .i64 0) (.int .i64 0)).set 0 (.int .i64 ((tkL s).f))).set 1 (.int .i64 ((tkL s).g))
      have r0 := q4.cell 0
      have r1 := q4.cell 1
      have r2 := q4.cell 2
      have r3 := q4.cell 3
      have r4 := q4.cell 4
      have u0 := q5.cell 0
      have u1 := q5.cell 1
      exact bodyPost_ret (v := .tuple #[fltV flt0, .agg #[.int .i64 ((tkL s).f), .int .i64 ((tkL s).g)], .bool true]) (by simp [results, Tryd.results107, go_sem, fltV, flt0, r0, r1, r2, r3, r4, u0, u1]) rfl ⟨rfl, below_drewN ((((((((BW.out).setCell (Nat.le_refl _) _).setCell (Nat.le_refl _) _).setCell (Nat.le_refl _) _).setCell (Nat.le_refl _) _).setCell (Nat.le_refl _) _).setCell (Nat.le_succ _) _).setCell (Nat.le_succ _) _) 1⟩
  have hgz := hg0 hf
  have HTO2 : Hid (∀ w, Hid (Tabs w) → Calls Tryd.prog 9 #[.string s] w (fun e w' => ∃ v, e = .returned (.tuple #[v, .agg #[.int .i64 0, .int .i64 0], .bool true]) ∧ OwnK w' w.heap.size v (tkL s).l.length (tkL s).l ∧ Below w.heap.size w w')) := by unfold SaysL3 at HTO; rw [hf, hgz] at HTO; exact HTO
  rw [whP_an h4 hf]
  obtain ⟨ts, hts⟩ : ∃ ts, (tkL s).l = ts := ⟨_, rfl⟩
  rw [hts] at HTO2 hlen ⊢
  clear HTO hf hgz hg0 h4 hts
  have hm : ts.length ≤ 1048576 := by omega
  obtain ⟨A, hA⟩ : ∃ A, anP ts s.size (alP ts (flP ts 0)) flt0 = A := ⟨_, rfl⟩
  have HRA := Lib.hid (fun g v w HP HT HF hh => readAllFilter_any g s.size 0 v (.slice none 0 0) (.slice none 0 0) ts w HP HT hm HF hh)
  rw [hA] at HRA
  show Calls _ _ _ _ fun e w' => e = .returned (.tuple #[fltV (anP ts s.size (alP ts (flP ts 0)) flt0).1, faV (anP ts s.size (alP ts (flP ts 0)) flt0).2, .bool true]) ∧ Below w.heap.size w w'
  rw [hA]
  clear hA
  obtain ⟨x, fk, fa⟩ := A
  unfold fltV faV at HRA
  simp only at HRA
  go_enter Tryd.func107, Tryd.ntmps107
  go_wp2_with fail
  rw [HW.out]
  go_wp2_with (go_at_call 9; refine (HTO2.out _ HT0).mono ?_; rintro e w1 ⟨v, rfl, o1, b1⟩; obtain ⟨va, vc, rfl⟩ := o1.slt.formS; have B1 := Lib.hid b1; have O1 := Lib.hid o1.slt; clear b1 o1)
  obtain ⟨Wp, hWp⟩ : ∃ Wp, (w1.alloc (.cells #[.int .i64 0, .int .i64 0] 26)).alloc (.cells #[.slice va ts.length vc, .int .i64 0, .int .i64 s.size, .slice none 0 0, .slice none 0 0, .int .i64 0] 178) = Wp := ⟨_, rfl⟩
  rw [hWp]
  have bb : Below w1.heap.size w1 Wp := by rw [← hWp]; exact two_new _ _ _
  have hs2 : (w1.alloc (.cells #[.int .i64 0, .int .i64 0] 26)).heap.size = w1.heap.size + 1 := by simp
  have PP : Hid (PrAt Wp (w1.heap.size + 1) (.slice va ts.length vc) 0 s.size (.slice none 0 0) (.slice none 0 0) 0) := Lib.hid (by rw [← hWp]; have q := BoxAt.new (w1.alloc (.cells #[.int .i64 0, .int .i64 0] 26)) #[.slice va ts.length vc, .int .i64 0, .int .i64 s.size, .slice none 0 0, .slice none 0 0, .int .i64 0] 178; rw [hs2] at q; exact q)
  have TT : Hid (TkB Wp (w1.heap.size + 1) (.slice va ts.length vc) ts) := Lib.hid (O1.out.tkb bb (Nat.le_succ _))
  have Y8 : Hid (BoxAt Wp w1.heap.size #[.int .i64 0, .int .i64 0] 26) := Lib.hid (by rw [← hWp]; exact (BoxAt.new _ _ _).below (one_new2 _ _))
  have X4p := Lib.hid ((X4.out.below B1.out).below bb)
  have X5p := Lib.hid ((X5.out.below B1.out).below bb)
  have hs1 : w.heap.size + 1 < w1.heap.size := by have := B1.out.size; omega
  have BP : Hid (Below w.heap.size w Wp) := Lib.hid ((B0.out.trans (B1.out.mono B0.out.size)).trans (bb.mono (by omega)))
  have hWs : w1.heap.size + 1 < Wp.heap.size := PP.out.lt
  clear hWp bb hs2
  go_wp2_with (go_at_call 162; refine (HRA.out _ _ _ PP TT (Lib.hid (HF.out.below BP.out HF.out.lt)) (by have := HF.out.lt; omega)).mono ?_; rintro e w2 ⟨rfl, f2⟩; have F2 := Lib.hid f2; clear f2; have hs3 : w1.heap.size + 1 < w2.heap.size := Nat.lt_of_lt_of_le hWs F2.out.1.size; have Y82 := Lib.hid ((Y8.out.far F2.out (by omega)).below (one_new2 w2 (.cells #[.int .i64 x.o, .int .i64 x.f, .int .i64 x.m, .int .i64 x.v, .int .i64 x.t] 77))); have e0 : (w2.alloc (.cells #[.int .i64 x.o, .int .i64 x.f, .int .i64 x.m, .int .i64 x.v, .int .i64 x.t] 77)).cell? ⟨w1.heap.size, 0, none⟩ = some (.int .i64 0) := (by rw [Y82.out.cell 0]; rfl); have e1 : (w2.alloc (.cells #[.int .i64 x.o, .int .i64 x.f, .int .i64 x.m, .int .i64 x.v, .int .i64 x.t] 77)).cell? ⟨w1.heap.size, 1, none⟩ = some (.int .i64 0) := (by rw [Y82.out.cell 1]; rfl); have ef := Y82.out.open)
  obtain ⟨W3, hW3⟩ : ∃ W3, ((w2.alloc (.cells #[.int .i64 x.o, .int .i64 x.f, .int .i64 x.m, .int .i64 x.v, .int .i64 x.t] 77)).setCell ⟨w1.heap.size, 0, none⟩ (.int .i64 fk)).setCell ⟨w1.heap.size, 1, none⟩ (.int .i64 fa) = W3 := ⟨_, rfl⟩
  rw [hW3]
  have X4b : Hid (BoxAt W3 w.heap.size #[.int .i64 0, .int .i64 0, .int .i64 0, .int .i64 0, .int .i64 0] 77) := Lib.hid (by rw [← hW3]; exact (((X4p.out.far F2.out (by omega)).below (one_new2 w2 _)).other2 (by omega) 0 _).other2 (by omega) 1 _)
  have X5b : Hid (BoxAt W3 (w.heap.size + 1) #[.int .i64 0, .int .i64 0] 26) := Lib.hid (by rw [← hW3]; exact (((X5p.out.far F2.out (by omega)).below (one_new2 w2 _)).other2 (by omega) 0 _).other2 (by omega) 1 _)
  have Y8b : Hid (BoxAt W3 w1.heap.size #[.int .i64 fk, .int .i64 fa] 26) := Lib.hid (by rw [← hW3]; exact (Y82.out.set 0 _).set 1 _)
  have Y10 : Hid (BoxAt W3 w2.heap.size #[.int .i64 x.o, .int .i64 x.f, .int .i64 x.m, .int .i64 x.v, .int .i64 x.t] 77) := Lib.hid (by rw [← hW3]; exact ((BoxAt.new w2 _ _).other2 (by omega) 0 _).other2 (by omega) 1 _)
  have BW : Hid (Below w.heap.size w W3) := Lib.hid (by rw [← hW3]; exact (((BP.out.trans (F2.out.1.mono (by omega))).trans ((one_new2 w2 _).mono (by omega))).setCell (by show w.heap.size ≤ w1.heap.size; omega) _).setCell (by show w.heap.size ≤ w1.heap.size; omega) _)
  clear hW3 e0 e1 ef
  obtain ⟨p0, p1, p2, p3, p4, xf⟩ := box_fives X4b.out
  have y0 : W3.cell? ⟨w.heap.size + 1, 0, none⟩ = some (.int .i64 0) := by rw [X5b.out.cell 0]; rfl
  have y1 : W3.cell? ⟨w.heap.size + 1, 1, none⟩ = some (.int .i64 0) := by rw [X5b.out.cell 1]; rfl
  have yf := X5b.out.open
  have v0 : W3.cell? ⟨w1.heap.size, 0, none⟩ = some (.int .i64 fk) := by rw [Y8b.out.cell 0]; rfl
  have v1 : W3.cell? ⟨w1.heap.size, 1, none⟩ = some (.int .i64 fa) := by rw [Y8b.out.cell 1]; rfl
  obtain ⟨z0, z1, z2, z3, z4, zf⟩ := box_fives Y10.out
  go_region
  all_goals
    go_wp2
    have q4 := ((((((X4b.out.set 0 (.int .i64 x.o)).set 1 (.int .i64 x.f)).set 2 (.int .i64 x.m)).set 3 (.int .i64 x.v)).set 4 (.int .i64 x.t)).other2 (c := w.heap.size + 1) (by omega) 0 (.int .i64 (fk))).other2 (c := w.heap.size + 1) (by omega) 1 (.int .i64 (fa))
    have q5 := ((X5b.out.fiveO (c := w.heap.size) (by omega) (.int .i64 x.o) (.int .i64 x.f) (.int .i64 x.m) (.int .i64 x.v) (.int .i64 x.t)).set 0 (.int .i64 (fk))).set 1 (.int .i64 (fa))
    have r0 := q4.cell 0
    have r1 := q4.cell 1
    have r2 := q4.cell 2
    have r3 := q4.cell 3
    have r4 := q4.cell 4
    have u0 := q5.cell 0
    have u1 := q5.cell 1
    exact bodyPost_ret (v := .tuple #[fltV x, .agg #[.int .i64 (fk), .int .i64 (fa)], .bool true]) (by simp [results, Tryd.results107, go_sem, fltV, flt0, r0, r1, r2, r3, r4, u0, u1]) rfl ⟨rfl, below_drewN ((((((((BW.out).setCell (Nat.le_refl _) _).setCell (Nat.le_refl _) _).setCell (Nat.le_refl _) _).setCell (Nat.le_refl _) _).setCell (Nat.le_refl _) _).setCell (Nat.le_succ _) _).setCell (Nat.le_succ _) _) 1⟩
set_option maxHeartbeats 12800000 in
theorem parseClass_any (s : ByteArray) (p : Int) (pb : Nat) (w : World) (HTb : Hid (Tabs w)) (HF : Hid (w.cell? ⟨pb, 0, none⟩ = some (.int .i64 p))) (hpb : pb < w.heap.size) :
    Calls Tryd.prog 113 #[.string s, .func (Fn.func 114) #[] #[.pointer (some ⟨pb, 0, none⟩)]] w fun e w' => e = .returned (.tuple #[clsV (whP s (fun ts => lfP ts 0 p) cls0).1, faV (whP s (fun ts => lfP ts 0 p) cls0).2.1, .bool (whP s (fun ts => lfP ts 0 p) cls0).2.2]) ∧ Below w.heap.size w w' := by
  obtain ⟨W0, hW0⟩ : ∃ W0, (w.alloc (.cells #[.int .i64 0, .int .i64 0, .int .i64 0, .int .i64 0, .int .i64 0, .int .i64 0, .int .i64 0, .int .i64 0] 62)).alloc (.cells #[.int .i64 0, .int .i64 0] 26) = W0 := ⟨_, rfl⟩
  have b0 : Below w.heap.size w W0 := by rw [← hW0]; exact two_new _ _ _
  have X4 : Hid (BoxAt W0 w.heap.size #[.int .i64 0, .int .i64 0, .int .i64 0, .int .i64 0, .int .i64 0, .int .i64 0, .int .i64 0, .int .i64 0] 62) := Lib.hid (by rw [← hW0]; exact (BoxAt.new w _ _).below (one_new2 _ _))
  have X5 : Hid (BoxAt W0 (w.heap.size + 1) #[.int .i64 0, .int .i64 0] 26) := Lib.hid (by rw [← hW0]; have q := BoxAt.new (w.alloc (.cells #[.int .i64 0, .int .i64 0, .int .i64 0, .int .i64 0, .int .i64 0, .int .i64 0, .int .i64 0, .int .i64 0] 62)) #[.int .i64 0, .int .i64 0] 26; rw [show (w.alloc (.cells #[.int .i64 0, .int .i64 0, .int .i64 0, .int .i64 0, .int .i64 0, .int .i64 0, .int .i64 0, .int .i64 0] 62)).heap.size = w.heap.size + 1 by simp] at q; exact q)
  have HW := Lib.hid hW0
  have B0 := Lib.hid b0
  have HT0 := Lib.hid (HTb.out.below b0)
  have hs0 : w.heap.size + 1 < W0.heap.size := X5.out.lt
  clear hW0 b0
  have HTO := Lib.hid (fun w HT => implTokensOf_any s w HT)
  by_cases h4 : s.size ≤ 4000
  rotate_left
  · rw [(tkT_no h4).1, (tkT_no h4).2] at HTO
    rw [whP_no h4]
    show Calls _ _ _ _ fun e w' => e = .returned (.tuple #[clsV cls0, .agg #[.int .i64 0, .int .i64 0], .bool false]) ∧ Below w.heap.size w w'
    go_enter Tryd.func113, Tryd.ntmps113
    go_wp2_with fail
    rw [HW.out]
    go_wp2_with (go_at_call 9; refine (HTO.out _ HT0).mono ?_; rintro e w1 ⟨v, rfl, o1, b1⟩; have B1 := Lib.hid b1; clear b1 o1)
    obtain ⟨Wb, hWb⟩ : ∃ Wb, (w1.alloc (.cells #[.int .i64 0, .int .i64 0] 26)).alloc (.cells #[.int .i64 0, .int .i64 0, .int .i64 0, .int .i64 0, .int .i64 0, .int .i64 0, .int .i64 0, .int .i64 0] 62) = Wb := ⟨_, rfl⟩
    rw [hWb]
    have bb : Below w1.heap.size w1 Wb := by rw [← hWb]; exact two_new _ _ _
    have X4b := Lib.hid ((X4.out.below B1.out).below bb)
    have X5b := Lib.hid ((X5.out.below B1.out).below bb)
    have Y8 : Hid (BoxAt Wb w1.heap.size #[.int .i64 0, .int .i64 0] 26) := Lib.hid (by rw [← hWb]; exact (BoxAt.new _ _ _).below (one_new2 _ _))
    have Y10 : Hid (BoxAt Wb (w1.heap.size + 1) #[.int .i64 0, .int .i64 0, .int .i64 0, .int .i64 0, .int .i64 0, .int .i64 0, .int .i64 0, .int .i64 0] 62) := Lib.hid (by rw [← hWb]; have q := BoxAt.new (w1.alloc (.cells #[.int .i64 0, .int .i64 0] 26)) #[.int .i64 0, .int .i64 0, .int .i64 0, .int .i64 0, .int .i64 0, .int .i64 0, .int .i64 0, .int .i64 0] 62; rw [show (w1.alloc (.cells #[.int .i64 0, .int .i64 0] 26)).heap.size = w1.heap.size + 1 by simp] at q; exact q)
    have BW : Hid (Below w.heap.size w Wb) := Lib.hid ((B0.out.trans (B1.out.mono B0.out.size)).trans (bb.mono (by have := B0.out.size; have := B1.out.size; omega)))
    have hs1 : w.heap.size + 1 < w1.heap.size := by have := B1.out.size; omega
    clear hWb bb
    obtain ⟨x0, x1, x2, x3, x4, x5, x6, x7, xf⟩ := box_eights X4b.out
    have y0 : Wb.cell? ⟨w.heap.size + 1, 0, none⟩ = some (.int .i64 0) := by rw [X5b.out.cell 0]; rfl
    have y1 : Wb.cell? ⟨w.heap.size + 1, 1, none⟩ = some (.int .i64 0) := by rw [X5b.out.cell 1]; rfl
    have yf := X5b.out.open
    have v0 : Wb.cell? ⟨w1.heap.size, 0, none⟩ = some (.int .i64 0) := by rw [Y8.out.cell 0]; rfl
    have v1 : Wb.cell? ⟨w1.heap.size, 1, none⟩ = some (.int .i64 0) := by rw [Y8.out.cell 1]; rfl
    obtain ⟨z0, z1, z2, z3, z4, z5, z6, z7, zf⟩ := box_eights Y10.out
    go_region
    all_goals
      go_wp2
      have q4 := (((((((((X4b.out.set 0 (.int .i64 0)).set 1 (.int .i64 0)).set 2 (.int .i64 0)).set 3 (.int .i64 0)).set 4 (.int .i64 0)).set 5 (.int .i64 0)).set 6 (.int .i64 0)).set 7 (.int .i64 0)).other2 (c := w.heap.size + 1) (by omega) 0 (.int .i64 (0))).other2 (c := w.heap.size + 1) (by omega) 1 (.int .i64 (0))
      have q5 := ((X5b.out.eightO (c := w.heap.size) (by omega) (.int .i64 0) (.int .i64 0) (.int .i64 0) (.int .i64 0) (.int .i64 0) (.int .i64 0) (.int .i64 0) (.int .i64 0)).set 0 (.int .i64 (0))).set 1 (.int .i64 (0))
      have r0 := q4.cell 0
      have r1 := q4.cell 1
      have r2 := q4.cell 2
      have r3 := q4.cell 3
      have r4 := q4.cell 4
      have r5 := q4.cell 5
      have r6 := q4.cell 6
      have r7 := q4.cell 7
      have u0 := q5.cell 0
      have u1 := q5.cell 1
      exact bodyPost_ret (v := .tuple #[clsV cls0, .agg #[.int .i64 (0), .int .i64 (0)], .bool false]) (by simp [results, Tryd.results113, go_sem, clsV, cls0, r0, r1, r2, r3, r4, r5, r6, r7, u0, u1]) rfl ⟨rfl, below_drewN (((((((((((BW.out).setCell (Nat.le_refl _) _).setCell (Nat.le_refl _) _).setCell (Nat.le_refl _) _).setCell (Nat.le_refl _) _).setCell (Nat.le_refl _) _).setCell (Nat.le_refl _) _).setCell (Nat.le_refl _) _).setCell (Nat.le_refl _) _).setCell (Nat.le_succ _) _).setCell (Nat.le_succ _) _) 1⟩
  have hg0 := tkL_g s
  have hlen := tkL_len s
  rw [(tkT_yes h4).1, (tkT_yes h4).2] at HTO
  by_cases hf : (tkL s).f = 0
  rotate_left
  · have df : ((tkL s).f != 0) = true := by simpa using hf
    rw [whP_fault h4 hf]
    show Calls _ _ _ _ fun e w' => e = .returned (.tuple #[clsV cls0, .agg #[.int .i64 (tkL s).f, .int .i64 (tkL s).g], .bool true]) ∧ Below w.heap.size w w'
    go_enter Tryd.func113, Tryd.ntmps113
    go_wp2_with fail
    rw [HW.out]
    go_wp2_with (go_at_call 9; refine (HTO.out _ HT0).mono ?_; rintro e w1 ⟨v, rfl, o1, b1⟩; have B1 := Lib.hid b1; clear b1 o1)
    obtain ⟨Wb, hWb⟩ : ∃ Wb, (w1.alloc (.cells #[.int .i64 (tkL s).f, .int .i64 (tkL s).g] 26)).alloc (.cells #[.int .i64 0, .int .i64 0, .int .i64 0, .int .i64 0, .int .i64 0, .int .i64 0, .int .i64 0, .int .i64 0] 62) = Wb := ⟨_, rfl⟩
    rw [hWb]
    have bb : Below w1.heap.size w1 Wb := by rw [← hWb]; exact two_new _ _ _
    have X4b := Lib.hid ((X4.out.below B1.out).below bb)
    have X5b := Lib.hid ((X5.out.below B1.out).below bb)
    have Y8 : Hid (BoxAt Wb w1.heap.size #[.int .i64 (tkL s).f, .int .i64 (tkL s).g] 26) := Lib.hid (by rw [← hWb]; exact (BoxAt.new _ _ _).below (one_new2 _ _))
    have Y10 : Hid (BoxAt Wb (w1.heap.size + 1) #[.int .i64 0, .int .i64 0, .int .i64 0, .int .i64 0, .int .i64 0, .int .i64 0, .int .i64 0, .int .i64 0] 62) := Lib.hid (by rw [← hWb]; have q := BoxAt.new (w1.alloc (.cells #[.int .i64 (tkL s).f, .int .i64 (tkL s).g] 26)) #[.int .i64 0, .int .i64 0, .int .i64 0, .int .i64 0, .int .i64 0, .int .i64 0, .int .i64 0, .int .i64 0] 62; rw [show (w1.alloc (.cells #[.int .i64 (tkL s).f, .int .i64 (tkL s).g] 26)).heap.size = w1.heap.size + 1 by simp] at q; exact q)
    have BW : Hid (Below w.heap.size w Wb) := Lib.hid ((B0.out.trans (B1.out.mono B0.out.size)).trans (bb.mono (by have := B0.out.size; have := B1.out.size; omega)))
    have hs1 : w.heap.size + 1 < w1.heap.size := by have := B1.out.size; omega
    clear hWb bb
    obtain ⟨x0, x1, x2, x3, x4, x5, x6, x7, xf⟩ := box_eights X4b.out
    have y0 : Wb.cell? ⟨w.heap.size + 1, 0, none⟩ = some (.int .i64 0) := by rw [X5b.out.cell 0]; rfl
    have y1 : Wb.cell? ⟨w.heap.size + 1, 1, none⟩ = some (.int .i64 0) := by rw [X5b.out.cell 1]; rfl
    have yf := X5b.out.open
    have v0 : Wb.cell? ⟨w1.heap.size, 0, none⟩ = some (.int .i64 (tkL s).f) := by rw [Y8.out.cell 0]; rfl
    have v1 : Wb.cell? ⟨w1.heap.size, 1, none⟩ = some (.int .i64 (tkL s).g) := by rw [Y8.out.cell 1]; rfl
    obtain ⟨z0, z1, z2, z3, z4, z5, z6, z7, zf⟩ := box_eights Y10.out
    go_region
    all_goals
      go_wp2
      have q4 := (((((((((X4b.out.set 0 (.int .i64 0)).set 1 (.int .i64 0)).set 2 (.int .i64 0)).set 3 (.int .i64 0)).set 4 (.int .i64 0)).set 5 (.int .i64 0)).set 6 (.int .i64 0)).set 7 (.int .i64 0)).other2 (c := w.heap.size + 1) (by omega) 0 (.int .i64 ((tkL s).f))).other2 (c := w.heap.size + 1) (by omega) 1 (.int .i64 ((tkL s).g))
      have q5 := ((X5b.out.eightO (c := w.heap.size) (by omega) (.int .i64 0) (.int .i64 0) (.int .i64 0) (.int .i64 0) (.int .i64 0) (.int .i64 0) (.int .i64 0) (.int .i64 0)).set 0 (.int .i64 ((tkL s).f))).set 1 (.int .i64 ((tkL s).g))
      have r0 := q4.cell 0
      have r1 := q4.cell 1
      have r2 := q4.cell 2
      have r3 := q4.cell 3
      have r4 := q4.cell 4
      have r5 := q4.cell 5
      have r6 := q4.cell 6
      have r7 := q4.cell 7
      have u0 := q5.cell 0
      have u1 := q5.cell 1
      exact bodyPost_ret (v := .tuple #[clsV cls0, .agg #[.int .i64 ((tkL s).f), .int .i64 ((tkL s).g)], .bool true]) (by simp [results, Tryd.results113, go_sem, clsV, cls0, r0, r1, r2, r3, r4, r5, r6, r7, u0, u1]) rfl ⟨rfl, below_drewN (((((((((((BW.out).setCell (Nat.le_refl _) _).setCell (Nat.le_refl _) _).setCell (Nat.le_refl _) _).setCell (Nat.le_refl _) _).setCell (Nat.le_refl _) _).setCell (Nat.le_refl _) _).setCell (Nat.le_refl _) _).setCell (Nat.le_refl _) _).setCell (Nat.le_succ _) _).setCell (Nat.le_succ _) _) 1⟩
  have hgz := hg0 hf
  have HTO2 : Hid (∀ w, Hid (Tabs w) → Calls Tryd.prog 9 #[.string s] w (fun e w' => ∃ v, e = .returned (.tuple #[v, .agg #[.int .i64 0, .int .i64 0], .bool true]) ∧ OwnK w' w.heap.size v (tkL s).l.length (tkL s).l ∧ Below w.heap.size w w')) := by unfold SaysL3 at HTO; rw [hf, hgz] at HTO; exact HTO
  rw [whP_an h4 hf]
  obtain ⟨ts, hts⟩ : ∃ ts, (tkL s).l = ts := ⟨_, rfl⟩
  rw [hts] at HTO2 hlen ⊢
  clear HTO hf hgz hg0 h4 hts
  have hm : ts.length ≤ 1048576 := by omega
  obtain ⟨A, hA⟩ : ∃ A, anP ts s.size (alP ts (lfP ts 0 p)) cls0 = A := ⟨_, rfl⟩
  have HRA := Lib.hid (fun g v w HP HT HF hh => readAllClass_any g s.size 0 p pb v (.slice none 0 0) (.slice none 0 0) ts w HP HT hm HF hh)
  rw [hA] at HRA
  show Calls _ _ _ _ fun e w' => e = .returned (.tuple #[clsV (anP ts s.size (alP ts (lfP ts 0 p)) cls0).1, faV (anP ts s.size (alP ts (lfP ts 0 p)) cls0).2, .bool true]) ∧ Below w.heap.size w w'
  rw [hA]
  clear hA
  obtain ⟨x, fk, fa⟩ := A
  unfold clsV faV at HRA
  simp only at HRA
  go_enter Tryd.func113, Tryd.ntmps113
  go_wp2_with fail
  rw [HW.out]
  go_wp2_with (go_at_call 9; refine (HTO2.out _ HT0).mono ?_; rintro e w1 ⟨v, rfl, o1, b1⟩; obtain ⟨va, vc, rfl⟩ := o1.slt.formS; have B1 := Lib.hid b1; have O1 := Lib.hid o1.slt; clear b1 o1)
  obtain ⟨Wp, hWp⟩ : ∃ Wp, (w1.alloc (.cells #[.int .i64 0, .int .i64 0] 26)).alloc (.cells #[.slice va ts.length vc, .int .i64 0, .int .i64 s.size, .slice none 0 0, .slice none 0 0, .int .i64 0] 178) = Wp := ⟨_, rfl⟩
  rw [hWp]
  have bb : Below w1.heap.size w1 Wp := by rw [← hWp]; exact two_new _ _ _
  have hs2 : (w1.alloc (.cells #[.int .i64 0, .int .i64 0] 26)).heap.size = w1.heap.size + 1 := by simp
  have PP : Hid (PrAt Wp (w1.heap.size + 1) (.slice va ts.length vc) 0 s.size (.slice none 0 0) (.slice none 0 0) 0) := Lib.hid (by rw [← hWp]; have q := BoxAt.new (w1.alloc (.cells #[.int .i64 0, .int .i64 0] 26)) #[.slice va ts.length vc, .int .i64 0, .int .i64 s.size, .slice none 0 0, .slice none 0 0, .int .i64 0] 178; rw [hs2] at q; exact q)
  have TT : Hid (TkB Wp (w1.heap.size + 1) (.slice va ts.length vc) ts) := Lib.hid (O1.out.tkb bb (Nat.le_succ _))
  have Y8 : Hid (BoxAt Wp w1.heap.size #[.int .i64 0, .int .i64 0] 26) := Lib.hid (by rw [← hWp]; exact (BoxAt.new _ _ _).below (one_new2 _ _))
  have X4p := Lib.hid ((X4.out.below B1.out).below bb)
  have X5p := Lib.hid ((X5.out.below B1.out).below bb)
  have hs1 : w.heap.size + 1 < w1.heap.size := by have := B1.out.size; omega
  have BP : Hid (Below w.heap.size w Wp) := Lib.hid ((B0.out.trans (B1.out.mono B0.out.size)).trans (bb.mono (by omega)))
  have hWs : w1.heap.size + 1 < Wp.heap.size := PP.out.lt
  clear hWp bb hs2
  go_wp2_with (go_at_call 167; refine (HRA.out _ _ _ PP TT (Lib.hid ((BP.out.cell (p := ⟨pb, 0, none⟩) hpb).trans HF.out)) (by omega)).mono ?_; rintro e w2 ⟨rfl, f2⟩; have F2 := Lib.hid f2; clear f2; have hs3 : w1.heap.size + 1 < w2.heap.size := Nat.lt_of_lt_of_le hWs F2.out.1.size; have Y82 := Lib.hid ((Y8.out.far F2.out (by omega)).below (one_new2 w2 (.cells #[.int .i64 x.i, .int .i64 x.p, .int .i64 x.r, .int .i64 x.e, .int .i64 x.b, .int .i64 x.u, .int .i64 x.o, .int .i64 x.l] 62))); have e0 : (w2.alloc (.cells #[.int .i64 x.i, .int .i64 x.p, .int .i64 x.r, .int .i64 x.e, .int .i64 x.b, .int .i64 x.u, .int .i64 x.o, .int .i64 x.l] 62)).cell? ⟨w1.heap.size, 0, none⟩ = some (.int .i64 0) := (by rw [Y82.out.cell 0]; rfl); have e1 : (w2.alloc (.cells #[.int .i64 x.i, .int .i64 x.p, .int .i64 x.r, .int .i64 x.e, .int .i64 x.b, .int .i64 x.u, .int .i64 x.o, .int .i64 x.l] 62)).cell? ⟨w1.heap.size, 1, none⟩ = some (.int .i64 0) := (by rw [Y82.out.cell 1]; rfl); have ef := Y82.out.open)
  obtain ⟨W3, hW3⟩ : ∃ W3, ((w2.alloc (.cells #[.int .i64 x.i, .int .i64 x.p, .int .i64 x.r, .int .i64 x.e, .int .i64 x.b, .int .i64 x.u, .int .i64 x.o, .int .i64 x.l] 62)).setCell ⟨w1.heap.size, 0, none⟩ (.int .i64 fk)).setCell ⟨w1.heap.size, 1, none⟩ (.int .i64 fa) = W3 := ⟨_, rfl⟩
  rw [hW3]
  have X4b : Hid (BoxAt W3 w.heap.size #[.int .i64 0, .int .i64 0, .int .i64 0, .int .i64 0, .int .i64 0, .int .i64 0, .int .i64 0, .int .i64 0] 62) := Lib.hid (by rw [← hW3]; exact (((X4p.out.far F2.out (by omega)).below (one_new2 w2 _)).other2 (by omega) 0 _).other2 (by omega) 1 _)
  have X5b : Hid (BoxAt W3 (w.heap.size + 1) #[.int .i64 0, .int .i64 0] 26) := Lib.hid (by rw [← hW3]; exact (((X5p.out.far F2.out (by omega)).below (one_new2 w2 _)).other2 (by omega) 0 _).other2 (by omega) 1 _)
  have Y8b : Hid (BoxAt W3 w1.heap.size #[.int .i64 fk, .int .i64 fa] 26) := Lib.hid (by rw [← hW3]; exact (Y82.out.set 0 _).set 1 _)
  have Y10 : Hid (BoxAt W3 w2.heap.size #[.int .i64 x.i, .int .i64 x.p, .int .i64 x.r, .int .i64 x.e, .int .i64 x.b, .int .i64 x.u, .int .i64 x.o, .int .i64 x.l] 62) := Lib.hid (by rw [← hW3]; exact ((BoxAt.new w2 _ _).other2 (by omega) 0 _).other2 (by omega) 1 _)
  have BW : Hid (Below w.heap.size w W3) := Lib.hid (by rw [← hW3]; exact (((BP.out.trans (F2.out.1.mono (by omega))).trans ((one_new2 w2 _).mono (by omega))).setCell (by show w.heap.size ≤ w1.heap.size; omega) _).setCell (by show w.heap.size ≤ w1.heap.size; omega) _)
  clear hW3 e0 e1 ef
  obtain ⟨p0, p1, p2, p3, p4, p5, p6, p7, xf⟩ := box_eights X4b.out
  have y0 : W3.cell? ⟨w.heap.size + 1, 0, none⟩ = some (.int .i64 0) := by rw [X5b.out.cell 0]; rfl
  have y1 : W3.cell? ⟨w.heap.size + 1, 1, none⟩ = some (.int .i64 0) := by rw [X5b.out.cell 1]; rfl
  have yf := X5b.out.open
  have v0 : W3.cell? ⟨w1.heap.size, 0, none⟩ = some (.int .i64 fk) := by rw [Y8b.out.cell 0]; rfl
  have v1 : W3.cell? ⟨w1.heap.size, 1, none⟩ = some (.int .i64 fa) := by rw [Y8b.out.cell 1]; rfl
  obtain ⟨z0, z1, z2, z3, z4, z5, z6, z7, zf⟩ := box_eights Y10.out
  go_region
  all_goals
    go_wp2
    have q4 := (((((((((X4b.out.set 0 (.int .i64 x.i)).set 1 (.int .i64 x.p)).set 2 (.int .i64 x.r)).set 3 (.int .i64 x.e)).set 4 (.int .i64 x.b)).set 5 (.int .i64 x.u)).set 6 (.int .i64 x.o)).set 7 (.int .i64 x.l)).other2 (c := w.heap.size + 1) (by omega) 0 (.int .i64 (fk))).other2 (c := w.heap.size + 1) (by omega) 1 (.int .i64 (fa))
    have q5 := ((X5b.out.eightO (c := w.heap.size) (by omega) (.int .i64 x.i) (.int .i64 x.p) (.int .i64 x.r) (.int .i64 x.e) (.int .i64 x.b) (.int .i64 x.u) (.int .i64 x.o) (.int .i64 x.l)).set 0 (.int .i64 (fk))).set 1 (.int .i64 (fa))
    have r0 := q4.cell 0
    have r1 := q4.cell 1
    have r2 := q4.cell 2
    have r3 := q4.cell 3
    have r4 := q4.cell 4
    have r5 := q4.cell 5
    have r6 := q4.cell 6
    have r7 := q4.cell 7
    have u0 := q5.cell 0
    have u1 := q5.cell 1
    exact bodyPost_ret (v := .tuple #[clsV x, .agg #[.int .i64 (fk), .int .i64 (fa)], .bool true]) (by simp [results, Tryd.results113, go_sem, clsV, cls0, r0, r1, r2, r3, r4, r5, r6, r7, u0, u1]) rfl ⟨rfl, below_drewN (((((((((((BW.out).setCell (Nat.le_refl _) _).setCell (Nat.le_refl _) _).setCell (Nat.le_refl _) _).setCell (Nat.le_refl _) _).setCell (Nat.le_refl _) _).setCell (Nat.le_refl _) _).setCell (Nat.le_refl _) _).setCell (Nat.le_refl _) _).setCell (Nat.le_succ _) _).setCell (Nat.le_succ _) _) 1⟩
def resParseFilter (s : ByteArray) : Flt × (Int × Int) × Bool := (whP s (fun ts => flP ts 0) flt0)
set_option maxHeartbeats 12800000 in
theorem implParseFilter_any (s : ByteArray) (w : World) (HTb : Hid (Tabs w)) (HF : Hid (Fwt w)) :
    Calls Tryd.prog 46 #[.string s] w fun e w' => e = .returned (.tuple #[fltV (resParseFilter s).1, faV (resParseFilter s).2.1, .bool (resParseFilter s).2.2]) ∧ Below w.heap.size w w' := by
  obtain ⟨W0, hW0⟩ : ∃ W0, (w.alloc (.cells #[.int .i64 0, .int .i64 0, .int .i64 0, .int .i64 0, .int .i64 0] 77)).alloc (.cells #[.int .i64 0, .int .i64 0] 26) = W0 := ⟨_, rfl⟩
  have hs1 : w.heap.size = w.heap.size := by simp
  have hs2 : (w.alloc (.cells #[.int .i64 0, .int .i64 0, .int .i64 0, .int .i64 0, .int .i64 0] 77)).heap.size = w.heap.size + 1 := by simp
  have b0 : Below w.heap.size w W0 := by rw [← hW0]; exact two_new _ _ _
  have X4 : Hid (BoxAt W0 (w.heap.size) #[.int .i64 0, .int .i64 0, .int .i64 0, .int .i64 0, .int .i64 0] 77) := Lib.hid (by rw [← hW0]; have q := (BoxAt.new w #[.int .i64 0, .int .i64 0, .int .i64 0, .int .i64 0, .int .i64 0] 77).below (one_new2 _ (.cells #[.int .i64 0, .int .i64 0] 26)); rw [hs1] at q; exact q)
  have X5 : Hid (BoxAt W0 (w.heap.size + 1) #[.int .i64 0, .int .i64 0] 26) := Lib.hid (by rw [← hW0]; have q := BoxAt.new (w.alloc (.cells #[.int .i64 0, .int .i64 0, .int .i64 0, .int .i64 0, .int .i64 0] 77)) #[.int .i64 0, .int .i64 0] 26; rw [hs2] at q; exact q)
  have HW := Lib.hid hW0
  have B0 := Lib.hid b0
  have HT0 := Lib.hid (HTb.out.below b0)
  have hs0 : w.heap.size + 1 < W0.heap.size := X5.out.lt
  clear hW0 b0 hs1 hs2
  unfold resParseFilter
  obtain ⟨A, hA⟩ : ∃ A, whP s (fun ts => flP ts 0) flt0 = A := ⟨_, rfl⟩
  have HPA := Lib.hid (fun w HT HF => parseFilter_any s w HT HF)
  rw [hA] at HPA
  rw [hA]
  clear hA
  obtain ⟨x, ⟨fk, fa⟩, ok⟩ := A
  unfold fltV faV at HPA
  simp only at HPA ⊢
  go_enter Tryd.func46, Tryd.ntmps46
  go_wp2_with fail
  rw [HW.out]
  go_wp2_with (go_at_call 107; refine (HPA.out _ HT0 (Lib.hid (HF.out.below B0.out HF.out.lt))).mono ?_; rintro e w1 ⟨rfl, b⟩; have B1 := Lib.hid b; clear b; have X41 := Lib.hid (X4.out.below B1.out); have X51 := Lib.hid (X5.out.below B1.out); obtain ⟨x0, x1, x2, x3, x4, xf⟩ := box_fives X41.out; have y0 : w1.cell? ⟨w.heap.size + 1, 0, none⟩ = some (.int .i64 0) := (by rw [X51.out.cell 0]; rfl); have y1 : w1.cell? ⟨w.heap.size + 1, 1, none⟩ = some (.int .i64 0) := (by rw [X51.out.cell 1]; rfl); have yf := X51.out.open)
  have q4 := (((((((X41.out).set 0 (.int .i64 x.o)).set 1 (.int .i64 x.f)).set 2 (.int .i64 x.m)).set 3 (.int .i64 x.v)).set 4 (.int .i64 x.t)).other2 (c := w.heap.size + 1) (by omega) 0 (.int .i64 (fk))).other2 (c := w.heap.size + 1) (by omega) 1 (.int .i64 (fa))
  have q5 := ((X51.out.fiveO (c := w.heap.size) (by omega) (.int .i64 x.o) (.int .i64 x.f) (.int .i64 x.m) (.int .i64 x.v) (.int .i64 x.t)).set 0 (.int .i64 (fk))).set 1 (.int .i64 (fa))
  have r0 := q4.cell 0
  have r1 := q4.cell 1
  have r2 := q4.cell 2
  have r3 := q4.cell 3
  have r4 := q4.cell 4
  have u0 := q5.cell 0
  have u1 := q5.cell 1
  exact bodyPost_ret (v := .tuple #[fltV x, .agg #[.int .i64 (fk), .int .i64 (fa)], .bool ok]) (by simp [results, Tryd.results46, go_sem, fltV, flt0, r0, r1, r2, r3, r4, u0, u1]) rfl ⟨rfl, (((((((B0.out.trans (B1.out.mono B0.out.size)).setCell (by show w.heap.size ≤ w.heap.size; omega) _).setCell (by show w.heap.size ≤ w.heap.size; omega) _).setCell (by show w.heap.size ≤ w.heap.size; omega) _).setCell (by show w.heap.size ≤ w.heap.size; omega) _).setCell (by show w.heap.size ≤ w.heap.size; omega) _).setCell (by show w.heap.size ≤ w.heap.size + 1; omega) _).setCell (by show w.heap.size ≤ w.heap.size + 1; omega) _⟩
def resParseLeaf (s : ByteArray) (p : Int) : Cls × (Int × Int) × Bool := (if inB p 0 999 = true then whP s (fun ts => lfP ts 0 p) cls0 else (cls0, (0, 0), false))
set_option maxHeartbeats 12800000 in
theorem implParseLeaf_any (s : ByteArray) (p : Int) (w : World) (HTb : Hid (Tabs w)) :
    Calls Tryd.prog 50 #[.string s, .int .i64 p] w fun e w' => e = .returned (.tuple #[clsV (resParseLeaf s p).1, faV (resParseLeaf s p).2.1, .bool (resParseLeaf s p).2.2]) ∧ Below w.heap.size w w' := by
  obtain ⟨W0, hW0⟩ : ∃ W0, ((w.alloc (.cells #[.int .i64 p] 3)).alloc (.cells #[.int .i64 0, .int .i64 0, .int .i64 0, .int .i64 0, .int .i64 0, .int .i64 0, .int .i64 0, .int .i64 0] 62)).alloc (.cells #[.int .i64 0, .int .i64 0] 26) = W0 := ⟨_, rfl⟩
  have hs1 : (w.alloc (.cells #[.int .i64 p] 3)).heap.size = w.heap.size + 1 := by simp
  have hs2 : ((w.alloc (.cells #[.int .i64 p] 3)).alloc (.cells #[.int .i64 0, .int .i64 0, .int .i64 0, .int .i64 0, .int .i64 0, .int .i64 0, .int .i64 0, .int .i64 0] 62)).heap.size = w.heap.size + 2 := by simp
  have b0 : Below w.heap.size w W0 := by rw [← hW0]; exact (one_new2 w _).trans ((two_new _ _ _).mono (by simp))
  have X4 : Hid (BoxAt W0 (w.heap.size + 1) #[.int .i64 0, .int .i64 0, .int .i64 0, .int .i64 0, .int .i64 0, .int .i64 0, .int .i64 0, .int .i64 0] 62) := Lib.hid (by rw [← hW0]; have q := (BoxAt.new (w.alloc (.cells #[.int .i64 p] 3)) #[.int .i64 0, .int .i64 0, .int .i64 0, .int .i64 0, .int .i64 0, .int .i64 0, .int .i64 0, .int .i64 0] 62).below (one_new2 _ (.cells #[.int .i64 0, .int .i64 0] 26)); rw [hs1] at q; exact q)
  have X5 : Hid (BoxAt W0 (w.heap.size + 2) #[.int .i64 0, .int .i64 0] 26) := Lib.hid (by rw [← hW0]; have q := BoxAt.new ((w.alloc (.cells #[.int .i64 p] 3)).alloc (.cells #[.int .i64 0, .int .i64 0, .int .i64 0, .int .i64 0, .int .i64 0, .int .i64 0, .int .i64 0, .int .i64 0] 62)) #[.int .i64 0, .int .i64 0] 26; rw [hs2] at q; exact q)
  have XP : Hid (BoxAt W0 w.heap.size #[.int .i64 p] 3) := Lib.hid (by rw [← hW0]; exact (BoxAt.new w _ _).below (two_new _ _ _))
  have pc : W0.cell? ⟨w.heap.size, 0, none⟩ = some (.int .i64 p) := by rw [XP.out.cell 0]; rfl
  have hmf : ∀ (fn : Fn) (first cap : Array Value) (w : World), (Instr.makeFunc fn first cap).run Tryd.prog w = .ok (.func fn first cap) w := fun _ _ _ _ => rfl
  have HIN := Lib.hid (fun w => isIn_any p 0 999 w)
  have HW := Lib.hid hW0
  have B0 := Lib.hid b0
  have HT0 := Lib.hid (HTb.out.below b0)
  have hs0 : w.heap.size + 2 < W0.heap.size := X5.out.lt
  clear hW0 b0 hs1 hs2
  unfold resParseLeaf
  rcases Bool.eq_false_or_eq_true (inB p 0 999) with hb | hb
  · rw [if_pos hb]
    rw [hb] at HIN
    obtain ⟨A, hA⟩ : ∃ A, whP s (fun ts => lfP ts 0 p) cls0 = A := ⟨_, rfl⟩
    have HPA := Lib.hid (fun pb w HT HF hb => parseClass_any s p pb w HT HF hb)
    rw [hA] at HPA
    rw [hA]
    clear hA
    obtain ⟨x, ⟨fk, fa⟩, ok⟩ := A
    unfold clsV faV at HPA
    simp only at HPA ⊢
    go_enter Tryd.func50, Tryd.ntmps50
    go_wp2_with fail
    rw [HW.out]
    go_wp2_with (first | (go_at_call 112; (with_reducible refine (HIN.out _).mono ?_); rintro e w' ⟨rfl, rfl⟩) | (go_at_call 113; refine (HPA.out w.heap.size _ HT0 (Lib.hid pc) (by omega)).mono ?_; rintro e w1 ⟨rfl, b⟩; have B1 := Lib.hid b; clear b; have X41 := Lib.hid (X4.out.below B1.out); have X51 := Lib.hid (X5.out.below B1.out); obtain ⟨x0, x1, x2, x3, x4, x5, x6, x7, xf⟩ := box_eights X41.out; have y0 : w1.cell? ⟨w.heap.size + 2, 0, none⟩ = some (.int .i64 0) := (by rw [X51.out.cell 0]; rfl); have y1 : w1.cell? ⟨w.heap.size + 2, 1, none⟩ = some (.int .i64 0) := (by rw [X51.out.cell 1]; rfl); have yf := X51.out.open))
    have q4 := ((((((((((X41.out).set 0 (.int .i64 x.i)).set 1 (.int .i64 x.p)).set 2 (.int .i64 x.r)).set 3 (.int .i64 x.e)).set 4 (.int .i64 x.b)).set 5 (.int .i64 x.u)).set 6 (.int .i64 x.o)).set 7 (.int .i64 x.l)).other2 (c := w.heap.size + 2) (by omega) 0 (.int .i64 (fk))).other2 (c := w.heap.size + 2) (by omega) 1 (.int .i64 (fa))
    have q5 := ((X51.out.eightO (c := w.heap.size + 1) (by omega) (.int .i64 x.i) (.int .i64 x.p) (.int .i64 x.r) (.int .i64 x.e) (.int .i64 x.b) (.int .i64 x.u) (.int .i64 x.o) (.int .i64 x.l)).set 0 (.int .i64 (fk))).set 1 (.int .i64 (fa))
    have r0 := q4.cell 0
    have r1 := q4.cell 1
    have r2 := q4.cell 2
    have r3 := q4.cell 3
    have r4 := q4.cell 4
    have r5 := q4.cell 5
    have r6 := q4.cell 6
    have r7 := q4.cell 7
    have u0 := q5.cell 0
    have u1 := q5.cell 1
    exact bodyPost_ret (v := .tuple #[clsV x, .agg #[.int .i64 (fk), .int .i64 (fa)], .bool ok]) (by simp [results, Tryd.results50, go_sem, clsV, cls0, r0, r1, r2, r3, r4, r5, r6, r7, u0, u1]) rfl ⟨rfl, ((((((((((B0.out.trans (B1.out.mono B0.out.size)).setCell (by show w.heap.size ≤ w.heap.size + 1; omega) _).setCell (by show w.heap.size ≤ w.heap.size + 1; omega) _).setCell (by show w.heap.size ≤ w.heap.size + 1; omega) _).setCell (by show w.heap.size ≤ w.heap.size + 1; omega) _).setCell (by show w.heap.size ≤ w.heap.size + 1; omega) _).setCell (by show w.heap.size ≤ w.heap.size + 1; omega) _).setCell (by show w.heap.size ≤ w.heap.size + 1; omega) _).setCell (by show w.heap.size ≤ w.heap.size + 1; omega) _).setCell (by show w.heap.size ≤ w.heap.size + 2; omega) _).setCell (by show w.heap.size ≤ w.heap.size + 2; omega) _⟩
  · rw [if_neg (by rw [hb]; simp)]
    rw [hb] at HIN
    have X41 := X4
    have X51 := X5
    obtain ⟨x0, x1, x2, x3, x4, x5, x6, x7, xf⟩ := box_eights X41.out
    have y0 : W0.cell? ⟨w.heap.size + 2, 0, none⟩ = some (.int .i64 0) := by rw [X51.out.cell 0]; rfl
    have y1 : W0.cell? ⟨w.heap.size + 2, 1, none⟩ = some (.int .i64 0) := by rw [X51.out.cell 1]; rfl
    have yf := X51.out.open
    show Calls _ _ _ _ fun e w' => e = .returned (.tuple #[clsV cls0, .agg #[.int .i64 0, .int .i64 0], .bool false]) ∧ Below w.heap.size w w'
    go_enter Tryd.func50, Tryd.ntmps50
    go_wp2_with fail
    rw [HW.out]
    go_wp2_with (go_at_call 112; (with_reducible refine (HIN.out _).mono ?_); rintro e w' ⟨rfl, rfl⟩)
    have q4 := ((((((((((X41.out).set 0 (.int .i64 0)).set 1 (.int .i64 0)).set 2 (.int .i64 0)).set 3 (.int .i64 0)).set 4 (.int .i64 0)).set 5 (.int .i64 0)).set 6 (.int .i64 0)).set 7 (.int .i64 0)).other2 (c := w.heap.size + 2) (by omega) 0 (.int .i64 (0))).other2 (c := w.heap.size + 2) (by omega) 1 (.int .i64 (0))
    have q5 := ((X51.out.eightO (c := w.heap.size + 1) (by omega) (.int .i64 0) (.int .i64 0) (.int .i64 0) (.int .i64 0) (.int .i64 0) (.int .i64 0) (.int .i64 0) (.int .i64 0)).set 0 (.int .i64 (0))).set 1 (.int .i64 (0))
    have r0 := q4.cell 0
    have r1 := q4.cell 1
    have r2 := q4.cell 2
    have r3 := q4.cell 3
    have r4 := q4.cell 4
    have r5 := q4.cell 5
    have r6 := q4.cell 6
    have r7 := q4.cell 7
    have u0 := q5.cell 0
    have u1 := q5.cell 1
    exact bodyPost_ret (v := .tuple #[clsV cls0, .agg #[.int .i64 (0), .int .i64 (0)], .bool false]) (by simp [results, Tryd.results50, go_sem, clsV, cls0, r0, r1, r2, r3, r4, r5, r6, r7, u0, u1]) rfl ⟨rfl, ((((((((((B0.out).setCell (by show w.heap.size ≤ w.heap.size + 1; omega) _).setCell (by show w.heap.size ≤ w.heap.size + 1; omega) _).setCell (by show w.heap.size ≤ w.heap.size + 1; omega) _).setCell (by show w.heap.size ≤ w.heap.size + 1; omega) _).setCell (by show w.heap.size ≤ w.heap.size + 1; omega) _).setCell (by show w.heap.size ≤ w.heap.size + 1; omega) _).setCell (by show w.heap.size ≤ w.heap.size + 1; omega) _).setCell (by show w.heap.size ≤ w.heap.size + 1; omega) _).setCell (by show w.heap.size ≤ w.heap.size + 2; omega) _).setCell (by show w.heap.size ≤ w.heap.size + 2; omega) _⟩
end Go.Proofs.YthpejbdbbofaaaaDoor
