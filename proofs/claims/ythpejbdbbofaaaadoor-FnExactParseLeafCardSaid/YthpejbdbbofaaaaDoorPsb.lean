/- The parser's parts, the program's: takeKind, takeNumber, readField, readFilter, readHead, readLimit. -/
import Derived.Test.YthpejbdbbofaaaaDoorPsa
namespace Go.Proofs.YthpejbdbbofaaaaDoor
set_option maxRecDepth 100000
open Go.RowKit
set_option linter.unusedVariables false
set_option linter.unusedSimpArgs false

/-- a block of the call's own -/
def BoxAt (w : World) (b : Nat) (cs : Array Value) (T : TypeId) : Prop := w.heap[b]? = some (.cells cs T (0, 0))
theorem BoxAt.new (w : World) (cs : Array Value) (T : TypeId) : BoxAt (w.alloc (.cells cs T)) w.heap.size cs T := by
  show (w.heap.push _)[w.heap.size]? = _
  exact Array.getElem?_push_size
theorem BoxAt.lt {w : World} {b : Nat} {cs : Array Value} {T : TypeId} (h : BoxAt w b cs T) : b < w.heap.size := by
  rcases Nat.lt_or_ge b w.heap.size with q | q
  · exact q
  · unfold BoxAt at h
    rw [Array.getElem?_eq_none q] at h
    cases h
theorem BoxAt.far {w w' : World} {g b : Nat} {cs : Array Value} {T : TypeId} (h : BoxAt w b cs T) (f : Far g w w') (hb : b ≠ g) : BoxAt w' b cs T := by
  rcases Nat.lt_or_ge b g with q | q
  · exact (f.1.block b q).trans h
  · exact (f.2 b (by omega) h.lt).trans h
theorem BoxAt.below {w w' : World} {b : Nat} {cs : Array Value} {T : TypeId} (h : BoxAt w b cs T) (f : Below w.heap.size w w') : BoxAt w' b cs T := (f.block b h.lt).trans h
theorem BoxAt.set {w : World} {b : Nat} {cs : Array Value} {T : TypeId} (h : BoxAt w b cs T) (k : Nat) (v : Value) : BoxAt (w.setCell ⟨b, k, none⟩ v) b (cs.setIfInBounds k v) T := heap_setCell_same w b k _ _ _ h
theorem BoxAt.cell {w : World} {b : Nat} {cs : Array Value} {T : TypeId} (h : BoxAt w b cs T) (k : Nat) : w.cell? ⟨b, k, none⟩ = cs[k]? := cell_of_row w b k _ _ (0, 0) h
theorem BoxAt.open {w : World} {b : Nat} {cs : Array Value} {T : TypeId} (h : BoxAt w b cs T) (k : Nat) : w.frozen? ⟨b, k, none⟩ = false := frozen_of_row w b k _ _ h
theorem Far.new {g b : Nat} {w w1 : World} (h : Far g w w1) (hb : w.heap.size ≤ b) (hg : g < w.heap.size) (o : Nat) (v : Value) : Far g w (w1.setCell ⟨b, o, none⟩ v) := by
  refine ⟨h.1.setCell (by show g ≤ b; omega) _, fun j hj hk => ?_⟩
  rw [heap_setCell_other w1 ⟨b, o, none⟩ j v (by show j ≠ b; omega)]
  exact h.2 j hj hk
theorem PrAt.other {w : World} {g b : Nat} {tv : Value} {i : Nat} {en : Int} {cv fv : Value} {d : Int} (h : PrAt w g tv i en cv fv d) (hb : g ≠ b) (o : Nat) (v : Value) : PrAt (w.setCell ⟨b, o, none⟩ v) g tv i en cv fv d := by
  unfold PrAt
  rw [heap_setCell_other w ⟨b, o, none⟩ g v hb]
  exact h
theorem drewN_two (w : World) (q r : Nat) : (w.drewN q).drewN r = w.drewN (q + r) := by simp [World.drewN, Nat.add_assoc]
theorem undrewP {X w1 : World} {n : Nat} (b : Below (X.drewN n).heap.size (X.drewN n) w1) : Below X.heap.size X w1 := (show Below X.heap.size X (X.drewN n) from below_drewN (Below.refl _ _) n).trans b
def tokVV (x : Tok) : Value := .agg #[.int .i64 x.k, .int .i64 x.a, .string x.t, .int .i64 x.v]
theorem token_box (w : World) : Below w.heap.size w (w.alloc (.cells #[.int .i64 0, .int .i64 0, .string ⟨#[]⟩, .int .i64 0] 32)) := one_new2 _ _
set_option maxHeartbeats 3200000 in
theorem takeKind_any (g i : Nat) (en d k : Int) (tv cv fv : Value) (ts : List Tok) (w : World) (HP : Hid (PrAt w g tv i en cv fv d)) (HT : Hid (TkB w g tv ts)) (hi : i ≤ ts.length) (hm : ts.length ≤ 1048576) :
    Calls Tryd.prog 165 #[.pointer (some ⟨g, 0, none⟩), .int .i64 k] w (SaysR w g tv ts en cv fv d tokVV (kdP ts i k)) := by
  have HF := Lib.hid (fun w HP HT => faultHere_any g i en d 2 tv cv fv ts w HP HT hi hm)
  obtain ⟨W0, hW0⟩ : ∃ W0, w.alloc (.cells #[.int .i64 0, .int .i64 0, .string ⟨#[]⟩, .int .i64 0] 32) = W0 := ⟨_, rfl⟩
  have b0 : Below w.heap.size w W0 := by rw [← hW0]; exact one_new2 _ _
  have hz : w.heap.size < W0.heap.size := by rw [← hW0]; simp
  have e0 : W0.cell? ⟨w.heap.size, 0, none⟩ = some (.int .i64 0) ∧ W0.cell? ⟨w.heap.size, 1, none⟩ = some (.int .i64 0) ∧ W0.cell? ⟨w.heap.size, 2, none⟩ = some (.string ⟨#[]⟩) ∧ W0.cell? ⟨w.heap.size, 3, none⟩ = some (.int .i64 0) ∧ (∀ o, W0.frozen? ⟨w.heap.size, o, none⟩ = false) := by
    subst hW0; exact ⟨by simp [go_sem], by simp [go_sem], by simp [go_sem], by simp [go_sem], fun o => by simp [go_sem]⟩
  have HP0 := Lib.hid (HP.out.below b0)
  have hg := HP.out.lt
  have FA0 := Lib.hid ((Far.refl g w).below b0 hg)
  have HT0 := Lib.hid (HT.out.far FA0.out)
  obtain ⟨c0, c1, c2, c3, c4, c5, fz⟩ := HP0.out.cells
  have HW := Lib.hid hW0
  clear hW0 b0
  by_cases h : i < ts.length
  · obtain ⟨x, hx⟩ : ∃ x, ts.getD i tok0 = x := ⟨_, rfl⟩
    rw [kdP_in h hx]
    obtain ⟨b, c, rfl, hb, y0, y1, y2, y3⟩ := HT0.out.get h hx
    obtain ⟨n, hn⟩ : ∃ n, ts.length = n := ⟨_, rfl⟩
    rw [hn] at c0 h hm hi HF HT0 HP0
    have d1 : ((i : Int) == n) = false := by simp; omega
    by_cases hk : x.k = k
    · rw [if_pos hk]
      subst hk
      obtain ⟨z0, z1, z2, z3, zf⟩ := e0
      have d2 : (x.k != x.k) = false := by simp
      have f1 := fz 1
      have e1 : IntKind.i64.wrap (i : Int) = i := IntWalk.i64_in _ (by omega)
      have HFA := Lib.hid (fun q => (FA0.out.drewN q).store 1 (.int .i64 ((i : Int) + 1)))
      have HPN := Lib.hid (fun q => PrAt.next (w := W0.drewN q) HP0.out (i + 1))
      have HX0 : Hid (BoxAt W0 w.heap.size #[.int .i64 0, .int .i64 0, .string ⟨#[]⟩, .int .i64 0] 32) := Lib.hid (by rw [← HW.out]; exact BoxAt.new _ _ _)
      clear z0 z1 z2 z3 zf c2 c3 c4 c5
      go_enter Tryd.func165, Tryd.ntmps165
      go_wp2_with fail
      rw [HW.out]
      go_quiet (fail)
      go_wp2_with fail
      obtain ⟨W1, hW1⟩ : ∃ W1, (W0.drewN nq).setCell ⟨g, 1, none⟩ (.int .i64 ((i : Int) + 1)) = W1 := ⟨_, rfl⟩
      rw [hW1]
      have F1 : Hid (Far g w W1) := Lib.hid (by rw [← hW1]; exact HFA.out nq)
      have P1 : Hid (PrAt W1 g (.slice (some ⟨b, 0, none⟩) n c) (i + 1) en cv fv d) := Lib.hid (by rw [← hW1]; exact HPN.out nq)
      have X1 : Hid (BoxAt W1 w.heap.size #[.int .i64 0, .int .i64 0, .string ⟨#[]⟩, .int .i64 0] 32) := Lib.hid (by
        rw [← hW1]
        unfold BoxAt
        rw [heap_setCell_other _ ⟨g, 1, none⟩ _ _ (by show w.heap.size ≠ g; omega)]
        exact HX0.out)
      have far : ∀ o, W1.cell? ⟨b, o, none⟩ = W0.cell? ⟨b, o, none⟩ := fun o => by rw [← hW1]; exact World.cell?_setCell_far _ ⟨g, 1, none⟩ ⟨b, o, none⟩ _ (by show g ≠ b; omega)
      have Y0 := (far (i * 4)).trans y0
      have Y1 := (far (i * 4 + 1)).trans y1
      have Y2 := (far (i * 4 + 2)).trans y2
      have Y3 := (far (i * 4 + 3)).trans y3
      obtain ⟨C0, C1, _⟩ := P1.out.cells
      have C1' : W1.cell? ⟨g, 1, none⟩ = some (.int .i64 ((i : Int) + 1)) := C1
      have z0 : W1.cell? ⟨w.heap.size, 0, none⟩ = some (.int .i64 0) := by rw [X1.out.cell 0]; rfl
      have z1 : W1.cell? ⟨w.heap.size, 1, none⟩ = some (.int .i64 0) := by rw [X1.out.cell 1]; rfl
      have z2 : W1.cell? ⟨w.heap.size, 2, none⟩ = some (.string ⟨#[]⟩) := by rw [X1.out.cell 2]; rfl
      have z3 : W1.cell? ⟨w.heap.size, 3, none⟩ = some (.int .i64 0) := by rw [X1.out.cell 3]; rfl
      have zf := X1.out.open
      clear c0 c1 y0 y1 y2 y3 hW1 far C1 fz f1 HFA HPN HX0
      go_region
      all_goals
        go_wp2
        have q0 := (((X1.out.set 0 (.int .i64 x.k)).set 1 (.int .i64 x.a)).set 2 (.string x.t)).set 3 (.int .i64 x.v)
        have r0 := q0.cell 0
        have r1 := q0.cell 1
        have r2 := q0.cell 2
        have r3 := q0.cell 3
        refine bodyPost_ret (v := tokVV x) (by simp [results, Tryd.results165, go_sem, tokVV, r0, r1, r2, r3]) rfl ⟨rfl, by omega, ?_, ((((F1.out.new (Nat.le_refl _) hg 0 _).new (Nat.le_refl _) hg 1 _).new (Nat.le_refl _) hg 2 _).new (Nat.le_refl _) hg 3 _).drewN 1⟩
        rw [hn]
        exact (((P1.out.other (b := w.heap.size) (by omega) 0 _).other (b := w.heap.size) (by omega) 1 _).other (b := w.heap.size) (by omega) 2 _).other (b := w.heap.size) (by omega) 3 _
    · rw [if_neg hk]
      have d2 : (x.k != k) = true := by simp [hk]
      go_enter Tryd.func165, Tryd.ntmps165
      go_wp2_with fail
      rw [HW.out]
      go_quiet (fail)
      go_wp2_with (go_at_call 194; refine (HF.out _ (show Hid (PrAt (W0.drewN nq) g _ i en cv fv d) from HP0) (show Hid (TkB (W0.drewN nq) g _ ts) from HT0)).mono ?_; rintro e w2 ⟨rfl, b⟩; have B := Lib.hid (undrewP b); clear b)
      exact ⟨rfl, rfl, by omega, HP0.out.below B.out, FA0.out.below B.out (by omega)⟩
  · obtain ⟨a, c, rfl⟩ := HT.out.form
    rw [kdP_end (Nat.le_of_not_lt h)]
    obtain ⟨n, hn⟩ : ∃ n, ts.length = n := ⟨_, rfl⟩
    rw [hn] at c0 h hm hi HF HT0 HP0
    have d1 : ((i : Int) == n) = true := by simp; omega
    go_enter Tryd.func165, Tryd.ntmps165
    go_wp2_with fail
    rw [HW.out]
    go_quiet (fail)
    go_wp2_with (go_at_call 194; refine (HF.out _ (show Hid (PrAt (W0.drewN nq) g _ i en cv fv d) from HP0) (show Hid (TkB (W0.drewN nq) g _ ts) from HT0)).mono ?_; rintro e w2 ⟨rfl, b⟩; have B := Lib.hid (undrewP b); clear b)
    exact ⟨rfl, rfl, by omega, HP0.out.below B.out, FA0.out.below B.out (by omega)⟩
/-- the table of the fields' names is in its place -/
def Fwt (w : World) : Prop := ∃ (t : TypeId) (fr : Nat × Nat), w.heap[2]? = some (.cells (fwA.map Value.string).toArray t fr)
theorem Fwt.below {w w' : World} {B : Nat} (h : Fwt w) (hb : Below B w w') (hB : 2 < B) : Fwt w' := by
  obtain ⟨t, fr, h⟩ := h
  exact ⟨t, fr, (hb.block _ hB).trans h⟩
theorem fw_at (k : Nat) (h : k < 4) (w : World) : (Instr.index 200 (.agg (fwA.map Value.string).toArray) (.int .i64 (k : Int))).run Tryd.prog w = .ok (.string (fwA.getD k ⟨#[]⟩)) w := by
  rcases (show k = 0 ∨ k = 1 ∨ k = 2 ∨ k = 3 by omega) with rfl | rfl | rfl | rfl <;> kernel_rfl
def FdRel (w : World) (ts : List Tok) (i : Nat) (R : PR Int) (v : Value) (wr : World) : Prop := ∃ k : Nat, k ≤ 4 ∧ v = .int .i64 k ∧ (∃ q, wr = w.drewN q) ∧ Hid (fdL ts i (fwA.drop k) k = R)
set_option maxHeartbeats 3200000 in
theorem readField_any (g i : Nat) (en d : Int) (tv cv fv : Value) (ts : List Tok) (w : World) (HP : Hid (PrAt w g tv i en cv fv d)) (HT : Hid (TkB w g tv ts)) (hi : i ≤ ts.length) (hm : ts.length ≤ 1048576) (HF : Hid (Fwt w)) :
    Calls Tryd.prog 164 #[.pointer (some ⟨g, 0, none⟩)] w (SaysR w g tv ts en cv fv d intV (fdP ts i)) := by
  obtain ⟨R, hR⟩ : ∃ R, fdP ts i = R := ⟨_, rfl⟩
  rw [hR]
  have H0 : Hid (fdL ts i (fwA.drop 0) (0 : Nat) = R) := Lib.hid hR
  clear hR
  obtain ⟨t, fr, hg⟩ := HF.out
  have HG := Lib.hid hg
  obtain ⟨arr, harr⟩ : ∃ arr, (fwA.map Value.string).toArray = arr := ⟨_, rfl⟩
  have HA := Lib.hid fw_at
  have hsz : Hid (4 = arr.size) := Lib.hid (by rw [← harr]; rfl)
  rw [harr] at HG HA
  clear harr hg
  have HIN := Lib.hid (fun t w HP HT => isNext_any g i en d tv cv fv ts t w HP HT hm)
  have HTK := Lib.hid (fun t w HP HT => take_any g i en d tv cv fv ts t w HP HT hi hm)
  have HFH := Lib.hid (fun w HP HT => faultHere_any g i en d 2 tv cv fv ts w HP HT hi hm)
  have hgl := HP.out.lt
  go_enter Tryd.func164, Tryd.ntmps164
  go_wp2_with (refine wpList_load_row rfl 200 _ rfl 2 rfl t arr fr _ HG.out Tryd.underlying200 rfl (by rw [← hsz.out]; kernel_rfl) ?_)
  go_loopw [6] (fun v wr => FdRel w ts i R v wr) (fun v _ => 4 - (intOf v).toNat)
  case atStart => exact ⟨0, Nat.zero_le _, rfl, ⟨0, rfl⟩, H0⟩
  case round =>
    obtain ⟨k, hk, rfl, ⟨q, rfl⟩, HR⟩ := hrel
    have HPq : Hid (PrAt (w.drewN q) g tv i en cv fv d) := HP
    have HTq : Hid (TkB (w.drewN q) g tv ts) := HT
    by_cases hlt : k < 4
    · have hix := HA.out k hlt
      obtain ⟨x, hx⟩ : ∃ x, fwA.getD k ⟨#[]⟩ = x := ⟨_, rfl⟩
      have HE := Lib.hid (fdL_at ts i k hlt hx)
      rw [hx] at hix
      clear hx
      have HI := Lib.hid (fun w HP HT => HIN.out x w HP HT)
      have HK := Lib.hid (fun w HP HT => HTK.out x w HP HT)
      rcases Bool.eq_false_or_eq_true (nxP ts i x) with h | h
      · have HX : Hid (PR.ok (k : Int) (i + 1) = R) := Lib.hid (by rw [← HR.out, HE.out, if_pos h])
        have hj := nxP_lt h
        rw [tkP_yes h] at HK
        rw [h] at HI
        go_wp2_with (first | (go_at_call 195; (with_reducible refine (HI.out _ HPq HTq).mono ?_); rintro e w1 ⟨rfl, q1, rfl⟩; have HP1 : Hid (PrAt (w.drewN (q + q1)) g tv i en cv fv d) := HP; have HT1 : Hid (TkB (w.drewN (q + q1)) g tv ts) := HT) | (go_at_call 166; (with_reducible refine (HK.out _ HP1 HT1).mono ?_); rintro e w2 ⟨rfl, hj2, p, f⟩; have P2 := Lib.hid p; have F2 := Lib.hid f; clear p f))
        rw [← HX.out]
        go_ret
        exact ⟨rfl, hj2, P2.out, ((Far.refl g w).drewN (q + q1)).trans F2.out⟩
      · have HX : Hid (fdL ts i (fwA.drop (k + 1)) ((k + 1 : Nat) : Int) = R) := Lib.hid (by rw [← HR.out, HE.out, if_neg (by rw [h]; simp)])
        rw [h] at HI
        go_wp2_with (go_at_call 195; (with_reducible refine (HI.out _ HPq HTq).mono ?_); rintro e w1 ⟨rfl, q1, rfl⟩)
        go_roundw
        case rel => exact ⟨k + 1, by omega, by go_num, ⟨q + q1, rfl⟩, HX⟩
        case measure => simp [intOf]; omega
    · obtain rfl : k = 4 := by omega
      have HX : Hid (PR.bad 2 i = R) := HR
      go_wp2_with (go_at_call 194; (with_reducible refine (HFH.out _ HPq HTq).mono ?_); rintro e w2 ⟨rfl, b⟩; have B := Lib.hid (show Below w.heap.size w w2 from (below_drewN (Below.refl _ _) q).trans b); clear b)
      rw [← HX.out]
      exact ⟨rfl, rfl, hi, HP.out.below B.out, (Far.refl g w).below B.out hgl⟩
end Go.Proofs.YthpejbdbbofaaaaDoor
