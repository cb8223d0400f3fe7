/- The parser's small functions, the model's: fail, is, take, number, named, limit, done. -/
import Derived.Test.YthpejbdbbofaaaaDoorPsa
namespace Go.Proofs.YthpejbdbbofaaaaDoor
set_option maxRecDepth 100000
open Go.RowKit
set_option linter.unusedVariables false
set_option linter.unusedSimpArgs false

/-- no name has the text of a key word or a sign -/
def GoodN (ts : List Tok) : Prop := ∀ i, i < ts.length → (ts.getD i tok0).k = 2 → ∀ t, t ∈ kwA ++ sgA → ((ts.getD i tok0).t.toList == t.toList) = false
/-- the reader in its block -/
def StAt (w : World) (g : Nat) (tv : Value) (i : Nat) (en : Int) (nm cv fv df d : Value) (fk fa : Int) : Prop :=
  w.heap[g]? = some (.cells #[tv, .int .i64 (i : Int), .int .i64 en, nm, cv, fv, df, d, .int .i64 fk, .int .i64 fa] 135 (0, 0))
theorem StAt.lt {w : World} {g : Nat} {tv : Value} {i : Nat} {en : Int} {nm cv fv df d : Value} {fk fa : Int} (h : StAt w g tv i en nm cv fv df d fk fa) : g < w.heap.size := by
  rcases Nat.lt_or_ge g w.heap.size with q | q
  · exact q
  · unfold StAt at h
    rw [Array.getElem?_eq_none q] at h
    cases h
theorem StAt.below {w w' : World} {g : Nat} {tv : Value} {i : Nat} {en : Int} {nm cv fv df d : Value} {fk fa : Int} (h : StAt w g tv i en nm cv fv df d fk fa) (b : Below w.heap.size w w') : StAt w' g tv i en nm cv fv df d fk fa := (b.block g h.lt).trans h
theorem StAt.cells {w : World} {g : Nat} {tv : Value} {i : Nat} {en : Int} {nm cv fv df d : Value} {fk fa : Int} (h : StAt w g tv i en nm cv fv df d fk fa) :
    w.cell? ⟨g, 0, none⟩ = some tv ∧ w.cell? ⟨g, 1, none⟩ = some (.int .i64 (i : Int)) ∧ w.cell? ⟨g, 2, none⟩ = some (.int .i64 en) ∧ w.cell? ⟨g, 8, none⟩ = some (.int .i64 fk) ∧ w.cell? ⟨g, 9, none⟩ = some (.int .i64 fa) ∧ (∀ o, w.frozen? ⟨g, o, none⟩ = false) :=
  ⟨by rw [cell_of_row w g 0 _ _ (0, 0) h]; rfl, by rw [cell_of_row w g 1 _ _ (0, 0) h]; rfl, by rw [cell_of_row w g 2 _ _ (0, 0) h]; rfl, by rw [cell_of_row w g 8 _ _ (0, 0) h]; rfl, by rw [cell_of_row w g 9 _ _ (0, 0) h]; rfl, fun o => frozen_of_row w g o _ _ h⟩
theorem StAt.next {w : World} {g : Nat} {tv : Value} {i : Nat} {en : Int} {nm cv fv df d : Value} {fk fa : Int} (h : StAt w g tv i en nm cv fv df d fk fa) (j : Nat) : StAt (w.setCell ⟨g, 1, none⟩ (.int .i64 (j : Int))) g tv j en nm cv fv df d fk fa :=
  heap_setCell_same w g 1 _ _ _ h
theorem StAt.fault {w : World} {g : Nat} {tv : Value} {i : Nat} {en : Int} {nm cv fv df d : Value} {fk fa : Int} (h : StAt w g tv i en nm cv fv df d fk fa) (k a : Int) : StAt ((w.setCell ⟨g, 8, none⟩ (.int .i64 k)).setCell ⟨g, 9, none⟩ (.int .i64 a)) g tv i en nm cv fv df d k a :=
  heap_setCell_same _ g 9 _ _ _ (heap_setCell_same w g 8 _ _ _ h)
theorem two_faults {w w1 : World} {g : Nat} {a b : Value} (c : Far g w w1) : Far g w ((w1.setCell ⟨g, 8, none⟩ a).setCell ⟨g, 9, none⟩ b) := (c.store 8 a).store 9 b
/-- what reading a part says in the model -/
def SaysS (w : World) (g : Nat) (tv : Value) (ts : List Tok) (en : Int) (nm cv fv df d : Value) {α : Type} (val : α → Value) (R : PR α) (e : Ending) (w' : World) : Prop :=
  match R with
  | .ok x j => e = .returned (.tuple #[val x, .bool true]) ∧ j ≤ ts.length ∧ StAt w' g tv j en nm cv fv df d 0 0 ∧ Far g w w'
  | .bad k j => (∃ x, e = .returned (.tuple #[val x, .bool false])) ∧ j ≤ ts.length ∧ StAt w' g tv j en nm cv fv df d (fltP ts en k j).1 (fltP ts en k j).2 ∧ Far g w w'
/-- the same where there is a truth value alone -/
def SaysU (w : World) (g : Nat) (tv : Value) (ts : List Tok) (en : Int) (nm cv fv df d : Value) {α : Type} (R : PR α) (e : Ending) (w' : World) : Prop :=
  match R with
  | .ok x j => e = .returned (.bool true) ∧ j ≤ ts.length ∧ StAt w' g tv j en nm cv fv df d 0 0 ∧ Far g w w'
  | .bad k j => e = .returned (.bool false) ∧ j ≤ ts.length ∧ StAt w' g tv j en nm cv fv df d (fltP ts en k j).1 (fltP ts en k j).2 ∧ Far g w w'
set_option maxHeartbeats 3200000 in
theorem fail_any (g i : Nat) (en k : Int) (tv nm cv fv df d : Value) (ts : List Tok) (w : World) (HP : Hid (StAt w g tv i en nm cv fv df d 0 0)) (HT : Hid (TkB w g tv ts)) (hi : i ≤ ts.length) (hm : ts.length ≤ 1048576) :
    Calls Tryd.prog 159 #[.pointer (some ⟨g, 0, none⟩), .int .i64 k] w (SaysU w g tv ts en nm cv fv df d (PR.bad k i : PR Unit)) := by
  obtain ⟨c0, c1, c2, c8, c9, fz⟩ := HP.out.cells
  have hg := HP.out.lt
  have f8 := fz 8
  have f9 := fz 9
  have p0 : ((w.setCell ⟨g, 8, none⟩ (.int .i64 6)).setCell ⟨g, 9, none⟩ (.int .i64 en)).cell? ⟨g, 0, none⟩ = some tv := by simp [World.cell?_setCell_other, c0]
  have p1 : ((w.setCell ⟨g, 8, none⟩ (.int .i64 6)).setCell ⟨g, 9, none⟩ (.int .i64 en)).cell? ⟨g, 1, none⟩ = some (.int .i64 (i : Int)) := by simp [World.cell?_setCell_other, c1]
  by_cases h : i < ts.length
  · obtain ⟨x, hx⟩ : ∃ x, ts.getD i tok0 = x := ⟨_, rfl⟩
    have hfl := fltP_in (en := en) (k := k) h hx
    obtain ⟨b, c, rfl, hb, y0, y1, y2, y3⟩ := HT.out.get h hx
    obtain ⟨n, hn⟩ : ∃ n, ts.length = n := ⟨_, rfl⟩
    rw [hn] at c0 h hm hi p0 HP ⊢
    have d1 : decide ((i : Int) < n) = true := is_lt (by omega)
    have Y1 : ((w.setCell ⟨g, 8, none⟩ (.int .i64 6)).setCell ⟨g, 9, none⟩ (.int .i64 en)).cell? ⟨b, i * 4 + 1, none⟩ = some (.int .i64 x.a) := ((World.cell?_setCell_far _ ⟨g, 9, none⟩ ⟨b, i * 4 + 1, none⟩ _ (by show g ≠ b; omega)).trans (World.cell?_setCell_far _ ⟨g, 8, none⟩ ⟨b, i * 4 + 1, none⟩ _ (by show g ≠ b; omega))).trans y1
    have F8 : ((w.setCell ⟨g, 8, none⟩ (.int .i64 6)).setCell ⟨g, 9, none⟩ (.int .i64 en)).frozen? ⟨g, 8, none⟩ = false := by simp [f8]
    have F9 : ((w.setCell ⟨g, 8, none⟩ (.int .i64 6)).setCell ⟨g, 9, none⟩ (.int .i64 en)).frozen? ⟨g, 9, none⟩ = false := by simp [f9]
    have HF := Lib.hid hfl
    have HS : Hid (∀ q, StAt (((((w.setCell ⟨g, 8, none⟩ (.int .i64 6)).setCell ⟨g, 9, none⟩ (.int .i64 en)).drewN q).setCell ⟨g, 8, none⟩ (.int .i64 k)).setCell ⟨g, 9, none⟩ (.int .i64 x.a)) g (.slice (some ⟨b, 0, none⟩) n c) i en nm cv fv df d k x.a) := Lib.hid (fun q => StAt.fault (w := ((w.setCell ⟨g, 8, none⟩ (.int .i64 6)).setCell ⟨g, 9, none⟩ (.int .i64 en)).drewN q) (HP.out.fault 6 en) k x.a)
    have HQ : Hid (∀ q, Far g w (((((w.setCell ⟨g, 8, none⟩ (.int .i64 6)).setCell ⟨g, 9, none⟩ (.int .i64 en)).drewN q).setCell ⟨g, 8, none⟩ (.int .i64 k)).setCell ⟨g, 9, none⟩ (.int .i64 x.a))) := Lib.hid (fun q => two_faults ((two_faults (Far.refl g w)).drewN q))
    obtain ⟨s8, s9⟩ : (∃ u, ((w.setCell ⟨g, 8, none⟩ (.int .i64 6)).setCell ⟨g, 9, none⟩ (.int .i64 en)).cell? ⟨g, 8, none⟩ = some u) ∧ (∃ u, ((w.setCell ⟨g, 8, none⟩ (.int .i64 6)).setCell ⟨g, 9, none⟩ (.int .i64 en)).cell? ⟨g, 9, none⟩ = some u) := ⟨⟨_, by simp [World.cell?_setCell_other, World.cell?_setCell_same', c8, c9]; rfl⟩, ⟨_, by simp [World.cell?_setCell_other, World.cell?_setCell_same', c8, c9]; rfl⟩⟩
    obtain ⟨u8, hu8⟩ := s8
    obtain ⟨u9, hu9⟩ := s9
    obtain ⟨W1, hW1⟩ : ∃ W1, (w.setCell ⟨g, 8, none⟩ (.int .i64 6)).setCell ⟨g, 9, none⟩ (.int .i64 en) = W1 := ⟨_, rfl⟩
    rw [hW1] at p0 p1 Y1 F8 F9 hu8 hu9 HS HQ
    have HW := Lib.hid hW1
    clear hx hfl hW1 y0 y1 y2 y3
    go_enter Tryd.func159, Tryd.ntmps159
    go_wp2_with fail
    rw [HW.out]
    go_quiet (fail)
    go_wp2_with fail
    go_region
    all_goals
      go_wp2
      go_ret
      exact ⟨rfl, by omega, by rw [HF.out]; exact HS.out _, HQ.out _⟩
  · have hfl := fltP_end (en := en) (k := k) (Nat.le_of_not_lt h)
    obtain ⟨a, c, rfl⟩ := HT.out.form
    obtain ⟨n, hn⟩ : ∃ n, ts.length = n := ⟨_, rfl⟩
    rw [hn] at c0 h hi p0 HP ⊢
    have d1 : decide ((i : Int) < n) = false := not_lt (by omega)
    have HF := Lib.hid hfl
    have HS : Hid (StAt ((w.setCell ⟨g, 8, none⟩ (.int .i64 6)).setCell ⟨g, 9, none⟩ (.int .i64 en)) g (.slice a n c) i en nm cv fv df d 6 en) := Lib.hid (HP.out.fault 6 en)
    have HQ : Hid (Far g w ((w.setCell ⟨g, 8, none⟩ (.int .i64 6)).setCell ⟨g, 9, none⟩ (.int .i64 en))) := Lib.hid (two_faults (Far.refl g w))
    obtain ⟨W1, hW1⟩ : ∃ W1, (w.setCell ⟨g, 8, none⟩ (.int .i64 6)).setCell ⟨g, 9, none⟩ (.int .i64 en) = W1 := ⟨_, rfl⟩
    rw [hW1] at p0 p1 HS HQ
    have HW := Lib.hid hW1
    clear hfl hW1
    go_enter Tryd.func159, Tryd.ntmps159
    go_wp2_with fail
    rw [HW.out]
    go_quiet (fail)
    go_wp2
    go_ret
    exact ⟨rfl, by omega, by rw [HF.out]; exact HS.out, HQ.out.drewN _⟩
set_option maxHeartbeats 3200000 in
theorem is_any (g i : Nat) (en fk fa : Int) (tv nm cv fv df d : Value) (ts : List Tok) (t : ByteArray) (w : World) (HP : Hid (StAt w g tv i en nm cv fv df d fk fa)) (HT : Hid (TkB w g tv ts)) (hm : ts.length ≤ 1048576) (HG : Hid (GoodN ts)) (ht : Hid (t ∈ kwA ++ sgA)) :
    Calls Tryd.prog 158 #[.pointer (some ⟨g, 0, none⟩), .string t] w fun e w' => e = .returned (.bool (nxP ts i t)) ∧ ∃ q, w' = w.drewN q := by
  obtain ⟨c0, c1, c2, c8, c9, fz⟩ := HP.out.cells
  by_cases h : i < ts.length
  · obtain ⟨x, hx⟩ : ∃ x, ts.getD i tok0 = x := ⟨_, rfl⟩
    have HX := Lib.hid (nxP_in (t := t) h hx)
    have HN := HG.out i h
    rw [hx] at HN
    obtain ⟨b, c, rfl, hb, y0, y1, y2, y3⟩ := HT.out.get h hx
    obtain ⟨n, hn⟩ : ∃ n, ts.length = n := ⟨_, rfl⟩
    rw [hn] at c0 h hm
    have d1 : decide ((i : Int) < n) = true := is_lt (by omega)
    clear hx
    rcases Bool.eq_false_or_eq_true (x.t.toList == t.toList) with he | he
    · have hk : (x.k != 2) = true := by
        have : x.k ≠ 2 := fun e => by have := HN e t ht.out; rw [he] at this; cases this
        simpa using this
      have HY : Hid (nxP ts i t = true) := Lib.hid (HX.out.trans he)
      clear HN HX
      go_enter Tryd.func158, Tryd.ntmps158
      go_wp2_with fail
      go_quiet (fail)
      go_wp2
      go_ret
      exact ⟨ret_bool HY.out.symm, _, rfl⟩
    · have HY : Hid (nxP ts i t = false) := Lib.hid (HX.out.trans he)
      clear HN HX
      go_enter Tryd.func158, Tryd.ntmps158
      go_wp2_with fail
      go_quiet (fail)
      go_wp2
      go_ret
      exact ⟨ret_bool HY.out.symm, _, rfl⟩
  · obtain ⟨a, c, rfl⟩ := HT.out.form
    have HX := Lib.hid (nxP_end (t := t) (Nat.le_of_not_lt h))
    obtain ⟨n, hn⟩ : ∃ n, ts.length = n := ⟨_, rfl⟩
    rw [hn] at c0 h
    have d1 : decide ((i : Int) < n) = false := not_lt (by omega)
    go_enter Tryd.func158, Tryd.ntmps158
    go_wp2_with fail
    go_quiet (fail)
    go_wp2
    go_ret
    exact ⟨ret_bool HX.out.symm, _, rfl⟩
set_option maxHeartbeats 1600000 in
theorem stake_any (g i : Nat) (en : Int) (tv nm cv fv df d : Value) (ts : List Tok) (t : ByteArray) (w : World) (HP : Hid (StAt w g tv i en nm cv fv df d 0 0)) (HT : Hid (TkB w g tv ts)) (hi : i ≤ ts.length) (hm : ts.length ≤ 1048576) (HG : Hid (GoodN ts)) (ht : Hid (t ∈ kwA ++ sgA)) :
    Calls Tryd.prog 161 #[.pointer (some ⟨g, 0, none⟩), .string t] w (SaysU w g tv ts en nm cv fv df d (tkP ts i t)) := by
  have HI := Lib.hid (fun w HP HT => is_any g i en 0 0 tv nm cv fv df d ts t w HP HT hm HG ht)
  have HF := Lib.hid (fun w HP HT => fail_any g i en 2 tv nm cv fv df d ts w HP HT hi hm)
  rcases Bool.eq_false_or_eq_true (nxP ts i t) with h | h
  · rw [tkP_yes h]
    have hj := nxP_lt h
    rw [h] at HI
    obtain ⟨c0, c1, c2, c8, c9, fz⟩ := HP.out.cells
    have f1 := fz 1
    have hw : IntKind.i64.wrap ((i : Int) + 1) = ((i + 1 : Nat) : Int) := by rw [IntWalk.i64_in _ (by omega)]; rfl
    go_enter Tryd.func161, Tryd.ntmps161
    go_wp2_with (go_at_call 158; refine (HI.out _ HP HT).mono ?_; rintro e w1 ⟨rfl, q, rfl⟩)
    go_ret
    exact ⟨rfl, by omega, StAt.next HP.out (i + 1), (((Far.refl g w).drewN q).store 1 _)⟩
  · rw [tkP_no h]
    rw [h] at HI
    go_enter Tryd.func161, Tryd.ntmps161
    go_wp2_with (first | (go_at_call 158; refine (HI.out _ HP HT).mono ?_; rintro e w1 ⟨rfl, q, rfl⟩) | (go_at_call 159; refine (HF.out _ (show Hid (StAt (w.drewN q) g tv i en nm cv fv df d 0 0) from HP) (show Hid (TkB (w.drewN q) g tv ts) from HT)).mono ?_; rintro e w2 ⟨rfl, hj, hs, hf⟩; have S2 := Lib.hid hs; have F2 := Lib.hid hf; clear hs hf))
    go_ret
    exact ⟨rfl, hi, S2.out, ((Far.refl g w).drewN q).trans F2.out⟩
end Go.Proofs.YthpejbdbbofaaaaDoor
