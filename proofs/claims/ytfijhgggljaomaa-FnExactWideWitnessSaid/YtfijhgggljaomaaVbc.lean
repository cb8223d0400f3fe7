/- Chapter 8's witnesses: WideWitness, the model's. -/
import Derived.Test.YtfijhgggljaomaaVba
import Derived.Maps.AppendAt
namespace Go.Proofs.Ytfijhgggljaomaa
open Go.RowKit
set_option linter.unusedVariables false
set_option maxRecDepth 100000

theorem four_same {w w' : World} {b : Nat} {a0 a1 a2 a3 : Value} (h : FourIs w b a0 a1 a2 a3) (e : w'.heap[b]? = w.heap[b]?) (hs : w.heap.size ≤ w'.heap.size) : FourIs w' b a0 a1 a2 a3 := by
  obtain ⟨h0, h1, h2, h3, hb⟩ := h
  exact ⟨(cell_heap e 0).trans h0, (cell_heap e 1).trans h1, (cell_heap e 2).trans h2, (cell_heap e 3).trans h3, Nat.lt_of_lt_of_le hb hs⟩
theorem fro_same {w w' : World} {b : Nat} (h : FroB w b) (e : w'.heap[b]? = w.heap[b]?) : FroB w' b := fun o => (World.frozen?_of_block (a := ⟨b, o, none⟩) e).trans (h o)
theorem four_set2 {w : World} {b : Nat} {a0 a1 a2 a3 : Value} (h : FourIs w b a0 a1 a2 a3) (v : Value) : FourIs (w.setCell ⟨b, 2, none⟩ v) b a0 a1 v a3 := by
  obtain ⟨h0, h1, h2, h3, hg⟩ := h
  refine ⟨?_, ?_, ?_, ?_, by simpa using hg⟩
  · rw [World.cell?_setCell_other _ _ _ _ (by simp)]; exact h0
  · rw [World.cell?_setCell_other _ _ _ _ (by simp)]; exact h1
  · exact World.cell?_setCell_same' _ _ _ (by rw [h2]; rfl)
  · rw [World.cell?_setCell_other _ _ _ _ (by simp)]; exact h3
/-- a configuration that is being made: the result's box, still empty; the box of the new one; its two rows -/
def Wsp (w : World) (o : Nat) (s : ByteArray) (d : Int) (wr : World) (vc : Value) (k : Nat) (X : List Value) (vf : Value) (j : Nat) (Y : List Value) : Prop :=
  Zer wr w.heap.size ∧ FourIs wr o (.string s) vc vf (.int .i64 d) ∧ FroB wr o ∧ wr.ownsRow (w.heap.size + 1) 47 8 vc k X ∧ wr.ownsRow (w.heap.size + 1) 65 5 vf j Y ∧
    (∀ g, vc.ownBlock = some g → g ≠ o ∧ vf.ownBlock ≠ some g) ∧ (∀ g, vf.ownBlock = some g → g ≠ o) ∧ w.heap.size < o ∧ Below w.heap.size w wr
theorem Wsp.on {w wr w1 : World} {o k j : Nat} {s : ByteArray} {d : Int} {vc vf : Value} {X Y : List Value} (h : Wsp w o s d wr vc k X vf j Y) (b : Below wr.heap.size wr w1) : Wsp w o s d w1 vc k X vf j Y := by
  obtain ⟨h1, h2, h3, h4, h5, h6, h7, h8, h9⟩ := h
  exact ⟨h1.on b, h2.on b, h3.on b h2.2.2.2.2, own_low h4 b (Nat.le_refl _), own_low h5 b (Nat.le_refl _), h6, h7, h8, h9.trans (b.mono h9.size)⟩
theorem Wsp.midc {w wr w1 : World} {o k j : Nat} {s : ByteArray} {d : Int} {vc vf : Value} {X Y : List Value} (h : Wsp w o s d wr vc k X vf j Y) (hg : wr.grownBy w1 vc.ownBlock) : FourIs w1 o (.string s) vc vf (.int .i64 d) ∧ FroB w1 o := by
  obtain ⟨h1, h2, h3, h4, h5, h6, h7, h8, h9⟩ := h
  have e := hg.block o h2.2.2.2.2 (fun q => (h6 o q.symm).1 rfl)
  exact ⟨four_same h2 e hg.size, fro_same h3 e⟩
theorem Wsp.cls {w wr w1 : World} {o k j k' : Nat} {s : ByteArray} {d : Int} {vc vf v : Value} {X Y X' : List Value} (h : Wsp w o s d wr vc k X vf j Y) (ho : w1.ownsRow (w.heap.size + 1) 47 8 v k' X') (hg : wr.grownBy w1 vc.ownBlock) (ha : v.ownBlock = vc.ownBlock ∨ v.ownBlock = some wr.heap.size) :
    Wsp w o s d (w1.setCell ⟨o, 1, none⟩ v) v k' X' vf j Y := by
  have hm := h.midc hg
  obtain ⟨h1, h2, h3, h4, h5, h6, h7, h8, h9⟩ := h
  have hR : w1.heap[w.heap.size]? = wr.heap[w.heap.size]? := hg.block _ h1.1.2.2.2.2 (fun q => by have := (World.ownsRow.lt h4 _ q.symm).1; omega)
  have hbo : ∀ g, v.ownBlock = some g → g ≠ o := fun g hq => by
    rcases ha with e | e
    · exact (h6 g (by rw [← e]; exact hq)).1
    · rw [e] at hq; cases hq; have := h2.2.2.2.2; omega
  have hf1 : w1.ownsRow (w.heap.size + 1) 65 5 vf j Y := h5.kept hg (by
    cases hv : vf.ownBlock with
    | none => exact .inl rfl
    | some q => exact .inr (fun e => (h6 q e.symm).2 hv))
  refine ⟨Zer.set ⟨four_same h1.1 hR hg.size, fro_same h1.2 hR⟩ (by omega) _, hm.1.set1 v, hm.2.set _ _, wit_far ho hbo _, wit_far hf1 h7 _, fun g hq => ⟨hbo g hq, fun e => ?_⟩, h7, h8, (h9.trans ⟨hg.os, hg.tape, hg.output, hg.size, fun i hi => hg.block i (Nat.lt_of_lt_of_le hi h9.size) (fun q => by have := (World.ownsRow.lt h4 _ q.symm).1; omega)⟩).setCell (p := ⟨o, 1, none⟩) (by show w.heap.size ≤ o; omega) _⟩
  rcases ha with q | q
  · exact (h6 g (by rw [← q]; exact hq)).2 e
  · rw [q] at hq; cases hq; exact absurd (World.ownsRow.lt h5 _ e).2 (Nat.lt_irrefl _)
theorem Wsp.midf {w wr w1 : World} {o k j : Nat} {s : ByteArray} {d : Int} {vc vf : Value} {X Y : List Value} (h : Wsp w o s d wr vc k X vf j Y) (hg : wr.grownBy w1 vf.ownBlock) : FourIs w1 o (.string s) vc vf (.int .i64 d) ∧ FroB w1 o := by
  obtain ⟨h1, h2, h3, h4, h5, h6, h7, h8, h9⟩ := h
  have e := hg.block o h2.2.2.2.2 (fun q => h7 o q.symm rfl)
  exact ⟨four_same h2 e hg.size, fro_same h3 e⟩
theorem Wsp.flt {w wr w1 : World} {o k j j' : Nat} {s : ByteArray} {d : Int} {vc vf v : Value} {X Y Y' : List Value} (h : Wsp w o s d wr vc k X vf j Y) (ho : w1.ownsRow (w.heap.size + 1) 65 5 v j' Y') (hg : wr.grownBy w1 vf.ownBlock) (ha : v.ownBlock = vf.ownBlock ∨ v.ownBlock = some wr.heap.size) :
    Wsp w o s d (w1.setCell ⟨o, 2, none⟩ v) vc k X v j' Y' := by
  have hm := h.midf hg
  obtain ⟨h1, h2, h3, h4, h5, h6, h7, h8, h9⟩ := h
  have hR : w1.heap[w.heap.size]? = wr.heap[w.heap.size]? := hg.block _ h1.1.2.2.2.2 (fun q => by have := (World.ownsRow.lt h5 _ q.symm).1; omega)
  have hbo : ∀ g, v.ownBlock = some g → g ≠ o := fun g hq => by
    rcases ha with e | e
    · exact h7 g (by rw [← e]; exact hq)
    · rw [e] at hq; cases hq; have := h2.2.2.2.2; omega
  have hc1 : w1.ownsRow (w.heap.size + 1) 47 8 vc k X := h4.kept hg (by
    cases hv : vc.ownBlock with
    | none => exact .inl rfl
    | some q => exact .inr (fun e => (h6 q hv).2 e.symm))
  refine ⟨Zer.set ⟨four_same h1.1 hR hg.size, fro_same h1.2 hR⟩ (by omega) _, four_set2 hm.1 v, hm.2.set _ _, wit_far hc1 (fun g hq => (h6 g hq).1) _, wit_far ho hbo _, fun g hq => ⟨(h6 g hq).1, fun e => ?_⟩, hbo, h8, (h9.trans ⟨hg.os, hg.tape, hg.output, hg.size, fun i hi => hg.block i (Nat.lt_of_lt_of_le hi h9.size) (fun q => by have := (World.ownsRow.lt h5 _ q.symm).1; omega)⟩).setCell (p := ⟨o, 2, none⟩) (by show w.heap.size ≤ o; omega) _⟩
  rcases ha with q | q
  · exact (h6 g hq).2 (by rw [← q]; exact e)
  · rw [q] at e; cases e; exact absurd (World.ownsRow.lt h4 _ hq).2 (Nat.lt_irrefl _)
/-! The wide witness. -/
def wwc (n k : Nat) : Cls := if k = 0 then ⟨(k : Int) + 1, 0, 10 * ((n : Int) - 1), 10 * ((n : Int) - 1), 1500, 1500, 0, 0⟩ else ⟨(k : Int) + 1, 1, 10, 10, 1500, 1500, 0, 1⟩
def wwL (n k : Nat) : List Cls := (List.range k).map (wwc n)
theorem wwL_more (n k : Nat) : clsCs (wwL n (k + 1)) = clsCs (wwL n k) ++ clsC (wwc n k) := by
  unfold wwL
  rw [List.range_succ, List.map_append, clsCs_append]
  simp [clsCs]
theorem wwL_len (n k : Nat) : (wwL n k).length = k := by simp [wwL]
def wwf (j : Nat) : Flt := ⟨(j : Int) + 2 - 1, 2, 65535, (j : Int) + 2, (j : Int) + 2⟩
def wfL (j : Nat) : List Flt := (List.range j).map wwf
theorem wfL_more (j : Nat) : fltCs (wfL (j + 1)) = fltCs (wfL j) ++ fltC (wwf j) := by
  unfold wfL
  rw [List.range_succ, List.map_append, fltCs_append]
  simp [fltCs]
theorem wfL_len (j : Nat) : (wfL j).length = j := by simp [wfL]
def m17 (n : Nat) : Nat := if n < 17 then n else 17
theorem m17_le (n : Nat) : m17 n ≤ 17 := by unfold m17; split <;> omega
def wide (n : Nat) : Cfg := ⟨⟨#[119, 105, 100, 101]⟩, wwL n n, wfL (m17 n - 1), 0⟩
def resWideWitness2 (a : Int) : Bool := inB a 2 24
def resWideWitness1 (a : Int) : Cfg := if inB a 2 24 then wide a.toNat else cfg0
theorem lenWideWitness (a : Int) : CfgM (resWideWitness1 a) := by
  unfold resWideWitness1
  cases h : inB a 2 24
  · rw [if_neg Bool.false_ne_true]; exact ⟨by decide, by decide, by decide⟩
  · have := inBR_iff.1 h
    rw [if_pos rfl]
    exact ⟨by show ByteArray.size ⟨#[119, 105, 100, 101]⟩ ≤ _; decide, by show (wwL _ _).length ≤ _; rw [wwL_len]; omega, by show (wfL _).length ≤ _; rw [wfL_len]; have := m17_le a.toNat; omega⟩
def W1Rel (w : World) (o n : Nat) (i : Value) (wr : World) : Prop :=
  ∃ (k : Nat) (v : Value), k ≤ n ∧ i = .int .i64 ((k : Int) + 1) ∧ Wsp w o ⟨#[119, 105, 100, 101]⟩ 0 wr v k (clsCs (wwL n k)) (.slice none 0 0) 0 []
def W2Rel (w : World) (o n : Nat) (vc : Value) (i : Value) (wr : World) : Prop :=
  ∃ (j : Nat) (vf : Value), j ≤ m17 n - 1 ∧ i = .int .i64 ((j : Int) + 2) ∧ Wsp w o ⟨#[119, 105, 100, 101]⟩ 0 wr vc n (clsCs (wwL n n)) vf j (fltCs (wfL j))
theorem l1Least_any (a b : Int) (w : World) : Calls Try.prog 66 #[.int .i64 a, .int .i64 b] w fun e w' => e = .returned (.int .i64 (if a < b then a else b)) ∧ w = w' := by
  obtain ⟨r, hr⟩ : ∃ r, (if a < b then a else b) = r := ⟨_, rfl⟩
  rw [hr]
  by_cases h : a < b
  · have d := is_lt h
    rw [if_pos h] at hr
    have H := Lib.hid hr
    clear h hr
    go_enter Try.func66, Try.ntmps66
    go_wp2
    go_ret
    exact ⟨ret_int H.out, rfl⟩
  · have d := not_lt (Int.not_lt.1 h)
    rw [if_neg h] at hr
    have H := Lib.hid hr
    clear h hr
    go_enter Try.func66, Try.ntmps66
    go_wp2
    go_ret
    exact ⟨ret_int H.out, rfl⟩
theorem least17 (n : Nat) : (if (n : Int) < 17 then (n : Int) else 17) = ((m17 n : Nat) : Int) := by
  unfold m17
  by_cases h : n < 17
  · rw [if_pos h, if_pos (by omega)]
  · rw [if_neg h, if_neg (by omega)]; rfl
set_option maxHeartbeats 12800000 in
theorem specWideWitness_any (a : Int) (w : World) :
    Calls Try.prog 30 #[.int .i64 a] w (SaysCB w (resWideWitness1 a) (resWideWitness2 a)) := by
  have HIN := Lib.hid (fun w => l1In_any a 2 24 w)
  have Z0 := Lib.hid (zer_one w 33)
  have B0 := Lib.hid (one_new2 w (.cells #[.string ⟨#[]⟩, .slice none 0 0, .slice none 0 0, .int .i64 0] 33))
  unfold resWideWitness1 resWideWitness2
  cases hi0 : inB a 2 24
  · rw [hi0] at HIN
    clear hi0
    go_enter Try.func30, Try.ntmps30
    go_wp2_with (go_at_call 51; refine (HIN.out _).mono ?_; rintro e w9 ⟨rfl, rfl⟩)
    exact bodyPost_ret (v := .tuple #[zV, .bool false]) (by simp [results, Try.results30, go_sem, zV]) rfl ⟨_, rfl, own_zV _ _, B0.out⟩
  · have hab := inBR_iff.1 hi0
    obtain ⟨n, rfl⟩ : ∃ n : Nat, a = n := ⟨a.toNat, by omega⟩
    have hn1 : 2 ≤ n := by omega
    have hn8 : n ≤ 24 := by omega
    rw [hi0] at HIN
    obtain ⟨i0, hi, hz0, hz1, hz2⟩ := info_parts infoCls
    obtain ⟨j0, hj, hy0, hy1, hy2⟩ := info_parts infoFlt
    rw [if_pos rfl, Int.toNat_natCast]
    have U0 := Lib.hid (one_new2 (w.alloc (.cells #[.string ⟨#[]⟩, .slice none 0 0, .slice none 0 0, .int .i64 0] 33)) (.cells #[.string ⟨#[119, 105, 100, 101]⟩, .slice none 0 0, .slice none 0 0, .int .i64 0] 33))
    have HL := Lib.hid (fun w => l1Least_any (n : Int) 17 w)
    rw [least17] at HL
    clear hi0 hab
    go_enter Try.func30, Try.ntmps30
    go_wp2_with (go_at_call 51; refine (HIN.out _).mono ?_; rintro e w9 ⟨rfl, rfl⟩)
    go_loopw [5] (fun i wr => W1Rel w (w.heap.size + 1) n i wr) (fun i _ => n + 1 - (intOf i).toNat)
    case atStart => exact ⟨0, .slice none 0 0, Nat.zero_le _, rfl, Z0.out.on U0.out, by have := (box_four (Below.refl _ ((w.alloc (.cells #[.string ⟨#[]⟩, .slice none 0 0, .slice none 0 0, .int .i64 0] 33)).alloc (.cells #[.string ⟨#[119, 105, 100, 101]⟩, .slice none 0 0, .slice none 0 0, .int .i64 0] 33)))).1; simpa using this, by have := FroB.new (w.alloc (.cells #[.string ⟨#[]⟩, .slice none 0 0, .slice none 0 0, .int .i64 0] 33)) #[.string ⟨#[119, 105, 100, 101]⟩, .slice none 0 0, .slice none 0 0, .int .i64 0] 33; simpa using this, World.ownsRow_nil _ _ _ _, World.ownsRow_nil _ _ _ _, fun g h => (by cases h), fun g h => (by cases h), by omega, two_new _ _ _⟩
    case round =>
      obtain ⟨k, v, hk, rfl, hs⟩ := hrel
      have HS := Lib.hid hs
      have hsz := hs.2.2.2.2.2.2.2.2.size
      have hg1 : w.heap.size + 1 < wr.heap.size := hs.2.1.2.2.2.2
      obtain ⟨ad, cO, rfl, _⟩ := own_in hs.2.2.2.1
      by_cases hlt : k < n
      · have dk := is_le (show (k : Int) + 1 ≤ (n : Int) by omega)
        by_cases hl : k = 0
        · have dl : (((k : Int) + 1) == 1) = true := by simp; omega
          have HN : Hid (clsCs (wwL n (k + 1)) = clsCs (wwL n k) ++ #[.int .i64 ((k : Int) + 1), .int .i64 0, .int .i64 (10 * ((n : Int) - 1)), .int .i64 (10 * ((n : Int) - 1)), .int .i64 1500, .int .i64 1500, .int .i64 0, .int .i64 0].toList) := Lib.hid (by rw [wwL_more]; unfold wwc clsC; rw [if_pos hl])
          have S1 := Lib.hid (HS.out.on (one_new2 wr (.cells #[.int .i64 ((k : Int) + 1), .int .i64 0, .int .i64 (10 * ((n : Int) - 1)), .int .i64 (10 * ((n : Int) - 1)), .int .i64 1500, .int .i64 1500, .int .i64 0, .int .i64 0] 47)))
          have SY := Lib.hid (S1.out.on (one_new2 (wr.alloc (.cells #[.int .i64 ((k : Int) + 1), .int .i64 0, .int .i64 (10 * ((n : Int) - 1)), .int .i64 (10 * ((n : Int) - 1)), .int .i64 1500, .int .i64 1500, .int .i64 0, .int .i64 0] 47)) (.cells #[.int .i64 ((k : Int) + 1), .int .i64 0, .int .i64 (10 * ((n : Int) - 1)), .int .i64 (10 * ((n : Int) - 1)), .int .i64 1500, .int .i64 1500, .int .i64 0, .int .i64 0] 47)))
          have f1 := HS.out.2.1.2.1
          clear hs hl
          go_wp2_with (at_builtin; refine wpList_append_own_at _ rfl _ _ 30 rfl (w.heap.size + 1) 47 i0 (.agg #[.int .i64 0, .int .i64 0, .int .i64 0, .int .i64 0, .int .i64 0, .int .i64 0, .int .i64 0, .int .i64 0]) 8 64 Try.underlying30 hi hz0 hz1 hz2 rfl (by decide) (.slice ad k cO) k (clsCs (wwL n k)) rfl (World.ownsRow.alloc S1.out.2.2.2.1 _) ⟨wr.heap.size + 1, 0, none⟩ 1 1 #[.int .i64 ((k : Int) + 1), .int .i64 0, .int .i64 (10 * ((n : Int) - 1)), .int .i64 (10 * ((n : Int) - 1)), .int .i64 1500, .int .i64 1500, .int .i64 0, .int .i64 0].toList rfl rfl (new_row (wr.alloc (.cells #[.int .i64 ((k : Int) + 1), .int .i64 0, .int .i64 (10 * ((n : Int) - 1)), .int .i64 (10 * ((n : Int) - 1)), .int .i64 1500, .int .i64 1500, .int .i64 0, .int .i64 0] 47)) _ _ _ (by simp)) (by intro u hu; simp only [List.mem_cons, List.not_mem_nil, or_false] at hu; rcases hu with rfl | rfl | rfl | rfl | rfl | rfl | rfl | rfl <;> rfl) (by unfold maxLen; omega) (by omega) (by simp; omega) ?_; intro v' wA hown1 hgrow1 _ hat; obtain ⟨fA, rA⟩ := SY.out.midc hgrow1; obtain ⟨a', c', hv', _⟩ := own_in hown1; have SA := Lib.hid (SY.out.cls (k' := k + 1) (X' := clsCs (wwL n (k + 1))) (by rw [HN.out]; exact hown1) hgrow1 hat); obtain ⟨g0, g1, g2, g3, _⟩ := fA; have r1 := rA 1; subst hv'; clear hown1 hgrow1 hat rA)
          go_roundw
          case rel => exact ⟨k + 1, _, by omega, by go_num, SA.out⟩
          case measure => simp [intOf]; omega
        · have dl : (((k : Int) + 1) == 1) = false := by simp; omega
          have HN : Hid (clsCs (wwL n (k + 1)) = clsCs (wwL n k) ++ #[.int .i64 ((k : Int) + 1), .int .i64 1, .int .i64 10, .int .i64 10, .int .i64 1500, .int .i64 1500, .int .i64 0, .int .i64 1].toList) := Lib.hid (by rw [wwL_more]; unfold wwc clsC; rw [if_neg hl])
          have S1 := Lib.hid (HS.out.on (one_new2 wr (.cells #[.int .i64 ((k : Int) + 1), .int .i64 1, .int .i64 10, .int .i64 10, .int .i64 1500, .int .i64 1500, .int .i64 0, .int .i64 1] 47)))
          have SY := Lib.hid (S1.out.on (one_new2 (wr.alloc (.cells #[.int .i64 ((k : Int) + 1), .int .i64 1, .int .i64 10, .int .i64 10, .int .i64 1500, .int .i64 1500, .int .i64 0, .int .i64 1] 47)) (.cells #[.int .i64 ((k : Int) + 1), .int .i64 1, .int .i64 10, .int .i64 10, .int .i64 1500, .int .i64 1500, .int .i64 0, .int .i64 1] 47)))
          have f1 := HS.out.2.1.2.1
          clear hs hl
          go_wp2_with (at_builtin; refine wpList_append_own_at _ rfl _ _ 30 rfl (w.heap.size + 1) 47 i0 (.agg #[.int .i64 0, .int .i64 0, .int .i64 0, .int .i64 0, .int .i64 0, .int .i64 0, .int .i64 0, .int .i64 0]) 8 64 Try.underlying30 hi hz0 hz1 hz2 rfl (by decide) (.slice ad k cO) k (clsCs (wwL n k)) rfl (World.ownsRow.alloc S1.out.2.2.2.1 _) ⟨wr.heap.size + 1, 0, none⟩ 1 1 #[.int .i64 ((k : Int) + 1), .int .i64 1, .int .i64 10, .int .i64 10, .int .i64 1500, .int .i64 1500, .int .i64 0, .int .i64 1].toList rfl rfl (new_row (wr.alloc (.cells #[.int .i64 ((k : Int) + 1), .int .i64 1, .int .i64 10, .int .i64 10, .int .i64 1500, .int .i64 1500, .int .i64 0, .int .i64 1] 47)) _ _ _ (by simp)) (by intro u hu; simp only [List.mem_cons, List.not_mem_nil, or_false] at hu; rcases hu with rfl | rfl | rfl | rfl | rfl | rfl | rfl | rfl <;> rfl) (by unfold maxLen; omega) (by omega) (by simp; omega) ?_; intro v' wA hown1 hgrow1 _ hat; obtain ⟨fA, rA⟩ := SY.out.midc hgrow1; obtain ⟨a', c', hv', _⟩ := own_in hown1; have SA := Lib.hid (SY.out.cls (k' := k + 1) (X' := clsCs (wwL n (k + 1))) (by rw [HN.out]; exact hown1) hgrow1 hat); obtain ⟨g0, g1, g2, g3, _⟩ := fA; have r1 := rA 1; subst hv'; clear hown1 hgrow1 hat rA)
          go_roundw
          case rel => exact ⟨k + 1, _, by omega, by go_num, SA.out⟩
          case measure => simp [intOf]; omega
      · have hkn : k = n := by omega
        subst hkn
        have dk := not_le (show (k : Int) < (k : Int) + 1 by omega)
        clear hs
        go_wp2_with fail
        go_loopw [7] (fun i wr => W2Rel w (w.heap.size + 1) k (.slice ad k cO) i wr) (fun i _ => m17 k + 1 - (intOf i).toNat)
        case atStart => exact ⟨0, .slice none 0 0, Nat.zero_le _, rfl, HS.out⟩
        case round =>
          have hm17 := m17_le k
          have hm2 : 2 ≤ m17 k := by unfold m17; split <;> omega
          clear HS hsz hg1
          obtain ⟨j, vf, hj2, rfl, hs⟩ := hrel
          have HS := Lib.hid hs
          have hsz := hs.2.2.2.2.2.2.2.2.size
          obtain ⟨af, cF, rfl, _⟩ := own_in hs.2.2.2.2.1
          by_cases hlt : j < m17 k - 1
          · have dk := is_le (show (j : Int) + 2 ≤ ((m17 k : Nat) : Int) by omega)
            have HN : Hid (fltCs (wfL (j + 1)) = fltCs (wfL j) ++ #[.int .i64 ((j : Int) + 2 - 1), .int .i64 2, .int .i64 65535, .int .i64 ((j : Int) + 2), .int .i64 ((j : Int) + 2)].toList) := Lib.hid (by rw [wfL_more]; rfl)
            have SY := Lib.hid (HS.out.on (one_new2 wr (.cells #[.int .i64 ((j : Int) + 2 - 1), .int .i64 2, .int .i64 65535, .int .i64 ((j : Int) + 2), .int .i64 ((j : Int) + 2)] 65)))
            have f2 := HS.out.2.1.2.2.1
            clear hs
            go_wp2_with (first | (go_at_call 66; (with_reducible refine (HL.out _).mono ?_); rintro e w9 ⟨rfl, rfl⟩) | (at_builtin; refine wpList_append_own_at _ rfl _ _ 31 rfl (w.heap.size + 1) 65 j0 (.agg #[.int .i64 0, .int .i64 0, .int .i64 0, .int .i64 0, .int .i64 0]) 5 40 Try.underlying31 hj hy0 hy1 hy2 rfl (by decide) (.slice af j cF) j (fltCs (wfL j)) rfl (World.ownsRow.alloc HS.out.2.2.2.2.1 _) ⟨wr.heap.size, 0, none⟩ 1 1 #[.int .i64 ((j : Int) + 2 - 1), .int .i64 2, .int .i64 65535, .int .i64 ((j : Int) + 2), .int .i64 ((j : Int) + 2)].toList rfl rfl (new_row wr _ _ _ (by simp)) (by intro u hu; simp only [List.mem_cons, List.not_mem_nil, or_false] at hu; rcases hu with rfl | rfl | rfl | rfl | rfl <;> rfl) (by unfold maxLen; omega) (by omega) (by simp; omega) ?_; intro v' wA hown1 hgrow1 _ hat; obtain ⟨fA, rA⟩ := SY.out.midf hgrow1; obtain ⟨a', c', hv', _⟩ := own_in hown1; have SA := Lib.hid (SY.out.flt (j' := j + 1) (Y' := fltCs (wfL (j + 1))) (by rw [HN.out]; exact hown1) hgrow1 hat); obtain ⟨g0, g1, g2, g3, _⟩ := fA; have r1 := rA 2; subst hv'; clear hown1 hgrow1 hat rA))
            go_roundw
            case rel => exact ⟨j + 1, _, by omega, by go_num, SA.out⟩
            case measure => simp [intOf]; omega
          · have hjm : j = m17 k - 1 := by omega
            have HJM := Lib.hid hjm
            have dk := not_le (show ((m17 k : Nat) : Int) < (j : Int) + 2 by omega)
            obtain ⟨z0, z1, z2, z3, _⟩ := HS.out.2.1
            obtain ⟨⟨x0, x1, x2, x3, _⟩, x4⟩ := HS.out.1
            have y0 := x4 0
            have y1 := x4 1
            have y2 := x4 2
            have y3 := x4 3
            clear x4 hs hjm
            go_wp2_with (first | (go_at_call 66; (with_reducible refine (HL.out _).mono ?_); rintro e w9 ⟨rfl, rfl⟩))
            obtain ⟨r0, r1, r2, r3⟩ := read4 HS.out.1.four (.string ⟨#[119, 105, 100, 101]⟩) (.slice ad k cO) (.slice af j cF) (.int .i64 0) _ rfl
            have OC : Hid (OwnCfg wr (w.heap.size + 1) (.agg #[.string ⟨#[119, 105, 100, 101]⟩, .slice ad k cO, .slice af j cF, .int .i64 0]) (wide k)) := Lib.hid ⟨_, _, rfl, by show World.ownsRow _ _ _ _ _ (wwL k k).length (clsCs (wwL k k)); rw [wwL_len]; exact HS.out.2.2.2.1, by show World.ownsRow _ _ _ _ _ (wfL (m17 k - 1)).length (fltCs (wfL (m17 k - 1))); rw [wfL_len, ← HJM.out]; exact HS.out.2.2.2.2.1, fun g h => (HS.out.2.2.2.2.2.1 g h).2⟩
            exact bodyPost_ret (v := .tuple #[(.agg #[.string ⟨#[119, 105, 100, 101]⟩, .slice ad k cO, .slice af j cF, .int .i64 0]), .bool true]) (by simp [results, Try.results30, go_sem, r0, r1, r2, r3]) rfl ⟨_, rfl, (OC.out.set4 (by omega) _ _ _ _).base (by omega), set4 HS.out.2.2.2.2.2.2.2.2 _ (Nat.le_refl _) _ _ _ _⟩
end Go.Proofs.Ytfijhgggljaomaa
