/- The parser's small functions, the program's: isNext, faultHere, take, takeKind, takeNumber. -/
import Derived.Test.YthpejbdbbofaaaaDoorPsp
import Derived.BigQuiet
import Derived.Deep.RegionHeld
namespace Go.Proofs.YthpejbdbbofaaaaDoor
set_option maxRecDepth 100000
open Go.RowKit
set_option linter.unusedVariables false
set_option linter.unusedSimpArgs false

/-- only a block was written, and memory made -/
def Far (g : Nat) (w w' : World) : Prop := Below g w w' ∧ ∀ k, g < k → k < w.heap.size → w'.heap[k]? = w.heap[k]?
theorem Far.refl (g : Nat) (w : World) : Far g w w := ⟨Below.refl _ _, fun _ _ _ => rfl⟩
theorem Far.trans {g : Nat} {a b c : World} (h : Far g a b) (k : Far g b c) : Far g a c := ⟨h.1.trans k.1, fun j hg hj => (k.2 j hg (Nat.lt_of_lt_of_le hj h.1.size)).trans (h.2 j hg hj)⟩
theorem Far.drewN {g : Nat} {a b : World} (h : Far g a b) (q : Nat) : Far g a (b.drewN q) := ⟨below_drewN h.1 q, h.2⟩
theorem Far.below {g : Nat} {a b c : World} (h : Far g a b) (k : Below b.heap.size b c) (hg : g < b.heap.size) : Far g a c :=
  ⟨h.1.trans (k.mono (Nat.le_of_lt hg)), fun j hj hk => (k.block j (Nat.lt_of_lt_of_le hk h.1.size)).trans (h.2 j hj hk)⟩
theorem Far.store {g : Nat} {a b : World} (h : Far g a b) (o : Nat) (v : Value) : Far g a (b.setCell ⟨g, o, none⟩ v) := by
  refine ⟨h.1.setCell (Nat.le_refl _) _, fun j hj hk => ?_⟩
  rw [heap_setCell_other b ⟨g, o, none⟩ j v (by show j ≠ g; omega)]
  exact h.2 j hj hk
theorem Far.mono {g B : Nat} {w w' : World} (h : Far g w w') (hB : B ≤ g) : Below B w w' := h.1.mono hB

/-- a slice holds a list of tokens, which lies below a block -/
def TkB (w : World) (g : Nat) (v : Value) (l : List Tok) : Prop :=
  (l = [] ∧ ∃ ad c, v = .slice ad 0 c) ∨ (∃ h c, v = .slice (some ⟨h, 0, none⟩) l.length c ∧ ToksAt w h l ∧ h < g)
theorem TkB.far {w w' : World} {g : Nat} {v : Value} {l : List Tok} (h : TkB w g v l) (b : Far g w w') : TkB w' g v l := by
  rcases h with h | ⟨k, c, hv, ht, hg⟩
  · exact .inl h
  · exact .inr ⟨k, c, hv, ht.below b.1 hg, hg⟩
theorem SlT.tkb {w w' : World} {v : Value} {l : List Tok} {g : Nat} (h : SlT w v l) (b : Below w.heap.size w w') (hg : w.heap.size ≤ g) : TkB w' g v l := by
  rcases h.below b with h2 | ⟨k, c, hv, ht, hk⟩
  · exact .inl h2
  · rcases h with ⟨h0, ad, c', hv'⟩ | ⟨k', c', hv', ht', hk'⟩
    · exact .inl ⟨h0, ad, c', hv'⟩
    · rw [hv] at hv'
      cases hv'
      exact .inr ⟨k, c, hv, ht, by omega⟩
/-- the parser in its block -/
def PrAt (w : World) (g : Nat) (tv : Value) (i : Nat) (en : Int) (cv fv : Value) (d : Int) : Prop :=
  w.heap[g]? = some (.cells #[tv, .int .i64 (i : Int), .int .i64 en, cv, fv, .int .i64 d] 178 (0, 0))
theorem PrAt.lt {w : World} {g : Nat} {tv : Value} {i : Nat} {en : Int} {cv fv : Value} {d : Int} (h : PrAt w g tv i en cv fv d) : g < w.heap.size := by
  rcases Nat.lt_or_ge g w.heap.size with q | q
  · exact q
  · unfold PrAt at h
    rw [Array.getElem?_eq_none q] at h
    cases h
theorem PrAt.below {w w' : World} {g : Nat} {tv : Value} {i : Nat} {en : Int} {cv fv : Value} {d : Int} (h : PrAt w g tv i en cv fv d) (b : Below w.heap.size w w') : PrAt w' g tv i en cv fv d := (b.block g h.lt).trans h
theorem PrAt.cells {w : World} {g : Nat} {tv : Value} {i : Nat} {en : Int} {cv fv : Value} {d : Int} (h : PrAt w g tv i en cv fv d) :
    w.cell? ⟨g, 0, none⟩ = some tv ∧ w.cell? ⟨g, 1, none⟩ = some (.int .i64 (i : Int)) ∧ w.cell? ⟨g, 2, none⟩ = some (.int .i64 en) ∧ w.cell? ⟨g, 3, none⟩ = some cv ∧ w.cell? ⟨g, 4, none⟩ = some fv ∧ w.cell? ⟨g, 5, none⟩ = some (.int .i64 d) ∧ (∀ o, w.frozen? ⟨g, o, none⟩ = false) :=
  ⟨by rw [cell_of_row w g 0 _ _ (0, 0) h]; rfl, by rw [cell_of_row w g 1 _ _ (0, 0) h]; rfl, by rw [cell_of_row w g 2 _ _ (0, 0) h]; rfl, by rw [cell_of_row w g 3 _ _ (0, 0) h]; rfl, by rw [cell_of_row w g 4 _ _ (0, 0) h]; rfl, by rw [cell_of_row w g 5 _ _ (0, 0) h]; rfl, fun o => frozen_of_row w g o _ _ h⟩
theorem PrAt.next {w : World} {g : Nat} {tv : Value} {i : Nat} {en : Int} {cv fv : Value} {d : Int} (h : PrAt w g tv i en cv fv d) (j : Nat) : PrAt (w.setCell ⟨g, 1, none⟩ (.int .i64 (j : Int))) g tv j en cv fv d :=
  heap_setCell_same w g 1 _ _ _ h
/-- a token of a list that lies below a block -/
theorem TkB.get {w : World} {g : Nat} {v : Value} {l : List Tok} (h : TkB w g v l) {i : Nat} (hi : i < l.length) {x : Tok} (hx : l.getD i tok0 = x) :
    ∃ b c, v = .slice (some ⟨b, 0, none⟩) l.length c ∧ b < g ∧ w.cell? ⟨b, i * 4, none⟩ = some (.int .i64 x.k) ∧ w.cell? ⟨b, i * 4 + 1, none⟩ = some (.int .i64 x.a) ∧ w.cell? ⟨b, i * 4 + 2, none⟩ = some (.string x.t) ∧ w.cell? ⟨b, i * 4 + 3, none⟩ = some (.int .i64 x.v) := by
  rcases h with ⟨h0, _⟩ | ⟨b, c, hv, ht, hb⟩
  · rw [h0] at hi; exact absurd hi (by simp)
  · subst hx
    exact ⟨b, c, hv, hb, ht i 0 (by decide) hi, ht i 1 (by decide) hi, ht i 2 (by decide) hi, ht i 3 (by decide) hi⟩
theorem TkB.form {w : World} {g : Nat} {v : Value} {l : List Tok} (h : TkB w g v l) : ∃ a c, v = .slice a l.length c := by
  rcases h with ⟨h0, a, c, hv⟩ | ⟨b, c, hv, _⟩
  · exact ⟨a, c, by rw [hv, h0]; rfl⟩
  · exact ⟨_, c, hv⟩
/-- the value of a fault -/
def faV (f : Int × Int) : Value := .agg #[.int .i64 f.1, .int .i64 f.2]
/-- what reading a part says: it is read, or the call panics with the fault -/
def SaysR (w : World) (g : Nat) (tv : Value) (ts : List Tok) (en : Int) (cv fv : Value) (d : Int) {α : Type} (val : α → Value) (R : PR α) (e : Ending) (w' : World) : Prop :=
  match R with
  | .ok x j => e = .returned (val x) ∧ j ≤ ts.length ∧ PrAt w' g tv j en cv fv d ∧ Far g w w'
  | .bad k j => e = .panicked [{ v := .iface 26 (faV (fltP ts en k j)), recovered := false }] ∧ j ≤ ts.length ∧ PrAt w' g tv j en cv fv d ∧ Far g w w'
def intV (n : Int) : Value := .int .i64 n
def nonV (_ : Unit) : Value := .tuple #[]
set_option maxHeartbeats 1600000 in
theorem isNext_any (g i : Nat) (en d : Int) (tv cv fv : Value) (ts : List Tok) (t : ByteArray) (w : World) (HP : Hid (PrAt w g tv i en cv fv d)) (HT : Hid (TkB w g tv ts)) (hm : ts.length ≤ 1048576) :
    Calls Tryd.prog 195 #[.pointer (some ⟨g, 0, none⟩), .string t] w fun e w' => e = .returned (.bool (nxP ts i t)) ∧ ∃ q, w' = w.drewN q := by
  obtain ⟨c0, c1, c2, c3, c4, c5, fz⟩ := HP.out.cells
  by_cases h : i < ts.length
  · obtain ⟨x, hx⟩ : ∃ x, ts.getD i tok0 = x := ⟨_, rfl⟩
    have HX := Lib.hid (nxP_in (t := t) h hx)
    obtain ⟨b, c, rfl, hb, y0, y1, y2, y3⟩ := HT.out.get h hx
    obtain ⟨n, hn⟩ : ∃ n, ts.length = n := ⟨_, rfl⟩
    rw [hn] at c0 h hm
    have d1 : decide ((i : Int) < n) = true := is_lt (by omega)
    clear hx
    go_enter Tryd.func195, Tryd.ntmps195
    go_wp2_with fail
    go_quiet (fail)
    go_wp2
    go_ret
    exact ⟨ret_bool HX.out.symm, _, rfl⟩
  · obtain ⟨a, c, rfl⟩ := HT.out.form
    have HX := Lib.hid (nxP_end (t := t) (Nat.le_of_not_lt h))
    obtain ⟨n, hn⟩ : ∃ n, ts.length = n := ⟨_, rfl⟩
    rw [hn] at c0 h
    have d1 : decide ((i : Int) < n) = false := not_lt (by omega)
    go_enter Tryd.func195, Tryd.ntmps195
    go_wp2_with fail
    go_quiet (fail)
    go_wp2
    go_ret
    exact ⟨ret_bool HX.out.symm, _, rfl⟩
set_option maxHeartbeats 1600000 in
theorem faultHere_any (g i : Nat) (en d k : Int) (tv cv fv : Value) (ts : List Tok) (w : World) (HP : Hid (PrAt w g tv i en cv fv d)) (HT : Hid (TkB w g tv ts)) (hi : i ≤ ts.length) (hm : ts.length ≤ 1048576) :
    Calls Tryd.prog 194 #[.pointer (some ⟨g, 0, none⟩), .int .i64 k] w fun e w' => e = .returned (faV (fltP ts en k i)) ∧ Below w.heap.size w w' := by
  obtain ⟨c0, c1, c2, c3, c4, c5, fz⟩ := HP.out.cells
  have hg := HP.out.lt
  obtain ⟨W0, hW0⟩ : ∃ W0, w.alloc (.cells #[.int .i64 0, .int .i64 0] 26) = W0 := ⟨_, rfl⟩
  have b0 : Below w.heap.size w W0 := by rw [← hW0]; exact one_new2 _ _
  have hz : w.heap.size < W0.heap.size := by rw [← hW0]; simp
  have e0 : W0.cell? ⟨w.heap.size, 0, none⟩ = some (.int .i64 0) ∧ W0.cell? ⟨w.heap.size, 1, none⟩ = some (.int .i64 0) ∧ (∀ o, W0.frozen? ⟨w.heap.size, o, none⟩ = false) := by
    subst hW0; exact ⟨by simp [go_sem], by simp [go_sem], fun o => by simp [go_sem]⟩
  obtain ⟨z0, z1, zf⟩ := e0
  have q := bcell b0
  have C0 := (q.1 g 0 hg).trans c0
  have C1 := (q.1 g 1 hg).trans c1
  have C2 := (q.1 g 2 hg).trans c2
  have B0 := Lib.hid b0
  have HW := Lib.hid hW0
  by_cases h : i < ts.length
  · obtain ⟨x, hx⟩ : ∃ x, ts.getD i tok0 = x := ⟨_, rfl⟩
    rw [fltP_in h hx]
    obtain ⟨b, c, rfl, hb, y0, y1, y2, y3⟩ := HT.out.get h hx
    have Y1 := (q.1 b (i * 4 + 1) (by omega)).trans y1
    obtain ⟨n, hn⟩ : ∃ n, ts.length = n := ⟨_, rfl⟩
    rw [hn] at c0 C0 h hm hi
    have d1 : ((i : Int) == n) = false := by simp; omega
    clear hx q hW0 b0 y0 y1 y2 y3 c0 c1 c2 c3 c4 c5 fz
    go_enter Tryd.func194, Tryd.ntmps194
    go_wp2_with fail
    rw [HW.out]
    go_quiet (fail)
    go_wp2_with fail
    go_region
    all_goals
      go_wp2
      have r2 := read2 z0 z1 hz (.int .i64 k) (.int .i64 x.a) (.cells #[] 0) (.cells #[] 0)
      exact bodyPost_ret (v := faV (k, x.a)) (by simp [results, Tryd.results194, go_sem, faV, World.cell?_setCell_other, World.cell?_setCell_same', z0, z1]) rfl ⟨rfl, below_drewN ((B0.out.setCell (Nat.le_refl _) _).setCell (Nat.le_refl _) _) _⟩
  · obtain ⟨a, c, rfl⟩ := HT.out.form
    rw [fltP_end (Nat.le_of_not_lt h)]
    obtain ⟨n, hn⟩ : ∃ n, ts.length = n := ⟨_, rfl⟩
    rw [hn] at c0 C0 h hi
    have d1 : ((i : Int) == n) = true := by simp; omega
    clear q hW0 b0 c0 c1 c2 c3 c4 c5 fz
    go_enter Tryd.func194, Tryd.ntmps194
    go_wp2_with fail
    rw [HW.out]
    go_quiet (fail)
    go_wp2
    exact bodyPost_ret (v := faV (6, en)) (by simp [results, Tryd.results194, go_sem, faV, World.cell?_setCell_other, World.cell?_setCell_same', z0, z1]) rfl ⟨rfl, below_drewN ((B0.out.setCell (Nat.le_refl _) _).setCell (Nat.le_refl _) _) _⟩
set_option maxHeartbeats 1600000 in
theorem take_any (g i : Nat) (en d : Int) (tv cv fv : Value) (ts : List Tok) (t : ByteArray) (w : World) (HP : Hid (PrAt w g tv i en cv fv d)) (HT : Hid (TkB w g tv ts)) (hi : i ≤ ts.length) (hm : ts.length ≤ 1048576) :
    Calls Tryd.prog 166 #[.pointer (some ⟨g, 0, none⟩), .string t] w (SaysR w g tv ts en cv fv d nonV (tkP ts i t)) := by
  have HI := Lib.hid (fun w HP HT => isNext_any g i en d tv cv fv ts t w HP HT hm)
  have HF := Lib.hid (fun w HP HT => faultHere_any g i en d 2 tv cv fv ts w HP HT hi hm)
  have hg := HP.out.lt
  rcases Bool.eq_false_or_eq_true (nxP ts i t) with h | h
  · rw [tkP_yes h]
    have hj := nxP_lt h
    rw [h] at HI
    obtain ⟨c0, c1, c2, c3, c4, c5, fz⟩ := HP.out.cells
    have f1 := fz 1
    have hw : IntKind.i64.wrap ((i : Int) + 1) = ((i + 1 : Nat) : Int) := by rw [IntWalk.i64_in _ (by omega)]; rfl
    go_enter Tryd.func166, Tryd.ntmps166
    go_wp2_with (go_at_call 195; refine (HI.out _ HP HT).mono ?_; rintro e w1 ⟨rfl, q, rfl⟩)
    exact bodyPost_ret (v := .tuple #[]) (by simp [results, Tryd.results166]) rfl ⟨rfl, by omega, PrAt.next HP.out (i + 1), (((Far.refl g w).drewN q).store 1 _)⟩
  · rw [tkP_no h]
    rw [h] at HI
    go_enter Tryd.func166, Tryd.ntmps166
    go_wp2_with (first | (go_at_call 195; refine (HI.out _ HP HT).mono ?_; rintro e w1 ⟨rfl, q, rfl⟩) | (go_at_call 194; refine (HF.out _ (show Hid (PrAt (w.drewN q) g tv i en cv fv d) from HP) (show Hid (TkB (w.drewN q) g tv ts) from HT)).mono ?_; rintro e w2 ⟨rfl, b⟩; have B := Lib.hid (show Below w.heap.size w w2 from (below_drewN (Below.refl _ _) q).trans b); clear b))
    exact ⟨rfl, rfl, hi, HP.out.below B.out, (Far.refl g w).below B.out hg⟩
end Go.Proofs.YthpejbdbbofaaaaDoor
