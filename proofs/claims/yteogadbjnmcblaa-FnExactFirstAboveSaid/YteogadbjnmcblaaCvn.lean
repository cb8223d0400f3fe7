/- The first time at which one curve is above another: the model's (written by tools/gen_cvn.py). -/
import Derived.Test.YteogadbjnmcblaaCvk
import Derived.Test.YteogadbjnmcblaaCvl
namespace Go.Proofs.Yteogadbjnmcblaa
open Go.RowKit
set_option linter.unusedVariables false

/-- a number put into an increasing list, the list taken apart -/
def putR (x : Int) : List Int → List Int
  | [] => [x]
  | y :: r => if y < x then y :: putR x r else if y = x then y :: r else x :: y :: r
theorem putL_putR (l : List Int) (x : Int) : putL l x = putR x l := by
  induction l with
  | nil => rfl
  | cons y r ih =>
    unfold putR
    by_cases h : y < x
    · rw [if_pos h, ← ih]
      unfold putL
      have e : pkL x (y :: r) = pkL x r + 1 := by rw [pkL, if_pos h]
      rw [e]
      simp only [List.length_cons, List.getD_cons_succ, List.take_succ_cons, List.drop_succ_cons, Nat.add_lt_add_iff_right]
      split <;> rfl
    · rw [if_neg h]
      have e : pkL x (y :: r) = 0 := by rw [pkL, if_neg h]
      unfold putL
      rw [e]
      by_cases h2 : y = x
      · rw [if_pos h2, if_pos ⟨by simp, by simpa using h2⟩]
      · rw [if_neg h2, if_neg (by simp; exact h2)]
        rfl
def Srt (l : List Int) : Prop := l.Pairwise (· < ·)
theorem putR_mem {l : List Int} {x t : Int} (h : t ∈ putR x l) : t ∈ l ∨ t = x := by
  rw [← putL_putR] at h; exact (put_mem l x t).1 h
theorem putR_srt (l : List Int) (x : Int) (h : Srt l) : Srt (putR x l) := by
  induction l with
  | nil => exact List.pairwise_singleton _ _
  | cons y r ih =>
    have h' := List.pairwise_cons.1 h
    unfold putR
    split
    · rename_i q
      refine List.pairwise_cons.2 ⟨fun t ht => ?_, ih h'.2⟩
      rcases putR_mem ht with ht | ht
      · exact h'.1 t ht
      · omega
    · split
      · exact h
      · rename_i q1 q2
        refine List.pairwise_cons.2 ⟨fun t ht => ?_, h⟩
        rcases List.mem_cons.1 ht with ht | ht
        · omega
        · have := h'.1 t ht; omega
theorem times_srt (cs : List Cv) (a : List Int) (h : Srt a) : Srt (timesF a cs) := by
  unfold timesF
  induction cs generalizing a with
  | nil => exact h
  | cons c r ih => rw [List.foldl_cons]; exact ih _ (by rw [putL_putR]; exact putR_srt _ _ h)
theorem srt_lt {l : List Int} (h : Srt l) (i j : Nat) (hij : i < j) (hj : j < l.length) : l.getD i 0 < l.getD j 0 := by
  have := List.pairwise_iff_getElem.1 h i j (by omega) hj hij
  simpa [List.getD_eq_getElem?_getD, hj, (show i < l.length by omega)] using this
theorem getD_mem {l : List Int} {k : Nat} (h : k < l.length) : l.getD k 0 ∈ l := by
  rw [List.getD_eq_getElem?_getD, List.getElem?_eq_getElem h]; exact List.getElem_mem h
theorem mem_getD {l : List Int} {x : Int} (h : x ∈ l) : ∃ k, k < l.length ∧ l.getD k 0 = x := by
  obtain ⟨k, hk, e⟩ := List.mem_iff_getElem.1 h
  exact ⟨k, hk, by rw [List.getD_eq_getElem?_getD, List.getElem?_eq_getElem hk]; exact e⟩
theorem fit_ab (a b : Cv) (t : Int) : fitT [a] b t = !abP a b t := by
  unfold fitT abP sumV sumV
  rw [Int.add_zero]
  by_cases h : atV b t < atV a t
  · rw [decide_eq_true h, decide_eq_false (by omega)]; rfl
  · rw [decide_eq_false h, decide_eq_true (by omega)]; rfl
theorem fitV_end (a b : Cv) : fitV [a] b = (endV a b).isNone := by
  unfold fitV
  simp only [List.all_cons, List.all_nil, Bool.and_true, fit_ab]
  unfold endV p1 p2
  rcases Int.le_total a.l b.l with h | h
  · rw [Int.min_eq_left h, Int.max_eq_right h]
    cases abP a b a.l <;> cases abP a b b.l <;> cases abP a b 100000 <;> rfl
  · rw [Int.min_eq_right h, Int.max_eq_left h]
    cases abP a b a.l <;> cases abP a b b.l <;> cases abP a b 100000 <;> rfl
/-- what the list of times says of the first one at which one is above -/
structure ToR (a b : Cv) (zs : List Int) (e : Int) : Prop where
  srt : Srt zs
  mem : e ∈ zs
  up : abP a b e = true
  le : ∀ t ∈ zs, abP a b t = true → e ≤ t
  rng : ∀ t ∈ zs, 0 ≤ t ∧ t ≤ 100000
theorem tor {a b : Cv} (ha : goodV a = true) (hb : goodV b = true) {e : Int} (he : endV a b = some e) : ToR a b (timesL [a, b]) e := by
  have F := far ha hb
  have f0 := F.a0; have f1 := F.a1; have f2 := F.a2; have z := F.z
  have mm : ∀ t, t ∈ timesL [a, b] ↔ (t = 0 ∨ t = 100000) ∨ (t = a.l ∨ t = b.l) := fun t => by
    rw [show timesL [a, b] = timesF [0, 100000] [a, b] from rfl, times_mem]; simp
  have pp : ∀ t, t ∈ timesL [a, b] → abP a b t = true → t = 100000 ∨ t = p1 a b ∨ t = p2 a b := fun t ht hp => by
    rcases (mm t).1 ht with (h | h) | (h | h)
    · rw [h, z] at hp; cases hp
    · exact .inl h
    · unfold p1 p2; omega
    · unfold p1 p2; omega
  have q1 : p1 a b = a.l ∨ p1 a b = b.l := by unfold p1; omega
  have q2 : p2 a b = a.l ∨ p2 a b = b.l := by unfold p2; omega
  refine ⟨times_srt _ _ (by unfold Srt; simp), ?_, ?_, ?_, times_rng (by unfold allV; simp [ha, hb])⟩
  · rw [mm]
    rcases end_some he with ⟨h, _⟩ | ⟨h, _⟩ | ⟨h, _⟩ <;> omega
  · rcases end_some he with ⟨h, n⟩ | ⟨h, _, n⟩ | ⟨h, _, _, n⟩ <;> rw [h] <;> exact n
  · intro t ht hp
    rcases end_some he with ⟨h, _⟩ | ⟨h, n1, _⟩ | ⟨h, n1, n2, _⟩
    · rcases pp t ht hp with q | q | q <;> omega
    · rcases pp t ht hp with q | q | q
      · omega
      · rw [q, n1] at hp; cases hp
      · omega
    · rcases pp t ht hp with q | q | q
      · omega
      · rw [q, n1] at hp; cases hp
      · rw [q, n2] at hp; cases hp
/-- the search for the first time that is above: its head -/
def FbRel (w3 : World) (zs : List Int) (p : Int → Bool) (m : Nat) (f i : Value) (wr : World) : Prop := ∃ (k : Nat) (F : Int), k ≤ m ∧ i = .int .i64 k ∧ f = .int .i64 F ∧ BX w3 wr ∧ 0 ≤ F ∧ Hid (p F = false ∧ (∀ j, j < k → p (zs.getD j 0) = false) ∧ (∀ j, k ≤ j → j < zs.length → F ≤ zs.getD j 0))
def FcRel (w3 : World) (lo hi T : Int) (i j : Value) (wr : World) : Prop := ∃ x y : Int, lo ≤ x ∧ x ≤ T ∧ T ≤ y ∧ y ≤ hi ∧ i = .int .i64 x ∧ j = .int .i64 y ∧ BX w3 wr
theorem two_row (w : World) (a b : Cv) (m : Nat) (hm : m = w.heap.size) : InX (w.alloc (Obj.cells #[.int .i64 a.f, .int .i64 a.l, .int .i64 a.s, .int .i64 b.f, .int .i64 b.l, .int .i64 b.s] 25)) (some ⟨m, 0, none⟩) 2 (cvCs [a, b]) := by
  subst hm
  have h := World.ownsRow_lit (base := w.heap.size) (e := 25) (size := 3) w #[.int .i64 a.f, .int .i64 a.l, .int .i64 a.s, .int .i64 b.f, .int .i64 b.l, .int .i64 b.s] 2 (Nat.le_refl _) (by unfold maxLen; omega) rfl
  exact own_inx h
set_option maxHeartbeats 12800000 in
theorem specFirstAbove_any (a b : Cv) (w : World) (r : Int) (k : Bool) (h : FaS a b r k) : Calls Try.prog 29 #[cvV a, cvV b] w (SaysT2 w (.int .i64 r) (.bool k)) := by
  have HA := Lib.hid (fun w => cuGood_any a w)
  have HB := Lib.hid (fun w => cuGood_any b w)
  rcases fa_cases h with ⟨ga, rfl, rfl⟩ | ⟨ga, gb, rfl, rfl⟩ | ⟨ga, gb, he, rfl, rfl⟩ | ⟨ga, gb, e, he, rfl, hr0, hT⟩
  · rw [ga] at HA
    clear ga h
    obtain ⟨xf, xl, xs⟩ := a
    obtain ⟨yf, yl, ys⟩ := b
    unfold cvV at HA ⊢
    simp only at HA ⊢
    have HBX : Hid (∀ w', BX ((w.alloc (Obj.cells #[.int .i64 xf, .int .i64 xl, .int .i64 xs] 25)).alloc (Obj.cells #[.int .i64 yf, .int .i64 yl, .int .i64 ys] 25)) w' → ThreeIs w' w.heap.size (.int .i64 xf) (.int .i64 xl) (.int .i64 xs)) := Lib.hid (fun w' h => ((three_is w (.int .i64 xf) (.int .i64 xl) (.int .i64 xs) 25).on (one_new2 _ _)).on h)
    have HBY : Hid (∀ w', BX ((w.alloc (Obj.cells #[.int .i64 xf, .int .i64 xl, .int .i64 xs] 25)).alloc (Obj.cells #[.int .i64 yf, .int .i64 yl, .int .i64 ys] 25)) w' → ThreeIs w' (w.heap.size + 1) (.int .i64 yf) (.int .i64 yl) (.int .i64 ys)) := Lib.hid (fun w' h => by have := ((three_is (w.alloc (Obj.cells #[.int .i64 xf, .int .i64 xl, .int .i64 xs] 25)) (.int .i64 yf) (.int .i64 yl) (.int .i64 ys) 25).on h); simpa using this)
    have HQ : Hid (∀ w', BX ((w.alloc (Obj.cells #[.int .i64 xf, .int .i64 xl, .int .i64 xs] 25)).alloc (Obj.cells #[.int .i64 yf, .int .i64 yl, .int .i64 ys] 25)) w' → w'.cell? ⟨w.heap.size, 0, none⟩ = some (.int .i64 xf) ∧ w'.cell? ⟨w.heap.size, 1, none⟩ = some (.int .i64 xl) ∧ w'.cell? ⟨w.heap.size, 2, none⟩ = some (.int .i64 xs) ∧ w'.cell? ⟨w.heap.size + 1, 0, none⟩ = some (.int .i64 yf) ∧ w'.cell? ⟨w.heap.size + 1, 1, none⟩ = some (.int .i64 yl) ∧ w'.cell? ⟨w.heap.size + 1, 2, none⟩ = some (.int .i64 ys)) := Lib.hid (fun w' h => ⟨(HBX.out w' h).1, (HBX.out w' h).2.1, (HBX.out w' h).2.2.1, (HBY.out w' h).1, (HBY.out w' h).2.1, (HBY.out w' h).2.2.1⟩)
    have HE : Hid (∀ w', BX ((w.alloc (Obj.cells #[.int .i64 xf, .int .i64 xl, .int .i64 xs] 25)).alloc (Obj.cells #[.int .i64 yf, .int .i64 yl, .int .i64 ys] 25)) w' → Below w.heap.size w w') := Lib.hid (fun w' h => (two_new w _ _).trans (Below.mono h (by simp; omega)))
    have X0 := Lib.hid (BX.refl ((w.alloc (Obj.cells #[.int .i64 xf, .int .i64 xl, .int .i64 xs] 25)).alloc (Obj.cells #[.int .i64 yf, .int .i64 yl, .int .i64 ys] 25)))
    go_enter Try.func29, Try.ntmps29
    go_wp2_with (go_at_call 38; refine (HA.out _).mono ?_; rintro e w1 ⟨rfl, b⟩; have X1 := Lib.hid (X0.out.call b); obtain ⟨c0, c1, c2, e0, e1, e2⟩ := HQ.out _ X1.out; clear b)
    go_ret2
    exact ⟨rfl, HE.out _ X1.out⟩
  · rw [ga] at HA
    rw [gb] at HB
    clear ga gb h
    obtain ⟨xf, xl, xs⟩ := a
    obtain ⟨yf, yl, ys⟩ := b
    unfold cvV at HA HB ⊢
    simp only at HA HB ⊢
    have HBX : Hid (∀ w', BX ((w.alloc (Obj.cells #[.int .i64 xf, .int .i64 xl, .int .i64 xs] 25)).alloc (Obj.cells #[.int .i64 yf, .int .i64 yl, .int .i64 ys] 25)) w' → ThreeIs w' w.heap.size (.int .i64 xf) (.int .i64 xl) (.int .i64 xs)) := Lib.hid (fun w' h => ((three_is w (.int .i64 xf) (.int .i64 xl) (.int .i64 xs) 25).on (one_new2 _ _)).on h)
    have HBY : Hid (∀ w', BX ((w.alloc (Obj.cells #[.int .i64 xf, .int .i64 xl, .int .i64 xs] 25)).alloc (Obj.cells #[.int .i64 yf, .int .i64 yl, .int .i64 ys] 25)) w' → ThreeIs w' (w.heap.size + 1) (.int .i64 yf) (.int .i64 yl) (.int .i64 ys)) := Lib.hid (fun w' h => by have := ((three_is (w.alloc (Obj.cells #[.int .i64 xf, .int .i64 xl, .int .i64 xs] 25)) (.int .i64 yf) (.int .i64 yl) (.int .i64 ys) 25).on h); simpa using this)
    have HQ : Hid (∀ w', BX ((w.alloc (Obj.cells #[.int .i64 xf, .int .i64 xl, .int .i64 xs] 25)).alloc (Obj.cells #[.int .i64 yf, .int .i64 yl, .int .i64 ys] 25)) w' → w'.cell? ⟨w.heap.size, 0, none⟩ = some (.int .i64 xf) ∧ w'.cell? ⟨w.heap.size, 1, none⟩ = some (.int .i64 xl) ∧ w'.cell? ⟨w.heap.size, 2, none⟩ = some (.int .i64 xs) ∧ w'.cell? ⟨w.heap.size + 1, 0, none⟩ = some (.int .i64 yf) ∧ w'.cell? ⟨w.heap.size + 1, 1, none⟩ = some (.int .i64 yl) ∧ w'.cell? ⟨w.heap.size + 1, 2, none⟩ = some (.int .i64 ys)) := Lib.hid (fun w' h => ⟨(HBX.out w' h).1, (HBX.out w' h).2.1, (HBX.out w' h).2.2.1, (HBY.out w' h).1, (HBY.out w' h).2.1, (HBY.out w' h).2.2.1⟩)
    have HE : Hid (∀ w', BX ((w.alloc (Obj.cells #[.int .i64 xf, .int .i64 xl, .int .i64 xs] 25)).alloc (Obj.cells #[.int .i64 yf, .int .i64 yl, .int .i64 ys] 25)) w' → Below w.heap.size w w') := Lib.hid (fun w' h => (two_new w _ _).trans (Below.mono h (by simp; omega)))
    have X0 := Lib.hid (BX.refl ((w.alloc (Obj.cells #[.int .i64 xf, .int .i64 xl, .int .i64 xs] 25)).alloc (Obj.cells #[.int .i64 yf, .int .i64 yl, .int .i64 ys] 25)))
    go_enter Try.func29, Try.ntmps29
    go_wp2_with (go_at_call 38; refine (HA.out _).mono ?_; rintro e w1 ⟨rfl, b⟩; have X1 := Lib.hid (X0.out.call b); obtain ⟨c0, c1, c2, e0, e1, e2⟩ := HQ.out _ X1.out; clear b; refine Hid.out ?_)
    refine Lib.hid ?_
    go_wp2_with (go_at_call 38; refine (HB.out _).mono ?_; rintro e w2 ⟨rfl, b⟩; have X2 := Lib.hid (X1.out.call b); clear b)
    go_ret2
    exact ⟨rfl, HE.out _ X2.out⟩
  · rw [ga] at HA
    rw [gb] at HB
    have HF := Lib.hid (fun g w h h2 => cuFits_any g 1 1 [a] b w (Lib.hid (show InX w (some ⟨g, 0, none⟩) 1 (cvCs [a]) from h)) h2 (Lib.hid rfl) (by omega) (Lib.hid (by unfold allV; simp [ga])) (Lib.hid gb))
    rw [fitV_end, he] at HF
    have HR := Lib.hid (fun w m hm => one_row w a m hm)
    clear ga gb h he
    obtain ⟨xf, xl, xs⟩ := a
    obtain ⟨yf, yl, ys⟩ := b
    unfold cvV at HA HB HF ⊢
    simp only at HA HB HF HR ⊢
    have HBX : Hid (∀ w', BX ((w.alloc (Obj.cells #[.int .i64 xf, .int .i64 xl, .int .i64 xs] 25)).alloc (Obj.cells #[.int .i64 yf, .int .i64 yl, .int .i64 ys] 25)) w' → ThreeIs w' w.heap.size (.int .i64 xf) (.int .i64 xl) (.int .i64 xs)) := Lib.hid (fun w' h => ((three_is w (.int .i64 xf) (.int .i64 xl) (.int .i64 xs) 25).on (one_new2 _ _)).on h)
    have HBY : Hid (∀ w', BX ((w.alloc (Obj.cells #[.int .i64 xf, .int .i64 xl, .int .i64 xs] 25)).alloc (Obj.cells #[.int .i64 yf, .int .i64 yl, .int .i64 ys] 25)) w' → ThreeIs w' (w.heap.size + 1) (.int .i64 yf) (.int .i64 yl) (.int .i64 ys)) := Lib.hid (fun w' h => by have := ((three_is (w.alloc (Obj.cells #[.int .i64 xf, .int .i64 xl, .int .i64 xs] 25)) (.int .i64 yf) (.int .i64 yl) (.int .i64 ys) 25).on h); simpa using this)
    have HQ : Hid (∀ w', BX ((w.alloc (Obj.cells #[.int .i64 xf, .int .i64 xl, .int .i64 xs] 25)).alloc (Obj.cells #[.int .i64 yf, .int .i64 yl, .int .i64 ys] 25)) w' → w'.cell? ⟨w.heap.size, 0, none⟩ = some (.int .i64 xf) ∧ w'.cell? ⟨w.heap.size, 1, none⟩ = some (.int .i64 xl) ∧ w'.cell? ⟨w.heap.size, 2, none⟩ = some (.int .i64 xs) ∧ w'.cell? ⟨w.heap.size + 1, 0, none⟩ = some (.int .i64 yf) ∧ w'.cell? ⟨w.heap.size + 1, 1, none⟩ = some (.int .i64 yl) ∧ w'.cell? ⟨w.heap.size + 1, 2, none⟩ = some (.int .i64 ys)) := Lib.hid (fun w' h => ⟨(HBX.out w' h).1, (HBX.out w' h).2.1, (HBX.out w' h).2.2.1, (HBY.out w' h).1, (HBY.out w' h).2.1, (HBY.out w' h).2.2.1⟩)
    have HE : Hid (∀ w', BX ((w.alloc (Obj.cells #[.int .i64 xf, .int .i64 xl, .int .i64 xs] 25)).alloc (Obj.cells #[.int .i64 yf, .int .i64 yl, .int .i64 ys] 25)) w' → Below w.heap.size w w') := Lib.hid (fun w' h => (two_new w _ _).trans (Below.mono h (by simp; omega)))
    have X0 := Lib.hid (BX.refl ((w.alloc (Obj.cells #[.int .i64 xf, .int .i64 xl, .int .i64 xs] 25)).alloc (Obj.cells #[.int .i64 yf, .int .i64 yl, .int .i64 ys] 25)))
    have hlt2 : ∀ w2 : World, w2.heap.size < (w2.alloc (Obj.cells #[.int .i64 xf, .int .i64 xl, .int .i64 xs] 25)).heap.size := fun w2 => by simp
    have HQa := Lib.hid (fun w' h o => HQ.out _ (BX.alloc (w' := w') h o))
    go_enter Try.func29, Try.ntmps29
    go_wp2_with (go_at_call 38; refine (HA.out _).mono ?_; rintro e w1 ⟨rfl, b⟩; have X1 := Lib.hid (X0.out.call b); obtain ⟨c0, c1, c2, e0, e1, e2⟩ := HQ.out _ X1.out; clear b; refine Hid.out ?_)
    refine Lib.hid ?_
    go_wp2_with (go_at_call 38; refine (HB.out _).mono ?_; rintro e w2 ⟨rfl, b⟩; have X2 := Lib.hid (X1.out.call b); clear c0 c1 c2 e0 e1 e2; obtain ⟨c0, c1, c2, e0, e1, e2⟩ := HQ.out _ X2.out; obtain ⟨_, _, _, f0, f1, f2⟩ := HQa.out _ X2.out (Obj.cells #[.int .i64 xf, .int .i64 xl, .int .i64 xs] 25); clear b; refine Hid.out ?_)
    refine Lib.hid ?_
    go_wp2_with (go_at_call 51; refine (HF.out w2.heap.size _ (HR.out w2 w2.heap.size rfl) (hlt2 w2)).mono ?_; rintro e w3 ⟨rfl, b⟩; have X3 := Lib.hid ((X2.out.alloc _).call b); clear b c0 c1 c2 e0 e1 e2 f0 f1 f2; obtain ⟨c0, c1, c2, e0, e1, e2⟩ := HQ.out _ X3.out)
    go_ret2
    exact ⟨rfl, HE.out _ X3.out⟩
  · rw [ga] at HA
    rw [gb] at HB
    have HF := Lib.hid (fun g w h h2 => cuFits_any g 1 1 [a] b w (Lib.hid (show InX w (some ⟨g, 0, none⟩) 1 (cvCs [a]) from h)) h2 (Lib.hid rfl) (by omega) (Lib.hid (by unfold allV; simp [ga])) (Lib.hid gb))
    rw [fitV_end, he] at HF
    have HR := Lib.hid (fun w m hm => one_row w a m hm)
    have HR2 := Lib.hid (fun w m hm => two_row w a b m hm)
    have TR := Lib.hid (tor ga gb he)
    have HTM := Lib.hid (fun ad cap w HI => cuTimes_any ad 2 cap [a, b] w HI (Lib.hid rfl) (by omega))
    have HTL : Hid (2 ≤ (timesL [a, b]).length ∧ (timesL [a, b]).length ≤ 4) := Lib.hid (by have := times_len [a, b] [0, 100000]; simp only [List.length_cons, List.length_nil] at this; unfold timesL; omega)
    have hz : abP a b 0 = false := (far ga gb).z
    have HZ0 := Lib.hid hz
    have HVA : Hid (∀ t w, 0 ≤ t → t ≤ 100000 → Calls Try.prog 41 #[cvV a, .int .i64 t] w (SaysI w (atV a t))) := Lib.hid (fun t w h0 h1 => cuAt_any a t w (cvok ga) h0 h1)
    have HVB : Hid (∀ t w, 0 ≤ t → t ≤ 100000 → Calls Try.prog 41 #[cvV b, .int .i64 t] w (SaysI w (atV b t))) := Lib.hid (fun t w h0 h1 => cuAt_any b t w (cvok gb) h0 h1)
    have HAB : Hid (∀ t, abP a b t = decide (atV b t < atV a t)) := Lib.hid (fun t => rfl)
    obtain ⟨hT0, hT1, hT2⟩ := hT
    have HT := Lib.hid hT2
    have TS := Lib.hid TR.out.srt
    have TM := Lib.hid TR.out.mem
    have TU := Lib.hid TR.out.up
    have TL := Lib.hid TR.out.le
    have TG := Lib.hid TR.out.rng
    generalize timesL [a, b] = zs at HTM HTL TS TM TL TG TR
    generalize abP a b = p at HT HAB HZ0 TU TL
    generalize atV a = va at HVA HAB
    generalize atV b = vb at HVB HAB
    clear ga gb h he hz hT2 TR
    obtain ⟨xf, xl, xs⟩ := a
    obtain ⟨yf, yl, ys⟩ := b
    unfold cvV at HA HB HF HVA HVB ⊢
    simp only at HA HB HF HR HR2 HTM HVA HVB ⊢
    have HBX : Hid (∀ w', BX ((w.alloc (Obj.cells #[.int .i64 xf, .int .i64 xl, .int .i64 xs] 25)).alloc (Obj.cells #[.int .i64 yf, .int .i64 yl, .int .i64 ys] 25)) w' → ThreeIs w' w.heap.size (.int .i64 xf) (.int .i64 xl) (.int .i64 xs)) := Lib.hid (fun w' h => ((three_is w (.int .i64 xf) (.int .i64 xl) (.int .i64 xs) 25).on (one_new2 _ _)).on h)
    have HBY : Hid (∀ w', BX ((w.alloc (Obj.cells #[.int .i64 xf, .int .i64 xl, .int .i64 xs] 25)).alloc (Obj.cells #[.int .i64 yf, .int .i64 yl, .int .i64 ys] 25)) w' → ThreeIs w' (w.heap.size + 1) (.int .i64 yf) (.int .i64 yl) (.int .i64 ys)) := Lib.hid (fun w' h => by have := ((three_is (w.alloc (Obj.cells #[.int .i64 xf, .int .i64 xl, .int .i64 xs] 25)) (.int .i64 yf) (.int .i64 yl) (.int .i64 ys) 25).on h); simpa using this)
    have HQ : Hid (∀ w', BX ((w.alloc (Obj.cells #[.int .i64 xf, .int .i64 xl, .int .i64 xs] 25)).alloc (Obj.cells #[.int .i64 yf, .int .i64 yl, .int .i64 ys] 25)) w' → w'.cell? ⟨w.heap.size, 0, none⟩ = some (.int .i64 xf) ∧ w'.cell? ⟨w.heap.size, 1, none⟩ = some (.int .i64 xl) ∧ w'.cell? ⟨w.heap.size, 2, none⟩ = some (.int .i64 xs) ∧ w'.cell? ⟨w.heap.size + 1, 0, none⟩ = some (.int .i64 yf) ∧ w'.cell? ⟨w.heap.size + 1, 1, none⟩ = some (.int .i64 yl) ∧ w'.cell? ⟨w.heap.size + 1, 2, none⟩ = some (.int .i64 ys)) := Lib.hid (fun w' h => ⟨(HBX.out w' h).1, (HBX.out w' h).2.1, (HBX.out w' h).2.2.1, (HBY.out w' h).1, (HBY.out w' h).2.1, (HBY.out w' h).2.2.1⟩)
    have HE : Hid (∀ w', BX ((w.alloc (Obj.cells #[.int .i64 xf, .int .i64 xl, .int .i64 xs] 25)).alloc (Obj.cells #[.int .i64 yf, .int .i64 yl, .int .i64 ys] 25)) w' → Below w.heap.size w w') := Lib.hid (fun w' h => (two_new w _ _).trans (Below.mono h (by simp; omega)))
    have X0 := Lib.hid (BX.refl ((w.alloc (Obj.cells #[.int .i64 xf, .int .i64 xl, .int .i64 xs] 25)).alloc (Obj.cells #[.int .i64 yf, .int .i64 yl, .int .i64 ys] 25)))
    have hlt2 : ∀ w2 : World, w2.heap.size < (w2.alloc (Obj.cells #[.int .i64 xf, .int .i64 xl, .int .i64 xs] 25)).heap.size := fun w2 => by simp
    have HQa := Lib.hid (fun w' h o => HQ.out _ (BX.alloc (w' := w') h o))
    go_enter Try.func29, Try.ntmps29
    go_wp2_with (go_at_call 38; refine (HA.out _).mono ?_; rintro e w1 ⟨rfl, b⟩; have X1 := Lib.hid (X0.out.call b); obtain ⟨c0, c1, c2, e0, e1, e2⟩ := HQ.out _ X1.out; clear b; refine Hid.out ?_)
    refine Lib.hid ?_
    go_wp2_with (go_at_call 38; refine (HB.out _).mono ?_; rintro e w2 ⟨rfl, b⟩; have X2 := Lib.hid (X1.out.call b); clear c0 c1 c2 e0 e1 e2; obtain ⟨c0, c1, c2, e0, e1, e2⟩ := HQ.out _ X2.out; obtain ⟨_, _, _, f0, f1, f2⟩ := HQa.out _ X2.out (Obj.cells #[.int .i64 xf, .int .i64 xl, .int .i64 xs] 25); clear b; refine Hid.out ?_)
    refine Lib.hid ?_
    go_wp2_with (go_at_call 51; refine (HF.out w2.heap.size _ (HR.out w2 w2.heap.size rfl) (hlt2 w2)).mono ?_; rintro e w3 ⟨rfl, b⟩; have X3 := Lib.hid ((X2.out.alloc _).call b); clear b c0 c1 c2 e0 e1 e2 f0 f1 f2; obtain ⟨c0, c1, c2, e0, e1, e2⟩ := HQ.out _ X3.out; refine Hid.out ?_)
    refine Lib.hid ?_
    have X3a := Lib.hid (X3.out.alloc (Obj.cells #[.int .i64 xf, .int .i64 xl, .int .i64 xs, .int .i64 yf, .int .i64 yl, .int .i64 ys] 25))
    go_wp2_with (go_at_call 52; refine (HTM.out _ _ _ (Lib.hid (HR2.out w3 w3.heap.size rfl))).mono ?_; rintro e w4 ⟨v4, rfl, o4, b4⟩; have X4 := Lib.hid (X3a.out.call b4); have O4 := Lib.hid o4; clear b4 o4; refine Hid.out ?_)
    refine Lib.hid ?_
    clear c0 c1 c2 e0 e1 e2
    obtain ⟨a4, cap4, rfl, i4⟩ := own_in O4.out
    obtain ⟨g4, rfl, ht4, hg4⟩ := i4 (by have := HTL.out; omega)
    have HT4 := Lib.hid ht4
    obtain ⟨m, hm2⟩ : ∃ m, zs.length = m := ⟨_, rfl⟩
    have HM := Lib.hid hm2
    have hm3 : m ≤ 4 := by have := HTL.out; omega
    rw [hm2]
    clear hm2 i4 ht4
    have HE4 : Hid (∀ w', BX w4 w' → Below w.heap.size w w') := Lib.hid (fun w' h => HE.out w' (X4.out.call h))
    have HQ4 : Hid (∀ w', BX w4 w' → w'.cell? ⟨w.heap.size, 0, none⟩ = some (.int .i64 xf) ∧ w'.cell? ⟨w.heap.size, 1, none⟩ = some (.int .i64 xl) ∧ w'.cell? ⟨w.heap.size, 2, none⟩ = some (.int .i64 xs) ∧ w'.cell? ⟨w.heap.size + 1, 0, none⟩ = some (.int .i64 yf) ∧ w'.cell? ⟨w.heap.size + 1, 1, none⟩ = some (.int .i64 yl) ∧ w'.cell? ⟨w.heap.size + 1, 2, none⟩ = some (.int .i64 ys) ∧ BX w4 w') := Lib.hid (fun w' h => by obtain ⟨c0, c1, c2, e0, e1, e2⟩ := HQ.out w' (X4.out.call h); exact ⟨c0, c1, c2, e0, e1, e2, h⟩)
    go_wp2_with fail
    go_loopw [6, 31] (fun f i wr => FbRel w4 zs p m f i wr) (fun _ i _ => m - (intOf i).toNat)
    case atStart => exact ⟨0, 0, Nat.zero_le _, rfl, rfl, BX.refl _, Int.le_refl _, HZ0.out, fun j hj => absurd hj (Nat.not_lt_zero j), fun j _ hj => (TG.out _ (getD_mem hj)).1⟩
    case round =>
      obtain ⟨k, F, hk, rfl, rfl, hb, hF0, HI⟩ := hrel
      have X5 := Lib.hid hb
      by_cases hlt : k < m
      · obtain ⟨t, hte⟩ : ∃ t, zs.getD k 0 = t := ⟨_, rfl⟩
        have hl1 : k < zs.length := by rw [HM.out]; exact hlt
        have hct := row_cell HT4.out hg4 hb k hl1
        have htr := TG.out t (by rw [← hte]; exact getD_mem hl1)
        rw [hte] at hct
        have HAt := Lib.hid (fun w => HVA.out t w htr.1 htr.2)
        have HBt := Lib.hid (fun w => HVB.out t w htr.1 htr.2)
        have hab := HAB.out t
        generalize va t = A at HAt hab
        generalize vb t = B at HBt hab
        have HTE := Lib.hid hte
        rcases Int.lt_or_le B A with q | q
        · rw [is_lt q] at hab
          have d := not_le q
          have hte2 : t = e := by
            have h1 := TL.out t (by rw [← hte]; exact getD_mem hl1) hab
            obtain ⟨j, hj, hje⟩ := mem_getD TM.out
            have h2 : k ≤ j := by
              rcases Nat.lt_or_ge j k with hjk | hjk
              · have := HI.out.2.1 j hjk; rw [hje, TU.out] at this; cases this
              · exact hjk
            rcases Nat.lt_or_eq_of_le h2 with h3 | h3
            · have := srt_lt TS.out k j h3 hj; omega
            · rw [h3, hje] at hte; exact hte.symm
          have hFe : F ≤ e := by have := HI.out.2.2 k (Nat.le_refl _) hl1; omega
          have hFr : F ≤ r := by
            have := HT.out F hF0 hFe
            rw [HI.out.1] at this
            have := of_decide_eq_false this.symm
            omega
          have hre : r ≤ e := hT1
          have he5 : e ≤ 100000 := by omega
          subst hte2
          clear hl1 hab hte htr HI q
          go_wp2_with fail
          go_region_held3 (fun w' => w'.cell? ⟨w.heap.size, 0, none⟩ = some (.int .i64 xf) ∧ w'.cell? ⟨w.heap.size, 1, none⟩ = some (.int .i64 xl) ∧ w'.cell? ⟨w.heap.size, 2, none⟩ = some (.int .i64 xs) ∧ w'.cell? ⟨w.heap.size + 1, 0, none⟩ = some (.int .i64 yf) ∧ w'.cell? ⟨w.heap.size + 1, 1, none⟩ = some (.int .i64 yl) ∧ w'.cell? ⟨w.heap.size + 1, 2, none⟩ = some (.int .i64 ys) ∧ BX w4 w')
            (first | (go_split_ands; refine HQ4.out _ ?_; repeat' (with_reducible first | exact BX.drew0 _ | exact BX.refl _ | assumption | refine BX.call' (by assumption) ?_ | refine BX.drew ?_)))
            (first | (go_at_call 41; (first | (with_reducible refine (HAt.out _).mono ?_) | (with_reducible refine (HBt.out _).mono ?_)); rintro e w6 ⟨rfl, b6⟩))
          all_goals
            go_split_ands
            go_wp2_with fail
            go_loopw [9, 10] (fun i j wr => FcRel w4 F t r i j wr) (fun i j _ => (intOf j - intOf i).toNat)
            case atStart => exact ⟨F, t, Int.le_refl _, hFr, hre, Int.le_refl _, rfl, rfl, by assumption⟩
            case round =>
              obtain ⟨x, y, hx, hxr, hry, hy, rfl, rfl, hb2⟩ := hrel
              by_cases hxy : x < y
              · have hmm := half2 x y hxy (by omega)
                have hp := HT.out ((x + y) / 2) (by omega) (by omega)
                rw [HAB.out] at hp
                have HAm := Lib.hid (fun w => HVA.out ((x + y) / 2) w (by omega) (by omega))
                have HBm := Lib.hid (fun w => HVB.out ((x + y) / 2) w (by omega) (by omega))
                generalize va ((x + y) / 2) = A2 at HAm hp
                generalize vb ((x + y) / 2) = B2 at HBm hp
                rcases Int.lt_or_le ((x + y) / 2) r with qq | qq
                · rw [show decide (r ≤ (x + y) / 2) = false by simp; omega] at hp
                  have d2 := hp
                  clear hp
                  go_wp2_with fail
                  go_region_held3 (fun w' => w'.cell? ⟨w.heap.size, 0, none⟩ = some (.int .i64 xf) ∧ w'.cell? ⟨w.heap.size, 1, none⟩ = some (.int .i64 xl) ∧ w'.cell? ⟨w.heap.size, 2, none⟩ = some (.int .i64 xs) ∧ w'.cell? ⟨w.heap.size + 1, 0, none⟩ = some (.int .i64 yf) ∧ w'.cell? ⟨w.heap.size + 1, 1, none⟩ = some (.int .i64 yl) ∧ w'.cell? ⟨w.heap.size + 1, 2, none⟩ = some (.int .i64 ys) ∧ BX w4 w')
                    (first | (go_split_ands; refine HQ4.out _ ?_; repeat' (with_reducible first | exact BX.drew0 _ | exact BX.refl _ | assumption | refine BX.call' (by assumption) ?_ | refine BX.drew ?_)))
                    (first | (go_at_call 41; (first | (with_reducible refine (HAm.out _).mono ?_) | (with_reducible refine (HBm.out _).mono ?_)); rintro e w7 ⟨rfl, b7⟩))
                  all_goals
                    go_split_ands
                    go_wp2_with fail
                    go_roundw
                    case rel => exact ⟨(x + y) / 2 + 1, y, by omega, by omega, by omega, by omega, by go_num, rfl, by assumption⟩
                    case measure => simp [intOf]; omega
                · rw [show decide (r ≤ (x + y) / 2) = true by simp; omega] at hp
                  have d2 := hp
                  clear hp
                  go_wp2_with fail
                  go_region_held3 (fun w' => w'.cell? ⟨w.heap.size, 0, none⟩ = some (.int .i64 xf) ∧ w'.cell? ⟨w.heap.size, 1, none⟩ = some (.int .i64 xl) ∧ w'.cell? ⟨w.heap.size, 2, none⟩ = some (.int .i64 xs) ∧ w'.cell? ⟨w.heap.size + 1, 0, none⟩ = some (.int .i64 yf) ∧ w'.cell? ⟨w.heap.size + 1, 1, none⟩ = some (.int .i64 yl) ∧ w'.cell? ⟨w.heap.size + 1, 2, none⟩ = some (.int .i64 ys) ∧ BX w4 w')
                    (first | (go_split_ands; refine HQ4.out _ ?_; repeat' (with_reducible first | exact BX.drew0 _ | exact BX.refl _ | assumption | refine BX.call' (by assumption) ?_ | refine BX.drew ?_)))
                    (first | (go_at_call 41; (first | (with_reducible refine (HAm.out _).mono ?_) | (with_reducible refine (HBm.out _).mono ?_)); rintro e w7 ⟨rfl, b7⟩))
                  all_goals
                    go_split_ands
                    go_wp2_with fail
                    go_roundw
                    case rel => exact ⟨x, (x + y) / 2, by omega, by omega, by omega, by omega, rfl, by go_num, by assumption⟩
                    case measure => simp [intOf]; omega
              · have hx2 : x = r := by omega
                subst hx2
                go_wp2_with fail
                go_ret2
                exact ⟨rfl, HE4.out _ (by assumption)⟩
        · rw [not_lt q] at hab
          have d := is_le q
          have HX : Hid (p t = false ∧ (∀ j, j < k + 1 → p (zs.getD j 0) = false) ∧ (∀ j, k + 1 ≤ j → j < zs.length → t ≤ zs.getD j 0)) := Lib.hid (by
            refine ⟨hab, fun j hj => ?_, fun j h1 h2 => ?_⟩
            · rcases Nat.lt_succ_iff_lt_or_eq.1 hj with hj | hj
              · exact HI.out.2.1 j hj
              · rw [hj, hte]; exact hab
            · have := srt_lt TS.out k j (by omega) h2; omega)
          have ht0 := htr.1
          clear hl1 hab hte htr HI q
          go_wp2_with fail
          go_region_held3 (fun w' => w'.cell? ⟨w.heap.size, 0, none⟩ = some (.int .i64 xf) ∧ w'.cell? ⟨w.heap.size, 1, none⟩ = some (.int .i64 xl) ∧ w'.cell? ⟨w.heap.size, 2, none⟩ = some (.int .i64 xs) ∧ w'.cell? ⟨w.heap.size + 1, 0, none⟩ = some (.int .i64 yf) ∧ w'.cell? ⟨w.heap.size + 1, 1, none⟩ = some (.int .i64 yl) ∧ w'.cell? ⟨w.heap.size + 1, 2, none⟩ = some (.int .i64 ys) ∧ BX w4 w')
            (first | (go_split_ands; refine HQ4.out _ ?_; repeat' (with_reducible first | exact BX.drew0 _ | exact BX.refl _ | assumption | refine BX.call' (by assumption) ?_ | refine BX.drew ?_)))
            (first | (go_at_call 41; (first | (with_reducible refine (HAt.out _).mono ?_) | (with_reducible refine (HBt.out _).mono ?_)); rintro e w6 ⟨rfl, b6⟩))
          all_goals
            go_split_ands
            go_wp2_with fail
            go_roundw
            case rel => exact ⟨k + 1, t, by omega, by go_num, rfl, by assumption, ht0, HX.out⟩
            case measure => simp [intOf]; omega
      · exfalso
        obtain ⟨j, hj, hje⟩ := mem_getD TM.out
        have := HI.out.2.1 j (by have := HM.out; omega)
        rw [hje, TU.out] at this
        cases this
end Go.Proofs.Yteogadbjnmcblaa
