/- The parser's parts, the model's: filter; the reader made of a text. -/
import Derived.Test.YthpejbdbbofaaaaDoorPso
import Derived.Test.YthpejbdbbofaaaaDoorPsq
namespace Go.Proofs.YthpejbdbbofaaaaDoor
set_option maxRecDepth 100000
open Go.RowKit
set_option linter.unusedVariables false
set_option linter.unusedSimpArgs false

/-- the last of the first fields' names that stands there, or -1 -/
def fmF (ts : List Tok) (i : Nat) : Nat → Int
  | 0 => -1
  | k + 1 => if nxP ts i (fwA.getD k ⟨#[]⟩) = true then (k : Int) else fmF ts i k
theorem nx_one {ts : List Tok} {i : Nat} {a b : ByteArray} (ha : nxP ts i a = true) (hb : nxP ts i b = true) : a.toList = b.toList := by
  unfold nxP at ha hb
  cases h : ts[i]? with
  | none => rw [h] at ha; cases ha
  | some x =>
    rw [h] at ha hb
    simp only [beq_iff_eq] at ha hb
    rw [← ha, hb]
theorem fd_fm (ts : List Tok) (i : Nat) : (fmF ts i 4 = -1 ∧ fdP ts i = .bad 2 i) ∨ (∃ n : Nat, n < 4 ∧ fmF ts i 4 = n ∧ fdP ts i = .ok n (i + 1) ∧ i < ts.length) := by
  have e01 : ¬ tSource.toList = tDest.toList := by rw [Lib.toList_data, Lib.toList_data]; decide
  have e02 : ¬ tSource.toList = tPort.toList := by rw [Lib.toList_data, Lib.toList_data]; decide
  have e03 : ¬ tSource.toList = tMark.toList := by rw [Lib.toList_data, Lib.toList_data]; decide
  have e12 : ¬ tDest.toList = tPort.toList := by rw [Lib.toList_data, Lib.toList_data]; decide
  have e13 : ¬ tDest.toList = tMark.toList := by rw [Lib.toList_data, Lib.toList_data]; decide
  have e23 : ¬ tPort.toList = tMark.toList := by rw [Lib.toList_data, Lib.toList_data]; decide
  have hf : fmF ts i 4 = if nxP ts i tMark = true then 3 else if nxP ts i tPort = true then 2 else if nxP ts i tDest = true then 1 else if nxP ts i tSource = true then 0 else -1 := rfl
  have hd : fdP ts i = if nxP ts i tSource = true then .ok 0 (i + 1) else if nxP ts i tDest = true then .ok 1 (i + 1) else if nxP ts i tPort = true then .ok 2 (i + 1) else if nxP ts i tMark = true then .ok 3 (i + 1) else .bad 2 i := rfl
  rw [hf, hd]
  cases h0 : nxP ts i tSource <;> cases h1 : nxP ts i tDest <;> cases h2 : nxP ts i tPort <;> cases h3 : nxP ts i tMark <;>
    first
    | exact absurd (nx_one h0 h1) e01
    | exact absurd (nx_one h0 h2) e02
    | exact absurd (nx_one h0 h3) e03
    | exact absurd (nx_one h1 h2) e12
    | exact absurd (nx_one h1 h3) e13
    | exact absurd (nx_one h2 h3) e23
    | exact .inl ⟨rfl, rfl⟩
    | exact .inr ⟨0, by decide, rfl, rfl, nxP_lt h0⟩
    | exact .inr ⟨1, by decide, rfl, rfl, nxP_lt h1⟩
    | exact .inr ⟨2, by decide, rfl, rfl, nxP_lt h2⟩
    | exact .inr ⟨3, by decide, rfl, rfl, nxP_lt h3⟩
def fmA (n f : Int) : Array Value := #[.int .i64 n, .int .i64 f, .int .i64 0, .int .i64 0, .int .i64 0]
def FmRel (w : World) (g : Nat) (tv : Value) (ts : List Tok) (en : Int) (nm cv fv df d : Value) (r gs j : Nat) (n : Int) (v : Value) (wr : World) : Prop :=
  ∃ k : Nat, k ≤ 4 ∧ v = .int .i64 k ∧ StAt wr g tv j en nm cv fv df d 0 0 ∧ Far g w wr ∧ BoxAt wr (r + 1) (fmA n (fmF ts j k)) 77 ∧ BoxAt wr r #[.int .i64 0, .int .i64 0, .int .i64 0, .int .i64 0, .int .i64 0] 77 ∧ TextsAt wr gs fwA ∧ gs < wr.heap.size ∧ r + 1 < gs
def F0Rel (w : World) (v : Value) (wr : World) : Prop := ∃ k : Nat, k ≤ 4 ∧ v = .int .i64 k ∧ wr = w
theorem prFields_any (w : World) :
    Calls Tryd.prog 157 #[] w fun e w' => e = .returned (.slice (some ⟨w.heap.size, 0, none⟩) 4 4) ∧ TextsAt w' w.heap.size fwA ∧ Below w.heap.size w w' ∧ w.heap.size < w'.heap.size := by
  go_enter Tryd.func157, Tryd.ntmps157
  go_wp2
  go_ret
  exact ⟨rfl, texts_new _ fwA _ rfl _, (Below.refl _ _).alloc (Nat.le_refl _) _, by simp⟩
set_option maxHeartbeats 12800000 in
theorem filter_any (g i : Nat) (en : Int) (tv nm cv fv df d : Value) (ts : List Tok) (w : World) (HP : Hid (StAt w g tv i en nm cv fv df d 0 0)) (HT : Hid (TkB w g tv ts)) (hi : i ≤ ts.length) (hm : ts.length ≤ 1048576) (HG : Hid (GoodN ts)) :
    Calls Tryd.prog 105 #[.pointer (some ⟨g, 0, none⟩)] w (SaysS w g tv ts en nm cv fv df d fltV (flP ts i)) := by
  obtain ⟨R, hR⟩ : ∃ R, flP ts i = R := ⟨_, rfl⟩
  rw [hR]
  unfold flP at hR
  have R0 := Lib.hid hR
  clear hR
  have hgl := HP.out.lt
  have HNA := Lib.hid (fun j t k (hk : (kwA ++ sgA)[k]? = some t) w HP HT hj => named_any g j en tv nm cv fv df d ts t w HP HT hj hm HG (Lib.hid (kw_mem _ k hk)))
  obtain ⟨W0, hW0⟩ : ∃ W0, (w.alloc (.cells #[.int .i64 0, .int .i64 0, .int .i64 0, .int .i64 0, .int .i64 0] 77)).alloc (.cells #[.int .i64 0, .int .i64 (-1), .int .i64 0, .int .i64 0, .int .i64 0] 77) = W0 := ⟨_, rfl⟩
  have HW := Lib.hid hW0
  have s1 : (w.alloc (.cells #[.int .i64 0, .int .i64 0, .int .i64 0, .int .i64 0, .int .i64 0] 77)).heap.size = w.heap.size + 1 := by simp
  have b0 : Below w.heap.size w W0 := by rw [← hW0]; exact two_new _ _ _
  have X4 : Hid (BoxAt W0 w.heap.size #[.int .i64 0, .int .i64 0, .int .i64 0, .int .i64 0, .int .i64 0] 77) := Lib.hid (by rw [← hW0]; exact (BoxAt.new w _ _).below (one_new2 _ _))
  have X6 : Hid (BoxAt W0 (w.heap.size + 1) (fmA 0 (-1)) 77) := Lib.hid (by rw [← hW0]; have q := BoxAt.new (w.alloc (.cells #[.int .i64 0, .int .i64 0, .int .i64 0, .int .i64 0, .int .i64 0] 77)) (fmA 0 (-1)) 77; rw [s1] at q; exact q)
  have P0 := Lib.hid (HP.out.below b0)
  have F0 := Lib.hid ((Far.refl g w).below b0 hgl)
  have T0 := Lib.hid (HT.out.far F0.out)
  have hz : w.heap.size + 1 < W0.heap.size := X6.out.lt
  clear hW0 s1 b0
  have HN := Lib.hid (fun w HP HT hj => HNA.out i tFilter 9 rfl w HP HT hj)
  have HPF := Lib.hid prFields_any
  cases h : naP ts i tFilter with
  | bad k j =>
    have RB : Hid (PR.bad k j = R) := Lib.hid ((PR.bind_bad h).symm.trans R0.out)
    rw [h] at HN
    unfold intV at HN
    rw [← RB.out]
    go_enter Tryd.func105, Tryd.ntmps105
    go_wp2_with fail
    rw [HW.out]
    go_wp2_with (go_at_call 156; (with_reducible refine (HN.out _ P0 T0 hi).mono ?_); rintro e w1 ⟨⟨v1, rfl⟩, hj1, s1, f1⟩; have S1 := Lib.hid s1; have F1 := Lib.hid f1; clear s1 f1; have X61 := Lib.hid (X6.out.far F1.out (by omega)); have x6c : w1.cell? ⟨w.heap.size + 1, 0, none⟩ = some (.int .i64 0) := (by rw [X61.out.cell 0]; rfl); have x6f := X61.out.open 0)
    obtain ⟨W2, hW2⟩ : ∃ W2, w1.setCell ⟨w.heap.size + 1, 0, none⟩ (.int .i64 v1) = W2 := ⟨_, rfl⟩
    rw [hW2]
    have hs1 := F1.out.1.size
    have S2 : Hid (StAt W2 g tv j en nm cv fv df d (fltP ts en k j).1 (fltP ts en k j).2) := Lib.hid (by rw [← hW2]; exact S1.out.other (by omega) _ _)
    have F2 : Hid (Far g w W2) := Lib.hid (by rw [← hW2]; exact (F0.out.trans F1.out).new (by omega) hgl _ _)
    have X42 : Hid (BoxAt W2 w.heap.size #[.int .i64 0, .int .i64 0, .int .i64 0, .int .i64 0, .int .i64 0] 77) := Lib.hid (by rw [← hW2]; exact (X4.out.far F1.out (by omega)).other (by omega) _ _)
    clear hW2 x6c x6f
    go_wp2_with (go_at_call 157; refine (HPF.out _).mono ?_; rintro e w3 ⟨rfl, ht, b3, hz3⟩; have T3 := Lib.hid ht; have B3 := Lib.hid b3; clear ht b3)
    have hl : ∀ k, k < 4 → w3.cell? ⟨W2.heap.size, k, none⟩ = some (.string (fwA.getD k ⟨#[]⟩)) := fun k hk => T3.out k hk
    have S3 := Lib.hid (S2.out.below B3.out)
    have F3 := Lib.hid (F2.out.below B3.out S2.out.lt)
    have X43 := Lib.hid (X42.out.below B3.out)
    go_loopw [25] (fun v wr => F0Rel w3 v wr) (fun v _ => 4 - (intOf v).toNat)
    case atStart => exact ⟨0, Nat.zero_le _, rfl, rfl⟩
    case round =>
      obtain ⟨q, hq, rfl, rfl⟩ := hrel
      by_cases hlt : q < 4
      · have hc := hl q hlt
        obtain ⟨x, hx⟩ : ∃ x, fwA.getD q ⟨#[]⟩ = x := ⟨_, rfl⟩
        rw [hx] at hc
        go_wp2_with fail
        go_roundw
        case rel => exact ⟨q + 1, by omega, by go_num, rfl⟩
        case measure => simp [intOf]; omega
      · obtain rfl : q = 4 := by omega
        obtain ⟨x0, x1, x2, x3, x4, xf⟩ := box_fives (X43.out)
        go_wp2_with fail
        have q0 := (((((X43.out).set 0 (.int .i64 0)).set 1 (.int .i64 0)).set 2 (.int .i64 0)).set 3 (.int .i64 0)).set 4 (.int .i64 0)
        have r0 := q0.cell 0; have r1 := q0.cell 1; have r2 := q0.cell 2; have r3 := q0.cell 3; have r4 := q0.cell 4
        exact bodyPost_ret (v := .tuple #[fltV flt0, .bool false]) (by simp [results, Tryd.results105, go_sem, fltV, flt0, r0, r1, r2, r3, r4]) rfl ⟨⟨flt0, rfl⟩, hj1, StAt.five S3.out (by omega) _ _ _ _ _, Far.five (F3.out) hgl _ _ _ _ _⟩
  | ok n j =>
    have R1 := Lib.hid ((PR.bind_ok h).symm.trans R0.out)
    rw [h] at HN
    unfold intV at HN
    have HIS := Lib.hid (fun t k (hk : (kwA ++ sgA)[k]? = some t) w HP HT => is_any g j en 0 0 tv nm cv fv df d ts t w HP HT hm HG (Lib.hid (kw_mem _ k hk)))
    go_enter Tryd.func105, Tryd.ntmps105
    go_wp2_with fail
    rw [HW.out]
    go_wp2_with (go_at_call 156; (with_reducible refine (HN.out _ P0 T0 hi).mono ?_); rintro e w1 ⟨rfl, hj1, s1, f1⟩; have S1 := Lib.hid s1; have F1 := Lib.hid f1; clear s1 f1; have X61 := Lib.hid (X6.out.far F1.out (by omega)); have x6c : w1.cell? ⟨w.heap.size + 1, 0, none⟩ = some (.int .i64 0) := (by rw [X61.out.cell 0]; rfl); have x6f := X61.out.open 0)
    obtain ⟨W2, hW2⟩ : ∃ W2, w1.setCell ⟨w.heap.size + 1, 0, none⟩ (.int .i64 n) = W2 := ⟨_, rfl⟩
    rw [hW2]
    have hs1 := F1.out.1.size
    have S2 : Hid (StAt W2 g tv j en nm cv fv df d 0 0) := Lib.hid (by rw [← hW2]; exact S1.out.other (by omega) _ _)
    have F2 : Hid (Far g w W2) := Lib.hid (by rw [← hW2]; exact (F0.out.trans F1.out).new (by omega) hgl _ _)
    have X42 : Hid (BoxAt W2 w.heap.size #[.int .i64 0, .int .i64 0, .int .i64 0, .int .i64 0, .int .i64 0] 77) := Lib.hid (by rw [← hW2]; exact (X4.out.far F1.out (by omega)).other (by omega) _ _)
    have X62 : Hid (BoxAt W2 (w.heap.size + 1) (fmA n (-1)) 77) := Lib.hid (by rw [← hW2]; exact X61.out.set 0 (.int .i64 n))
    have hs2 : w.heap.size + 1 < W2.heap.size := X62.out.lt
    clear hW2 x6c x6f
    go_wp2_with (go_at_call 157; refine (HPF.out _).mono ?_; rintro e w3 ⟨rfl, ht, b3, hz3⟩; have T3 := Lib.hid ht; have B3 := Lib.hid b3; clear ht b3)
    have START : Hid (FmRel w g tv ts en nm cv fv df d w.heap.size W2.heap.size j n (.int .i64 0) w3) := Lib.hid ⟨0, Nat.zero_le _, rfl, S2.out.below B3.out, F2.out.below B3.out S2.out.lt, X62.out.below B3.out, X42.out.below B3.out, T3.out, hz3, hs2⟩
    go_loopw [25] (fun v wr => FmRel w g tv ts en nm cv fv df d w.heap.size W2.heap.size j n v wr) (fun v _ => 4 - (intOf v).toNat)
    case atStart => exact START.out
    case round =>
      obtain ⟨q, hq, rfl, st, fr, x6, x4, t3, hz4, hz5⟩ := hrel
      have ST := Lib.hid st
      have FR := Lib.hid fr
      have X6r := Lib.hid x6
      have X4r := Lib.hid x4
      have T3r := Lib.hid t3
      have TR := Lib.hid (HT.out.far fr)
      have hgr : g < wr.heap.size := st.lt
      clear st fr x6 x4 t3 START
      by_cases hlt : q < 4
      · have hc : wr.cell? ⟨W2.heap.size, q, none⟩ = some (.string (fwA.getD q ⟨#[]⟩)) := T3r.out q hlt
        obtain ⟨x, hx⟩ : ∃ x, fwA.getD q ⟨#[]⟩ = x := ⟨_, rfl⟩
        have HFM : Hid (fmF ts j (q + 1) = if nxP ts j x = true then (q : Int) else fmF ts j q) := Lib.hid (by rw [← hx]; rfl)
        have HI := Lib.hid (fun w HP HT => HIS.out x (10 + q) (by rw [← hx]; rcases (show q = 0 ∨ q = 1 ∨ q = 2 ∨ q = 3 by omega) with rfl | rfl | rfl | rfl <;> rfl) w HP HT)
        rw [hx] at hc
        clear hx
        have x6c : wr.cell? ⟨w.heap.size + 1, 1, none⟩ = some (.int .i64 (fmF ts j q)) := by rw [X6r.out.cell 1]; rfl
        have x6f := X6r.out.open 1
        rcases Bool.eq_false_or_eq_true (nxP ts j x) with he | he
        · rw [he] at HI
          have HF : Hid (fmF ts j (q + 1) = q) := Lib.hid (by rw [HFM.out, if_pos he])
          go_wp2_with (go_at_call 158; (with_reducible refine (HI.out _ ST TR).mono ?_); rintro e w4 ⟨rfl, q1, rfl⟩)
          go_roundw
          case rel => exact ⟨q + 1, by omega, by go_num, StAt.other (w := wr.drewN q1) ST.out (by omega) _ _, (FR.out.drewN q1).new (by omega) hgl _ _, by rw [HF.out]; exact BoxAt.set (w := wr.drewN q1) X6r.out 1 (.int .i64 q), BoxAt.other (w := wr.drewN q1) X4r.out (by omega) _ _, TextsAt.other (w := wr.drewN q1) T3r.out (by omega) _ _, by simpa using hz4, hz5⟩
          case measure => simp [intOf]; omega
        · rw [he] at HI
          have HF : Hid (fmF ts j (q + 1) = fmF ts j q) := Lib.hid (by rw [HFM.out, if_neg (by rw [he]; simp)])
          go_wp2_with (go_at_call 158; (with_reducible refine (HI.out _ ST TR).mono ?_); rintro e w4 ⟨rfl, q1, rfl⟩)
          go_roundw
          case rel => exact ⟨q + 1, by omega, by go_num, ST.out, FR.out.drewN q1, by rw [HF.out]; exact X6r.out, X4r.out, T3r.out, hz4, hz5⟩
          case measure => simp [intOf]; omega
      · obtain rfl : q = 4 := by omega
        rcases fd_fm ts j with ⟨hf, hd⟩ | ⟨m0, hm4, hf, hd, hjl⟩
        · have RB : Hid (PR.bad 2 j = R) := Lib.hid ((PR.bind_bad hd).symm.trans R1.out)
          rw [hf] at X6r
          have x6c : wr.cell? ⟨w.heap.size + 1, 1, none⟩ = some (.int .i64 (-1)) := by rw [X6r.out.cell 1]; rfl
          have HFA := Lib.hid (fun w HP HT => fail_any g j en 2 tv nm cv fv df d ts w HP HT hj1 hm)
          clear hf hd
          go_wp2_with (go_at_call 159; (with_reducible refine (HFA.out _ ST TR).mono ?_); rintro e w4 ⟨rfl, hj4, s4, f4⟩; have S4 := Lib.hid s4; have F4 := Lib.hid f4; clear s4 f4; have X44 := Lib.hid (X4r.out.far F4.out (by omega)); obtain ⟨x0, x1, x2, x3, x4, xf⟩ := box_fives (X44.out))
          rw [← RB.out]
          have q0 := (((((X44.out).set 0 (.int .i64 0)).set 1 (.int .i64 0)).set 2 (.int .i64 0)).set 3 (.int .i64 0)).set 4 (.int .i64 0)
          have r0 := q0.cell 0; have r1 := q0.cell 1; have r2 := q0.cell 2; have r3 := q0.cell 3; have r4 := q0.cell 4
          exact bodyPost_ret (v := .tuple #[fltV flt0, .bool false]) (by simp [results, Tryd.results105, go_sem, fltV, flt0, r0, r1, r2, r3, r4]) rfl ⟨⟨flt0, rfl⟩, hj4, StAt.five S4.out (by omega) _ _ _ _ _, Far.five (FR.out.trans F4.out) hgl _ _ _ _ _⟩
        · have R2 := Lib.hid ((PR.bind_ok hd).symm.trans R1.out)
          rw [hf] at X6r
          have dm : decide ((m0 : Int) < 0) = false := not_lt (by omega)
          have x6c : wr.cell? ⟨w.heap.size + 1, 1, none⟩ = some (.int .i64 (m0 : Int)) := by rw [X6r.out.cell 1]; rfl
          obtain ⟨c0, c1, c2, c8, c9, fz⟩ := ST.out.cells
          have g1 := fz 1
          have e1 : IntKind.i64.wrap ((j : Int) + 1) = (j : Int) + 1 := IntWalk.i64_in _ (by omega)
          have S7 : Hid (StAt (wr.setCell ⟨g, 1, none⟩ (.int .i64 ((j : Int) + 1))) g tv (j + 1) en nm cv fv df d 0 0) := Lib.hid (ST.out.next (j + 1))
          have F7 : Hid (Far g w (wr.setCell ⟨g, 1, none⟩ (.int .i64 ((j : Int) + 1)))) := Lib.hid (FR.out.store 1 _)
          have T7 := Lib.hid (HT.out.far F7.out)
          have X47 : Hid (BoxAt (wr.setCell ⟨g, 1, none⟩ (.int .i64 ((j : Int) + 1))) w.heap.size #[.int .i64 0, .int .i64 0, .int .i64 0, .int .i64 0, .int .i64 0] 77) := Lib.hid (X4r.out.other (by omega) _ _)
          have X67 : Hid (BoxAt (wr.setCell ⟨g, 1, none⟩ (.int .i64 ((j : Int) + 1))) (w.heap.size + 1) (fmA n m0) 77) := Lib.hid (X6r.out.other (by omega) _ _)
          have hj7 : j + 1 ≤ ts.length := hjl
          clear hf hd hjl
          have HC8 := Lib.hid (fun w HP HT hj => number_any g (j + 1) en tv nm cv fv df d ts w HP HT hj hm)
          cases h8 : kdP ts (j + 1) 3 with
          | bad k8 j8 =>
            have RB := Lib.hid ((PR.bind_bad h8).symm.trans R2.out)
            have hnu : nuP ts (j + 1) = .bad k8 j8 := PR.bind_bad h8
            rw [hnu] at HC8
            unfold intV at HC8
            go_wp2_with (go_at_call 160; (with_reducible refine (HC8.out _ S7 T7 hj7).mono ?_); rintro e w8 ⟨⟨v8, rfl⟩, hj8, s, f⟩; have S8 := Lib.hid s; have F8 := Lib.hid (F7.out.trans f); have T8 := Lib.hid (T7.out.far f); have hg8 : g < w8.heap.size := s.lt; have X48 := Lib.hid (X47.out.far f (by omega)); obtain ⟨x0, x1, x2, x3, x4, xf⟩ := box_fives (X48.out); clear s f)
            rw [← RB.out]
            have q0 := (((((X48.out).set 0 (.int .i64 0)).set 1 (.int .i64 0)).set 2 (.int .i64 0)).set 3 (.int .i64 0)).set 4 (.int .i64 0)
            have r0 := q0.cell 0; have r1 := q0.cell 1; have r2 := q0.cell 2; have r3 := q0.cell 3; have r4 := q0.cell 4
            exact bodyPost_ret (v := .tuple #[fltV flt0, .bool false]) (by simp [results, Tryd.results105, go_sem, fltV, flt0, r0, r1, r2, r3, r4]) rfl ⟨⟨flt0, rfl⟩, hj8, StAt.five S8.out (by omega) _ _ _ _ _, Far.five (F8.out) hgl _ _ _ _ _⟩
          | ok x j8 =>
            have R3 := Lib.hid ((PR.bind_ok h8).symm.trans R2.out)
            have hnu : nuP ts (j + 1) = .ok x.v j8 := PR.bind_ok h8
            rw [hnu] at HC8
            unfold intV at HC8
            go_wp2_with (go_at_call 160; (with_reducible refine (HC8.out _ S7 T7 hj7).mono ?_); rintro e w8 ⟨rfl, hj8, s, f⟩; have S8 := Lib.hid s; have F8 := Lib.hid (F7.out.trans f); have T8 := Lib.hid (T7.out.far f); have hg8 : g < w8.heap.size := s.lt; have X48 := Lib.hid (X47.out.far f (by omega)); skip; have X68 := Lib.hid (X67.out.far f (by omega)); clear s f)
            have HC9 := Lib.hid (fun w HP HT hj => HNA.out j8 tSlash 17 rfl w HP HT hj)
            cases h9 : naP ts j8 tSlash with
            | bad k9 j9 =>
              have RB := Lib.hid ((PR.bind_bad h9).symm.trans R3.out)
              rw [h9] at HC9
              unfold intV at HC9
              go_wp2_with (go_at_call 156; (with_reducible refine (HC9.out _ S8 T8 hj8).mono ?_); rintro e w9 ⟨⟨v9, rfl⟩, hj9, s, f⟩; have S9 := Lib.hid s; have F9 := Lib.hid (F8.out.trans f); have T9 := Lib.hid (T8.out.far f); have hg9 : g < w9.heap.size := s.lt; have X49 := Lib.hid (X48.out.far f (by omega)); obtain ⟨x0, x1, x2, x3, x4, xf⟩ := box_fives (X49.out); clear s f)
              rw [← RB.out]
              have q0 := (((((X49.out).set 0 (.int .i64 0)).set 1 (.int .i64 0)).set 2 (.int .i64 0)).set 3 (.int .i64 0)).set 4 (.int .i64 0)
              have r0 := q0.cell 0; have r1 := q0.cell 1; have r2 := q0.cell 2; have r3 := q0.cell 3; have r4 := q0.cell 4
              exact bodyPost_ret (v := .tuple #[fltV flt0, .bool false]) (by simp [results, Tryd.results105, go_sem, fltV, flt0, r0, r1, r2, r3, r4]) rfl ⟨⟨flt0, rfl⟩, hj9, StAt.five S9.out (by omega) _ _ _ _ _, Far.five (F9.out) hgl _ _ _ _ _⟩
            | ok m j9 =>
              have R4 := Lib.hid ((PR.bind_ok h9).symm.trans R3.out)
              rw [h9] at HC9
              unfold intV at HC9
              go_wp2_with (go_at_call 156; (with_reducible refine (HC9.out _ S8 T8 hj8).mono ?_); rintro e w9 ⟨rfl, hj9, s, f⟩; have S9 := Lib.hid s; have F9 := Lib.hid (F8.out.trans f); have T9 := Lib.hid (T8.out.far f); have hg9 : g < w9.heap.size := s.lt; have X49 := Lib.hid (X48.out.far f (by omega)); skip; have X69 := Lib.hid (X68.out.far f (by omega)); clear s f)
              have HC10 := Lib.hid (fun w HP HT hj => HNA.out j9 tArrow 19 rfl w HP HT hj)
              cases h10 : naP ts j9 tArrow with
              | bad k10 j10 =>
                have RB := Lib.hid ((PR.bind_bad h10).symm.trans R4.out)
                rw [h10] at HC10
                unfold intV at HC10
                go_wp2_with (go_at_call 156; (with_reducible refine (HC10.out _ S9 T9 hj9).mono ?_); rintro e w10 ⟨⟨v10, rfl⟩, hj10, s, f⟩; have S10 := Lib.hid s; have F10 := Lib.hid (F9.out.trans f); have T10 := Lib.hid (T9.out.far f); have hg10 : g < w10.heap.size := s.lt; have X410 := Lib.hid (X49.out.far f (by omega)); obtain ⟨x0, x1, x2, x3, x4, xf⟩ := box_fives (X410.out); clear s f)
                rw [← RB.out]
                have q0 := (((((X410.out).set 0 (.int .i64 0)).set 1 (.int .i64 0)).set 2 (.int .i64 0)).set 3 (.int .i64 0)).set 4 (.int .i64 0)
                have r0 := q0.cell 0; have r1 := q0.cell 1; have r2 := q0.cell 2; have r3 := q0.cell 3; have r4 := q0.cell 4
                exact bodyPost_ret (v := .tuple #[fltV flt0, .bool false]) (by simp [results, Tryd.results105, go_sem, fltV, flt0, r0, r1, r2, r3, r4]) rfl ⟨⟨flt0, rfl⟩, hj10, StAt.five S10.out (by omega) _ _ _ _ _, Far.five (F10.out) hgl _ _ _ _ _⟩
              | ok t j10 =>
                have R5 := Lib.hid ((PR.bind_ok h10).symm.trans R4.out)
                rw [h10] at HC10
                unfold intV at HC10
                go_wp2_with (go_at_call 156; (with_reducible refine (HC10.out _ S9 T9 hj9).mono ?_); rintro e w10 ⟨rfl, hj10, s, f⟩; have S10 := Lib.hid s; have F10 := Lib.hid (F9.out.trans f); have T10 := Lib.hid (T9.out.far f); have hg10 : g < w10.heap.size := s.lt; have X410 := Lib.hid (X49.out.far f (by omega)); skip; have X610 := Lib.hid (X69.out.far f (by omega)); clear s f)
                have HC11 := Lib.hid (fun w HP HT hj => stake_any g j10 en tv nm cv fv df d ts tSemi w HP HT hj hm HG (Lib.hid (kw_mem _ 16 rfl)))
                cases h11 : tkP ts j10 tSemi with
                | bad k11 j11 =>
                  have RB := Lib.hid ((PR.bind_bad h11).symm.trans R5.out)
                  rw [h11] at HC11
                  go_wp2_with (go_at_call 161; (with_reducible refine (HC11.out _ S10 T10 hj10).mono ?_); rintro e w11 ⟨rfl, hj11, s, f⟩; have S11 := Lib.hid s; have F11 := Lib.hid (F10.out.trans f); have T11 := Lib.hid (T10.out.far f); have hg11 : g < w11.heap.size := s.lt; have X411 := Lib.hid (X410.out.far f (by omega)); obtain ⟨x0, x1, x2, x3, x4, xf⟩ := box_fives (X411.out); clear s f)
                  rw [← RB.out]
                  have q0 := (((((X411.out).set 0 (.int .i64 0)).set 1 (.int .i64 0)).set 2 (.int .i64 0)).set 3 (.int .i64 0)).set 4 (.int .i64 0)
                  have r0 := q0.cell 0; have r1 := q0.cell 1; have r2 := q0.cell 2; have r3 := q0.cell 3; have r4 := q0.cell 4
                  exact bodyPost_ret (v := .tuple #[fltV flt0, .bool false]) (by simp [results, Tryd.results105, go_sem, fltV, flt0, r0, r1, r2, r3, r4]) rfl ⟨⟨flt0, rfl⟩, hj11, StAt.five S11.out (by omega) _ _ _ _ _, Far.five (F11.out) hgl _ _ _ _ _⟩
                | ok u j11 =>
                  have R6 := Lib.hid ((PR.bind_ok h11).symm.trans R5.out)
                  rw [h11] at HC11
                  go_wp2_with (go_at_call 161; (with_reducible refine (HC11.out _ S10 T10 hj10).mono ?_); rintro e w11 ⟨rfl, hj11, s, f⟩; have S11 := Lib.hid s; have F11 := Lib.hid (F10.out.trans f); have T11 := Lib.hid (T10.out.far f); have hg11 : g < w11.heap.size := s.lt; have X411 := Lib.hid (X410.out.far f (by omega)); obtain ⟨x0, x1, x2, x3, x4, xf⟩ := box_fives (X411.out); have X611 := Lib.hid (X610.out.far f (by omega)); obtain ⟨y0, y1, y2, y3, y4, yf⟩ := box_fives (show BoxAt w11 (w.heap.size + 1) #[.int .i64 n, .int .i64 (m0 : Int), .int .i64 0, .int .i64 0, .int .i64 0] 77 from X611.out); have hne : w.heap.size + 1 ≠ w.heap.size := (by omega); clear s f)
                  have RR : Hid (PR.ok (⟨n, (m0 : Int), m, x.v, t⟩ : Flt) j11 = R) := R6
                  rw [← RR.out]
                  have q0 := (((((((X411.out.other (b := w.heap.size) (c := w.heap.size + 1) (by omega) 3 (.int .i64 x.v)).other (c := w.heap.size + 1) (by omega) 2 (.int .i64 m)).other (c := w.heap.size + 1) (by omega) 4 (.int .i64 t)).set 0 (.int .i64 n)).set 1 (.int .i64 (m0 : Int))).set 2 (.int .i64 m)).set 3 (.int .i64 x.v)).set 4 (.int .i64 t)
                  have r0 := q0.cell 0; have r1 := q0.cell 1; have r2 := q0.cell 2; have r3 := q0.cell 3; have r4 := q0.cell 4
                  exact bodyPost_ret (v := .tuple #[fltV ⟨n, (m0 : Int), m, x.v, t⟩, .bool true]) (by simp [results, Tryd.results105, go_sem, fltV, r0, r1, r2, r3, r4]) rfl ⟨rfl, hj11, StAt.five (((S11.out.other (b := w.heap.size + 1) (by omega) 3 _).other (b := w.heap.size + 1) (by omega) 2 _).other (b := w.heap.size + 1) (by omega) 4 _) (by omega) _ _ _ _ _, Far.five (((F11.out.new (b := w.heap.size + 1) (by omega) hgl 3 _).new (b := w.heap.size + 1) (by omega) hgl 2 _).new (b := w.heap.size + 1) (by omega) hgl 4 _) hgl _ _ _ _ _⟩
end Go.Proofs.YthpejbdbbofaaaaDoor
