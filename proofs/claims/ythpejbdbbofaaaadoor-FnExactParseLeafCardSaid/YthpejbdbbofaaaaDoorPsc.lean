/- The parts that the program reads: takeNumber, readLimit, readHead, readFilter. -/
import Derived.Test.YthpejbdbbofaaaaDoorPsb
namespace Go.Proofs.YthpejbdbbofaaaaDoor
set_option maxRecDepth 100000
open Go.RowKit
set_option linter.unusedVariables false
set_option linter.unusedSimpArgs false

theorem box_eights {w : World} {b : Nat} {z0 z1 z2 z3 z4 z5 z6 z7 : Value} {T : TypeId} (h : BoxAt w b #[z0, z1, z2, z3, z4, z5, z6, z7] T) :
    w.cell? ⟨b, 0, none⟩ = some z0 ∧ w.cell? ⟨b, 1, none⟩ = some z1 ∧ w.cell? ⟨b, 2, none⟩ = some z2 ∧ w.cell? ⟨b, 3, none⟩ = some z3 ∧ w.cell? ⟨b, 4, none⟩ = some z4 ∧ w.cell? ⟨b, 5, none⟩ = some z5 ∧ w.cell? ⟨b, 6, none⟩ = some z6 ∧ w.cell? ⟨b, 7, none⟩ = some z7 ∧ ∀ o, w.frozen? ⟨b, o, none⟩ = false :=
  ⟨by rw [h.cell 0]; rfl, by rw [h.cell 1]; rfl, by rw [h.cell 2]; rfl, by rw [h.cell 3]; rfl, by rw [h.cell 4]; rfl, by rw [h.cell 5]; rfl, by rw [h.cell 6]; rfl, by rw [h.cell 7]; rfl, h.open⟩
theorem box_fives {w : World} {b : Nat} {z0 z1 z2 z3 z4 : Value} {T : TypeId} (h : BoxAt w b #[z0, z1, z2, z3, z4] T) :
    w.cell? ⟨b, 0, none⟩ = some z0 ∧ w.cell? ⟨b, 1, none⟩ = some z1 ∧ w.cell? ⟨b, 2, none⟩ = some z2 ∧ w.cell? ⟨b, 3, none⟩ = some z3 ∧ w.cell? ⟨b, 4, none⟩ = some z4 ∧ ∀ o, w.frozen? ⟨b, o, none⟩ = false :=
  ⟨by rw [h.cell 0]; rfl, by rw [h.cell 1]; rfl, by rw [h.cell 2]; rfl, by rw [h.cell 3]; rfl, by rw [h.cell 4]; rfl, h.open⟩
theorem PrAt.five {w : World} {g b : Nat} {tv : Value} {i : Nat} {en : Int} {cv fv : Value} {d : Int} (h : PrAt w g tv i en cv fv d) (hb : g ≠ b) (v0 v1 v2 v3 v4 : Value) : PrAt (((((w.setCell ⟨b, 0, none⟩ v0).setCell ⟨b, 1, none⟩ v1).setCell ⟨b, 2, none⟩ v2).setCell ⟨b, 3, none⟩ v3).setCell ⟨b, 4, none⟩ v4) g tv i en cv fv d :=
  ((((h.other hb 0 _).other hb 1 _).other hb 2 _).other hb 3 _).other hb 4 _
theorem PrAt.eight {w : World} {g b : Nat} {tv : Value} {i : Nat} {en : Int} {cv fv : Value} {d : Int} (h : PrAt w g tv i en cv fv d) (hb : g ≠ b) (v0 v1 v2 v3 v4 v5 v6 v7 : Value) : PrAt ((((((((w.setCell ⟨b, 0, none⟩ v0).setCell ⟨b, 1, none⟩ v1).setCell ⟨b, 2, none⟩ v2).setCell ⟨b, 3, none⟩ v3).setCell ⟨b, 4, none⟩ v4).setCell ⟨b, 5, none⟩ v5).setCell ⟨b, 6, none⟩ v6).setCell ⟨b, 7, none⟩ v7) g tv i en cv fv d :=
  (((h.five hb _ _ _ _ _).other hb 5 _).other hb 6 _).other hb 7 _
theorem Far.five {g : Nat} {w w1 : World} (h : Far g w w1) (hg : g < w.heap.size) (v0 v1 v2 v3 v4 : Value) : Far g w (((((w1.setCell ⟨w.heap.size, 0, none⟩ v0).setCell ⟨w.heap.size, 1, none⟩ v1).setCell ⟨w.heap.size, 2, none⟩ v2).setCell ⟨w.heap.size, 3, none⟩ v3).setCell ⟨w.heap.size, 4, none⟩ v4) :=
  ((((h.new (Nat.le_refl _) hg 0 _).new (Nat.le_refl _) hg 1 _).new (Nat.le_refl _) hg 2 _).new (Nat.le_refl _) hg 3 _).new (Nat.le_refl _) hg 4 _
theorem Far.eight {g : Nat} {w w1 : World} (h : Far g w w1) (hg : g < w.heap.size) (v0 v1 v2 v3 v4 v5 v6 v7 : Value) : Far g w ((((((((w1.setCell ⟨w.heap.size, 0, none⟩ v0).setCell ⟨w.heap.size, 1, none⟩ v1).setCell ⟨w.heap.size, 2, none⟩ v2).setCell ⟨w.heap.size, 3, none⟩ v3).setCell ⟨w.heap.size, 4, none⟩ v4).setCell ⟨w.heap.size, 5, none⟩ v5).setCell ⟨w.heap.size, 6, none⟩ v6).setCell ⟨w.heap.size, 7, none⟩ v7) :=
  (((h.five hg _ _ _ _ _).new (Nat.le_refl _) hg 5 _).new (Nat.le_refl _) hg 6 _).new (Nat.le_refl _) hg 7 _
theorem Fwt.far0 {w w' : World} {g : Nat} (h : Fwt w) (hg : 2 < g) (f : Far g w w') : Fwt w' := h.below f.1 hg

set_option maxHeartbeats 6400000 in
theorem takeNumber_any (g i : Nat) (en d : Int) (tv cv fv : Value) (ts : List Tok) (t : ByteArray) (w : World) (HP : Hid (PrAt w g tv i en cv fv d)) (HT : Hid (TkB w g tv ts)) (hi : i ≤ ts.length) (hm : ts.length ≤ 1048576) :
    Calls Tryd.prog 163 #[.pointer (some ⟨g, 0, none⟩), .string t] w (SaysR w g tv ts en cv fv d intV (naP ts i t)) := by
  obtain ⟨R, hR⟩ : ∃ R, naP ts i t = R := ⟨_, rfl⟩
  rw [hR]
  unfold naP nuP at hR
  have R0 := Lib.hid hR
  clear hR
  have hj0 := hi
  have hgl := HP.out.lt
  have hgb : g ≠ w.heap.size := by omega
  have P0 := HP
  have T0 := HT
  have F0 := Lib.hid (Far.refl g w)
  have G0 := Lib.hid (Far.refl g w)
  go_enter Tryd.func163, Tryd.ntmps163
  have HC1 := Lib.hid (fun w HP HT hj => take_any g i en d tv cv fv ts t w HP HT hj hm)
  cases h1 : tkP ts i t with
  | bad k1 j1 =>
    have RB := Lib.hid ((PR.bind_bad h1).symm.trans R0.out)
    rw [h1] at HC1
    go_wp2_with (go_at_call 166; (with_reducible refine (HC1.out _ P0 T0 hj0).mono ?_); rintro e w1 ⟨rfl, hj1, p, f⟩; have P1 := Lib.hid p; have T1 := Lib.hid (T0.out.far f); have F1 := Lib.hid (F0.out.trans f); have G1 := Lib.hid (G0.out.trans f); clear p; clear f)
    rw [← RB.out]
    exact ⟨rfl, rfl, hj1, P1.out, F1.out⟩
  | ok u j1 =>
    have R1 := Lib.hid ((PR.bind_ok h1).symm.trans R0.out)
    rw [h1] at HC1
    go_wp2_with (go_at_call 166; (with_reducible refine (HC1.out _ P0 T0 hj0).mono ?_); rintro e w1 ⟨rfl, hj1, p, f⟩; have P1 := Lib.hid p; have T1 := Lib.hid (T0.out.far f); have F1 := Lib.hid (F0.out.trans f); have G1 := Lib.hid (G0.out.trans f); clear p; clear f)
    have HC2 := Lib.hid (fun w HP HT hj => takeKind_any g j1 en d 3 tv cv fv ts w HP HT hj hm)
    cases h2 : kdP ts j1 3 with
    | bad k2 j2 =>
      have RB := Lib.hid ((PR.bind_bad h2).symm.trans R1.out)
      rw [h2] at HC2
      go_wp2_with (go_at_call 165; (with_reducible refine (HC2.out _ P1 T1 hj1).mono ?_); rintro e w2 ⟨rfl, hj2, p, f⟩; have P2 := Lib.hid p; have T2 := Lib.hid (T1.out.far f); have F2 := Lib.hid (F1.out.trans f); have G2 := Lib.hid (G1.out.trans f); clear p; clear f)
      rw [← RB.out]
      exact ⟨rfl, rfl, hj2, P2.out, F2.out⟩
    | ok x j2 =>
      have R2 := Lib.hid ((PR.bind_ok h2).symm.trans R1.out)
      rw [h2] at HC2
      unfold tokVV at HC2
      have hfd2 : ∀ w, (Instr.field 32 (.agg #[.int .i64 x.k, .int .i64 x.a, .string x.t, .int .i64 x.v]) 3).run Tryd.prog w = .ok (.int .i64 x.v) w := fun _ => by kernel_rfl
      go_wp2_with (go_at_call 165; (with_reducible refine (HC2.out _ P1 T1 hj1).mono ?_); rintro e w2 ⟨rfl, hj2, p, f⟩; have P2 := Lib.hid p; have T2 := Lib.hid (T1.out.far f); have F2 := Lib.hid (F1.out.trans f); have G2 := Lib.hid (G1.out.trans f); clear p; clear f)
      have RR : Hid (PR.ok x.v j2 = R) := R2
      rw [← RR.out]
      go_ret
      exact ⟨rfl, hj2, P2.out, F2.out⟩
set_option maxHeartbeats 6400000 in
theorem readLimit_any (g i : Nat) (en d : Int) (tv cv fv : Value) (ts : List Tok) (w : World) (HP : Hid (PrAt w g tv i en cv fv d)) (HT : Hid (TkB w g tv ts)) (hi : i ≤ ts.length) (hm : ts.length ≤ 1048576) :
    Calls Tryd.prog 116 #[.pointer (some ⟨g, 0, none⟩)] w (SaysR w g tv ts en cv fv d intV (liP ts i)) := by
  obtain ⟨R, hR⟩ : ∃ R, liP ts i = R := ⟨_, rfl⟩
  rw [hR]
  unfold liP at hR
  have R0 := Lib.hid hR
  clear hR
  have hj0 := hi
  have hgl := HP.out.lt
  have hgb : g ≠ w.heap.size := by omega
  have P0 := HP
  have T0 := HT
  have F0 := Lib.hid (Far.refl g w)
  have G0 := Lib.hid (Far.refl g w)
  go_enter Tryd.func116, Tryd.ntmps116
  have HC1 := Lib.hid (fun w HP HT hj => takeNumber_any g i en d tv cv fv ts tLimit w HP HT hj hm)
  cases h1 : naP ts i tLimit with
  | bad k1 j1 =>
    have RB := Lib.hid ((PR.bind_bad h1).symm.trans R0.out)
    rw [h1] at HC1
    go_wp2_with (go_at_call 163; (with_reducible refine (HC1.out _ P0 T0 hj0).mono ?_); rintro e w1 ⟨rfl, hj1, p, f⟩; have P1 := Lib.hid p; have T1 := Lib.hid (T0.out.far f); have F1 := Lib.hid (F0.out.trans f); have G1 := Lib.hid (G0.out.trans f); clear p; clear f)
    rw [← RB.out]
    exact ⟨rfl, rfl, hj1, P1.out, F1.out⟩
  | ok n j1 =>
    have R1 := Lib.hid ((PR.bind_ok h1).symm.trans R0.out)
    rw [h1] at HC1
    unfold intV at HC1
    go_wp2_with (go_at_call 163; (with_reducible refine (HC1.out _ P0 T0 hj0).mono ?_); rintro e w1 ⟨rfl, hj1, p, f⟩; have P1 := Lib.hid p; have T1 := Lib.hid (T0.out.far f); have F1 := Lib.hid (F0.out.trans f); have G1 := Lib.hid (G0.out.trans f); clear p; clear f)
    have HC2 := Lib.hid (fun w HP HT hj => take_any g j1 en d tv cv fv ts tSemi w HP HT hj hm)
    cases h2 : tkP ts j1 tSemi with
    | bad k2 j2 =>
      have RB := Lib.hid ((PR.bind_bad h2).symm.trans R1.out)
      rw [h2] at HC2
      go_wp2_with (go_at_call 166; (with_reducible refine (HC2.out _ P1 T1 hj1).mono ?_); rintro e w2 ⟨rfl, hj2, p, f⟩; have P2 := Lib.hid p; have T2 := Lib.hid (T1.out.far f); have F2 := Lib.hid (F1.out.trans f); have G2 := Lib.hid (G1.out.trans f); clear p; clear f)
      rw [← RB.out]
      exact ⟨rfl, rfl, hj2, P2.out, F2.out⟩
    | ok u j2 =>
      have R2 := Lib.hid ((PR.bind_ok h2).symm.trans R1.out)
      rw [h2] at HC2
      go_wp2_with (go_at_call 166; (with_reducible refine (HC2.out _ P1 T1 hj1).mono ?_); rintro e w2 ⟨rfl, hj2, p, f⟩; have P2 := Lib.hid p; have T2 := Lib.hid (T1.out.far f); have F2 := Lib.hid (F1.out.trans f); have G2 := Lib.hid (G1.out.trans f); clear p; clear f)
      have RR : Hid (PR.ok n j2 = R) := R2
      rw [← RR.out]
      go_ret
      exact ⟨rfl, hj2, P2.out, F2.out⟩
set_option maxHeartbeats 6400000 in
theorem readHead_any (g i : Nat) (en d : Int) (p : Int) (tv cv fv : Value) (ts : List Tok) (w : World) (HP : Hid (PrAt w g tv i en cv fv d)) (HT : Hid (TkB w g tv ts)) (hi : i ≤ ts.length) (hm : ts.length ≤ 1048576) :
    Calls Tryd.prog 115 #[.pointer (some ⟨g, 0, none⟩), .int .i64 p] w (SaysR w g tv ts en cv fv d clsV (hdP ts i p)) := by
  obtain ⟨R, hR⟩ : ∃ R, hdP ts i p = R := ⟨_, rfl⟩
  rw [hR]
  unfold hdP at hR
  have R0 := Lib.hid hR
  clear hR
  have hj0 := hi
  have hgl := HP.out.lt
  have hgb : g ≠ w.heap.size := by omega
  obtain ⟨W0, hW0⟩ : ∃ W0, w.alloc (.cells #[.int .i64 0, .int .i64 0, .int .i64 0, .int .i64 0, .int .i64 0, .int .i64 0, .int .i64 0, .int .i64 0] 62) = W0 := ⟨_, rfl⟩
  have b0 : Below w.heap.size w W0 := by rw [← hW0]; exact one_new2 _ _
  have X0 : Hid (BoxAt W0 w.heap.size #[.int .i64 0, .int .i64 0, .int .i64 0, .int .i64 0, .int .i64 0, .int .i64 0, .int .i64 0, .int .i64 0] 62) := Lib.hid (by rw [← hW0]; exact BoxAt.new _ _ _)
  have P0 := Lib.hid (HP.out.below b0)
  have F0 := Lib.hid ((Far.refl g w).below b0 hgl)
  have T0 := Lib.hid (HT.out.far F0.out)
  have G0 := Lib.hid (Far.refl g W0)
  have HW := Lib.hid hW0
  clear hW0 b0
  go_enter Tryd.func115, Tryd.ntmps115
  go_wp2_with fail
  rw [HW.out]
  have HC1 := Lib.hid (fun w HP HT hj => takeNumber_any g i en d tv cv fv ts tClass w HP HT hj hm)
  cases h1 : naP ts i tClass with
  | bad k1 j1 =>
    have RB := Lib.hid ((PR.bind_bad h1).symm.trans R0.out)
    rw [h1] at HC1
    go_wp2_with (go_at_call 163; (with_reducible refine (HC1.out _ P0 T0 hj0).mono ?_); rintro e w1 ⟨rfl, hj1, p, f⟩; have P1 := Lib.hid p; have T1 := Lib.hid (T0.out.far f); have F1 := Lib.hid (F0.out.trans f); have G1 := Lib.hid (G0.out.trans f); clear p; clear f)
    rw [← RB.out]
    exact ⟨rfl, rfl, hj1, P1.out, F1.out⟩
  | ok a j1 =>
    have R1 := Lib.hid ((PR.bind_ok h1).symm.trans R0.out)
    rw [h1] at HC1
    unfold intV at HC1
    go_wp2_with (go_at_call 163; (with_reducible refine (HC1.out _ P0 T0 hj0).mono ?_); rintro e w1 ⟨rfl, hj1, p, f⟩; have P1 := Lib.hid p; have T1 := Lib.hid (T0.out.far f); have F1 := Lib.hid (F0.out.trans f); have G1 := Lib.hid (G0.out.trans f); clear p; clear f)
    have HC2 := Lib.hid (fun w HP HT hj => takeNumber_any g j1 en d tv cv fv ts tRate w HP HT hj hm)
    cases h2 : naP ts j1 tRate with
    | bad k2 j2 =>
      have RB := Lib.hid ((PR.bind_bad h2).symm.trans R1.out)
      rw [h2] at HC2
      go_wp2_with (go_at_call 163; (with_reducible refine (HC2.out _ P1 T1 hj1).mono ?_); rintro e w2 ⟨rfl, hj2, p, f⟩; have P2 := Lib.hid p; have T2 := Lib.hid (T1.out.far f); have F2 := Lib.hid (F1.out.trans f); have G2 := Lib.hid (G1.out.trans f); clear p; clear f)
      rw [← RB.out]
      exact ⟨rfl, rfl, hj2, P2.out, F2.out⟩
    | ok r j2 =>
      have R2 := Lib.hid ((PR.bind_ok h2).symm.trans R1.out)
      rw [h2] at HC2
      unfold intV at HC2
      go_wp2_with (go_at_call 163; (with_reducible refine (HC2.out _ P1 T1 hj1).mono ?_); rintro e w2 ⟨rfl, hj2, p, f⟩; have P2 := Lib.hid p; have T2 := Lib.hid (T1.out.far f); have F2 := Lib.hid (F1.out.trans f); have G2 := Lib.hid (G1.out.trans f); clear p; clear f)
      have HC3 := Lib.hid (fun w HP HT hj => takeNumber_any g j2 en d tv cv fv ts tCeil w HP HT hj hm)
      cases h3 : naP ts j2 tCeil with
      | bad k3 j3 =>
        have RB := Lib.hid ((PR.bind_bad h3).symm.trans R2.out)
        rw [h3] at HC3
        go_wp2_with (go_at_call 163; (with_reducible refine (HC3.out _ P2 T2 hj2).mono ?_); rintro e w3 ⟨rfl, hj3, p, f⟩; have P3 := Lib.hid p; have T3 := Lib.hid (T2.out.far f); have F3 := Lib.hid (F2.out.trans f); have G3 := Lib.hid (G2.out.trans f); clear p; clear f)
        rw [← RB.out]
        exact ⟨rfl, rfl, hj3, P3.out, F3.out⟩
      | ok e1 j3 =>
        have R3 := Lib.hid ((PR.bind_ok h3).symm.trans R2.out)
        rw [h3] at HC3
        unfold intV at HC3
        go_wp2_with (go_at_call 163; (with_reducible refine (HC3.out _ P2 T2 hj2).mono ?_); rintro e w3 ⟨rfl, hj3, p, f⟩; have P3 := Lib.hid p; have T3 := Lib.hid (T2.out.far f); have F3 := Lib.hid (F2.out.trans f); have G3 := Lib.hid (G2.out.trans f); clear p; clear f)
        have HC4 := Lib.hid (fun w HP HT hj => takeNumber_any g j3 en d tv cv fv ts tBurst w HP HT hj hm)
        cases h4 : naP ts j3 tBurst with
        | bad k4 j4 =>
          have RB := Lib.hid ((PR.bind_bad h4).symm.trans R3.out)
          rw [h4] at HC4
          go_wp2_with (go_at_call 163; (with_reducible refine (HC4.out _ P3 T3 hj3).mono ?_); rintro e w4 ⟨rfl, hj4, p, f⟩; have P4 := Lib.hid p; have T4 := Lib.hid (T3.out.far f); have F4 := Lib.hid (F3.out.trans f); have G4 := Lib.hid (G3.out.trans f); clear p; clear f)
          rw [← RB.out]
          exact ⟨rfl, rfl, hj4, P4.out, F4.out⟩
        | ok b j4 =>
          have R4 := Lib.hid ((PR.bind_ok h4).symm.trans R3.out)
          rw [h4] at HC4
          unfold intV at HC4
          go_wp2_with (go_at_call 163; (with_reducible refine (HC4.out _ P3 T3 hj3).mono ?_); rintro e w4 ⟨rfl, hj4, p, f⟩; have P4 := Lib.hid p; have T4 := Lib.hid (T3.out.far f); have F4 := Lib.hid (F3.out.trans f); have G4 := Lib.hid (G3.out.trans f); clear p; clear f)
          have HC5 := Lib.hid (fun w HP HT hj => takeNumber_any g j4 en d tv cv fv ts tCburst w HP HT hj hm)
          cases h5 : naP ts j4 tCburst with
          | bad k5 j5 =>
            have RB := Lib.hid ((PR.bind_bad h5).symm.trans R4.out)
            rw [h5] at HC5
            go_wp2_with (go_at_call 163; (with_reducible refine (HC5.out _ P4 T4 hj4).mono ?_); rintro e w5 ⟨rfl, hj5, p, f⟩; have P5 := Lib.hid p; have T5 := Lib.hid (T4.out.far f); have F5 := Lib.hid (F4.out.trans f); have G5 := Lib.hid (G4.out.trans f); clear p; clear f)
            rw [← RB.out]
            exact ⟨rfl, rfl, hj5, P5.out, F5.out⟩
          | ok u j5 =>
            have R5 := Lib.hid ((PR.bind_ok h5).symm.trans R4.out)
            rw [h5] at HC5
            unfold intV at HC5
            go_wp2_with (go_at_call 163; (with_reducible refine (HC5.out _ P4 T4 hj4).mono ?_); rintro e w5 ⟨rfl, hj5, p, f⟩; have P5 := Lib.hid p; have T5 := Lib.hid (T4.out.far f); have F5 := Lib.hid (F4.out.trans f); have G5 := Lib.hid (G4.out.trans f); clear p; clear f)
            have HC6 := Lib.hid (fun w HP HT hj => takeNumber_any g j5 en d tv cv fv ts tPrio w HP HT hj hm)
            cases h6 : naP ts j5 tPrio with
            | bad k6 j6 =>
              have RB := Lib.hid ((PR.bind_bad h6).symm.trans R5.out)
              rw [h6] at HC6
              go_wp2_with (go_at_call 163; (with_reducible refine (HC6.out _ P5 T5 hj5).mono ?_); rintro e w6 ⟨rfl, hj6, p, f⟩; have P6 := Lib.hid p; have T6 := Lib.hid (T5.out.far f); have F6 := Lib.hid (F5.out.trans f); have G6 := Lib.hid (G5.out.trans f); clear p; clear f)
              rw [← RB.out]
              exact ⟨rfl, rfl, hj6, P6.out, F6.out⟩
            | ok o j6 =>
              have R6 := Lib.hid ((PR.bind_ok h6).symm.trans R5.out)
              rw [h6] at HC6
              unfold intV at HC6
              go_wp2_with (go_at_call 163; (with_reducible refine (HC6.out _ P5 T5 hj5).mono ?_); rintro e w6 ⟨rfl, hj6, p, f⟩; have P6 := Lib.hid p; have T6 := Lib.hid (T5.out.far f); have F6 := Lib.hid (F5.out.trans f); have G6 := Lib.hid (G5.out.trans f); clear p; clear f; have X6 := Lib.hid (X0.out.far G6.out (by omega)); obtain ⟨x0, x1, x2, x3, x4, x5, x6, x7, xf⟩ := box_eights X6.out)
              have RR : Hid (PR.ok (⟨a, p, r, e1, b, u, o, 0⟩ : Cls) j6 = R) := R6
              rw [← RR.out]
              have q0 := (((((((X6.out.set 0 (.int .i64 a)).set 1 (.int .i64 p)).set 2 (.int .i64 r)).set 3 (.int .i64 e1)).set 4 (.int .i64 b)).set 5 (.int .i64 u)).set 6 (.int .i64 o)).set 7 (.int .i64 0)
              have r0 := q0.cell 0
              have r1 := q0.cell 1
              have r2 := q0.cell 2
              have r3 := q0.cell 3
              have r4 := q0.cell 4
              have r5 := q0.cell 5
              have r6 := q0.cell 6
              have r7 := q0.cell 7
              exact bodyPost_ret (v := clsV ⟨a, p, r, e1, b, u, o, 0⟩) (by simp [results, Tryd.results115, go_sem, clsV, r0, r1, r2, r3, r4, r5, r6, r7]) rfl ⟨rfl, hj6, PrAt.eight P6.out hgb _ _ _ _ _ _ _ _, F6.out.eight hgl _ _ _ _ _ _ _ _⟩
set_option maxHeartbeats 6400000 in
theorem readFilter_any (g i : Nat) (en d : Int) (tv cv fv : Value) (ts : List Tok) (w : World) (HP : Hid (PrAt w g tv i en cv fv d)) (HT : Hid (TkB w g tv ts)) (hi : i ≤ ts.length) (hm : ts.length ≤ 1048576) (HFW : Hid (Fwt w)) (hgg : 2 < g) :
    Calls Tryd.prog 108 #[.pointer (some ⟨g, 0, none⟩)] w (SaysR w g tv ts en cv fv d fltV (flP ts i)) := by
  obtain ⟨R, hR⟩ : ∃ R, flP ts i = R := ⟨_, rfl⟩
  rw [hR]
  unfold flP at hR
  have R0 := Lib.hid hR
  clear hR
  have hj0 := hi
  have hgl := HP.out.lt
  have hgb : g ≠ w.heap.size := by omega
  obtain ⟨W0, hW0⟩ : ∃ W0, w.alloc (.cells #[.int .i64 0, .int .i64 0, .int .i64 0, .int .i64 0, .int .i64 0] 77) = W0 := ⟨_, rfl⟩
  have b0 : Below w.heap.size w W0 := by rw [← hW0]; exact one_new2 _ _
  have X0 : Hid (BoxAt W0 w.heap.size #[.int .i64 0, .int .i64 0, .int .i64 0, .int .i64 0, .int .i64 0] 77) := Lib.hid (by rw [← hW0]; exact BoxAt.new _ _ _)
  have P0 := Lib.hid (HP.out.below b0)
  have F0 := Lib.hid ((Far.refl g w).below b0 hgl)
  have T0 := Lib.hid (HT.out.far F0.out)
  have G0 := Lib.hid (Far.refl g W0)
  have HW := Lib.hid hW0
  clear hW0 b0
  have HFW0 := Lib.hid (HFW.out.far0 hgg F0.out)
  go_enter Tryd.func108, Tryd.ntmps108
  go_wp2_with fail
  rw [HW.out]
  have HC1 := Lib.hid (fun w HP HT hj => takeNumber_any g i en d tv cv fv ts tFilter w HP HT hj hm)
  cases h1 : naP ts i tFilter with
  | bad k1 j1 =>
    have RB := Lib.hid ((PR.bind_bad h1).symm.trans R0.out)
    rw [h1] at HC1
    go_wp2_with (go_at_call 163; (with_reducible refine (HC1.out _ P0 T0 hj0).mono ?_); rintro e w1 ⟨rfl, hj1, p, f⟩; have P1 := Lib.hid p; have T1 := Lib.hid (T0.out.far f); have F1 := Lib.hid (F0.out.trans f); have G1 := Lib.hid (G0.out.trans f); clear p; clear f)
    rw [← RB.out]
    exact ⟨rfl, rfl, hj1, P1.out, F1.out⟩
  | ok o j1 =>
    have R1 := Lib.hid ((PR.bind_ok h1).symm.trans R0.out)
    rw [h1] at HC1
    unfold intV at HC1
    go_wp2_with (go_at_call 163; (with_reducible refine (HC1.out _ P0 T0 hj0).mono ?_); rintro e w1 ⟨rfl, hj1, p, f⟩; have P1 := Lib.hid p; have T1 := Lib.hid (T0.out.far f); have F1 := Lib.hid (F0.out.trans f); have G1 := Lib.hid (G0.out.trans f); clear p; clear f)
    have HC2 := Lib.hid (fun w HP HT hj HFW => readField_any g j1 en d tv cv fv ts w HP HT hj hm HFW)
    cases h2 : fdP ts j1 with
    | bad k2 j2 =>
      have RB := Lib.hid ((PR.bind_bad h2).symm.trans R1.out)
      rw [h2] at HC2
      go_wp2_with (go_at_call 164; (with_reducible refine (HC2.out _ P1 T1 hj1 (Lib.hid (HFW.out.far0 hgg F1.out))).mono ?_); rintro e w2 ⟨rfl, hj2, p, f⟩; have P2 := Lib.hid p; have T2 := Lib.hid (T1.out.far f); have F2 := Lib.hid (F1.out.trans f); have G2 := Lib.hid (G1.out.trans f); clear p; clear f)
      rw [← RB.out]
      exact ⟨rfl, rfl, hj2, P2.out, F2.out⟩
    | ok f j2 =>
      have R2 := Lib.hid ((PR.bind_ok h2).symm.trans R1.out)
      rw [h2] at HC2
      unfold intV at HC2
      go_wp2_with (go_at_call 164; (with_reducible refine (HC2.out _ P1 T1 hj1 (Lib.hid (HFW.out.far0 hgg F1.out))).mono ?_); rintro e w2 ⟨rfl, hj2, p, f⟩; have P2 := Lib.hid p; have T2 := Lib.hid (T1.out.far f); have F2 := Lib.hid (F1.out.trans f); have G2 := Lib.hid (G1.out.trans f); clear p; clear f)
      have HC3 := Lib.hid (fun w HP HT hj => takeKind_any g j2 en d 3 tv cv fv ts w HP HT hj hm)
      cases h3 : kdP ts j2 3 with
      | bad k3 j3 =>
        have RB := Lib.hid ((PR.bind_bad h3).symm.trans R2.out)
        rw [h3] at HC3
        go_wp2_with (go_at_call 165; (with_reducible refine (HC3.out _ P2 T2 hj2).mono ?_); rintro e w3 ⟨rfl, hj3, p, f⟩; have P3 := Lib.hid p; have T3 := Lib.hid (T2.out.far f); have F3 := Lib.hid (F2.out.trans f); have G3 := Lib.hid (G2.out.trans f); clear p; clear f)
        rw [← RB.out]
        exact ⟨rfl, rfl, hj3, P3.out, F3.out⟩
      | ok x j3 =>
        have R3 := Lib.hid ((PR.bind_ok h3).symm.trans R2.out)
        rw [h3] at HC3
        unfold tokVV at HC3
        have hfd3 : ∀ w, (Instr.field 32 (.agg #[.int .i64 x.k, .int .i64 x.a, .string x.t, .int .i64 x.v]) 3).run Tryd.prog w = .ok (.int .i64 x.v) w := fun _ => by kernel_rfl
        go_wp2_with (go_at_call 165; (with_reducible refine (HC3.out _ P2 T2 hj2).mono ?_); rintro e w3 ⟨rfl, hj3, p, f⟩; have P3 := Lib.hid p; have T3 := Lib.hid (T2.out.far f); have F3 := Lib.hid (F2.out.trans f); have G3 := Lib.hid (G2.out.trans f); clear p; clear f)
        have HC4 := Lib.hid (fun w HP HT hj => takeNumber_any g j3 en d tv cv fv ts tSlash w HP HT hj hm)
        cases h4 : naP ts j3 tSlash with
        | bad k4 j4 =>
          have RB := Lib.hid ((PR.bind_bad h4).symm.trans R3.out)
          rw [h4] at HC4
          go_wp2_with (go_at_call 163; (with_reducible refine (HC4.out _ P3 T3 hj3).mono ?_); rintro e w4 ⟨rfl, hj4, p, f⟩; have P4 := Lib.hid p; have T4 := Lib.hid (T3.out.far f); have F4 := Lib.hid (F3.out.trans f); have G4 := Lib.hid (G3.out.trans f); clear p; clear f)
          rw [← RB.out]
          exact ⟨rfl, rfl, hj4, P4.out, F4.out⟩
        | ok m j4 =>
          have R4 := Lib.hid ((PR.bind_ok h4).symm.trans R3.out)
          rw [h4] at HC4
          unfold intV at HC4
          go_wp2_with (go_at_call 163; (with_reducible refine (HC4.out _ P3 T3 hj3).mono ?_); rintro e w4 ⟨rfl, hj4, p, f⟩; have P4 := Lib.hid p; have T4 := Lib.hid (T3.out.far f); have F4 := Lib.hid (F3.out.trans f); have G4 := Lib.hid (G3.out.trans f); clear p; clear f)
          have HC5 := Lib.hid (fun w HP HT hj => takeNumber_any g j4 en d tv cv fv ts tArrow w HP HT hj hm)
          cases h5 : naP ts j4 tArrow with
          | bad k5 j5 =>
            have RB := Lib.hid ((PR.bind_bad h5).symm.trans R4.out)
            rw [h5] at HC5
            go_wp2_with (go_at_call 163; (with_reducible refine (HC5.out _ P4 T4 hj4).mono ?_); rintro e w5 ⟨rfl, hj5, p, f⟩; have P5 := Lib.hid p; have T5 := Lib.hid (T4.out.far f); have F5 := Lib.hid (F4.out.trans f); have G5 := Lib.hid (G4.out.trans f); clear p; clear f)
            rw [← RB.out]
            exact ⟨rfl, rfl, hj5, P5.out, F5.out⟩
          | ok t j5 =>
            have R5 := Lib.hid ((PR.bind_ok h5).symm.trans R4.out)
            rw [h5] at HC5
            unfold intV at HC5
            go_wp2_with (go_at_call 163; (with_reducible refine (HC5.out _ P4 T4 hj4).mono ?_); rintro e w5 ⟨rfl, hj5, p, f⟩; have P5 := Lib.hid p; have T5 := Lib.hid (T4.out.far f); have F5 := Lib.hid (F4.out.trans f); have G5 := Lib.hid (G4.out.trans f); clear p; clear f)
            obtain ⟨W5, hW5⟩ : ∃ W5, w5.alloc (.cells #[.int .i64 o, .int .i64 f, .int .i64 m, .int .i64 x.v, .int .i64 t] 77) = W5 := ⟨_, rfl⟩
            have b5 : Below w5.heap.size w5 W5 := by rw [← hW5]; exact one_new2 _ _
            have hg5 : g < w5.heap.size := P5.out.lt
            have Y5 : Hid (BoxAt W5 w5.heap.size #[.int .i64 o, .int .i64 f, .int .i64 m, .int .i64 x.v, .int .i64 t] 77) := Lib.hid (by rw [← hW5]; exact BoxAt.new _ _ _)
            have P5b := Lib.hid (P5.out.below b5)
            have F5b := Lib.hid (F5.out.below b5 P5.out.lt)
            have G5b := Lib.hid (G5.out.below b5 P5.out.lt)
            have T5b := Lib.hid (T5.out.far ((Far.refl g w5).below b5 P5.out.lt))
            have HW5 := Lib.hid hW5
            clear hW5 b5
            rw [HW5.out]
            have HC6 := Lib.hid (fun w HP HT hj => take_any g j5 en d tv cv fv ts tSemi w HP HT hj hm)
            cases h6 : tkP ts j5 tSemi with
            | bad k6 j6 =>
              have RB := Lib.hid ((PR.bind_bad h6).symm.trans R5.out)
              rw [h6] at HC6
              go_wp2_with (go_at_call 166; (with_reducible refine (HC6.out _ P5b T5b hj5).mono ?_); rintro e w6 ⟨rfl, hj6, p, f⟩; have P6 := Lib.hid p; have T6 := Lib.hid (T5b.out.far f); have F6 := Lib.hid (F5b.out.trans f); have G6 := Lib.hid (G5b.out.trans f); clear p; clear f)
              rw [← RB.out]
              exact ⟨rfl, rfl, hj6, P6.out, F6.out⟩
            | ok u j6 =>
              have R6 := Lib.hid ((PR.bind_ok h6).symm.trans R5.out)
              rw [h6] at HC6
              go_wp2_with (go_at_call 166; (with_reducible refine (HC6.out _ P5b T5b hj5).mono ?_); rintro e w6 ⟨rfl, hj6, p, f⟩; have P6 := Lib.hid p; have T6 := Lib.hid (T5b.out.far f); have F6 := Lib.hid (F5b.out.trans f); have G6 := Lib.hid (G5b.out.trans f); clear p; have f0 := f; clear f; have X6 := Lib.hid (X0.out.far G6.out (by omega)); have Y6 := Lib.hid (Y5.out.far ((Far.refl g W5).trans f0) (by omega)); obtain ⟨x0, x1, x2, x3, x4, xf⟩ := box_fives X6.out; obtain ⟨y0, y1, y2, y3, y4, yf⟩ := box_fives Y6.out)
              have RR : Hid (PR.ok (⟨o, f, m, x.v, t⟩ : Flt) j6 = R) := R6
              rw [← RR.out]
              have q0 := ((((X6.out.set 0 (.int .i64 o)).set 1 (.int .i64 f)).set 2 (.int .i64 m)).set 3 (.int .i64 x.v)).set 4 (.int .i64 t)
              have r0 := q0.cell 0
              have r1 := q0.cell 1
              have r2 := q0.cell 2
              have r3 := q0.cell 3
              have r4 := q0.cell 4
              exact bodyPost_ret (v := fltV ⟨o, f, m, x.v, t⟩) (by simp [results, Tryd.results108, go_sem, fltV, r0, r1, r2, r3, r4]) rfl ⟨rfl, hj6, PrAt.five P6.out hgb _ _ _ _ _, F6.out.five hgl _ _ _ _ _⟩
end Go.Proofs.YthpejbdbbofaaaaDoor
