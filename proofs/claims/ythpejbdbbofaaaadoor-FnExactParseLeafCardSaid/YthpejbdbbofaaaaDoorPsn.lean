/- The parser's parts, the model's: number, named, limit, done. -/
import Derived.Test.YthpejbdbbofaaaaDoorPsm
namespace Go.Proofs.YthpejbdbbofaaaaDoor
set_option maxRecDepth 100000
open Go.RowKit
set_option linter.unusedVariables false
set_option linter.unusedSimpArgs false

set_option maxHeartbeats 3200000 in
theorem number_any (g i : Nat) (en : Int) (tv nm cv fv df d : Value) (ts : List Tok) (w : World) (HP : Hid (StAt w g tv i en nm cv fv df d 0 0)) (HT : Hid (TkB w g tv ts)) (hi : i ≤ ts.length) (hm : ts.length ≤ 1048576) :
    Calls Tryd.prog 160 #[.pointer (some ⟨g, 0, none⟩)] w (SaysS w g tv ts en nm cv fv df d intV (nuP ts i)) := by
  have HF := Lib.hid (fun w HP HT => fail_any g i en 2 tv nm cv fv df d ts w HP HT hi hm)
  obtain ⟨c0, c1, c2, c8, c9, fz⟩ := HP.out.cells
  by_cases h : i < ts.length
  · obtain ⟨x, hx⟩ : ∃ x, ts.getD i tok0 = x := ⟨_, rfl⟩
    have hq := kdP_in (k := 3) h hx
    obtain ⟨b, c, rfl, hb, y0, y1, y2, y3⟩ := HT.out.get h hx
    obtain ⟨n, hn⟩ : ∃ n, ts.length = n := ⟨_, rfl⟩
    rw [hn] at c0 h hm hi HF HP HT ⊢
    have d1 : decide ((n : Int) ≤ (i : Int)) = false := not_le (by omega)
    by_cases hk : x.k = 3
    · rw [if_pos hk] at hq
      have hR : nuP ts i = .ok x.v (i + 1) := PR.bind_ok hq
      rw [hR]
      have d2 : (x.k != 3) = false := by simp [hk]
      have f1 := fz 1
      have e1 : IntKind.i64.wrap (i : Int) = i := IntWalk.i64_in _ (by omega)
      have HFA := Lib.hid (fun q => ((Far.refl g w).drewN q).store 1 (.int .i64 ((i : Int) + 1)))
      have HPN := Lib.hid (fun q => StAt.next (w := w.drewN q) HP.out (i + 1))
      clear c2 c8 c9 hR hx hq
      go_enter Tryd.func160, Tryd.ntmps160
      go_wp2_with fail
      go_quiet (fail)
      go_wp2_with fail
      obtain ⟨W1, hW1⟩ : ∃ W1, (w.drewN nq).setCell ⟨g, 1, none⟩ (.int .i64 ((i : Int) + 1)) = W1 := ⟨_, rfl⟩
      rw [hW1]
      have F1 : Hid (Far g w W1) := Lib.hid (by rw [← hW1]; exact HFA.out nq)
      have P1 : Hid (StAt W1 g (.slice (some ⟨b, 0, none⟩) n c) (i + 1) en nm cv fv df d 0 0) := Lib.hid (by rw [← hW1]; exact HPN.out nq)
      have far : ∀ o, W1.cell? ⟨b, o, none⟩ = w.cell? ⟨b, o, none⟩ := fun o => by rw [← hW1]; exact World.cell?_setCell_far _ ⟨g, 1, none⟩ ⟨b, o, none⟩ _ (by show g ≠ b; omega)
      have Y3 := (far (i * 4 + 3)).trans y3
      obtain ⟨C0, C1, _⟩ := P1.out.cells
      have C1' : W1.cell? ⟨g, 1, none⟩ = some (.int .i64 ((i : Int) + 1)) := C1
      clear c0 c1 y0 y1 y2 y3 hW1 far C1 fz f1 HFA HPN
      go_quiet (fail)
      go_wp2
      exact bodyPost_ret (v := .tuple #[intV x.v, .bool true]) (by simp [results, Tryd.results160, go_sem, intV]) rfl ⟨rfl, by omega, P1.out, F1.out.drewN _⟩
    · rw [if_neg hk] at hq
      have hR : nuP ts i = .bad 2 i := PR.bind_bad hq
      rw [hR]
      have d2 : (x.k != 3) = true := by simp [hk]
      clear hx hq hR
      go_enter Tryd.func160, Tryd.ntmps160
      go_wp2_with fail
      go_quiet (fail)
      go_wp2_with (go_at_call 159; refine (HF.out _ (show Hid (StAt (w.drewN nq) g _ i en nm cv fv df d 0 0) from HP) (show Hid (TkB (w.drewN nq) g _ ts) from HT)).mono ?_; rintro e w2 ⟨rfl, hj, hs, hf⟩; have S2 := Lib.hid hs; have F2 := Lib.hid hf; clear hs hf)
      exact bodyPost_ret (v := .tuple #[.int .i64 0, .bool false]) (by simp [results, Tryd.results160, go_sem]) rfl ⟨⟨_, rfl⟩, by omega, S2.out, ((Far.refl g w).drewN nq).trans F2.out⟩
  · have hq := kdP_end (k := 3) (Nat.le_of_not_lt h)
    have hR : nuP ts i = .bad 2 i := PR.bind_bad hq
    rw [hR]
    obtain ⟨a, c, rfl⟩ := HT.out.form
    obtain ⟨n, hn⟩ : ∃ n, ts.length = n := ⟨_, rfl⟩
    rw [hn] at c0 h hm hi HF HP HT ⊢
    have d1 : decide ((n : Int) ≤ (i : Int)) = true := is_le (by omega)
    clear hq hR
    go_enter Tryd.func160, Tryd.ntmps160
    go_wp2_with fail
    go_quiet (fail)
    go_wp2_with (go_at_call 159; refine (HF.out _ (show Hid (StAt (w.drewN nq) g _ i en nm cv fv df d 0 0) from HP) (show Hid (TkB (w.drewN nq) g _ ts) from HT)).mono ?_; rintro e w2 ⟨rfl, hj, hs, hf⟩; have S2 := Lib.hid hs; have F2 := Lib.hid hf; clear hs hf)
    exact bodyPost_ret (v := .tuple #[.int .i64 0, .bool false]) (by simp [results, Tryd.results160, go_sem]) rfl ⟨⟨_, rfl⟩, by omega, S2.out, ((Far.refl g w).drewN nq).trans F2.out⟩
set_option maxHeartbeats 1600000 in
theorem named_any (g i : Nat) (en : Int) (tv nm cv fv df d : Value) (ts : List Tok) (t : ByteArray) (w : World) (HP : Hid (StAt w g tv i en nm cv fv df d 0 0)) (HT : Hid (TkB w g tv ts)) (hi : i ≤ ts.length) (hm : ts.length ≤ 1048576) (HG : Hid (GoodN ts)) (ht : Hid (t ∈ kwA ++ sgA)) :
    Calls Tryd.prog 156 #[.pointer (some ⟨g, 0, none⟩), .string t] w (SaysS w g tv ts en nm cv fv df d intV (naP ts i t)) := by
  have HK := Lib.hid (fun w HP HT => stake_any g i en tv nm cv fv df d ts t w HP HT hi hm HG ht)
  obtain ⟨R, hR⟩ : ∃ R, naP ts i t = R := ⟨_, rfl⟩
  rw [hR]
  unfold naP at hR
  have R0 := Lib.hid hR
  clear hR
  cases h : tkP ts i t with
  | bad k j =>
    have RB := Lib.hid ((PR.bind_bad h).symm.trans R0.out)
    rw [h] at HK
    rw [← RB.out]
    clear h R0 RB
    go_enter Tryd.func156, Tryd.ntmps156
    go_wp2_with (go_at_call 161; refine (HK.out _ HP HT).mono ?_; rintro e w1 ⟨rfl, hj, s1, f1⟩; have S1 := Lib.hid s1; have F1 := Lib.hid f1; clear s1 f1)
    exact bodyPost_ret (v := .tuple #[.int .i64 0, .bool false]) (by simp [results, Tryd.results156, go_sem]) rfl ⟨⟨_, rfl⟩, hj, S1.out, F1.out⟩
  | ok u j =>
    have R1 := Lib.hid ((PR.bind_ok h).symm.trans R0.out)
    rw [h] at HK
    have HN := Lib.hid (fun w HP HT hj => number_any g j en tv nm cv fv df d ts w HP HT hj hm)
    cases h2 : nuP ts j with
    | bad k2 j2 =>
      have RB : Hid (PR.bad k2 j2 = R) := Lib.hid (h2.symm.trans R1.out)
      rw [h2] at HN
      rw [← RB.out]
      clear h h2 R0 R1 RB
      go_enter Tryd.func156, Tryd.ntmps156
      go_wp2_with (first | (go_at_call 161; (with_reducible refine (HK.out _ HP HT).mono ?_); rintro e w1 ⟨rfl, hj, s1, f1⟩; have S1 := Lib.hid s1; have F1 := Lib.hid f1; clear s1 f1) | (go_at_call 160; (with_reducible refine (HN.out _ S1 (Lib.hid (HT.out.far F1.out)) hj).mono ?_); rintro e w2 ⟨⟨v, rfl⟩, hj2, s2, f2⟩; have S2 := Lib.hid s2; have F2 := Lib.hid f2; clear s2 f2))
      exact bodyPost_ret (v := .tuple #[intV v, .bool false]) (by simp [results, Tryd.results156, go_sem, intV]) rfl ⟨⟨_, rfl⟩, hj2, S2.out, F1.out.trans F2.out⟩
    | ok x j2 =>
      have RB : Hid (PR.ok x j2 = R) := Lib.hid (h2.symm.trans R1.out)
      rw [h2] at HN
      rw [← RB.out]
      clear h h2 R0 R1 RB
      go_enter Tryd.func156, Tryd.ntmps156
      go_wp2_with (first | (go_at_call 161; (with_reducible refine (HK.out _ HP HT).mono ?_); rintro e w1 ⟨rfl, hj, s1, f1⟩; have S1 := Lib.hid s1; have F1 := Lib.hid f1; clear s1 f1) | (go_at_call 160; (with_reducible refine (HN.out _ S1 (Lib.hid (HT.out.far F1.out)) hj).mono ?_); rintro e w2 ⟨rfl, hj2, s2, f2⟩; have S2 := Lib.hid s2; have F2 := Lib.hid f2; clear s2 f2))
      exact bodyPost_ret (v := .tuple #[intV x, .bool true]) (by simp [results, Tryd.results156, go_sem, intV]) rfl ⟨rfl, hj2, S2.out, F1.out.trans F2.out⟩
end Go.Proofs.YthpejbdbbofaaaaDoor
