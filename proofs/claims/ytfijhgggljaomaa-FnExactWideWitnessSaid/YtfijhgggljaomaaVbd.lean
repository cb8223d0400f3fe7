/- Chapter 8's witnesses: WideWitness, the program's. -/
import Derived.Test.YtfijhgggljaomaaVbc
import Derived.Test.YtfijhgggljaomaaVbb
namespace Go.Proofs.Ytfijhgggljaomaa
open Go.RowKit
set_option linter.unusedVariables false
set_option maxRecDepth 100000

def W3Rel (w : World) (o n : Nat) (i : Value) (wr : World) : Prop :=
  ∃ (k : Nat) (v : Value), 1 ≤ k ∧ k ≤ n ∧ i = .int .i64 ((k : Int) + 1) ∧ Wsp w o ⟨#[119, 105, 100, 101]⟩ 0 wr v k (clsCs (wwL n k)) (.slice none 0 0) 0 []
theorem wwL_one (n : Nat) : clsCs (wwL n 1) = #[.int .i64 1, .int .i64 0, .int .i64 (10 * ((n : Int) - 1)), .int .i64 (10 * ((n : Int) - 1)), .int .i64 1500, .int .i64 1500, .int .i64 0, .int .i64 0].toList := by
  simp [wwL, wwc, clsCs, clsC, List.range, List.range.loop]
set_option maxHeartbeats 12800000 in
theorem implWideWitness_any (a : Int) (w : World) :
    Calls Try.prog 31 #[.int .i64 a] w (SaysCB w (resWideWitness1 a) (resWideWitness2 a)) := by
  have HIN := Lib.hid (fun w => isIn_any a 2 24 w)
  have Z0 := Lib.hid (zer_one w 33)
  have B0 := Lib.hid (one_new2 w (.cells #[.string ⟨#[]⟩, .slice none 0 0, .slice none 0 0, .int .i64 0] 33))
  unfold resWideWitness1 resWideWitness2
  cases hi0 : inB a 2 24
  · rw [hi0] at HIN
    clear hi0
    go_enter Try.func31, Try.ntmps31
    go_wp2_with (go_at_call 62; refine (HIN.out _).mono ?_; rintro e w9 ⟨rfl, rfl⟩)
    exact bodyPost_ret (v := .tuple #[zV, .bool false]) (by simp [results, Try.results31, go_sem, zV]) rfl ⟨_, rfl, own_zV _ _, B0.out⟩
  · have hab := inBR_iff.1 hi0
    obtain ⟨n, rfl⟩ : ∃ n : Nat, a = n := ⟨a.toNat, by omega⟩
    have hn1 : 2 ≤ n := by omega
    have hn8 : n ≤ 24 := by omega
    rw [hi0] at HIN
    obtain ⟨i0, hi, hz0, hz1, hz2⟩ := info_parts infoCls
    obtain ⟨j0, hj, hy0, hy1, hy2⟩ := info_parts infoFlt
    rw [if_pos rfl, Int.toNat_natCast]
    have HPC0 := Lib.hid (fun w => plainClass_any 1 0 (10 * ((n : Int) - 1)) w)
    unfold clsV at HPC0
    simp only at HPC0
    have wk1 : IntKind.i64.wrap ((n : Int) - 1) = (n : Int) - 1 := IntWalk.i64_in _ (by omega)
    have wk2 : IntKind.i64.wrap (10 * ((n : Int) - 1)) = 10 * ((n : Int) - 1) := IntWalk.i64_in _ (by omega)
    have hmin : (if (17 : Int) < (n : Int) then (17 : Int) else (n : Int)) = ((m17 n : Nat) : Int) := by unfold m17; split <;> split <;> omega
    clear hi0 hab
    go_enter Try.func31, Try.ntmps31
    go_wp2_with (go_at_call 62; refine (HIN.out _).mono ?_; rintro e w9 ⟨rfl, rfl⟩)
    go_wp2_with (go_at_call 63; refine (HPC0.out _).mono ?_; rintro e w1 ⟨rfl, b1⟩; have B1 := Lib.hid b1; clear b1)
    have hs1 : w.heap.size + 1 ≤ w1.heap.size := by have := B1.out.size; simpa using this
    have BW1 := Lib.hid (B0.out.trans (B1.out.mono B0.out.size))
    have U1 := Lib.hid (one_new2 w1 (.cells #[.int .i64 1, .int .i64 0, .int .i64 (10 * ((n : Int) - 1)), .int .i64 (10 * ((n : Int) - 1)), .int .i64 1500, .int .i64 1500, .int .i64 0, .int .i64 0] 47))
    have U2 := Lib.hid (one_new2 (w1.alloc (.cells #[.int .i64 1, .int .i64 0, .int .i64 (10 * ((n : Int) - 1)), .int .i64 (10 * ((n : Int) - 1)), .int .i64 1500, .int .i64 1500, .int .i64 0, .int .i64 0] 47)) (.cells #[.string ⟨#[119, 105, 100, 101]⟩, .slice (some ⟨w1.heap.size, 0, none⟩) 1 1, .slice none 0 0, .int .i64 0] 33))
    have HD : Hid (∀ g, (Value.slice (some ⟨w1.heap.size, 0, none⟩) 1 1).ownBlock = some g → g ≠ w1.heap.size + 1 ∧ (Value.slice none 0 0).ownBlock ≠ some g) := Lib.hid (fun g h => by
      have h1 : w1.heap.size = g := by simpa [Value.ownBlock] using h
      exact ⟨by omega, by simp [Value.ownBlock]⟩)
    go_loopw [5] (fun i wr => W3Rel w (w1.heap.size + 1) n i wr) (fun i _ => n + 1 - (intOf i).toNat)
    case atStart => exact ⟨1, .slice (some ⟨w1.heap.size, 0, none⟩) 1 1, Nat.le_refl _, by omega, rfl, ((Z0.out.on B1.out).on U1.out).on U2.out, by have := (box_four (Below.refl _ ((w1.alloc (.cells #[.int .i64 1, .int .i64 0, .int .i64 (10 * ((n : Int) - 1)), .int .i64 (10 * ((n : Int) - 1)), .int .i64 1500, .int .i64 1500, .int .i64 0, .int .i64 0] 47)).alloc (.cells #[.string ⟨#[119, 105, 100, 101]⟩, .slice (some ⟨w1.heap.size, 0, none⟩) 1 1, .slice none 0 0, .int .i64 0] 33)))).1; simpa using this, by have := FroB.new (w1.alloc (.cells #[.int .i64 1, .int .i64 0, .int .i64 (10 * ((n : Int) - 1)), .int .i64 (10 * ((n : Int) - 1)), .int .i64 1500, .int .i64 1500, .int .i64 0, .int .i64 0] 47)) #[.string ⟨#[119, 105, 100, 101]⟩, .slice (some ⟨w1.heap.size, 0, none⟩) 1 1, .slice none 0 0, .int .i64 0] 33; simpa using this, by rw [wwL_one]; exact World.ownsRow.alloc (World.ownsRow_lit w1 #[.int .i64 1, .int .i64 0, .int .i64 (10 * ((n : Int) - 1)), .int .i64 (10 * ((n : Int) - 1)), .int .i64 1500, .int .i64 1500, .int .i64 0, .int .i64 0] 1 hs1 (by unfold maxLen; omega) rfl) _, World.ownsRow_nil _ _ _ _, HD.out, fun g h => (by cases h), by omega, BW1.out.trans ((U1.out.trans (U2.out.mono U1.out.size)).mono BW1.out.size)⟩
    case round =>
      obtain ⟨k, v, hk1, hk, rfl, hs⟩ := hrel
      have HS := Lib.hid hs
      have hsz := hs.2.2.2.2.2.2.2.2.size
      have hg1 : w1.heap.size + 1 < wr.heap.size := hs.2.1.2.2.2.2
      obtain ⟨ad, cO, rfl, _⟩ := own_in hs.2.2.2.1
      by_cases hlt : k < n
      · have dk := is_le (show (k : Int) + 1 ≤ (n : Int) by omega)
        have hl : ¬ k = 0 := by omega
        have HPC := Lib.hid (fun w => plainClass_any ((k : Int) + 1) 1 10 w)
        unfold clsV at HPC
        simp only at HPC
        have HN : Hid (clsCs (wwL n (k + 1)) = clsCs (wwL n k) ++ #[.int .i64 ((k : Int) + 1), .int .i64 1, .int .i64 10, .int .i64 10, .int .i64 1500, .int .i64 1500, .int .i64 0, .int .i64 1].toList) := Lib.hid (by rw [wwL_more]; unfold wwc clsC; rw [if_neg hl])
        clear hs hl
        go_wp2_with (go_at_call 63; (with_reducible refine (HPC.out _).mono ?_); rintro e w3 ⟨rfl, b3⟩; have S0 := Lib.hid (HS.out.on b3); have S1 := Lib.hid (S0.out.on (one_new2 w3 (.cells #[.int .i64 ((k : Int) + 1), .int .i64 1, .int .i64 10, .int .i64 10, .int .i64 1500, .int .i64 1500, .int .i64 0, .int .i64 1] 47))); have SY := Lib.hid (S1.out.on (one_new2 (w3.alloc (.cells #[.int .i64 ((k : Int) + 1), .int .i64 1, .int .i64 10, .int .i64 10, .int .i64 1500, .int .i64 1500, .int .i64 0, .int .i64 1] 47)) (.cells #[.int .i64 ((k : Int) + 1), .int .i64 1, .int .i64 10, .int .i64 10, .int .i64 1500, .int .i64 1500, .int .i64 0, .int .i64 1] 47))); have f1 := S0.out.2.1.2.1; have hs3 : w1.heap.size + 1 < w3.heap.size := S0.out.2.1.2.2.2.2; clear b3; refine Hid.out ?_)
        refine Lib.hid ?_
        go_wp2_with (at_builtin; refine wpList_append_own_at _ rfl _ _ 30 rfl (w.heap.size + 1) 47 i0 (.agg #[.int .i64 0, .int .i64 0, .int .i64 0, .int .i64 0, .int .i64 0, .int .i64 0, .int .i64 0, .int .i64 0]) 8 64 Try.underlying30 hi hz0 hz1 hz2 rfl (by decide) (.slice ad k cO) k (clsCs (wwL n k)) rfl (World.ownsRow.alloc S1.out.2.2.2.1 _) ⟨w3.heap.size + 1, 0, none⟩ 1 1 #[.int .i64 ((k : Int) + 1), .int .i64 1, .int .i64 10, .int .i64 10, .int .i64 1500, .int .i64 1500, .int .i64 0, .int .i64 1].toList rfl rfl (new_row (w3.alloc (.cells #[.int .i64 ((k : Int) + 1), .int .i64 1, .int .i64 10, .int .i64 10, .int .i64 1500, .int .i64 1500, .int .i64 0, .int .i64 1] 47)) _ _ _ (by simp)) (by intro u hu; simp only [List.mem_cons, List.not_mem_nil, or_false] at hu; rcases hu with rfl | rfl | rfl | rfl | rfl | rfl | rfl | rfl <;> rfl) (by unfold maxLen; omega) (by omega) (by simp; omega) ?_; intro v' wA hown1 hgrow1 _ hat; obtain ⟨fA, rA⟩ := SY.out.midc hgrow1; obtain ⟨a', c', hv', _⟩ := own_in hown1; have SA := Lib.hid (SY.out.cls (k' := k + 1) (X' := clsCs (wwL n (k + 1))) (by rw [HN.out]; exact hown1) hgrow1 hat); obtain ⟨g0, g1, g2, g3, _⟩ := fA; have r1 := rA 1; subst hv'; clear hown1 hgrow1 hat rA)
        go_roundw
        case rel => exact ⟨k + 1, _, by omega, by omega, by go_num, SA.out⟩
        case measure => simp [intOf]; omega
      · have hkn : k = n := by omega
        subst hkn
        have dk := not_le (show (k : Int) < (k : Int) + 1 by omega)
        clear hs
        go_wp2_with fail
        go_loopw [7] (fun i wr => W2Rel w (w1.heap.size + 1) k (.slice ad k cO) i wr) (fun i _ => m17 k + 1 - (intOf i).toNat)
        case atStart => exact ⟨0, .slice none 0 0, Nat.zero_le _, rfl, HS.out⟩
        case round =>
          have hm17 := m17_le k
          have hm2 : 2 ≤ m17 k := by unfold m17; split <;> omega
          clear HS hsz hg1
          obtain ⟨j, vf, hj2, rfl, hs⟩ := hrel
          have HS := Lib.hid hs
          have hsz := hs.2.2.2.2.2.2.2.2.size
          obtain ⟨af, cF, rfl, _⟩ := own_in hs.2.2.2.2.1
          by_cases hlt : j < m17 k - 1
          · have dk := is_le (show (j : Int) + 2 ≤ ((m17 k : Nat) : Int) by omega)
            have HN : Hid (fltCs (wfL (j + 1)) = fltCs (wfL j) ++ #[.int .i64 ((j : Int) + 2 - 1), .int .i64 2, .int .i64 65535, .int .i64 ((j : Int) + 2), .int .i64 ((j : Int) + 2)].toList) := Lib.hid (by rw [wfL_more]; rfl)
            have SY := Lib.hid (HS.out.on (one_new2 wr (.cells #[.int .i64 ((j : Int) + 2 - 1), .int .i64 2, .int .i64 65535, .int .i64 ((j : Int) + 2), .int .i64 ((j : Int) + 2)] 65)))
            have f2 := HS.out.2.1.2.2.1
            clear hs
            go_wp2_with ((at_builtin; refine wpList_append_own_at _ rfl _ _ 31 rfl (w.heap.size + 1) 65 j0 (.agg #[.int .i64 0, .int .i64 0, .int .i64 0, .int .i64 0, .int .i64 0]) 5 40 Try.underlying31 hj hy0 hy1 hy2 rfl (by decide) (.slice af j cF) j (fltCs (wfL j)) rfl (World.ownsRow.alloc HS.out.2.2.2.2.1 _) ⟨wr.heap.size, 0, none⟩ 1 1 #[.int .i64 ((j : Int) + 2 - 1), .int .i64 2, .int .i64 65535, .int .i64 ((j : Int) + 2), .int .i64 ((j : Int) + 2)].toList rfl rfl (new_row wr _ _ _ (by simp)) (by intro u hu; simp only [List.mem_cons, List.not_mem_nil, or_false] at hu; rcases hu with rfl | rfl | rfl | rfl | rfl <;> rfl) (by unfold maxLen; omega) (by omega) (by simp; omega) ?_; intro v' wA hown1 hgrow1 _ hat; obtain ⟨fA, rA⟩ := SY.out.midf hgrow1; obtain ⟨a', c', hv', _⟩ := own_in hown1; have SA := Lib.hid (SY.out.flt (j' := j + 1) (Y' := fltCs (wfL (j + 1))) (by rw [HN.out]; exact hown1) hgrow1 hat); obtain ⟨g0, g1, g2, g3, _⟩ := fA; have r1 := rA 2; subst hv'; clear hown1 hgrow1 hat rA))
            go_roundw
            case rel => exact ⟨j + 1, _, by omega, by go_num, SA.out⟩
            case measure => simp [intOf]; omega
          · have hjm : j = m17 k - 1 := by omega
            have HJM := Lib.hid hjm
            have dk := not_le (show ((m17 k : Nat) : Int) < (j : Int) + 2 by omega)
            obtain ⟨z0, z1, z2, z3, _⟩ := HS.out.2.1
            obtain ⟨⟨x0, x1, x2, x3, _⟩, x4⟩ := HS.out.1
            have y0 := x4 0
            have y1 := x4 1
            have y2 := x4 2
            have y3 := x4 3
            clear x4 hs hjm
            go_wp2_with fail
            obtain ⟨r0, r1, r2, r3⟩ := read4 HS.out.1.four (.string ⟨#[119, 105, 100, 101]⟩) (.slice ad k cO) (.slice af j cF) (.int .i64 0) _ rfl
            have OC : Hid (OwnCfg wr (w.heap.size + 1) (.agg #[.string ⟨#[119, 105, 100, 101]⟩, .slice ad k cO, .slice af j cF, .int .i64 0]) (wide k)) := Lib.hid ⟨_, _, rfl, by show World.ownsRow _ _ _ _ _ (wwL k k).length (clsCs (wwL k k)); rw [wwL_len]; exact HS.out.2.2.2.1, by show World.ownsRow _ _ _ _ _ (wfL (m17 k - 1)).length (fltCs (wfL (m17 k - 1))); rw [wfL_len, ← HJM.out]; exact HS.out.2.2.2.2.1, fun g h => (HS.out.2.2.2.2.2.1 g h).2⟩
            exact bodyPost_ret (v := .tuple #[(.agg #[.string ⟨#[119, 105, 100, 101]⟩, .slice ad k cO, .slice af j cF, .int .i64 0]), .bool true]) (by simp [results, Try.results31, go_sem, r0, r1, r2, r3]) rfl ⟨_, rfl, (OC.out.set4 (by omega) _ _ _ _).base (by omega), set4 HS.out.2.2.2.2.2.2.2.2 _ (Nat.le_refl _) _ _ _ _⟩
end Go.Proofs.Ytfijhgggljaomaa
