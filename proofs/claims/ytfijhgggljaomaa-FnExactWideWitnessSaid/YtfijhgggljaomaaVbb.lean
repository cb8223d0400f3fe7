/- Chapter 8's witnesses: WitnessOf, the program's. -/
import Derived.Test.YtfijhgggljaomaaVba
import Derived.Test.YtfijhgggljaomaaBxw
import Derived.Deep.RegionLaw
namespace Go.Proofs.Ytfijhgggljaomaa
open Go.RowKit
set_option linter.unusedVariables false
set_option maxRecDepth 100000

set_option maxHeartbeats 1600000 in
theorem plainClass_any (a b r : Int) (w : World) :
    Calls Try.prog 63 #[.int .i64 a, .int .i64 b, .int .i64 r] w (SaysV w (clsV ⟨a, b, r, r, 1500, 1500, 0, 0⟩)) := by
  go_enter Try.func63, Try.ntmps63
  go_wp2_with fail
  exact bodyPost_ret (v := clsV ⟨a, b, r, r, 1500, 1500, 0, 0⟩) (by simp [results, Try.results63, go_sem, clsV]) rfl ⟨rfl, one_new2 _ _⟩
def wp (n k : Nat) : Cls := ⟨(k : Int) + 1, k, 100 * ((n : Int) + 1 - ((k : Int) + 1)), 100 * ((n : Int) + 1 - ((k : Int) + 1)), 1500, 1500, 0, 0⟩
def wpL (n k : Nat) : List Cls := (List.range k).map (wp n)
theorem wpL_more (n k : Nat) : clsCs (wpL n (k + 1)) = clsCs (wpL n k) ++ clsC (wp n k) := by
  unfold wpL
  rw [List.range_succ, List.map_append, clsCs_append]
  simp [clsCs]
theorem wpL_len (n k : Nat) : (wpL n k).length = k := by simp [wpL]
theorem wpL_last (n : Nat) (h : 1 ≤ n) : (clsCs (wpL n n)).set ((n - 1) * 8 + 7) (.int .i64 1) = clsCs (wcL n n) := by
  rw [clsCs_set _ _ _ (by rw [wpL_len]; omega)]
  congr 1
  apply List.ext_getElem?
  intro j
  have hl : (wpL n n).length = n := wpL_len n n
  by_cases hj : j < n
  · have h1 : (wpL n n)[j]? = some (wp n j) := by unfold wpL; simp [hj]
    have h2 : (wcL n n)[j]? = some (wc n j) := by unfold wcL; simp [hj]
    rw [h2]
    by_cases e : n - 1 = j
    · subst e
      rw [List.getElem?_set_self (by rw [hl]; omega), List.getD_eq_getElem?_getD, h1]
      unfold wp wc
      rw [if_pos (by omega)]
      rfl
    · rw [List.getElem?_set_ne e, h1]
      unfold wp wc
      rw [if_neg (by omega)]
  · rw [List.getElem?_eq_none (by rw [List.length_set, hl]; omega), List.getElem?_eq_none (by rw [wcL_len]; omega)]
def WpRel (w : World) (n : Nat) (i : Value) (wr : World) : Prop :=
  ∃ (k : Nat) (v : Value), k ≤ n ∧ i = .int .i64 ((k : Int) + 1) ∧ Zer wr w.heap.size ∧ FourIs wr (w.heap.size + 1) (.string ⟨#[100, 101, 101, 112]⟩) v (.slice none 0 0) (.int .i64 (n : Int)) ∧ FroB wr (w.heap.size + 1) ∧ wr.ownsRow (w.heap.size + 2) 47 8 v k (clsCs (wpL n k)) ∧ Below w.heap.size w wr
set_option maxHeartbeats 12800000 in
theorem implWitnessOf_any (a : Int) (w : World) :
    Calls Try.prog 28 #[.int .i64 a] w (SaysCB w (resWitnessOf1 a) (resWitnessOf2 a)) := by
  have HIN := Lib.hid (fun w => isIn_any a 1 8 w)
  have Z0 := Lib.hid (zer_one w 33)
  have B0 := Lib.hid (one_new2 w (.cells #[.string ⟨#[]⟩, .slice none 0 0, .slice none 0 0, .int .i64 0] 33))
  unfold resWitnessOf1 resWitnessOf2
  cases hi0 : inB a 1 8
  · rw [hi0] at HIN
    obtain ⟨⟨x0, x1, x2, x3, _⟩, x4⟩ := Z0.out
    have y0 := x4 0
    have y1 := x4 1
    have y2 := x4 2
    have y3 := x4 3
    clear x4 hi0
    go_enter Try.func28, Try.ntmps28
    go_wp2_with (go_at_call 62; refine (HIN.out _).mono ?_; rintro e w9 ⟨rfl, rfl⟩)
    exact bodyPost_ret (v := .tuple #[zV, .bool false]) (by simp [results, Try.results28, go_sem, zV]) rfl ⟨_, rfl, own_zV _ _, B0.out⟩
  · have hab := inBR_iff.1 hi0
    obtain ⟨n, rfl⟩ : ∃ n : Nat, a = n := ⟨a.toNat, by omega⟩
    have hn1 : 1 ≤ n := by omega
    have hn8 : n ≤ 8 := by omega
    rw [hi0] at HIN
    obtain ⟨i0, hi, hz0, hz1, hz2⟩ := info_parts infoCls
    rw [if_pos rfl, Int.toNat_natCast]
    have U0 := Lib.hid (one_new2 (w.alloc (.cells #[.string ⟨#[]⟩, .slice none 0 0, .slice none 0 0, .int .i64 0] 33)) (.cells #[.string ⟨#[100, 101, 101, 112]⟩, .slice none 0 0, .slice none 0 0, .int .i64 (n : Int)] 33))
    clear hi0 hab
    go_enter Try.func28, Try.ntmps28
    go_wp2_with (go_at_call 62; refine (HIN.out _).mono ?_; rintro e w9 ⟨rfl, rfl⟩)
    go_loopw [5] (fun i wr => WpRel w n i wr) (fun i _ => n + 1 - (intOf i).toNat)
    case atStart => exact ⟨0, .slice none 0 0, Nat.zero_le _, rfl, Z0.out.on U0.out, by have := (box_four (Below.refl _ ((w.alloc (.cells #[.string ⟨#[]⟩, .slice none 0 0, .slice none 0 0, .int .i64 0] 33)).alloc (.cells #[.string ⟨#[100, 101, 101, 112]⟩, .slice none 0 0, .slice none 0 0, .int .i64 (n : Int)] 33)))).1; simpa using this, by have := FroB.new (w.alloc (.cells #[.string ⟨#[]⟩, .slice none 0 0, .slice none 0 0, .int .i64 0] 33)) #[.string ⟨#[100, 101, 101, 112]⟩, .slice none 0 0, .slice none 0 0, .int .i64 (n : Int)] 33; simpa using this, World.ownsRow_nil _ _ _ _, two_new _ _ _⟩
    case round =>
      obtain ⟨k, v, hk, rfl, hz, hf, hfr, ho, hb⟩ := hrel
      have HB := Lib.hid hb
      have HO := Lib.hid ho
      have HF := Lib.hid hf
      have HR := Lib.hid hfr
      have HZ := Lib.hid hz
      have hg1 : w.heap.size + 1 < wr.heap.size := hf.2.2.2.2
      obtain ⟨ad, cO, rfl, _⟩ := own_in ho
      by_cases hlt : k < n
      · have dk := is_le (show (k : Int) + 1 ≤ (n : Int) by omega)
        have HN : Hid (clsCs (wpL n (k + 1)) = clsCs (wpL n k) ++ #[.int .i64 ((k : Int) + 1), .int .i64 (k : Int), .int .i64 (100 * ((n : Int) + 1 - ((k : Int) + 1))), .int .i64 (100 * ((n : Int) + 1 - ((k : Int) + 1))), .int .i64 1500, .int .i64 1500, .int .i64 0, .int .i64 0].toList) := Lib.hid (by rw [wpL_more]; rfl)
        have HPC := Lib.hid (fun w => plainClass_any ((k : Int) + 1) (k : Int) (100 * ((n : Int) + 1 - ((k : Int) + 1))) w)
        unfold clsV at HPC
        simp only at HPC
        have f1 := HF.out.2.1
        have wk0 : IntKind.i64.wrap (k : Int) = (k : Int) := IntWalk.i64_in _ (by omega)
        have wk1 : IntKind.i64.wrap ((n : Int) + 1) = (n : Int) + 1 := IntWalk.i64_in _ (by omega)
        have wk2 : IntKind.i64.wrap ((n : Int) + 1 - ((k : Int) + 1)) = (n : Int) + 1 - ((k : Int) + 1) := IntWalk.i64_in _ (by omega)
        have wk3 : IntKind.i64.wrap (100 * ((n : Int) + 1 - ((k : Int) + 1))) = 100 * ((n : Int) + 1 - ((k : Int) + 1)) := IntWalk.i64_in _ (by omega)
        clear hz hf hfr ho hb
        go_wp2_with fail
        go_region_law (first | (refine step_append_ax _ rfl (.tmp 18) (.tmp 28) 30 rfl (w.heap.size + 2) 47 i0 (.agg #[.int .i64 0, .int .i64 0, .int .i64 0, .int .i64 0, .int .i64 0, .int .i64 0, .int .i64 0, .int .i64 0]) 8 64 Try.underlying30 hi hz0 hz1 hz2 rfl (by decide) (.slice ad k cO) k (clsCs (wpL n k)) (by rfl) (World.ownsRow.alloc HO3.out _) ⟨w3.heap.size, 0, none⟩ 1 1 #[.int .i64 ((k : Int) + 1), .int .i64 (k : Int), .int .i64 (100 * ((n : Int) + 1 - ((k : Int) + 1))), .int .i64 (100 * ((n : Int) + 1 - ((k : Int) + 1))), .int .i64 1500, .int .i64 1500, .int .i64 0, .int .i64 0].toList (by rfl) rfl (new_row w3 _ _ _ (by simp)) (by intro u hu; simp only [List.mem_cons, List.not_mem_nil, or_false] at hu; rcases hu with rfl | rfl | rfl | rfl | rfl | rfl | rfl | rfl <;> rfl) (by unfold maxLen; omega) (by omega) (by simp; omega) ?_; intro v' wA hown1 hgrow1; have BA := Lib.hid ((Below.refl (w.heap.size + 2) (w3.alloc (.cells #[.int .i64 ((k : Int) + 1), .int .i64 (k : Int), .int .i64 (100 * ((n : Int) + 1 - ((k : Int) + 1))), .int .i64 (100 * ((n : Int) + 1 - ((k : Int) + 1))), .int .i64 1500, .int .i64 1500, .int .i64 0, .int .i64 0] 47))).grown hgrow1 (by simp; omega) (fun g h => (World.ownsRow.lt HOY.out g h).1)); obtain ⟨a', c', hv', _⟩ := own_in hown1; have OA := Lib.hid hown1; have FA := Lib.hid (four_low FY.out BA.out (by omega)); have RA := Lib.hid (fro_low RY.out BA.out (by omega)); have ZA := Lib.hid (zer_low ZY.out BA.out (by omega)); subst hv'; obtain ⟨g0, g1, g2, g3, _⟩ := FA.out; have r1 := RA.out 1; clear hown1 hgrow1) | (go_simp; go_at_call 63; (with_reducible refine (HPC.out _).mono ?_); rintro e w3 ⟨rfl, b3⟩; have B3 : Hid (Below wr.heap.size wr w3) := Lib.hid ((below_drewN (Below.refl _ wr) 1).trans b3); have HO3 := Lib.hid (own_low HO.out B3.out (Nat.le_refl _)); have BY := Lib.hid (B3.out.trans ((one_new2 w3 (.cells #[.int .i64 ((k : Int) + 1), .int .i64 (k : Int), .int .i64 (100 * ((n : Int) + 1 - ((k : Int) + 1))), .int .i64 (100 * ((n : Int) + 1 - ((k : Int) + 1))), .int .i64 1500, .int .i64 1500, .int .i64 0, .int .i64 0] 47)).mono B3.out.size)); have hs3 := B3.out.size; have FY := Lib.hid (HF.out.on BY.out); have RY := Lib.hid (HR.out.on BY.out hg1); have ZY := Lib.hid (HZ.out.on BY.out); have HOY := Lib.hid (World.ownsRow.alloc HO3.out (.cells #[.int .i64 ((k : Int) + 1), .int .i64 (k : Int), .int .i64 (100 * ((n : Int) + 1 - ((k : Int) + 1))), .int .i64 (100 * ((n : Int) + 1 - ((k : Int) + 1))), .int .i64 1500, .int .i64 1500, .int .i64 0, .int .i64 0] 47)); have f3 := (HF.out.on B3.out).2.1; have f4 := FY.out.2.1; clear b3; (try dsimp only)))
        all_goals
          (try go_simp)
          go_wp2
          go_roundw
          case rel => exact ⟨k + 1, _, by omega, by go_num, ZA.out.set (by omega) _, FA.out.set1 _, RA.out.set _ _, wit_far (by rw [HN.out]; exact OA.out) (fun g h => by have := (World.ownsRow.lt OA.out g h).1; omega) _, (HB.out.trans ((BY.out.mono HB.out.size).trans (BA.out.mono (by omega)))).setCell (p := ⟨w.heap.size + 1, 1, none⟩) (by show w.heap.size ≤ w.heap.size + 1; omega) _⟩
          case measure => simp [intOf]; omega
      · have hkn : k = n := by omega
        subst hkn
        have dk := not_le (show (k : Int) < (k : Int) + 1 by omega)
        obtain ⟨ad2, c2, hv2, hin2⟩ := own_in ho
        cases hv2
        obtain ⟨g, rfl, _, hgl⟩ := hin2 (by omega)
        have hgB : w.heap.size + 2 ≤ g := (World.ownsRow.lt HO.out g rfl).1
        obtain ⟨u7, c7⟩ := own_cell HO.out ((k - 1) * 8 + 7) (by omega)
        have r7 := World.ownsRow.frozenAt HO.out ((k - 1) * 8 + 7)
        have dk2 : (0 : Int) ≤ (k : Int) - 1 := by omega
        have dk5 : (1 : Int) ≤ (k : Int) := by omega
        have dk3 : (k : Int) - 1 < (k : Int) := by omega
        have dk4 : ((k : Int) - 1).toNat = k - 1 := by omega
        have dk1 : IntKind.i64.wrap ((k : Int) - 1) = (k : Int) - 1 := IntWalk.i64_in _ (by omega)
        have n5 : ¬ w.heap.size = g := by omega
        have n6 : ¬ g = w.heap.size := by omega
        have n7 : ¬ g = w.heap.size + 1 := by omega
        have n8 : ¬ w.heap.size + 1 = g := by omega
        have F2 := Lib.hid (wit_four_far HF.out (g := g) (j := (k - 1) * 8 + 7) (by omega) (.int .i64 1))
        have Z2 : Hid (Zer (wr.setCell ⟨g, (k - 1) * 8 + 7, none⟩ (.int .i64 1)) w.heap.size) := Lib.hid (HZ.out.set (by omega) _)
        have O2 : Hid ((wr.setCell ⟨g, (k - 1) * 8 + 7, none⟩ (.int .i64 1)).ownsRow (w.heap.size + 2) 47 8 (.slice (some ⟨g, 0, none⟩) k cO) k (clsCs (wcL k k))) := Lib.hid (by rw [← wpL_last k hn1]; exact own_store HO.out _ _)
        have B2 : Hid (Below w.heap.size w (wr.setCell ⟨g, (k - 1) * 8 + 7, none⟩ (.int .i64 1))) := Lib.hid (HB.out.setCell (p := ⟨g, (k - 1) * 8 + 7, none⟩) (by show w.heap.size ≤ g; omega) _)
        obtain ⟨f0, f1, f2, f3, _⟩ := HF.out
        obtain ⟨z0, z1, z2, z3, _⟩ := F2.out
        obtain ⟨⟨x0, x1, x2, x3, _⟩, x4⟩ := Z2.out
        have y0 := x4 0
        have y1 := x4 1
        have y2 := x4 2
        have y3 := x4 3
        clear x4 hz hf hfr ho hb hin2
        go_wp2_with fail
        obtain ⟨r0, r1, r2, r3⟩ := read4 Z2.out.four (.string ⟨#[100, 101, 101, 112]⟩) (.slice (some ⟨g, 0, none⟩) k cO) (.slice none 0 0) (.int .i64 (k : Int)) _ rfl
        have OC : Hid (OwnCfg (wr.setCell ⟨g, (k - 1) * 8 + 7, none⟩ (.int .i64 1)) (w.heap.size + 2) (.agg #[.string ⟨#[100, 101, 101, 112]⟩, .slice (some ⟨g, 0, none⟩) k cO, .slice none 0 0, .int .i64 (k : Int)]) (wit k)) := Lib.hid ⟨_, _, rfl, by show World.ownsRow _ _ _ _ _ (wcL k k).length (clsCs (wcL k k)); rw [wcL_len]; exact O2.out, World.ownsRow_nil _ _ _ _, fun g h h' => by cases h'⟩
        exact bodyPost_ret (v := .tuple #[(.agg #[.string ⟨#[100, 101, 101, 112]⟩, .slice (some ⟨g, 0, none⟩) k cO, .slice none 0 0, .int .i64 (k : Int)]), .bool true]) (by simp [results, Try.results28, go_sem, r0, r1, r2, r3]) rfl ⟨_, rfl, (OC.out.set4 (by omega) _ _ _ _).base (by omega), set4 B2.out _ (Nat.le_refl _) _ _ _ _⟩
end Go.Proofs.Ytfijhgggljaomaa
