/- Attributes marked and held: what the laws write into rows of attributes. -/
import Derived.Test.YtgnobmmlmmbfcaaAte
import Derived.Test.YtgnobmmlmmbfcaaOni
import Derived.Laws.BytesArg
import Derived.Deep.RegionWith
namespace Go.Proofs.Ytgnobmmlmmbfcaa
open Go.RowKit
set_option linter.unusedVariables false
set_option maxRecDepth 100000

/-- a text, memory made -/
def SaysT (w : World) (s : ByteArray) (e : Ending) (w' : World) : Prop := e = .returned (.string s) ∧ Below w.heap.size w w'
/-- the digits of a number in front of a text -/
def mtF : Nat → Nat → ByteArray → ByteArray
  | 0, _, o => o
  | f + 1, k, o => if k = 0 then o else mtF f (k / 10) (strOfNums [48 + ((k % 10 : Nat) : Int)] ++ o)
/-- the text that marks with a number -/
def mtS (k : Nat) : ByteArray := (⟨#[109]⟩ : ByteArray) ++ mtF k k ⟨#[]⟩
theorem conv_any (w : World) (z : Int) : (convert 47 9 (.slice (some ⟨w.heap.size, 0, none⟩) 1 1)).run Try.prog (w.alloc (.cells #[.int .u8 z] 5)) = .ok (.string (strOfNums [z])) (w.alloc (.cells #[.int .u8 z] 5)) :=
  run_convert_bytes_arg (w.alloc (.cells #[.int .u8 z] 5)) 47 5 Try.underlying47 Try.underlying5 w.heap.size 0 1 1 [z] rfl
    (fun i hi => by
      obtain rfl : i = 0 := by omega
      rw [World.cell?_alloc_at _ _ _ _ rfl]
      rfl) 9 Try.underlying9
theorem str_one (z : Int) : (strOfNums [z]).size = 1 := by rw [strOfNums_size]; rfl
theorem ret_str {a b : ByteArray} (h : a = b) : Ending.returned (.string a) = .returned (.string b) := by rw [h]
def MtRelB (w : World) (R : ByteArray) (i o : Value) (wr : World) : Prop := ∃ (f : Nat) (k : Int) (t : ByteArray), 0 ≤ k ∧ k.toNat ≤ f ∧ i = .int .i64 k ∧ o = .string t ∧ t.size + k ≤ 9000000 ∧ Hid (mtF f k.toNat t = R) ∧ Below w.heap.size w wr
set_option maxHeartbeats 1600000 in
theorem markText_big (K : Int) (h1 : 1 ≤ K) (h9 : K ≤ 9000000) (w : World) :
    Calls Try.prog 13 #[.int .i64 K] w (SaysT w (mtS K.toNat)) := by
  obtain ⟨R, hR⟩ : ∃ R, mtF K.toNat K.toNat ⟨#[]⟩ = R := ⟨_, rfl⟩
  have H0 := Lib.hid hR
  have hS : mtS K.toNat = (⟨#[109]⟩ : ByteArray) ++ R := by unfold mtS; rw [hR]
  rw [hS]
  clear hR hS
  have d0 := not_le (show (0 : Int) < K by omega)
  go_enter Try.func13, Try.ntmps13
  go_wp2_with fail
  go_loopw [0, 3] (fun i o wr => MtRelB w R i o wr) (fun i _ _ => (intOf i).toNat)
  case atStart => exact ⟨K.toNat, K, ⟨#[]⟩, by omega, Nat.le_refl _, rfl, rfl, (by show ((0 : Nat) : Int) + K ≤ 9000000; omega), H0, Below.refl _ _⟩
  case round =>
    obtain ⟨f, k, t, k0, hf, rfl, rfl, ht, HG, hb⟩ := hrel
    have HB := Lib.hid hb
    clear hb
    have hts : t.size ≤ 9000000 := by omega
    rcases Int.lt_or_eq_of_le k0 with hk | hk
    · obtain ⟨f', rfl⟩ : ∃ f', f = f' + 1 := ⟨f - 1, by omega⟩
      have HX : Hid (mtF f' (k.toNat / 10) (strOfNums [48 + ((k.toNat % 10 : Nat) : Int)] ++ t) = R) := Lib.hid (by rw [← HG.out]; conv => rhs; rw [mtF, if_neg (show ¬ k.toNat = 0 by omega)])
      have q9 : k ≤ 9000000 := by omega
      have hd : ((k.toNat % 10 : Nat) : Int) = k % 10 := by omega
      have hd2 : k.toNat / 10 = (k / 10).toNat := by omega
      have hd0 : 0 ≤ k % 10 := by omega
      have hd9 : k % 10 ≤ 9 := by omega
      have hq0 : 0 ≤ k / 10 := by omega
      have hlt : k / 10 + 1 ≤ k := by omega
      rw [hd, hd2] at HX
      have dk := is_lt hk
      have cv := conv_any
      have hz := str_one (48 + k % 10)
      clear hd hd2
      go_wp2_with fail
      go_roundw
      case rel => exact ⟨f', k / 10, strOfNums [48 + k % 10] ++ t, hq0, by omega, rfl, rfl, by rw [ByteArray.size_append, hz]; omega, HX, HB.out.alloc HB.out.size _⟩
      case measure => simp [intOf]; omega
    · have HX : Hid (t = R) := Lib.hid (by rw [← HG.out, ← hk]; cases f <;> simp [mtF])
      subst hk
      go_wp2_with fail
      go_ret
      exact ⟨ret_str (by rw [HX.out]), HB.out⟩
/-- the attribute that marks -/
def mkAt (k : Nat) : At := ⟨4 * (k : Int) + 1, 4 * (k : Int) + 2, decide ((4 * (k : Int) + 3) % 3 = 0), mtS (4 * (k : Int) + 4).toNat⟩
def mkAs (n : Nat) : List At := (List.range n).map mkAt
theorem mkAs_length (n : Nat) : (mkAs n).length = n := by simp [mkAs]
theorem mkAs_get (n k : Nat) (h : k < n) : gA (mkAs n) k = mkAt k := by simp [gA, mkAs, List.getD_eq_getElem?_getD, h]
def Apart (w w' : World) (g : Nat) : Prop := w.heap.size ≤ w'.heap.size ∧ ∀ g', g' < w.heap.size → g' ≠ g → w'.heap[g']? = w.heap[g']?
theorem Apart.refl (w : World) (g : Nat) : Apart w w g := ⟨Nat.le_refl _, fun _ _ _ => rfl⟩
theorem Apart.set {w w1 : World} {g : Nat} (h : Apart w w1 g) (j : Nat) (v : Value) : Apart w (w1.setCell ⟨g, j, none⟩ v) g :=
  ⟨by simpa using h.1, fun g' h1 h2 => by rw [Go.Deep.blk_setCell_other _ _ _ _ h2]; exact h.2 g' h1 h2⟩
theorem Apart.call {w w1 w2 : World} {g : Nat} (h : Apart w w1 g) (b : Below w1.heap.size w1 w2) : Apart w w2 g :=
  ⟨Nat.le_trans h.1 b.size, fun g' h1 h2 => by rw [b.block g' (Nat.lt_of_lt_of_le h1 h.1)]; exact h.2 g' h1 h2⟩
def SaysMA (w : World) (B : Nat) (v : Value) (n : Nat) (e : Ending) (w' : World) : Prop := e = .returned (.int .i64 (4 * (n : Int) + 1)) ∧ w'.ownsRow B 35 4 v n (atCs (mkAs n)) ∧ Below B w w' ∧ ∀ g, g < w.heap.size → v.ownBlock ≠ some g → w'.heap[g]? = w.heap[g]?
def MaRel (w : World) (B g n c : Nat) (m i : Value) (wr : World) : Prop :=
  ∃ (k : Nat) (q : Int) (xs : List Value), k ≤ n ∧ i = .int .i64 k ∧ m = .int .i64 q ∧ Hid (q = 4 * (k : Int) + 1) ∧ 1 ≤ q ∧ q ≤ 4194305 ∧ wr.ownsRow B 35 4 (.slice (some ⟨g, 0, none⟩) n c) n xs ∧ Below B w wr ∧ Apart w wr g ∧ GotX (atCs (mkAs n)) xs (k * 4)
theorem markAttrS_none (ad : Option Addr) (c : Nat) (w : World) :
    Calls Try.prog 8 #[.slice ad 0 c, .int .i64 1] w (fun e w' => e = .returned (.int .i64 1) ∧ w = w') := by
  go_enter Try.func8, Try.ntmps8
  go_wp2
  refine wp_loop_rounds 1 ?_
  rw [rounds_succ]
  go_wp2
  go_ret
  exact ⟨rfl, rfl⟩
set_option maxHeartbeats 6400000 in
theorem markAttrS_any (v : Value) (B n : Nat) (xs : List Value) (w : World) (HO : Hid (w.ownsRow B 35 4 v n xs)) (hm : n ≤ 1048576) :
    Calls Try.prog 8 #[v, .int .i64 1] w (SaysMA w B v n) := by
  have h0 := HO.out
  rcases h0.2 with ⟨rfl, rfl⟩ | ⟨g, c, cur, rfl, hgB, _⟩
  · refine (markAttrS_none none 0 w).mono ?_
    rintro e w' ⟨rfl, rfl⟩
    exact ⟨by simp, ⟨by simp [mkAs, atCs], .inl ⟨rfl, rfl⟩⟩, Below.refl _ _, fun _ _ _ => rfl⟩
  · clear h0
    go_enter Try.func8, Try.ntmps8
    go_wp2_with fail
    go_loopw [1, 5] (fun m i wr => MaRel w B g n c m i wr) (fun _ i _ => n - (intOf i).toNat)
    case atStart => exact ⟨0, 1, xs, Nat.zero_le _, rfl, rfl, Lib.hid (by omega), by omega, by omega, HO.out, Below.refl _ _, Apart.refl _ _, fun j hj => absurd hj (by omega)⟩
    case round =>
      obtain ⟨k, q, xs', hk, rfl, rfl, HQ, hq1, hq2, ho, hb, ha, hg⟩ := hrel
      have HO1 := Lib.hid ho
      have HB1 := Lib.hid hb
      have HA1 := Lib.hid ha
      have HG := Lib.hid hg
      have hgs := (World.ownsRow.lt ho g rfl).2
      have hxl := ho.1
      clear ho hb ha hg
      by_cases hlt : k < n
      · have hq3 : q ≤ 4194301 := by have := HQ.out; omega
        obtain ⟨u0, c0⟩ := own_cell HO1.out (k * 4) (by omega)
        have f0 := World.ownsRow.frozenAt HO1.out (k * 4)
        obtain ⟨u1, c1⟩ := own_cell HO1.out (k * 4 + 1) (by omega)
        have f1 := World.ownsRow.frozenAt HO1.out (k * 4 + 1)
        obtain ⟨u2, c2⟩ := own_cell HO1.out (k * 4 + 2) (by omega)
        have f2 := World.ownsRow.frozenAt HO1.out (k * 4 + 2)
        obtain ⟨T, hT⟩ : ∃ T, mtS (q + 1 + 1 + 1).toNat = T := ⟨_, rfl⟩
        obtain ⟨b, hbb⟩ : ∃ b, ((q + 1 + 1) % 3 == 0) = b := ⟨_, rfl⟩
        have HMT := Lib.hid (fun w => markText_big (q + 1 + 1 + 1) (by omega) (by omega) w)
        rw [hT] at HMT
        have HX : Hid (gA (mkAs n) k = ⟨q, q + 1, b, T⟩) := Lib.hid (by
          rw [mkAs_get n k hlt, ← hT, ← hbb]
          have e := HQ.out
          unfold mkAt
          subst e
          congr 1 <;> first | omega | (rw [Bool.eq_iff_iff]; simp; omega) | (congr 2; omega))
        clear hT
        go_wp2_with (go_at_call 13; refine (HMT.out _).mono ?_; rintro e w1 ⟨rfl, b1⟩; have B1 := Lib.hid b1; have O2 := Lib.hid (own_low (own_store (own_store (own_store HO1.out (k * 4) (.int .i64 q)) (k * 4 + 1) (.int .i64 (q + 1))) (k * 4 + 2) (.bool b)) b1 (Nat.le_refl _)); obtain ⟨u3, c3⟩ := own_cell O2.out (k * 4 + 3) (by omega); have f3 := World.ownsRow.frozenAt O2.out (k * 4 + 3); clear b1)
        go_roundw
        case rel => exact ⟨k + 1, q + 1 + 1 + 1 + 1, _, by omega, by go_num, rfl, Lib.hid (by have := HQ.out; omega), by omega, by omega, own_store O2.out _ _, ((((HB1.out.setCell hgB _).setCell hgB _).setCell hgB _).trans (B1.out.mono (by simp; omega))).setCell hgB _, ((((HA1.out.set _ _).set _ _).set _ _).call B1.out).set _ _, got_at HG.out hxl hlt (mkAs_length n) _ HX.out⟩
        case measure => simp [intOf]; omega
      · have hkn : k = n := by omega
        subst hkn
        have hx : xs' = atCs (mkAs k) := got_all (ys := atCs (mkAs k)) (xs := xs') (by rw [atCs_length, mkAs_length]; exact HG.out) (by rw [atCs_length, mkAs_length]; exact hxl)
        go_wp2_with fail
        go_ret
        exact ⟨ret_int (by have := HQ.out; omega), by rw [← hx]; exact HO1.out, HB1.out, fun g' h1 h2 => HA1.out.2 g' h1 (fun e => h2 (by rw [e]; rfl))⟩
def HaRel (w : World) (n : Nat) (m i : Value) (wr : World) : Prop := ∃ (k : Nat) (q : Int), k ≤ n ∧ i = .int .i64 k ∧ m = .int .i64 q ∧ Hid (q = 4 * (k : Int) + 1) ∧ 1 ≤ q ∧ q ≤ 4194305 ∧ Below w.heap.size w wr
theorem heldAttrS_none (ad : Option Addr) (c : Nat) (w : World) :
    Calls Try.prog 9 #[.slice ad 0 c, .int .i64 1] w (fun e w' => e = .returned (.int .i64 1) ∧ w = w') := by
  go_enter Try.func9, Try.ntmps9
  go_wp2
  refine wp_loop_rounds 1 ?_
  rw [rounds_succ]
  go_wp2
  go_ret
  exact ⟨rfl, rfl⟩
set_option maxHeartbeats 6400000 in
theorem heldAttrS_any (v : Value) (B n : Nat) (w : World) (HO : Hid (w.ownsRow B 35 4 v n (atCs (mkAs n)))) (hm : n ≤ 1048576) :
    Calls Try.prog 9 #[v, .int .i64 1] w (fun e w' => e = .returned (.int .i64 (4 * (n : Int) + 1)) ∧ Below w.heap.size w w') := by
  have h0 := HO.out
  rcases h0.2 with ⟨rfl, rfl⟩ | ⟨g, c, cur, rfl, hgB, _⟩
  · refine (heldAttrS_none none 0 w).mono ?_
    rintro e w' ⟨rfl, rfl⟩
    exact ⟨by simp, Below.refl _ _⟩
  · clear h0
    obtain ⟨ad, c', e, hi⟩ := own_in HO.out
    cases e
    have HI := Lib.hid hi
    clear hi
    go_enter Try.func9, Try.ntmps9
    go_wp2_with fail
    go_loopw [1, 5] (fun m i wr => HaRel w n m i wr) (fun _ i _ => n - (intOf i).toNat)
    case atStart => exact ⟨0, 1, Nat.zero_le _, rfl, rfl, Lib.hid (by omega), by omega, by omega, Below.refl _ _⟩
    case round =>
      obtain ⟨k, q, hk, rfl, rfl, HQ, hq1, hq2, hb⟩ := hrel
      have HB1 := Lib.hid hb
      by_cases hlt : k < n
      · have hq3 : q ≤ 4194301 := by have := HQ.out; omega
        obtain ⟨g', e', ht, hg⟩ := HI.out (by omega)
        cases e'
        obtain ⟨T, hT⟩ : ∃ T, mtS (q + 1 + 1 + 1).toNat = T := ⟨_, rfl⟩
        obtain ⟨b, hbb⟩ : ∃ b, ((q + 1 + 1) % 3 == 0) = b := ⟨_, rfl⟩
        have HMT := Lib.hid (fun w => markText_big (q + 1 + 1 + 1) (by omega) (by omega) w)
        rw [hT] at HMT
        have HX : gA (mkAs n) k = ⟨q, q + 1, b, T⟩ := by
          rw [mkAs_get n k hlt, ← hT, ← hbb]
          have e := HQ.out
          unfold mkAt
          subst e
          congr 1 <;> first | omega | (rw [Bool.eq_iff_iff]; simp; omega) | (congr 2; omega)
        obtain ⟨a0, a1, a2, a3⟩ := (ht.below hb hg).atr k (by rw [mkAs_length]; exact hlt) _ HX
        simp only at a0 a1 a2 a3
        have dbb : (b == ((q + 1 + 1) % 3 == 0)) = true := by rw [hbb]; simp
        clear hb ht HX hT
        go_wp2_with fail
        have a3' : wr.drew.cell? ⟨g, k * 4 + 3, none⟩ = some (.string T) := a3
        go_region_with (go_at_call 13; refine (HMT.out _).mono ?_; rintro e w1 ⟨rfl, b1⟩; have B1 := Lib.hid b1; have c3 : w1.cell? ⟨g, k * 4 + 3, none⟩ = some (.string T) := (b1.cell (p := ⟨g, k * 4 + 3, none⟩) (World.block_lt_of_cell? _ _ a3')).trans a3'; clear b1)
        all_goals
          go_wp2
          go_roundw
          case rel => exact ⟨k + 1, q + 1 + 1 + 1 + 1, by omega, by go_num, rfl, Lib.hid (by have := HQ.out; omega), by omega, by omega, (show Below w.heap.size w wr.drew from below_drewN HB1.out 1).trans (B1.out.mono (show w.heap.size ≤ wr.heap.size from HB1.out.size))⟩
          case measure => simp [intOf]; omega
      · go_wp2_with fail
        go_ret
        exact ⟨ret_int (by have := HQ.out; omega), HB1.out⟩
end Go.Proofs.Ytgnobmmlmmbfcaa
