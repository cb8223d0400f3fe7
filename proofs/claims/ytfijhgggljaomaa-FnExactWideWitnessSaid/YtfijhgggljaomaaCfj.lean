/- Marks in lists of classes, of filters, of integers; lists of integers compared. -/
import Derived.Test.YtfijhgggljaomaaCfq
import Derived.Test.YtfijhgggljaomaaCft
namespace Go.Proofs.Ytfijhgggljaomaa
open Go.RowKit
set_option linter.unusedVariables false

theorem markClassS_none (ad : Option Addr) (c : Nat) (k : Int) (w : World) :
    Calls Try.prog 45 #[.slice ad 0 c, .int .i64 k] w (fun e w' => e = .returned (.int .i64 k) ∧ w = w') := by
  go_enter Try.func45, Try.ntmps45
  go_wp2
  refine wp_loop_rounds 1 ?_
  rw [rounds_succ]
  go_wp2
  go_ret
  exact ⟨rfl, rfl⟩
def markClassSRel (w : World) (B g n c : Nat) (k : Int) (a i : Value) (wr : World) : Prop :=
  ∃ (j : Nat) (z : Int) (xs : List Value), j ≤ n ∧ i = .int .i64 j ∧ a = .int .i64 z ∧ z = k + 8 * (j : Int) ∧ wr.ownsRow B 47 8 (.slice (some ⟨g, 0, none⟩) n c) n xs ∧ Below B w wr ∧ Onl w wr (some g)
set_option maxHeartbeats 6400000 in
theorem markClassS_any (v : Value) (B n : Nat) (xs : List Value) (k : Int) (w : World) (HO : Hid (w.ownsRow B 47 8 v n xs)) (hm : n ≤ 1048576) (hk : 0 ≤ k) (hk2 : k ≤ 10000000) :
    Calls Try.prog 45 #[v, .int .i64 k] w (SaysMk w B v (k + 8 * (n : Int))) := by
  have h0 := HO.out
  rcases h0.2 with ⟨rfl, rfl⟩ | ⟨g, c, cur, rfl, hgB, _⟩
  · refine (markClassS_none none 0 k w).mono ?_
    rintro e w' ⟨rfl, rfl⟩
    exact ⟨by simp, Below.refl _ _, fun _ _ => rfl⟩
  · clear h0
    go_enter Try.func45, Try.ntmps45
    go_wp2_with fail
    go_loopw [1, 5] (fun a i wr => markClassSRel w B g n c k a i wr) (fun _ i _ => n - (intOf i).toNat)
    case atStart => exact ⟨0, k, xs, Nat.zero_le _, rfl, rfl, by omega, HO.out, Below.refl _ _, fun _ _ => rfl⟩
    case round =>
      obtain ⟨i, z, xs', hi, rfl, rfl, hz, ho, hb, hnl⟩ := hrel
      have HO1 := Lib.hid ho
      have HB1 := Lib.hid hb
      have HN1 := Lib.hid hnl
      have HZ := Lib.hid hz
      have hz0 : 0 ≤ z := by omega
      have hz1 : z ≤ 20000000 := by omega
      clear ho hb hnl hz
      by_cases hlt : i < n
      · obtain ⟨u0, c0⟩ := own_cell HO1.out (i * 8) (by omega)
        have f0 := World.ownsRow.frozenAt HO1.out (i * 8)
        obtain ⟨u1, c1⟩ := own_cell HO1.out (i * 8 + 1) (by omega)
        have f1 := World.ownsRow.frozenAt HO1.out (i * 8 + 1)
        obtain ⟨u2, c2⟩ := own_cell HO1.out (i * 8 + 2) (by omega)
        have f2 := World.ownsRow.frozenAt HO1.out (i * 8 + 2)
        obtain ⟨u3, c3⟩ := own_cell HO1.out (i * 8 + 3) (by omega)
        have f3 := World.ownsRow.frozenAt HO1.out (i * 8 + 3)
        obtain ⟨u4, c4⟩ := own_cell HO1.out (i * 8 + 4) (by omega)
        have f4 := World.ownsRow.frozenAt HO1.out (i * 8 + 4)
        obtain ⟨u5, c5⟩ := own_cell HO1.out (i * 8 + 5) (by omega)
        have f5 := World.ownsRow.frozenAt HO1.out (i * 8 + 5)
        obtain ⟨u6, c6⟩ := own_cell HO1.out (i * 8 + 6) (by omega)
        have f6 := World.ownsRow.frozenAt HO1.out (i * 8 + 6)
        obtain ⟨u7, c7⟩ := own_cell HO1.out (i * 8 + 7) (by omega)
        have f7 := World.ownsRow.frozenAt HO1.out (i * 8 + 7)
        go_wp2_with fail
        go_roundw
        case rel => exact ⟨i + 1, _, _, by omega, by go_num, rfl, by have := HZ.out; omega, (own_store (own_store (own_store (own_store (own_store (own_store (own_store (own_store HO1.out _ _) _ _) _ _) _ _) _ _) _ _) _ _) _ _), ((((((((HB1.out.setCell hgB _).setCell hgB _).setCell hgB _).setCell hgB _).setCell hgB _).setCell hgB _).setCell hgB _).setCell hgB _), (onl_set (onl_set (onl_set (onl_set (onl_set (onl_set (onl_set (onl_set HN1.out _ _) _ _) _ _) _ _) _ _) _ _) _ _) _ _)⟩
        case measure => simp [intOf]; omega
      · have hz2 : z = k + 8 * (n : Int) := by have := HZ.out; omega
        have HZ2 := Lib.hid hz2
        clear hz2
        go_wp2_with fail
        go_ret
        exact ⟨ret_int HZ2.out, HB1.out, HN1.out⟩
theorem markFilterS_none (ad : Option Addr) (c : Nat) (k : Int) (w : World) :
    Calls Try.prog 46 #[.slice ad 0 c, .int .i64 k] w (fun e w' => e = .returned (.int .i64 k) ∧ w = w') := by
  go_enter Try.func46, Try.ntmps46
  go_wp2
  refine wp_loop_rounds 1 ?_
  rw [rounds_succ]
  go_wp2
  go_ret
  exact ⟨rfl, rfl⟩
def markFilterSRel (w : World) (B g n c : Nat) (k : Int) (a i : Value) (wr : World) : Prop :=
  ∃ (j : Nat) (z : Int) (xs : List Value), j ≤ n ∧ i = .int .i64 j ∧ a = .int .i64 z ∧ z = k + 5 * (j : Int) ∧ wr.ownsRow B 65 5 (.slice (some ⟨g, 0, none⟩) n c) n xs ∧ Below B w wr ∧ Onl w wr (some g)
set_option maxHeartbeats 6400000 in
theorem markFilterS_any (v : Value) (B n : Nat) (xs : List Value) (k : Int) (w : World) (HO : Hid (w.ownsRow B 65 5 v n xs)) (hm : n ≤ 1048576) (hk : 0 ≤ k) (hk2 : k ≤ 10000000) :
    Calls Try.prog 46 #[v, .int .i64 k] w (SaysMk w B v (k + 5 * (n : Int))) := by
  have h0 := HO.out
  rcases h0.2 with ⟨rfl, rfl⟩ | ⟨g, c, cur, rfl, hgB, _⟩
  · refine (markFilterS_none none 0 k w).mono ?_
    rintro e w' ⟨rfl, rfl⟩
    exact ⟨by simp, Below.refl _ _, fun _ _ => rfl⟩
  · clear h0
    go_enter Try.func46, Try.ntmps46
    go_wp2_with fail
    go_loopw [1, 5] (fun a i wr => markFilterSRel w B g n c k a i wr) (fun _ i _ => n - (intOf i).toNat)
    case atStart => exact ⟨0, k, xs, Nat.zero_le _, rfl, rfl, by omega, HO.out, Below.refl _ _, fun _ _ => rfl⟩
    case round =>
      obtain ⟨i, z, xs', hi, rfl, rfl, hz, ho, hb, hnl⟩ := hrel
      have HO1 := Lib.hid ho
      have HB1 := Lib.hid hb
      have HN1 := Lib.hid hnl
      have HZ := Lib.hid hz
      have hz0 : 0 ≤ z := by omega
      have hz1 : z ≤ 20000000 := by omega
      clear ho hb hnl hz
      by_cases hlt : i < n
      · obtain ⟨u0, c0⟩ := own_cell HO1.out (i * 5) (by omega)
        have f0 := World.ownsRow.frozenAt HO1.out (i * 5)
        obtain ⟨u1, c1⟩ := own_cell HO1.out (i * 5 + 1) (by omega)
        have f1 := World.ownsRow.frozenAt HO1.out (i * 5 + 1)
        obtain ⟨u2, c2⟩ := own_cell HO1.out (i * 5 + 2) (by omega)
        have f2 := World.ownsRow.frozenAt HO1.out (i * 5 + 2)
        obtain ⟨u3, c3⟩ := own_cell HO1.out (i * 5 + 3) (by omega)
        have f3 := World.ownsRow.frozenAt HO1.out (i * 5 + 3)
        obtain ⟨u4, c4⟩ := own_cell HO1.out (i * 5 + 4) (by omega)
        have f4 := World.ownsRow.frozenAt HO1.out (i * 5 + 4)
        go_wp2_with fail
        go_roundw
        case rel => exact ⟨i + 1, _, _, by omega, by go_num, rfl, by have := HZ.out; omega, (own_store (own_store (own_store (own_store (own_store HO1.out _ _) _ _) _ _) _ _) _ _), (((((HB1.out.setCell hgB _).setCell hgB _).setCell hgB _).setCell hgB _).setCell hgB _), (onl_set (onl_set (onl_set (onl_set (onl_set HN1.out _ _) _ _) _ _) _ _) _ _)⟩
        case measure => simp [intOf]; omega
      · have hz2 : z = k + 5 * (n : Int) := by have := HZ.out; omega
        have HZ2 := Lib.hid hz2
        clear hz2
        go_wp2_with fail
        go_ret
        exact ⟨ret_int HZ2.out, HB1.out, HN1.out⟩
def SaysMc (w : World) (B : Nat) (vc vf : Value) (r : Int) (e : Ending) (w' : World) : Prop := e = .returned (.int .i64 r) ∧ Below B w w' ∧ ∀ g, g < w.heap.size → vc.ownBlock ≠ some g → vf.ownBlock ≠ some g → w'.heap[g]? = w.heap[g]?
set_option maxHeartbeats 3200000 in
theorem markConfig_any (s : ByteArray) (p f : Option Addr) (n m cc cf : Nat) (d : Int) (B : Nat) (xs ys : List Value) (w : World) (HC : Hid (w.ownsRow B 47 8 (.slice p n cc) n xs)) (HF : Hid (w.ownsRow B 65 5 (.slice f m cf) m ys)) (hd : Hid (∀ g, (Value.slice p n cc).ownBlock = some g → (Value.slice f m cf).ownBlock ≠ some g)) (hB : B ≤ w.heap.size) (hn : n ≤ 1048576) (hm : m ≤ 1048576) :
    Calls Try.prog 16 #[.agg #[.string s, .slice p n cc, .slice f m cf, .int .i64 d], .int .i64 1] w (SaysMc w B (.slice p n cc) (.slice f m cf) (1 + 8 * (n : Int) + 5 * (m : Int))) := by
  have HMC := Lib.hid (fun w HO => markClassS_any (.slice p n cc) B n xs 1 w HO hn (by omega) (by omega))
  have HMF := Lib.hid (fun w HO => markFilterS_any (.slice f m cf) B m ys (1 + 8 * (n : Int)) w HO hm (by omega) (by omega))
  have HLC := Lib.hid (fun g (h : (Value.slice p n cc).ownBlock = some g) => (World.ownsRow.lt HC.out g h).2)
  have hr0 : 0 ≤ 1 + 8 * (n : Int) := by omega
  obtain ⟨r1, hr1⟩ : ∃ r1 : Int, 1 + 8 * (n : Int) = r1 := ⟨_, rfl⟩
  have HR1 := Lib.hid hr1
  rw [hr1] at HMC HMF
  clear hr1 hr0
  go_enter Try.func16, Try.ntmps16
  go_wp2_with (go_at_call 45; refine (HMC.out _ (Lib.hid (own_low HC.out (one_new2 _ _) (Nat.le_refl _)))).mono ?_; rintro e w1 ⟨rfl, b1, o1⟩; have B1 := Lib.hid (((Below.refl B w).alloc hB _).trans b1); have O1 := Lib.hid o1; have hbx := cell_heap (o1 w.heap.size (fun q => absurd (HLC.out _ q) (Nat.lt_irrefl _))) 2; clear b1 o1; refine Hid.out ?_)
  refine Lib.hid ?_
  have hbx2 : w1.cell? ⟨w.heap.size, 2, none⟩ = some (.slice f m cf) := by rw [hbx]; simp [go_sem]
  have HF1 := Lib.hid (own_onl (own_low HF.out (one_new2 w (Obj.cells #[.string s, .slice p n cc, .slice f m cf, .int .i64 d] 33)) (Nat.le_refl _)) O1.out (fun g h q => hd.out g q h))
  clear hbx
  go_wp2_with (go_at_call 46; refine (HMF.out _ HF1).mono ?_; rintro e w2 ⟨rfl, b2, o2⟩; have B2 := Lib.hid (B1.out.trans b2); have O2 := Lib.hid o2; clear b2 o2)
  go_ret
  exact ⟨ret_int (by rw [← HR1.out]), B2.out, fun g hg h1 h2 => (O2.out g h2).trans ((O1.out g h1).trans (heap_alloc_lt w _ g hg))⟩
end Go.Proofs.Ytfijhgggljaomaa
