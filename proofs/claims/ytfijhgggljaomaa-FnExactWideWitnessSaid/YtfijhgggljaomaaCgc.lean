/- Marks in lists of classes and of filters that are known afterwards; marks held; both for configurations. -/
import Derived.Test.YtfijhgggljaomaaCfj
namespace Go.Proofs.Ytfijhgggljaomaa
open Go.RowKit
set_option linter.unusedVariables false

def mkG (k : Int) (n : Nat) : List Value := (List.range n).map (fun j : Nat => Value.int .i64 (k + (j : Int)))
theorem mkG_length (k : Int) (n : Nat) : (mkG k n).length = n := by simp [mkG]
theorem mkG_val {k x : Int} {n j : Nat} (h : j < n) (hx : x = k + (j : Int)) : (mkG k n)[j]? = some (Value.int .i64 x) := by subst hx; simp [mkG, h]
theorem got_set {ys xs : List Value} {m : Nat} {v : Value} (h : GotX ys xs m) (hm : m < xs.length) (hv : ys[m]? = some v) : GotX ys (xs.set m v) (m + 1) := fun j hj => by
  rcases Nat.lt_succ_iff_lt_or_eq.1 hj with q | q
  · rw [List.getElem?_set_ne (by omega)]; exact h j q
  · subst q; rw [List.getElem?_set_self (by omega), hv]
def SaysMx (w : World) (B : Nat) (T : TypeId) (z : Nat) (v : Value) (n : Nat) (k : Int) (e : Ending) (w' : World) : Prop := e = .returned (.int .i64 (k + (z : Int) * (n : Int))) ∧ w'.ownsRow B T z v n (mkG k (n * z)) ∧ Below B w w' ∧ Onl w w' v.ownBlock
def markClassSKel (w : World) (B g n c : Nat) (k : Int) (a i : Value) (wr : World) : Prop :=
  ∃ (j : Nat) (z : Int) (xs : List Value), j ≤ n ∧ i = .int .i64 j ∧ a = .int .i64 z ∧ z = k + 8 * (j : Int) ∧ wr.ownsRow B 47 8 (.slice (some ⟨g, 0, none⟩) n c) n xs ∧ Below B w wr ∧ Onl w wr (some g) ∧ GotX (mkG k (n * 8)) xs (j * 8)
set_option maxHeartbeats 6400000 in
theorem markClassS_all (v : Value) (B n : Nat) (xs : List Value) (k : Int) (w : World) (HO : Hid (w.ownsRow B 47 8 v n xs)) (hm : n ≤ 1048576) (hk : 0 ≤ k) (hk2 : k ≤ 10000000) :
    Calls Try.prog 45 #[v, .int .i64 k] w (SaysMx w B 47 8 v n k) := by
  have h0 := HO.out
  rcases h0.2 with ⟨rfl, rfl⟩ | ⟨g, c, cur, rfl, hgB, _⟩
  · refine (markClassS_none none 0 k w).mono ?_
    rintro e w' ⟨rfl, rfl⟩
    exact ⟨by simp, ⟨by simp [mkG], .inl ⟨rfl, rfl⟩⟩, Below.refl _ _, fun _ _ => rfl⟩
  · clear h0
    go_enter Try.func45, Try.ntmps45
    go_wp2_with fail
    go_loopw [1, 5] (fun a i wr => markClassSKel w B g n c k a i wr) (fun _ i _ => n - (intOf i).toNat)
    case atStart => exact ⟨0, k, xs, Nat.zero_le _, rfl, rfl, by omega, HO.out, Below.refl _ _, fun _ _ => rfl, fun j hj => by omega⟩
    case round =>
      obtain ⟨i, z, xs', hi, rfl, rfl, hz, ho, hb, hnl, hgot⟩ := hrel
      have HO1 := Lib.hid ho
      have HB1 := Lib.hid hb
      have HN1 := Lib.hid hnl
      have HZ := Lib.hid hz
      have HG1 := Lib.hid hgot
      have hxl : xs'.length = n * 8 := ho.1
      have hz0 : 0 ≤ z := by omega
      have hz1 : z ≤ 20000000 := by omega
      clear ho hb hnl hz hgot
      by_cases hlt : i < n
      · obtain ⟨u0, c0⟩ := own_cell HO1.out (i * 8) (by omega)
        have f0 := World.ownsRow.frozenAt HO1.out (i * 8)
        obtain ⟨u1, c1⟩ := own_cell HO1.out (i * 8 + 1) (by omega)
        have f1 := World.ownsRow.frozenAt HO1.out (i * 8 + 1)
        obtain ⟨u2, c2⟩ := own_cell HO1.out (i * 8 + 2) (by omega)
        have f2 := World.ownsRow.frozenAt HO1.out (i * 8 + 2)
        obtain ⟨u3, c3⟩ := own_cell HO1.out (i * 8 + 3) (by omega)
        have f3 := World.ownsRow.frozenAt HO1.out (i * 8 + 3)
        obtain ⟨u4, c4⟩ := own_cell HO1.out (i * 8 + 4) (by omega)
        have f4 := World.ownsRow.frozenAt HO1.out (i * 8 + 4)
        obtain ⟨u5, c5⟩ := own_cell HO1.out (i * 8 + 5) (by omega)
        have f5 := World.ownsRow.frozenAt HO1.out (i * 8 + 5)
        obtain ⟨u6, c6⟩ := own_cell HO1.out (i * 8 + 6) (by omega)
        have f6 := World.ownsRow.frozenAt HO1.out (i * 8 + 6)
        obtain ⟨u7, c7⟩ := own_cell HO1.out (i * 8 + 7) (by omega)
        have f7 := World.ownsRow.frozenAt HO1.out (i * 8 + 7)
        have HXL := Lib.hid hxl
        clear hxl
        go_wp2_with fail
        go_roundw
        case rel =>
          have hxl := HXL.out
          exact ⟨i + 1, _, _, by omega, by go_num, rfl, by have := HZ.out; omega, (own_store (own_store (own_store (own_store (own_store (own_store (own_store (own_store HO1.out _ _) _ _) _ _) _ _) _ _) _ _) _ _) _ _), ((((((((HB1.out.setCell hgB _).setCell hgB _).setCell hgB _).setCell hgB _).setCell hgB _).setCell hgB _).setCell hgB _).setCell hgB _), (onl_set (onl_set (onl_set (onl_set (onl_set (onl_set (onl_set (onl_set HN1.out _ _) _ _) _ _) _ _) _ _) _ _) _ _) _ _), by rw [Nat.add_mul, Nat.one_mul]; exact (got_set (got_set (got_set (got_set (got_set (got_set (got_set (got_set HG1.out (by (try simp only [List.length_set]); omega) (mkG_val (by omega) (by have := HZ.out; push_cast; omega))) (by (try simp only [List.length_set]); omega) (mkG_val (by omega) (by have := HZ.out; push_cast; omega))) (by (try simp only [List.length_set]); omega) (mkG_val (by omega) (by have := HZ.out; push_cast; omega))) (by (try simp only [List.length_set]); omega) (mkG_val (by omega) (by have := HZ.out; push_cast; omega))) (by (try simp only [List.length_set]); omega) (mkG_val (by omega) (by have := HZ.out; push_cast; omega))) (by (try simp only [List.length_set]); omega) (mkG_val (by omega) (by have := HZ.out; push_cast; omega))) (by (try simp only [List.length_set]); omega) (mkG_val (by omega) (by have := HZ.out; push_cast; omega))) (by (try simp only [List.length_set]); omega) (mkG_val (by omega) (by have := HZ.out; push_cast; omega)))⟩
        case measure => simp [intOf]; omega
      · have hz2 : z = k + 8 * (n : Int) := by have := HZ.out; omega
        have HZ2 := Lib.hid hz2
        obtain rfl : i = n := by omega
        have hx : xs' = mkG k (i * 8) := got_all (ys := mkG k (i * 8)) (xs := xs') (by rw [mkG_length]; exact HG1.out) (by rw [mkG_length]; exact hxl)
        have HX := Lib.hid hx
        clear hz2 hx hxl
        go_wp2_with fail
        go_ret
        exact ⟨ret_int HZ2.out, by rw [← HX.out]; exact HO1.out, HB1.out, HN1.out⟩
def markFilterSKel (w : World) (B g n c : Nat) (k : Int) (a i : Value) (wr : World) : Prop :=
  ∃ (j : Nat) (z : Int) (xs : List Value), j ≤ n ∧ i = .int .i64 j ∧ a = .int .i64 z ∧ z = k + 5 * (j : Int) ∧ wr.ownsRow B 65 5 (.slice (some ⟨g, 0, none⟩) n c) n xs ∧ Below B w wr ∧ Onl w wr (some g) ∧ GotX (mkG k (n * 5)) xs (j * 5)
set_option maxHeartbeats 6400000 in
theorem markFilterS_all (v : Value) (B n : Nat) (xs : List Value) (k : Int) (w : World) (HO : Hid (w.ownsRow B 65 5 v n xs)) (hm : n ≤ 1048576) (hk : 0 ≤ k) (hk2 : k ≤ 10000000) :
    Calls Try.prog 46 #[v, .int .i64 k] w (SaysMx w B 65 5 v n k) := by
  have h0 := HO.out
  rcases h0.2 with ⟨rfl, rfl⟩ | ⟨g, c, cur, rfl, hgB, _⟩
  · refine (markFilterS_none none 0 k w).mono ?_
    rintro e w' ⟨rfl, rfl⟩
    exact ⟨by simp, ⟨by simp [mkG], .inl ⟨rfl, rfl⟩⟩, Below.refl _ _, fun _ _ => rfl⟩
  · clear h0
    go_enter Try.func46, Try.ntmps46
    go_wp2_with fail
    go_loopw [1, 5] (fun a i wr => markFilterSKel w B g n c k a i wr) (fun _ i _ => n - (intOf i).toNat)
    case atStart => exact ⟨0, k, xs, Nat.zero_le _, rfl, rfl, by omega, HO.out, Below.refl _ _, fun _ _ => rfl, fun j hj => by omega⟩
    case round =>
      obtain ⟨i, z, xs', hi, rfl, rfl, hz, ho, hb, hnl, hgot⟩ := hrel
      have HO1 := Lib.hid ho
      have HB1 := Lib.hid hb
      have HN1 := Lib.hid hnl
      have HZ := Lib.hid hz
      have HG1 := Lib.hid hgot
      have hxl : xs'.length = n * 5 := ho.1
      have hz0 : 0 ≤ z := by omega
      have hz1 : z ≤ 20000000 := by omega
      clear ho hb hnl hz hgot
      by_cases hlt : i < n
      · obtain ⟨u0, c0⟩ := own_cell HO1.out (i * 5) (by omega)
        have f0 := World.ownsRow.frozenAt HO1.out (i * 5)
        obtain ⟨u1, c1⟩ := own_cell HO1.out (i * 5 + 1) (by omega)
        have f1 := World.ownsRow.frozenAt HO1.out (i * 5 + 1)
        obtain ⟨u2, c2⟩ := own_cell HO1.out (i * 5 + 2) (by omega)
        have f2 := World.ownsRow.frozenAt HO1.out (i * 5 + 2)
        obtain ⟨u3, c3⟩ := own_cell HO1.out (i * 5 + 3) (by omega)
        have f3 := World.ownsRow.frozenAt HO1.out (i * 5 + 3)
        obtain ⟨u4, c4⟩ := own_cell HO1.out (i * 5 + 4) (by omega)
        have f4 := World.ownsRow.frozenAt HO1.out (i * 5 + 4)
        have HXL := Lib.hid hxl
        clear hxl
        go_wp2_with fail
        go_roundw
        case rel =>
          have hxl := HXL.out
          exact ⟨i + 1, _, _, by omega, by go_num, rfl, by have := HZ.out; omega, (own_store (own_store (own_store (own_store (own_store HO1.out _ _) _ _) _ _) _ _) _ _), (((((HB1.out.setCell hgB _).setCell hgB _).setCell hgB _).setCell hgB _).setCell hgB _), (onl_set (onl_set (onl_set (onl_set (onl_set HN1.out _ _) _ _) _ _) _ _) _ _), by rw [Nat.add_mul, Nat.one_mul]; exact (got_set (got_set (got_set (got_set (got_set HG1.out (by (try simp only [List.length_set]); omega) (mkG_val (by omega) (by have := HZ.out; push_cast; omega))) (by (try simp only [List.length_set]); omega) (mkG_val (by omega) (by have := HZ.out; push_cast; omega))) (by (try simp only [List.length_set]); omega) (mkG_val (by omega) (by have := HZ.out; push_cast; omega))) (by (try simp only [List.length_set]); omega) (mkG_val (by omega) (by have := HZ.out; push_cast; omega))) (by (try simp only [List.length_set]); omega) (mkG_val (by omega) (by have := HZ.out; push_cast; omega)))⟩
        case measure => simp [intOf]; omega
      · have hz2 : z = k + 5 * (n : Int) := by have := HZ.out; omega
        have HZ2 := Lib.hid hz2
        obtain rfl : i = n := by omega
        have hx : xs' = mkG k (i * 5) := got_all (ys := mkG k (i * 5)) (xs := xs') (by rw [mkG_length]; exact HG1.out) (by rw [mkG_length]; exact hxl)
        have HX := Lib.hid hx
        clear hz2 hx hxl
        go_wp2_with fail
        go_ret
        exact ⟨ret_int HZ2.out, by rw [← HX.out]; exact HO1.out, HB1.out, HN1.out⟩
theorem heldClassS_none (ad : Option Addr) (c : Nat) (k : Int) (w : World) :
    Calls Try.prog 64 #[.slice ad 0 c, .int .i64 k] w (fun e w' => e = .returned (.int .i64 k) ∧ w = w') := by
  go_enter Try.func64, Try.ntmps64
  go_wp2
  refine wp_loop_rounds 1 ?_
  rw [rounds_succ]
  go_wp2
  go_ret
  exact ⟨rfl, rfl⟩
def heldClassSRel (n : Nat) (k : Int) (a i : Value) : Prop := ∃ (j : Nat) (z : Int), j ≤ n ∧ i = .int .i64 j ∧ a = .int .i64 z ∧ z = k + 8 * (j : Int)
set_option maxRecDepth 100000 in
set_option maxHeartbeats 6400000 in
theorem heldClassS_any (v : Value) (B n : Nat) (k : Int) (w : World) (HO : Hid (w.ownsRow B 47 8 v n (mkG k (n * 8)))) (hm : n ≤ 1048576) (hk : 0 ≤ k) (hk2 : k ≤ 10000000) :
    Calls Try.prog 64 #[v, .int .i64 k] w (fun e w' => e = .returned (.int .i64 (k + 8 * (n : Int))) ∧ w = w') := by
  have h0 := HO.out
  rcases h0.2 with ⟨rfl, rfl⟩ | ⟨g, c, cur, rfl, hgB, _⟩
  · refine (heldClassS_none none 0 k w).mono ?_
    rintro e w' ⟨rfl, rfl⟩
    exact ⟨by simp, rfl⟩
  · clear h0
    go_enter Try.func64, Try.ntmps64
    go_wp2_with fail
    go_loop [1, 5] (fun a i => heldClassSRel n k a i) (fun _ i => n - (intOf i).toNat)
    case atStart => exact ⟨0, k, Nat.zero_le _, rfl, rfl, by omega⟩
    case round =>
      obtain ⟨i, z0, hi, rfl, rfl, hz⟩ := hrel
      by_cases hlt : i < n
      · have c0 := World.ownsRow.cellAt HO.out (i * 8) (by omega)
        have c1 := World.ownsRow.cellAt HO.out (i * 8 + 1) (by omega)
        have c2 := World.ownsRow.cellAt HO.out (i * 8 + 2) (by omega)
        have c3 := World.ownsRow.cellAt HO.out (i * 8 + 3) (by omega)
        have c4 := World.ownsRow.cellAt HO.out (i * 8 + 4) (by omega)
        have c5 := World.ownsRow.cellAt HO.out (i * 8 + 5) (by omega)
        have c6 := World.ownsRow.cellAt HO.out (i * 8 + 6) (by omega)
        have c7 := World.ownsRow.cellAt HO.out (i * 8 + 7) (by omega)
        rw [mkG_val (x := z0) (by omega) (by omega)] at c0
        obtain ⟨z1, e1⟩ : ∃ y : Int, z0 + 1 = y := ⟨_, rfl⟩
        rw [mkG_val (x := z1) (by omega) (by push_cast; omega)] at c1
        obtain ⟨z2, e2⟩ : ∃ y : Int, z1 + 1 = y := ⟨_, rfl⟩
        rw [mkG_val (x := z2) (by omega) (by push_cast; omega)] at c2
        obtain ⟨z3, e3⟩ : ∃ y : Int, z2 + 1 = y := ⟨_, rfl⟩
        rw [mkG_val (x := z3) (by omega) (by push_cast; omega)] at c3
        obtain ⟨z4, e4⟩ : ∃ y : Int, z3 + 1 = y := ⟨_, rfl⟩
        rw [mkG_val (x := z4) (by omega) (by push_cast; omega)] at c4
        obtain ⟨z5, e5⟩ : ∃ y : Int, z4 + 1 = y := ⟨_, rfl⟩
        rw [mkG_val (x := z5) (by omega) (by push_cast; omega)] at c5
        obtain ⟨z6, e6⟩ : ∃ y : Int, z5 + 1 = y := ⟨_, rfl⟩
        rw [mkG_val (x := z6) (by omega) (by push_cast; omega)] at c6
        obtain ⟨z7, e7⟩ : ∃ y : Int, z6 + 1 = y := ⟨_, rfl⟩
        rw [mkG_val (x := z7) (by omega) (by push_cast; omega)] at c7
        obtain ⟨z8, e8⟩ : ∃ y : Int, z7 + 1 = y := ⟨_, rfl⟩
        have p0 : 0 ≤ z0 ∧ z0 ≤ 20000010 := by omega
        have p1 : 0 ≤ z1 ∧ z1 ≤ 20000010 := by omega
        have p2 : 0 ≤ z2 ∧ z2 ≤ 20000010 := by omega
        have p3 : 0 ≤ z3 ∧ z3 ≤ 20000010 := by omega
        have p4 : 0 ≤ z4 ∧ z4 ≤ 20000010 := by omega
        have p5 : 0 ≤ z5 ∧ z5 ≤ 20000010 := by omega
        have p6 : 0 ≤ z6 ∧ z6 ≤ 20000010 := by omega
        have p7 : 0 ≤ z7 ∧ z7 ≤ 20000010 := by omega
        have p8 : 0 ≤ z8 ∧ z8 ≤ 20000010 := by omega
        have P0 := p0.1
        have P1 := p1.1
        have P2 := p2.1
        have P3 := p3.1
        have P4 := p4.1
        have P5 := p5.1
        have P6 := p6.1
        have P7 := p7.1
        have P8 := p8.1
        have Q0 := p0.2
        have Q1 := p1.2
        have Q2 := p2.2
        have Q3 := p3.2
        have Q4 := p4.2
        have Q5 := p5.2
        have Q6 := p6.2
        have Q7 := p7.2
        have Q8 := p8.2
        have d0 : (z0 == z0) = true := beq_self_eq_true _
        have d1 : (z1 == z1) = true := beq_self_eq_true _
        have d2 : (z2 == z2) = true := beq_self_eq_true _
        have d3 : (z3 == z3) = true := beq_self_eq_true _
        have d4 : (z4 == z4) = true := beq_self_eq_true _
        have d5 : (z5 == z5) = true := beq_self_eq_true _
        have d6 : (z6 == z6) = true := beq_self_eq_true _
        have d7 : (z7 == z7) = true := beq_self_eq_true _
        have HZE : Hid (z8 = z0 + 8) := Lib.hid (by omega)
        have HZ := Lib.hid hz
        clear hz p0 p1 p2 p3 p4 p5 p6 p7 p8
        go_wp2_with fail
        go_round
        case rel => exact ⟨i + 1, _, by omega, by go_num, rfl, by have := HZE.out; have := HZ.out; omega⟩
        case measure => simp [intOf]; omega
      · obtain rfl : i = n := by omega
        have HZ := Lib.hid hz
        clear hz
        go_wp2_with fail
        go_ret
        exact ⟨ret_int HZ.out, rfl⟩
theorem heldFilterS_none (ad : Option Addr) (c : Nat) (k : Int) (w : World) :
    Calls Try.prog 65 #[.slice ad 0 c, .int .i64 k] w (fun e w' => e = .returned (.int .i64 k) ∧ w = w') := by
  go_enter Try.func65, Try.ntmps65
  go_wp2
  refine wp_loop_rounds 1 ?_
  rw [rounds_succ]
  go_wp2
  go_ret
  exact ⟨rfl, rfl⟩
def heldFilterSRel (n : Nat) (k : Int) (a i : Value) : Prop := ∃ (j : Nat) (z : Int), j ≤ n ∧ i = .int .i64 j ∧ a = .int .i64 z ∧ z = k + 5 * (j : Int)
set_option maxRecDepth 100000 in
set_option maxHeartbeats 6400000 in
theorem heldFilterS_any (v : Value) (B n : Nat) (k : Int) (w : World) (HO : Hid (w.ownsRow B 65 5 v n (mkG k (n * 5)))) (hm : n ≤ 1048576) (hk : 0 ≤ k) (hk2 : k ≤ 10000000) :
    Calls Try.prog 65 #[v, .int .i64 k] w (fun e w' => e = .returned (.int .i64 (k + 5 * (n : Int))) ∧ w = w') := by
  have h0 := HO.out
  rcases h0.2 with ⟨rfl, rfl⟩ | ⟨g, c, cur, rfl, hgB, _⟩
  · refine (heldFilterS_none none 0 k w).mono ?_
    rintro e w' ⟨rfl, rfl⟩
    exact ⟨by simp, rfl⟩
  · clear h0
    go_enter Try.func65, Try.ntmps65
    go_wp2_with fail
    go_loop [1, 5] (fun a i => heldFilterSRel n k a i) (fun _ i => n - (intOf i).toNat)
    case atStart => exact ⟨0, k, Nat.zero_le _, rfl, rfl, by omega⟩
    case round =>
      obtain ⟨i, z0, hi, rfl, rfl, hz⟩ := hrel
      by_cases hlt : i < n
      · have c0 := World.ownsRow.cellAt HO.out (i * 5) (by omega)
        have c1 := World.ownsRow.cellAt HO.out (i * 5 + 1) (by omega)
        have c2 := World.ownsRow.cellAt HO.out (i * 5 + 2) (by omega)
        have c3 := World.ownsRow.cellAt HO.out (i * 5 + 3) (by omega)
        have c4 := World.ownsRow.cellAt HO.out (i * 5 + 4) (by omega)
        rw [mkG_val (x := z0) (by omega) (by omega)] at c0
        obtain ⟨z1, e1⟩ : ∃ y : Int, z0 + 1 = y := ⟨_, rfl⟩
        rw [mkG_val (x := z1) (by omega) (by push_cast; omega)] at c1
        obtain ⟨z2, e2⟩ : ∃ y : Int, z1 + 1 = y := ⟨_, rfl⟩
        rw [mkG_val (x := z2) (by omega) (by push_cast; omega)] at c2
        obtain ⟨z3, e3⟩ : ∃ y : Int, z2 + 1 = y := ⟨_, rfl⟩
        rw [mkG_val (x := z3) (by omega) (by push_cast; omega)] at c3
        obtain ⟨z4, e4⟩ : ∃ y : Int, z3 + 1 = y := ⟨_, rfl⟩
        rw [mkG_val (x := z4) (by omega) (by push_cast; omega)] at c4
        obtain ⟨z5, e5⟩ : ∃ y : Int, z4 + 1 = y := ⟨_, rfl⟩
        have p0 : 0 ≤ z0 ∧ z0 ≤ 20000010 := by omega
        have p1 : 0 ≤ z1 ∧ z1 ≤ 20000010 := by omega
        have p2 : 0 ≤ z2 ∧ z2 ≤ 20000010 := by omega
        have p3 : 0 ≤ z3 ∧ z3 ≤ 20000010 := by omega
        have p4 : 0 ≤ z4 ∧ z4 ≤ 20000010 := by omega
        have p5 : 0 ≤ z5 ∧ z5 ≤ 20000010 := by omega
        have P0 := p0.1
        have P1 := p1.1
        have P2 := p2.1
        have P3 := p3.1
        have P4 := p4.1
        have P5 := p5.1
        have Q0 := p0.2
        have Q1 := p1.2
        have Q2 := p2.2
        have Q3 := p3.2
        have Q4 := p4.2
        have Q5 := p5.2
        have d0 : (z0 == z0) = true := beq_self_eq_true _
        have d1 : (z1 == z1) = true := beq_self_eq_true _
        have d2 : (z2 == z2) = true := beq_self_eq_true _
        have d3 : (z3 == z3) = true := beq_self_eq_true _
        have d4 : (z4 == z4) = true := beq_self_eq_true _
        have HZE : Hid (z5 = z0 + 5) := Lib.hid (by omega)
        have HZ := Lib.hid hz
        clear hz p0 p1 p2 p3 p4 p5
        go_wp2_with fail
        go_round
        case rel => exact ⟨i + 1, _, by omega, by go_num, rfl, by have := HZE.out; have := HZ.out; omega⟩
        case measure => simp [intOf]; omega
      · obtain rfl : i = n := by omega
        have HZ := Lib.hid hz
        clear hz
        go_wp2_with fail
        go_ret
        exact ⟨ret_int HZ.out, rfl⟩
def SaysMz (w : World) (B : Nat) (vc vf : Value) (n m : Nat) (e : Ending) (w' : World) : Prop := e = .returned (.int .i64 (1 + 8 * (n : Int) + 5 * (m : Int))) ∧ w'.ownsRow B 47 8 vc n (mkG 1 (n * 8)) ∧ w'.ownsRow B 65 5 vf m (mkG (1 + 8 * (n : Int)) (m * 5)) ∧ Below B w w' ∧ ∀ g, g < w.heap.size → vc.ownBlock ≠ some g → vf.ownBlock ≠ some g → w'.heap[g]? = w.heap[g]?
set_option maxHeartbeats 3200000 in
theorem markConfig_all (s : ByteArray) (p f : Option Addr) (n m cc cf : Nat) (d : Int) (B : Nat) (xs ys : List Value) (w : World) (HC : Hid (w.ownsRow B 47 8 (.slice p n cc) n xs)) (HF : Hid (w.ownsRow B 65 5 (.slice f m cf) m ys)) (hd : Hid (∀ g, (Value.slice p n cc).ownBlock = some g → (Value.slice f m cf).ownBlock ≠ some g)) (hB : B ≤ w.heap.size) (hn : n ≤ 1048576) (hm : m ≤ 1048576) :
    Calls Try.prog 16 #[.agg #[.string s, .slice p n cc, .slice f m cf, .int .i64 d], .int .i64 1] w (SaysMz w B (.slice p n cc) (.slice f m cf) n m) := by
  have HMC := Lib.hid (fun w HO => markClassS_all (.slice p n cc) B n xs 1 w HO hn (by omega) (by omega))
  have HMF := Lib.hid (fun w HO => markFilterS_all (.slice f m cf) B m ys (1 + 8 * (n : Int)) w HO hm (by omega) (by omega))
  have HLC := Lib.hid (fun g (h : (Value.slice p n cc).ownBlock = some g) => (World.ownsRow.lt HC.out g h).2)
  have hr0 : 0 ≤ 1 + 8 * (n : Int) := by omega
  unfold SaysMz
  unfold SaysMx at HMC HMF
  rw [show ((8 : Nat) : Int) = 8 from rfl] at HMC
  rw [show ((5 : Nat) : Int) = 5 from rfl] at HMF
  obtain ⟨r1, hr1⟩ : ∃ r1 : Int, 1 + 8 * (n : Int) = r1 := ⟨_, rfl⟩
  rw [hr1] at HMC HMF ⊢
  clear hr1 hr0
  go_enter Try.func16, Try.ntmps16
  go_wp2_with (go_at_call 45; refine (HMC.out _ (Lib.hid (own_low HC.out (one_new2 _ _) (Nat.le_refl _)))).mono ?_; rintro e w1 ⟨rfl, x1, b1, o1⟩; have B1 := Lib.hid (((Below.refl B w).alloc hB _).trans b1); have O1 := Lib.hid o1; have X1 := Lib.hid x1; have hbx := cell_heap (o1 w.heap.size (fun q => absurd (HLC.out _ q) (Nat.lt_irrefl _))) 2; clear b1 o1 x1; refine Hid.out ?_)
  refine Lib.hid ?_
  have hbx2 : w1.cell? ⟨w.heap.size, 2, none⟩ = some (.slice f m cf) := by rw [hbx]; simp [go_sem]
  have HF1 := Lib.hid (own_onl (own_low HF.out (one_new2 w (Obj.cells #[.string s, .slice p n cc, .slice f m cf, .int .i64 d] 33)) (Nat.le_refl _)) O1.out (fun g h q => hd.out g q h))
  clear hbx
  go_wp2_with (go_at_call 46; refine (HMF.out _ HF1).mono ?_; rintro e w2 ⟨rfl, x2, b2, o2⟩; have B2 := Lib.hid (B1.out.trans b2); have O2 := Lib.hid o2; have X2 := Lib.hid x2; clear b2 o2 x2)
  go_ret
  exact ⟨rfl, own_onl X1.out O2.out (fun g h q => hd.out g h q), X2.out, B2.out, fun g hg h1 h2 => (O2.out g h2).trans ((O1.out g h1).trans (heap_alloc_lt w _ g hg))⟩
set_option maxRecDepth 100000 in
set_option maxHeartbeats 3200000 in
theorem heldConfig_any (s : ByteArray) (p f : Option Addr) (n m cc cf : Nat) (d : Int) (B : Nat) (w : World) (HC : Hid (w.ownsRow B 47 8 (.slice p n cc) n (mkG 1 (n * 8)))) (HF : Hid (w.ownsRow B 65 5 (.slice f m cf) m (mkG (1 + 8 * (n : Int)) (m * 5)))) (hn : n ≤ 1048576) (hm : m ≤ 1048576) :
    Calls Try.prog 29 #[.agg #[.string s, .slice p n cc, .slice f m cf, .int .i64 d], .int .i64 1] w (fun e w' => e = .returned (.int .i64 (1 + 8 * (n : Int) + 5 * (m : Int))) ∧ Below w.heap.size w w') := by
  have HMC := Lib.hid (fun w HO => heldClassS_any (.slice p n cc) B n 1 w HO hn (by omega) (by omega))
  have HMF := Lib.hid (fun w HO => heldFilterS_any (.slice f m cf) B m (1 + 8 * (n : Int)) w HO hm (by omega) (by omega))
  have d1 : decide (1 + 8 * (n : Int) < 0) = false := not_lt (by omega)
  have d2 : decide (1 + 8 * (n : Int) + 5 * (m : Int) < 0) = false := not_lt (by omega)
  obtain ⟨r1, hr1⟩ : ∃ r1 : Int, 1 + 8 * (n : Int) = r1 := ⟨_, rfl⟩
  rw [hr1] at HMC HMF d1 d2 HF ⊢
  obtain ⟨r2, hr2⟩ : ∃ r2 : Int, r1 + 5 * (m : Int) = r2 := ⟨_, rfl⟩
  rw [hr2] at HMF d2 ⊢
  have HF1 := Lib.hid (own_low HF.out (one_new2 w (Obj.cells #[.string s, .slice p n cc, .slice f m cf, .int .i64 d] 33)) (Nat.le_refl _))
  have HC1 := Lib.hid (own_low HC.out (one_new2 w (Obj.cells #[.string s, .slice p n cc, .slice f m cf, .int .i64 d] 33)) (Nat.le_refl _))
  clear hr1 hr2
  go_enter Try.func29, Try.ntmps29
  go_wp2_with (go_at_call 64; refine (HMC.out _ HC1).mono ?_; rintro e w1 ⟨rfl, rfl⟩)
  go_wp2_with (go_at_call 65; refine (HMF.out _ HF1).mono ?_; rintro e w2 ⟨rfl, rfl⟩)
  go_ret
  exact ⟨rfl, one_new2 _ _⟩
end Go.Proofs.Ytfijhgggljaomaa
