/- The program's checks: names, classes and filters by themselves, the tree. -/
import Derived.Test.YtfijhgggljaomaaDoorCpb
namespace Go.Proofs.YtfijhgggljaomaaDoor
set_option maxRecDepth 100000
open Go.RowKit
set_option linter.unusedVariables false

def OkRel (w : World) (n : Nat) (cs : List Cls) (B : Bool) (a i : Value) (wr : World) : Prop := ∃ (k : Nat) (b : Int), k ≤ n ∧ i = .int .i64 k ∧ a = .int .i64 b ∧ Below w.heap.size w wr ∧ Hid (okL b (cs.drop k) = B)
def OkfRel (w : World) (m : Nat) (fs : List Flt) (B : Bool) (a i : Value) (wr : World) : Prop := ∃ (k : Nat) (b : Int), k ≤ m ∧ i = .int .i64 k ∧ a = .int .i64 b ∧ Below w.heap.size w wr ∧ Hid (okF b (fs.drop k) = B)
set_option maxHeartbeats 3200000 in
theorem areFilters_any (af : Option Addr) (m cf : Nat) (fs : List Flt) (w : World) (HJ : Hid (InX w af m (fltCs fs))) (hf : Hid (fs.length = m)) (hmf : m ≤ 1048576) :
    Calls Tryd.prog 58 #[(.slice af m cf)] w (SaysB w (afG fs)) := by
  obtain ⟨B, hB⟩ : ∃ B, okF 0 fs = B := ⟨_, rfl⟩
  have H0 : Hid (okF 0 (fs.drop 0) = B) := Lib.hid hB
  have HA : Hid (afG fs = (decide (m ≤ 16) && B)) := Lib.hid (by unfold afG; rw [hB, hf.out])
  generalize afG fs = R at HA ⊢
  clear hB
  by_cases h2 : 16 < m
  · have d2 := is_lt (show (16 : Int) < m by omega)
    have HX : Hid (R = false) := Lib.hid (by rw [HA.out, decide_eq_false (show ¬ m ≤ 16 by omega)]; rfl)
    go_enter Tryd.func58, Tryd.ntmps58
    go_wp2_with fail
    go_ret
    exact ⟨ret_bool HX.out.symm, Below.refl _ _⟩
  have d2 := not_lt (show (m : Int) ≤ 16 by omega)
  have HR : Hid (R = B) := Lib.hid (by rw [HA.out, decide_eq_true (by omega)]; rfl)
  go_enter Tryd.func58, Tryd.ntmps58
  go_wp2_with fail
  go_loopw [3, 11] (fun a i wr => OkfRel w m fs B a i wr) (fun _ i _ => m - (intOf i).toNat)
  case atStart => exact ⟨0, 0, Nat.zero_le _, rfl, rfl, Below.refl _ _, H0⟩
  case round =>
    obtain ⟨k, b, hk, rfl, rfl, hb, HP⟩ := hrel
    have HB := Lib.hid hb
    by_cases hlt : k < m
    · obtain ⟨g, rfl, ht, hg⟩ := HJ.out (by omega)
      obtain ⟨x, hx⟩ : ∃ x, fs.getD k flt0 = x := ⟨_, rfl⟩
      have hl1 : k < fs.length := by rw [hf.out]; exact hlt
      obtain ⟨a0, a1, a2, a3, a4⟩ := (ht.below hb hg).flt k hl1 x hx
      have HE := Lib.hid (okF_at b fs k hl1 x hx)
      have HS := Lib.hid (fun w => isPattern_any x w)
      have BA := Lib.hid (hb.trans ((one_new2 wr (Obj.cells #[.int .i64 x.o, .int .i64 x.f, .int .i64 x.m, .int .i64 x.v, .int .i64 x.t] 66)).mono hb.size))
      clear hb hx hl1 ht
      by_cases q1 : x.o ≤ b
      · have e1 := is_le q1
        have HX : Hid (R = false) := Lib.hid (by rw [HR.out, ← HP.out, HE.out, not_lt q1]; rfl)
        obtain ⟨xo, xf, xm, xv, xt⟩ := x
        simp only at a0 a1 a2 a3 a4 e1 BA
        clear HS q1
        go_wp2_with fail
        go_ret
        exact ⟨ret_bool HX.out.symm, BA.out⟩
      have e1 := not_le (show b < x.o by omega)
      by_cases q2 : 99 < x.o
      · have e2 := is_lt q2
        have HX : Hid (R = false) := Lib.hid (by rw [HR.out, ← HP.out, HE.out, not_le q2, Bool.false_and, Bool.and_false]; rfl)
        obtain ⟨xo, xf, xm, xv, xt⟩ := x
        simp only at a0 a1 a2 a3 a4 e1 e2 BA
        clear HS q1 q2
        go_wp2_with fail
        go_ret
        exact ⟨ret_bool HX.out.symm, BA.out⟩
      have e2 := not_lt (show x.o ≤ 99 by omega)
      have HY : Hid (B = (patOk x && okF x.o (fs.drop (k + 1)))) := Lib.hid (by rw [← HP.out, HE.out, is_lt (show b < x.o by omega), is_le (show x.o ≤ 99 by omega)]; rfl)
      rcases Bool.eq_false_or_eq_true (patOk x) with q3 | q3
      · have HX := Lib.hid (show okF x.o (fs.drop (k + 1)) = B by rw [HY.out, q3, Bool.true_and])
        rw [q3] at HS
        obtain ⟨xo, xf, xm, xv, xt⟩ := x
        unfold fltV at HS
        simp only at a0 a1 a2 a3 a4 e1 e2 BA HS HX
        clear q1 q2 q3 HY HE
        go_wp2_with (go_at_call 85; refine (HS.out _).mono ?_; rintro e w1 ⟨rfl, b1⟩; have B1 := Lib.hid (BA.out.trans (b1.mono BA.out.size)); obtain ⟨f0, f1, f2, f3, f4⟩ := (box_five b1).1; clear b1)
        go_roundw
        case rel => exact ⟨k + 1, xo, by omega, by go_num, rfl, B1.out, HX⟩
        case measure => simp [intOf]; omega
      · have HX : Hid (R = false) := Lib.hid (by rw [HR.out, HY.out, q3, Bool.false_and])
        rw [q3] at HS
        obtain ⟨xo, xf, xm, xv, xt⟩ := x
        unfold fltV at HS
        simp only at a0 a1 a2 a3 a4 e1 e2 BA HS
        clear q1 q2 q3 HY HE
        go_wp2_with (go_at_call 85; refine (HS.out _).mono ?_; rintro e w1 ⟨rfl, b1⟩; have B1 := Lib.hid (BA.out.trans (b1.mono BA.out.size)); clear b1)
        go_ret
        exact ⟨ret_bool HX.out.symm, B1.out⟩
    · have HX : Hid (true = R) := Lib.hid (by rw [HR.out, ← HP.out, okF_end _ fs k (by rw [hf.out]; omega)])
      clear hb
      go_wp2_with fail
      go_ret
      exact ⟨ret_bool HX.out, HB.out⟩
theorem reach_zero {cs : List Cls} {f : Nat} {x : Cls} (h : x.p = 0) : reach cs f x = true := by
  cases f <;> unfold reach <;> simp [h]
theorem reach_last {cs : List Cls} {x : Cls} : reach cs 0 x = (x.p == 0) := rfl
theorem reach_step {cs : List Cls} {f j : Nat} {x : Cls} (h : x.p ≠ 0) (hj : fnd cs x.p = Option.some j) : reach cs (f + 1) x = reach cs f (cs.getD j cls0) := by
  show ((x.p == 0) || (match fnd cs x.p with | .none => false | .some j => reach cs f (cs.getD j cls0))) = _
  rw [hj, beq_eq_false_iff_ne.2 h, Bool.false_or]
theorem par_some {cs : List Cls} {x : Cls} (h : parOk cs x = true) (hx : x.p ≠ 0) : ∃ j, fnd cs x.p = Option.some j := by
  unfold parOk at h
  rw [beq_eq_false_iff_ne.2 hx, Bool.false_or] at h
  exact Option.isSome_iff_exists.1 h
def ParAll (cs : List Cls) : Prop := ∀ k, k < cs.length → parOk cs (cs.getD k cls0) = true
/-- no cell of a block is marked -/
def FroB (w : World) (g : Nat) : Prop := ∀ o, w.frozen? ⟨g, o, none⟩ = false
theorem FroB.on {w w1 : World} {g : Nat} (h : FroB w g) (b : Below w.heap.size w w1) (hg : g < w.heap.size) : FroB w1 g := fun o => ((bcell b).2 g o hg).trans (h o)
theorem FroB.new (w : World) (a : Array Value) (t : TypeId) : FroB (w.alloc (.cells a t)) w.heap.size := fun o => by simp
theorem FroB.set {w : World} {g : Nat} (h : FroB w g) (p : Addr) (v : Value) : FroB (w.setCell p v) g := fun o => by rw [World.frozen?_setCell]; exact h o
def RchRel (w : World) (cs : List Cls) (R : Bool) (i : Value) (wr : World) : Prop :=
  ∃ (k : Nat) (x : Cls), k ≤ 7 ∧ i = .int .i64 k ∧ parOk cs x = true ∧ EightB wr w.heap.size x ∧ w.heap.size < wr.heap.size ∧ FroB wr w.heap.size ∧ Below w.heap.size w wr ∧ Hid (reach cs (7 - k) x = R)
end Go.Proofs.YtfijhgggljaomaaDoor
