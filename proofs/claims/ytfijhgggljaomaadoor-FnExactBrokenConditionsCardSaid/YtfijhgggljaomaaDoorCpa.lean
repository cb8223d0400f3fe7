/- The program's small functions over classes. -/
import Derived.Test.YtfijhgggljaomaaDoorCfv
import Derived.Test.YtfijhgggljaomaaDoorIsi
namespace Go.Proofs.YtfijhgggljaomaaDoor
set_option maxRecDepth 100000
open Go.RowKit
set_option linter.unusedVariables false

theorem isTop_any (x : Cls) (w : World) : Calls Tryd.prog 75 #[clsV x] w (SaysB w (x.p == 0)) := by
  obtain ⟨b, hb⟩ : ∃ b, (x.p == 0) = b := ⟨_, rfl⟩
  rw [hb]
  obtain ⟨xi, xp, xr, xe, xb, xu, xo, xl⟩ := x
  unfold clsV
  simp only at hb ⊢
  go_enter Tryd.func75, Tryd.ntmps75
  go_wp2
  go_ret
  exact ⟨ret_bool rfl, one_new2 _ _⟩
set_option maxHeartbeats 1600000 in
theorem isPattern_any (x : Flt) (w : World) : Calls Tryd.prog 85 #[fltV x] w (SaysB w (patOk x)) := by
  obtain ⟨b7, d7⟩ : ∃ b, (bits .andNot .i64 x.v x.m == 0) = b := ⟨_, rfl⟩
  have HX : Hid (patOk x = (inB x.f 0 3 && (inB x.m 0 65535 && (inB x.v 0 65535 && b7)))) := Lib.hid (by
    unfold patOk
    cases hm : inB x.m 0 65535
    · rfl
    cases hv : inB x.v 0 65535
    · rfl
    rw [← d7, andNot_bits (inBR_iff.1 hv) (inBR_iff.1 hm)])
  have H2 := Lib.hid (fun w => isIn_any x.f 0 3 w)
  have H3 := Lib.hid (fun w => isIn_any x.m 0 65535 w)
  have H4 := Lib.hid (fun w => isIn_any x.v 0 65535 w)
  generalize inB x.f 0 3 = b2 at HX H2
  generalize inB x.m 0 65535 = b3 at HX H3
  generalize inB x.v 0 65535 = b4 at HX H4
  generalize patOk x = B at HX ⊢
  obtain ⟨xo, xf, xm, xv, xt⟩ := x
  unfold fltV
  simp only at d7 H2 H3 H4 ⊢
  go_enter Tryd.func85, Tryd.ntmps85
  go_wp2_with (first | (go_at_call 72; (with_reducible refine (H2.out _).mono ?_); rintro e w' ⟨rfl, rfl⟩) | (go_at_call 72; (with_reducible refine (H3.out _).mono ?_); rintro e w' ⟨rfl, rfl⟩) | (go_at_call 72; (with_reducible refine (H4.out _).mono ?_); rintro e w' ⟨rfl, rfl⟩))
  all_goals
    go_ret
    exact ⟨ret_bool (by rw [HX.out]; simp_all), one_new2 _ _⟩
/-- an index and whether there is a class -/
def SaysP (w : World) (k : Nat) (b : Bool) (e : Ending) (w' : World) : Prop := e = .returned (.tuple #[.int .i64 (k : Int), .bool b]) ∧ Below w.heap.size w w'
def BsRel (w : World) (n : Nat) (cs : List Cls) (id : Int) (i j : Value) (wr : World) : Prop := ∃ a b : Nat, a ≤ b ∧ b ≤ n ∧ i = .int .i64 a ∧ j = .int .i64 b ∧ Below w.heap.size w wr ∧ Hid (∀ t, t < a → (cs.getD t cls0).i < id) ∧ Hid (b < n → id ≤ (cs.getD b cls0).i)
theorem bs_less {cs : List Cls} {id : Int} {h : Nat} (hi : IncC cs) (hh : h < cs.length) (hx : (cs.getD h cls0).i < id) : ∀ t, t < h + 1 → (cs.getD t cls0).i < id := fun t ht => by
  rcases Nat.lt_succ_iff_lt_or_eq.1 ht with q | q
  · have := hi t h q hh; omega
  · rw [q]; exact hx
theorem bs_mid (a b : Nat) (h : b ≤ 1048576) (hab : a < b) : a ≤ (a + b) / 2 ∧ (a + b) / 2 < b := by omega
def plcB (cs : List Cls) (id : Int) : Bool := decide (plc cs id < cs.length) && ((cs.getD (plc cs id) cls0).i == id)
theorem plcB_fnd {cs : List Cls} (hi : IncC cs) (id : Int) : plcB cs id = (fnd cs id).isSome := by
  rw [fnd_plc hi]
  unfold plcB
  by_cases h : plc cs id < cs.length ∧ (cs.getD (plc cs id) cls0).i = id
  · rw [if_pos h]; rw [h.2]; simp [h.1]
  · rw [if_neg h]
    by_cases h1 : plc cs id < cs.length
    · have h2 : (cs.getD (plc cs id) cls0).i ≠ id := fun q => h ⟨h1, q⟩
      rw [beq_eq_false_iff_ne.2 h2]; simp
    · simp [h1]
end Go.Proofs.YtfijhgggljaomaaDoor
