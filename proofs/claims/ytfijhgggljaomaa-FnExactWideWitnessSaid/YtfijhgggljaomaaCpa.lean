/- The program's small functions over classes. -/
import Derived.Test.YtfijhgggljaomaaCfv
import Derived.Test.YtfijhgggljaomaaIsi
namespace Go.Proofs.Ytfijhgggljaomaa
open Go.RowKit
set_option linter.unusedVariables false

theorem isTop_any (x : Cls) (w : World) : Calls Try.prog 41 #[clsV x] w (SaysB w (x.p == 0)) := by
  obtain ⟨b, hb⟩ : ∃ b, (x.p == 0) = b := ⟨_, rfl⟩
  rw [hb]
  obtain ⟨xi, xp, xr, xe, xb, xu, xo, xl⟩ := x
  unfold clsV
  simp only at hb ⊢
  go_enter Try.func41, Try.ntmps41
  go_wp2
  go_ret
  exact ⟨ret_bool rfl, one_new2 _ _⟩
/-- an index and whether there is a class -/
def SaysP (w : World) (k : Nat) (b : Bool) (e : Ending) (w' : World) : Prop := e = .returned (.tuple #[.int .i64 (k : Int), .bool b]) ∧ Below w.heap.size w w'
def BsRel (w : World) (n : Nat) (cs : List Cls) (id : Int) (i j : Value) (wr : World) : Prop := ∃ a b : Nat, a ≤ b ∧ b ≤ n ∧ i = .int .i64 a ∧ j = .int .i64 b ∧ Below w.heap.size w wr ∧ Hid (∀ t, t < a → (cs.getD t cls0).i < id) ∧ Hid (b < n → id ≤ (cs.getD b cls0).i)
theorem bs_less {cs : List Cls} {id : Int} {h : Nat} (hi : IncC cs) (hh : h < cs.length) (hx : (cs.getD h cls0).i < id) : ∀ t, t < h + 1 → (cs.getD t cls0).i < id := fun t ht => by
  rcases Nat.lt_succ_iff_lt_or_eq.1 ht with q | q
  · have := hi t h q hh; omega
  · rw [q]; exact hx
theorem bs_mid (a b : Nat) (h : b ≤ 1048576) (hab : a < b) : a ≤ (a + b) / 2 ∧ (a + b) / 2 < b := by omega
def plcB (cs : List Cls) (id : Int) : Bool := decide (plc cs id < cs.length) && ((cs.getD (plc cs id) cls0).i == id)
theorem plcB_fnd {cs : List Cls} (hi : IncC cs) (id : Int) : plcB cs id = (fnd cs id).isSome := by
  rw [fnd_plc hi]
  unfold plcB
  by_cases h : plc cs id < cs.length ∧ (cs.getD (plc cs id) cls0).i = id
  · rw [if_pos h]; rw [h.2]; simp [h.1]
  · rw [if_neg h]
    by_cases h1 : plc cs id < cs.length
    · have h2 : (cs.getD (plc cs id) cls0).i ≠ id := fun q => h ⟨h1, q⟩
      rw [beq_eq_false_iff_ne.2 h2]; simp
    · simp [h1]
end Go.Proofs.Ytfijhgggljaomaa
