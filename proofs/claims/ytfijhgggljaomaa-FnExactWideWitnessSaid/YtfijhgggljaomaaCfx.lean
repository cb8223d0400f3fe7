/- The model's check of a name, of the tree, and of a whole configuration. -/
import Derived.Test.YtfijhgggljaomaaCfw
namespace Go.Proofs.Ytfijhgggljaomaa
open Go.RowKit
set_option linter.unusedVariables false

theorem let_in {y : Int} (h : letB y = true) : 97 ≤ y ∧ y ≤ 122 := by unfold letB at h; simpa using h
theorem let_out {y : Int} (h : letB y = false) : y < 97 ∨ 122 < y := by
  unfold letB at h
  simp only [Bool.and_eq_false_iff, decide_eq_false_iff_not] at h
  omega
def TrRel (w : World) (o : Obj) (n : Nat) (cs : List Cls) (O : Bool) (t i : Value) (wr : World) : Prop :=
  ∃ (k : Nat) (b : Int), k ≤ n ∧ i = .int .i64 k ∧ t = .int .i64 (cT (cs.take k) : Nat) ∧ Aft w o wr ∧ 0 ≤ b ∧ (k = 0 → b = 0) ∧ (∀ j, k = j + 1 → b = (cs.getD j cls0).i) ∧ okL b (cs.drop k) = O
theorem tr_stop {cs : List Cls} {b : Int} {k : Nat} {O : Bool} (h : k < cs.length) (x : Cls) (hx : cs.getD k cls0 = x) (HP : okL b (cs.drop k) = O) (hf : (decide (b < x.i) && (decide (x.i ≤ 999) && rateOk x)) = false) : O = false := by
  rw [← HP, okL_at b cs k h x hx, hf]; rfl
theorem tr_next {cs : List Cls} {b : Int} {k : Nat} {O : Bool} (h : k < cs.length) (x : Cls) (hx : cs.getD k cls0 = x) (HP : okL b (cs.drop k) = O) (hf : (decide (b < x.i) && (decide (x.i ≤ 999) && rateOk x)) = true) : okL x.i (cs.drop (k + 1)) = O := by
  rw [← HP, okL_at b cs k h x hx, hf, Bool.true_and]
theorem cT_take_le2 (cs : List Cls) (k : Nat) : cT (cs.take k) ≤ k := Nat.le_trans (cT_le _) (List.length_take_le _ _)
theorem limOk_kid2 {cs : List Cls} {x : Cls} (h : hasK cs x.i = true) : limOk cs x = (x.l == 0) := by unfold limOk; rw [h]; rfl
theorem limOk_leaf2 {cs : List Cls} {x : Cls} (h : hasK cs x.i = false) : limOk cs x = inB x.l 1 60 := by unfold limOk; rw [h]; rfl
theorem EightB.on2 {w w1 : World} {b B : Nat} {x : Cls} (h : EightB w b x) (hb : Below B w w1) (hB : b < B) : EightB w1 b x := by
  obtain ⟨h0, h1, h2, h3, h4, h5, h6, h7⟩ := h
  exact ⟨(hb.cell (p := ⟨b, 0, none⟩) hB).trans h0, (hb.cell (p := ⟨b, 1, none⟩) hB).trans h1, (hb.cell (p := ⟨b, 2, none⟩) hB).trans h2, (hb.cell (p := ⟨b, 3, none⟩) hB).trans h3, (hb.cell (p := ⟨b, 4, none⟩) hB).trans h4, (hb.cell (p := ⟨b, 5, none⟩) hB).trans h5, (hb.cell (p := ⟨b, 6, none⟩) hB).trans h6, (hb.cell (p := ⟨b, 7, none⟩) hB).trans h7⟩
def NdRel (w : World) (o : Obj) (n : Nat) (cs : List Cls) (B : Bool) (i : Value) (wr : World) : Prop := ∃ k : Nat, k ≤ n ∧ i = .int .i64 k ∧ Aft w o wr ∧ Hid (fromK (nodeOk cs) n k = B)
end Go.Proofs.Ytfijhgggljaomaa
