/- EncodeAttrs: the program's. -/
import Derived.Test.YtgnobmmlmmbfcaaAti
import Derived.Test.YtgnobmmlmmbfcaaAto
import Derived.Test.YtgnobmmlmmbfcaaAtw
namespace Go.Proofs.Ytgnobmmlmmbfcaa
open Go.RowKit
set_option linter.unusedVariables false
set_option maxRecDepth 100000

theorem rcL_ab (l : List At) (k : Nat) : rcL l k = abL (gA l k) (inA l k) := by
  unfold rcL abL
  rw [show ((4 + (gA l k).s.size + inA l k : Nat) : Int) = 4 + ((gA l k).s.size : Int) + (inA l k : Int) by omega]
theorem enL_next (l : List At) (k : Nat) : enL l 0 (k + 1) = enL l 0 k ++ abL (gA l k) (inA l k) := by
  rw [enL_add l (Nat.zero_le k) (Nat.le_succ k), enL_one, rcL_ab]
theorem conv_own (w : World) (B : Nat) (v : Value) (X : List Int) (ho : OwnZ w B v X) : (convert 47 9 v).run Try.prog w = .ok (.string (strOfNums X)) w := by
  obtain ⟨hl, h⟩ := ho
  rcases h with ⟨rfl, hn⟩ | ⟨g, cap, cur, rfl, hb, hg, hnc, hcm, hcs, htake⟩
  · have : X = [] := List.eq_nil_of_length_eq_zero hn
    subst this
    rw [run_convert_bytes_string w 47 9 5 none 0 0 Try.underlying47 Try.underlying5 Try.underlying9]
    rfl
  · refine run_convert_bytes_arg w 47 5 Try.underlying47 Try.underlying5 g 0 X.length cap X rfl (fun i hi => ?_) 9 Try.underlying9
    rw [Nat.zero_add]
    have hown : w.ownsRow B 5 1 (.slice (some ⟨g, 0, none⟩) X.length cap) X.length (bv X) := ⟨hl, .inr ⟨g, cap, cur, rfl, hb, hg, hnc, hcm, hcs, htake⟩⟩
    exact (World.ownsRow.cellAt hown i (by omega)).trans (bv_get X i hi)
theorem OwnZ.nil (w : World) (B : Nat) : OwnZ w B (.slice none 0 0) [] := World.ownsRow_nil _ _ _ _
def ErRel (w1 : World) (l : List At) (n : Nat) (form i : Value) (wr : World) : Prop := ∃ k : Nat, k ≤ n ∧ i = .int .i64 k ∧ BX w1 wr ∧ OwnZ wr w1.heap.size form (enL l 0 k)
theorem resE_no {l : List At} (h : okE l = false) : resE l = ⟨#[]⟩ := by unfold resE; rw [h]; rfl
theorem resE_yes {l : List At} (h : okE l = true) : resE l = strOfNums (enL l 0 l.length) := by unfold resE; rw [h]; rfl
end Go.Proofs.Ytgnobmmlmmbfcaa
