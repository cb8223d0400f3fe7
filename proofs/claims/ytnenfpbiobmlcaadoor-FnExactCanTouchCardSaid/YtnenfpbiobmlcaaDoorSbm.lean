/- Marking and asking a slice of strings of the call's own. -/
import Derived.Test.YtnenfpbiobmlcaaDoorSbt
import Derived.Deep.RegionWith
namespace Go.Proofs.YtnenfpbiobmlcaaDoor
set_option maxRecDepth 100000
open Go.RowKit

def mkS (k : Int) : ByteArray := strOfNums [109, 48 + k]
def marksS (n : Nat) : List ByteArray := (List.range n).map fun i : Nat => mkS ((i : Int) + 1)
def markToS (l : List ByteArray) (k : Nat) : List ByteArray := marksS k ++ l.drop k
theorem marksS_length (n : Nat) : (marksS n).length = n := by simp [marksS]
theorem marksS_succ (n : Nat) : marksS (n + 1) = marksS n ++ [mkS ((n : Int) + 1)] := by simp [marksS, List.range_succ]
theorem markToS_zero (l : List ByteArray) : markToS l 0 = l := by simp [markToS, marksS]
theorem markToS_all (l : List ByteArray) : markToS l l.length = marksS l.length := by simp [markToS]
theorem markToS_set (l : List ByteArray) (k : Nat) (h : k < l.length) : (markToS l k).set k (mkS ((k : Int) + 1)) = markToS l (k + 1) := by
  unfold markToS
  rw [List.set_append_right _ _ (by rw [marksS_length]; exact Nat.le_refl _), marksS_length, Nat.sub_self, List.drop_eq_getElem_cons h, List.set_cons_zero, marksS_succ, List.append_assoc]
  rfl
theorem marksS_get (n k : Nat) (h : k < n) : (marksS n).getD k ⟨#[]⟩ = mkS ((k : Int) + 1) := by
  simp [marksS, List.getD_eq_getElem?_getD, h]
def MarkRelS (w : World) (g n cap : Nat) (l : List ByteArray) (m i : Value) (wr : World) : Prop :=
  ∃ k : Nat, k ≤ n ∧ i = .int .i64 k ∧ m = .int .i64 (k + 1) ∧ OwnS wr g g n cap (markToS l k) ∧ OnlyGrown g w wr
end Go.Proofs.YtnenfpbiobmlcaaDoor
