/- The children of an attribute: contracts of both sides. -/
import Derived.Test.YtgnobmmlmmbfcaaAte
import Derived.Test.YtgnobmmlmmbfcaaOni
import Derived.Deep.AppendLies
namespace Go.Proofs.Ytgnobmmlmmbfcaa
open Go.RowKit
set_option linter.unusedVariables false
set_option maxRecDepth 100000

def kidsN (l : List At) (i k : Nat) : List Nat := (List.range k).filter (fun j => decide (i < j ∧ (gA l j).d = (gA l i).d + 1))
theorem kidsN_succ (l : List At) (i k : Nat) : kidsN l i (k + 1) = kidsN l i k ++ if i < k ∧ (gA l k).d = (gA l i).d + 1 then [k] else [] := by
  unfold kidsN
  rw [List.range_succ, List.filter_append]
  by_cases h : i < k ∧ (gA l k).d = (gA l i).d + 1
  · simp [h]
  · simp [h]
theorem kidsN_start (l : List At) (i : Nat) : kidsN l i (i + 1) = [] := by
  unfold kidsN
  rw [List.filter_eq_nil_iff]
  intro j hj
  simp at hj ⊢
  omega
theorem kidsN_same {l : List At} {i k e : Nat} (hke : k ≤ e) (h : ∀ j, k ≤ j → j < e → (gA l j).d ≠ (gA l i).d + 1) : kidsN l i e = kidsN l i k := by
  induction e with
  | zero => rw [Nat.le_zero.1 hke]
  | succ e ih =>
    rcases Nat.lt_or_eq_of_le hke with q | q
    · rw [kidsN_succ, ih (by omega) (fun j a b => h j a (by omega)), if_neg (fun x => h e (by omega) (by omega) x.2), List.append_nil]
    · rw [q]
theorem kidN_next {l : List At} (V : Va l) {i k : Nat} (hi : i < l.length) (hk : i < k) (hk2 : k < enA l i) (hd : (gA l k).d = (gA l i).d + 1) :
    kidsN l i (enA l k) = kidsN l i k ++ [k] ∧ enA l k ≤ enA l i ∧ (enA l k < enA l i → (gA l (enA l k)).d = (gA l i).d + 1) := by
  obtain ⟨a, b, c, d⟩ := enA_is hi
  obtain ⟨a', b', c', d'⟩ := enA_is (show k < l.length by omega)
  refine ⟨?_, en_in hi hk hk2, fun h => ?_⟩
  · rw [kidsN_same (k := k + 1) a' (fun j h1 h2 => by have := c' j (by omega) h2; omega), kidsN_succ, if_pos ⟨hk, hd⟩]
  · have := c (enA l k) (by omega) h
    have := d' (by omega)
    omega
theorem kidsN_len (l : List At) (i k : Nat) : (kidsN l i k).length ≤ k := by
  unfold kidsN
  exact Nat.le_trans (List.length_filter_le _ _) (by simp)
def resKids (l : List At) (i : Int) : List Nat := if hasA l i then kidsN l i.toNat (enA l i.toNat) else []
theorem resKids_len (l : List At) (i : Int) : (resKids l i).length ≤ 400 := by
  unfold resKids
  split
  · rename_i h
    obtain ⟨hl, k, rfl, hk⟩ := hasA_of h
    have := kidsN_len l k (enA l k)
    have := (enA_is hk).2.1
    have := (va hl).len
    rw [Int.toNat_natCast]
    omega
  · simp
theorem own_snoc {w wx w1 : World} {B k : Nat} {v v' : Value} {ks : List Nat} {u : Value} (hu : u = .int .i64 (k : Int)) (hb : Below B w wx) (h' : w1.ownsRow B 3 1 v' (ks.length + 1) (nv ks ++ [u])) (hB : B ≤ wx.heap.size) (hg : wx.grownBy w1 v.ownBlock) (hl : ∀ g, v.ownBlock = some g → B ≤ g) :
    w1.ownsRow B 3 1 v' (ks ++ [k]).length (nv (ks ++ [k])) ∧ Below B w w1 := by
  subst hu
  refine ⟨?_, hb.grown hg hB hl⟩
  rw [nv_snoc, List.length_append]
  exact h'
/-- a row of indices, and whether there is one -/
def SaysNB (w : World) (K : List Nat) (q : Bool) (e : Ending) (w' : World) : Prop := ∃ v, e = .returned (.tuple #[v, .bool q]) ∧ w'.ownsRow w.heap.size 3 1 v K.length (nv K) ∧ Below w.heap.size w w'
def SaysNs (w : World) (K : List Nat) (e : Ending) (w' : World) : Prop := ∃ v, e = .returned v ∧ w'.ownsRow w.heap.size 3 1 v K.length (nv K) ∧ Below w.heap.size w w'
theorem own_nil0 (w w' : World) : w'.ownsRow w.heap.size 3 1 (.slice none 0 0) (([] : List Nat)).length (nv []) := World.ownsRow_nil _ _ _ _
def TkRel (w : World) (l : List At) (i e : Nat) (out v : Value) (wr : World) : Prop :=
  ∃ (k : Nat) (ks : List Nat), i < k ∧ k ≤ e ∧ v = .int .i64 k ∧ BX w wr ∧ wr.ownsRow w.heap.size 3 1 out ks.length (nv ks) ∧ Hid (ks = kidsN l i k) ∧ Hid (k < e → (gA l k).d = (gA l i).d + 1)
def CkRel (w : World) (l : List At) (i e : Nat) (out v : Value) (wr : World) : Prop :=
  ∃ (k : Nat) (ks : List Nat), i < k ∧ k ≤ e ∧ v = .int .i64 k ∧ BX w wr ∧ wr.ownsRow w.heap.size 3 1 out ks.length (nv ks) ∧ Hid (ks = kidsN l i k)
end Go.Proofs.Ytgnobmmlmmbfcaa
