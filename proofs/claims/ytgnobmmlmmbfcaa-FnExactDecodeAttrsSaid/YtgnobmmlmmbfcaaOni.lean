/- Rows of integers of the call's own: marked, held, compared; only one block written. -/
import Derived.Test.YtgnobmmlmmbfcaaOpn
import Derived.Test.YtgnobmmlmmbfcaaBxw
import Derived.Test.YtgnobmmlmmbfcaaIni
import Derived.LoopTactic
import Derived.WalkMore
import Derived.WalkSmall
import Derived.Deep.RegionWith
import Derived.Deep.QuietTactic
import Derived.BigQuiet
namespace Go.Proofs.Ytgnobmmlmmbfcaa
open Go.RowKit
set_option linter.unusedVariables false

def nv (ks : List Nat) : List Value := ks.map (fun k : Nat => Value.int .i64 (k : Int))
theorem nv_length (ks : List Nat) : (nv ks).length = ks.length := by simp [nv]
theorem nv_snoc (ks : List Nat) (k : Nat) : nv (ks ++ [k]) = nv ks ++ [.int .i64 (k : Int)] := by simp [nv]
theorem nv_get (ks : List Nat) (j : Nat) (h : j < ks.length) : (nv ks)[j]? = some (.int .i64 ((ks.getD j 0 : Nat) : Int)) := by simp [nv, h]
theorem AtC.nat {w : World} {g : Nat} {ks : List Nat} (h : AtC w g (nv ks)) (k : Nat) (hk : k < ks.length) (j : Nat) (hj : ks.getD k 0 = j) : w.cell? ⟨g, k, none⟩ = some (.int .i64 (j : Int)) := by
  subst hj
  exact h.at k (nv_get ks k hk)
def EqNRel (w : World) (n : Nat) (i : Value) (wr : World) : Prop := ∃ k : Nat, k ≤ n ∧ i = .int .i64 k ∧ Below w.heap.size w wr
/-- only one block was written -/
def Onl (w w' : World) (p : Option Nat) : Prop := ∀ g, p ≠ some g → w'.heap[g]? = w.heap[g]?
theorem onl_set {w w1 : World} {g : Nat} (h : Onl w w1 (some g)) (j : Nat) (v : Value) : Onl w (w1.setCell ⟨g, j, none⟩ v) (some g) := fun g' hg => by
  rw [Go.Deep.blk_setCell_other _ _ _ _ (fun q => hg (by rw [q]))]; exact h g' hg
def SaysMk (w : World) (B : Nat) (v : Value) (r : Int) (e : Ending) (w' : World) : Prop := e = .returned (.int .i64 r) ∧ Below B w w' ∧ Onl w w' v.ownBlock
theorem own_onl {w w' : World} {B n z : Nat} {T : TypeId} {v : Value} {xs : List Value} {p : Option Nat} (h : w.ownsRow B T z v n xs) (ho : Onl w w' p) (hp : ∀ g, v.ownBlock = some g → p ≠ some g) : w'.ownsRow B T z v n xs := by
  obtain ⟨h1, h2⟩ := h
  refine ⟨h1, ?_⟩
  rcases h2 with h2 | ⟨g', cap', cur, a, b, c, d⟩
  · exact .inl h2
  · exact .inr ⟨g', cap', cur, a, b, by rw [ho g' (hp g' (by rw [a]; rfl))]; exact c, d⟩
theorem own_heap {w w' : World} {B n z : Nat} {T : TypeId} {v : Value} {xs : List Value} (h : w.ownsRow B T z v n xs) (ho : ∀ g, v.ownBlock = some g → w'.heap[g]? = w.heap[g]?) : w'.ownsRow B T z v n xs := by
  obtain ⟨h1, h2⟩ := h
  refine ⟨h1, ?_⟩
  rcases h2 with h2 | ⟨g', cap', cur, a, b, c, d⟩
  · exact .inl h2
  · exact .inr ⟨g', cap', cur, a, b, by rw [ho g' (by rw [a]; rfl)]; exact c, d⟩
theorem cell_heap {w w' : World} {g : Nat} (h : w'.heap[g]? = w.heap[g]?) (o : Nat) : w'.cell? ⟨g, o, none⟩ = w.cell? ⟨g, o, none⟩ := by simp only [World.cell?, h]
theorem heap_alloc_lt (w : World) (o : Obj) (g : Nat) (h : g < w.heap.size) : (w.alloc o).heap[g]? = w.heap[g]? := (one_new2 w o).block g h
def mkI (n : Nat) : List Value := (List.range n).map (fun j : Nat => Value.int .i64 (1 + (j : Int)))
theorem mkI_length (n : Nat) : (mkI n).length = n := by simp [mkI]
theorem mkI_get (n j : Nat) (h : j < n) : (mkI n)[j]? = some (Value.int .i64 (1 + (j : Int))) := by simp [mkI, h]
end Go.Proofs.Ytgnobmmlmmbfcaa
