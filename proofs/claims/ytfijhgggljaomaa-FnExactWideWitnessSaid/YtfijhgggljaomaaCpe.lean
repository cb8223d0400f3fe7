/- The program's marks of the classes that have children. -/
import Derived.Test.YtfijhgggljaomaaCpd
import Derived.Laws.Rows
import Derived.Laws.Tables
import Derived.Laws.CopyRow
import Derived.Deep.MidRow
import Derived.Deep.Cut
import Derived.Laws.IdiomCopy
namespace Go.Proofs.Ytfijhgggljaomaa
open Go.RowKit
set_option linter.unusedVariables false

/-- a class of the first ones has the class at an index for its parent -/
def mkP (cs : List Cls) (k j : Nat) : Bool := (cs.take k).any (fun x => fnd cs x.p == Option.some j)
def mkX (cs : List Cls) (k : Nat) : List Value := (List.range 24).map (fun j => Value.bool (mkP cs k j))
theorem mkX_length (cs : List Cls) (k : Nat) : (mkX cs k).length = 24 := by simp [mkX]
theorem mkX_asize (cs : List Cls) (k : Nat) : (mkX cs k).toArray.size = 24 := by rw [List.size_toArray, mkX_length]
theorem mkX_get (cs : List Cls) (k j : Nat) (h : j < 24) : (mkX cs k)[j]? = some (Value.bool (mkP cs k j)) := by simp [mkX, h]
theorem mkX_zero (cs : List Cls) : mkX cs 0 = List.replicate 24 (Value.bool false) := by
  unfold mkX mkP; simp [List.range, List.range.loop]
theorem mkP_more (cs : List Cls) (k j : Nat) (h : k < cs.length) (x : Cls) (hx : cs.getD k cls0 = x) : mkP cs (k + 1) j = (mkP cs k j || (fnd cs x.p == Option.some j)) := by
  have hl : cs[k] = x := by rw [← hx]; simp [List.getD_eq_getElem?_getD, h]
  unfold mkP
  rw [List.take_succ_eq_append_getElem h, List.any_append, hl]
  simp
theorem mkX_none (cs : List Cls) (k : Nat) (h : k < cs.length) (x : Cls) (hx : cs.getD k cls0 = x) (hf : fnd cs x.p = Option.none) : mkX cs (k + 1) = mkX cs k := by
  unfold mkX
  apply List.map_congr_left
  intro j _
  rw [mkP_more cs k j h x hx, hf]; simp
theorem mkX_some (cs : List Cls) (k i : Nat) (h : k < cs.length) (x : Cls) (hx : cs.getD k cls0 = x) (hf : fnd cs x.p = Option.some i) : mkX cs (k + 1) = (mkX cs k).set i (.bool true) := by
  apply List.ext_getElem?
  intro j
  by_cases hj : j < 24
  · rw [mkX_get _ _ _ hj, mkP_more cs k j h x hx, hf]
    by_cases hij : i = j
    · subst hij
      rw [List.getElem?_set_self (by rw [mkX_length]; exact hj)]; simp
    · rw [List.getElem?_set_ne hij, mkX_get _ _ _ hj]; simp [hij]
  · rw [List.getElem?_eq_none (by rw [mkX_length]; omega), List.getElem?_eq_none (by rw [List.length_set, mkX_length]; omega)]
theorem mkP_all {cs : List Cls} (hi : IncC cs) (n j : Nat) (hn : cs.length = n) (hj : j < n) : mkP cs n j = hasK cs (cs.getD j cls0).i := by
  unfold mkP hasK
  rw [List.take_of_length_le (by omega)]
  congr 1
  funext y
  apply Bool.eq_iff_iff.2
  rw [beq_iff_eq, beq_iff_eq]
  constructor
  · intro h; exact (fnd_get cs _ j h).2.symm
  · intro h; rw [h]; exact fnd_inc hi (by omega)
theorem mkX_one (cs : List Cls) (k : Nat) : ∀ v ∈ mkX cs k, v.oneCell' = true := by
  intro v hv
  unfold mkX at hv
  obtain ⟨j, _, rfl⟩ := List.mem_map.1 hv
  rfl
theorem mkX_lit (cs : List Cls) (k : Nat) : (mkX cs k).toArray = #[.bool (mkP cs k 0), .bool (mkP cs k 1), .bool (mkP cs k 2), .bool (mkP cs k 3), .bool (mkP cs k 4), .bool (mkP cs k 5), .bool (mkP cs k 6), .bool (mkP cs k 7), .bool (mkP cs k 8), .bool (mkP cs k 9), .bool (mkP cs k 10), .bool (mkP cs k 11), .bool (mkP cs k 12), .bool (mkP cs k 13), .bool (mkP cs k 14), .bool (mkP cs k 15), .bool (mkP cs k 16), .bool (mkP cs k 17), .bool (mkP cs k 18), .bool (mkP cs k 19), .bool (mkP cs k 20), .bool (mkP cs k 21), .bool (mkP cs k 22), .bool (mkP cs k 23)] := rfl
theorem mkX_list (cs : List Cls) (k : Nat) : mkX cs k = [.bool (mkP cs k 0), .bool (mkP cs k 1), .bool (mkP cs k 2), .bool (mkP cs k 3), .bool (mkP cs k 4), .bool (mkP cs k 5), .bool (mkP cs k 6), .bool (mkP cs k 7), .bool (mkP cs k 8), .bool (mkP cs k 9), .bool (mkP cs k 10), .bool (mkP cs k 11), .bool (mkP cs k 12), .bool (mkP cs k 13), .bool (mkP cs k 14), .bool (mkP cs k 15), .bool (mkP cs k 16), .bool (mkP cs k 17), .bool (mkP cs k 18), .bool (mkP cs k 19), .bool (mkP cs k 20), .bool (mkP cs k 21), .bool (mkP cs k 22), .bool (mkP cs k 23)] := rfl
theorem setN_own {B g n : Nat} {T : TypeId} : ∀ (vs : List Value) (i : Nat) (w : World) (xs : List Value), w.ownsRow B T 1 (.slice (some ⟨g, 0, none⟩) n n) n xs → i + vs.length = n → (w.setCells g i vs).ownsRow B T 1 (.slice (some ⟨g, 0, none⟩) n n) n (xs.take i ++ vs)
  | [], i, w, xs, h, hi => by
    have hl : xs.length = n * 1 := h.1
    simp only [List.length_nil, Nat.add_zero] at hi
    rw [List.take_of_length_le (by omega), List.append_nil]
    exact h
  | v :: vs, i, w, xs, h, hi => by
    have hl : xs.length = n * 1 := h.1
    simp only [List.length_cons] at hi
    have q := setN_own vs (i + 1) (w.setCell ⟨g, i, none⟩ v) (xs.set i v) (own_store h i v) (by omega)
    rw [List.take_add_one, List.getElem?_set_self (by omega), List.take_set_of_le (Nat.le_refl i)] at q
    show ((w.setCell ⟨g, i, none⟩ v).setCells g (i + 1) vs).ownsRow _ _ _ _ _ _
    simpa using q
theorem setN_below {B g : Nat} {w0 : World} (hg : B ≤ g) : ∀ (vs : List Value) (i : Nat) (w : World), Below B w0 w → Below B w0 (w.setCells g i vs)
  | [], _, _, h => h
  | v :: vs, i, w, h => setN_below hg vs (i + 1) _ (h.setCell hg v)
end Go.Proofs.Ytfijhgggljaomaa
