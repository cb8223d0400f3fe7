/- Padding: contracts of PadTo, program and model. -/
import Derived.Test.YtgnobmmlmmbfcaaWri
import Derived.Laws.CopyOwn
import Derived.Lib.AppendZerosOnto
namespace Go.Proofs.Ytgnobmmlmmbfcaa
open Go.RowKit
set_option maxRecDepth 100000

theorem OwnB.heap {w : World} {B g n : Nat} {zs : List Int} (h : OwnB w B g n n zs) : w.heap[g]? = some (.cells (bv zs).toArray 5 (0, 0)) := by
  have hl := h.1
  rcases h.2 with ⟨a, _⟩ | ⟨g1, cap', cur, a, b, c, d, e, f, ht⟩
  · cases a
  · cases a
    rw [c]
    have : cur.toList = bv zs := by rw [← ht, List.take_of_length_le (by rw [Array.length_toList, f]; exact Nat.le_refl _)]
    rw [← this]
theorem OwnB.of_heap {w : World} {B g n : Nat} {zs : List Int} (h : w.heap[g]? = some (.cells (bv zs).toArray 5 (0, 0))) (hB : B ≤ g) (hl : zs.length = n) (hm : n ≤ maxLen) : OwnB w B g n n zs :=
  ⟨by rw [bv_length]; omega, .inr ⟨g, n, (bv zs).toArray, rfl, hB, h, Nat.le_refl _, hm, by simp [bv_length, hl], by rw [List.take_of_length_le]; simp [bv_length, hl]⟩⟩
theorem u8_one (zs : List Int) : ∀ v ∈ bv zs, v.oneCell' = true := by
  intro v hv
  simp only [bv, List.mem_map] at hv
  obtain ⟨c, _, rfl⟩ := hv
  rfl
/-- padded bytes -/
def padded (zs : List Int) (s : Nat) : List Int := zs ++ List.replicate (s - zs.length) 0
theorem padded_length (zs : List Int) (s : Nat) (h : zs.length ≤ s) : (padded zs s).length = s := by simp [padded]; omega
theorem padded_range (zs : List Int) (s : Nat) (h : ∀ c ∈ zs, 0 ≤ c ∧ c ≤ 255) : ∀ c ∈ padded zs s, 0 ≤ c ∧ c ≤ 255 := by
  intro c hc
  simp only [padded, List.mem_append, List.mem_replicate] at hc
  rcases hc with hc | ⟨_, rfl⟩
  · exact h c hc
  · omega
theorem splice_padded (zs : List Int) (s : Nat) : splice (bv (List.replicate s 0)) 0 (bv zs) = bv (padded zs s) := by
  simp [splice, bv, padded]

theorem sizeU8 : (Try.prog.info? 5).map (·.size) = some 1 := by kernel_rfl
theorem copy_src {w w0 : World} {b off : Nat} {zs : List Int} {d : Addr} (h : Row w b off zs) (hb : Below w.heap.size w w0) :
    0 < (bv zs).length → (some d) = some d ∧ ∃ ad, (some (⟨b, off, none⟩ : Addr)) = some ad ∧ ∀ j v, (bv zs)[j]? = some v → w0.cell? (ad.add j) = some v := by
  intro h0
  rw [bv_length] at h0
  refine ⟨rfl, _, rfl, fun j v hj => ?_⟩
  have hr := h.below hb (World.block_lt_of_cell? w _ (h.1 0 h0))
  have hl : j < zs.length := by
    rw [← bv_length zs]
    exact (List.getElem?_eq_some_iff.1 hj).1
  rw [bv_get _ _ hl] at hj
  rw [show (⟨b, off, none⟩ : Addr).add j = ⟨b, off + j, none⟩ by unfold Addr.add; split <;> simp_all, hr.1 j hl]
  exact hj

end Go.Proofs.Ytgnobmmlmmbfcaa
