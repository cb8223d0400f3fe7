/- Zeros appended to a slice of bytes of the call's own: the law at the operation. -/
import Derived.Test.YtelkpdkpnaeggaaPto
import Derived.Lib.AppendZerosOnto
namespace Go.Proofs.Ytelkpdkpnaeggaa
open Go.RowKit

theorem zeroCells_u8 (k : Nat) : Builtin.zeroCells (Value.int .u8 0).cells k = (bv (List.replicate k 0)).toArray := by
  have e : (Value.int .u8 0).cells = #[.int .u8 0] := rfl
  rw [e]
  unfold Builtin.zeroCells
  apply Array.ext
  · simp [bv]
  · intro i h1 h2
    simp [bv, Nat.mod_one]

theorem zeros_own {P : Program} (hP : P = Try.prog) (w : World) (ty : TypeId) (B g n cap k : Nat) (zs : List Int) (h : OwnB w B g n cap zs) (hB : B ≤ w.heap.size) (hk : n + k ≤ 1048576) :
    ∃ v' w', (Builtin.append_ #[22, 3] ty #[.slice (some ⟨g, 0, none⟩) n cap, .int .i64 k]).run P w = .ok v' w' ∧
      ∃ g' cap', v' = .slice (some ⟨g', 0, none⟩) (n + k) cap' ∧ OwnB w' B g' (n + k) cap' (zs ++ List.replicate k 0) ∧ Below B w w' := by
  subst hP
  obtain ⟨i0, hi, hz0, hz1, hz2⟩ := info_parts infoU8
  have hl := h.len
  rcases h.2 with ⟨a, _⟩ | ⟨g1, cap1, cur, a, hBg, hg, hnc, hcm, hcs, htake⟩
  · cases a
  · cases a
    by_cases hroom : n + k ≤ cap
    · have hst := run_storeCells_at Try.prog g n 5 (bv (List.replicate k 0)) 0 cur w hg (by rw [hcs, bv_length, List.length_replicate]; omega) (u8_one _)
      simp only [Nat.add_zero] at hst
      have hw : IntKind.i64.wrap (k : Int) = k := IntWalk.i64_in _ (by omega)
      have hneg : ¬ ((k : Int) < 0) := by omega
      have hbig : ¬ (281474976710656 < (k : Int)) := by omega
      obtain ⟨W1, hW⟩ : ∃ W1 : World, W1 = w.setRow g (List.take n cur.toList ++ bv (List.replicate k 0) ++ List.drop (n + (bv (List.replicate k 0)).length) cur.toList).toArray := ⟨_, rfl⟩
      rw [← hW] at hst
      refine ⟨.slice (some ⟨g, 0, none⟩) (n + k) cap, W1, ?_, g, cap, rfl, ?_, ?_⟩
      · by_cases hk0 : k = 0
        · subst hk0
          have hw0 : IntKind.i64.wrap 0 = 0 := IntWalk.i64_in 0 (by omega)
          have hst' : (storeCells ⟨g, n, none⟩ []).run Try.prog w = .ok () W1 := hst
          simp [Builtin.append_, run_underlying Try.underlying22, run_underlying Try.underlying3, sizeOf, typeInfo, hi, hz1, hz2, asInt, asIntOf, hw0, hnc, Addr.add_lit, hst']
        · simp [Builtin.append_, run_underlying Try.underlying22, run_underlying Try.underlying3, sizeOf, typeInfo, zeroValue, hi, hz0, hz1, hz2, asInt, asIntOf, hw, hneg, hbig, hroom, Addr.add_lit, hst, hk0, zeroCells_u8]
      · subst hW
        have htk : List.take n cur.toList = bv zs := by rw [← htake, Nat.mul_one]
        refine ⟨by rw [bv_length]; simp; omega, .inr ⟨g, cap, _, rfl, hBg, setRow_heap w g cur _ 5 _ hg, hroom, hcm, ?_, ?_⟩⟩
        · simp [bv_length]; omega
        · rw [htk, Nat.mul_one, List.take_append_of_le_length (by simp [bv_length]; omega), List.take_of_length_le (by simp [bv_length]; omega)]
          simp [bv]
      · subst hW
        exact below_setRow (Below.refl _ _) hBg _
    · have hw2 : (Builtin.firstCells i0.size n (.slice (some ⟨g, 0, none⟩) n cap)).run Try.prog w.drew = .ok (bv zs).toArray w.drew :=
        run_firstCells_some (P := Try.prog) w.drew i0.size n ⟨g, 0, none⟩ n cap (bv zs) (by rw [bv_length, hz1]; omega) (fun j u hj => (World.ownsRow.cells h (g := g) rfl j u hj))
      have hr := Lib.run_append_grow_zeros (P := Try.prog) w 22 3 ty 5 i0 (.int .u8 0) .i64 .i64 Try.underlying22 Try.underlying3 hi hz0 (some ⟨g, 0, none⟩) n cap (bv zs) hw2 k (by omega) (by omega) (by omega) (by omega) (by rw [hz2]; omega) (growslice_fits (by omega) (by rw [hz2]; omega))
      have hge := grownCap_ge w (n + k) cap 5
      have hcm' : grownCap w (n + k) cap 5 ≤ maxLen := grownCap_le_maxLen w (n + k) cap 5 (by unfold maxLen; omega)
      refine ⟨_, _, hr, w.heap.size, _, rfl, ⟨by rw [bv_length]; simp; omega, .inr ⟨w.heap.size, _, _, rfl, hB, heap_alloc_new w.drew _, hge, hcm', ?_, ?_⟩⟩, ((Below.refl B w).drew).alloc (by simpa using hB) _⟩
      · rw [zeroCells_u8, zeroCells_u8]
        simp [bv_length]
        omega
      · rw [zeroCells_u8, zeroCells_u8, Nat.mul_one]
        simp only [Array.toList_append]
        rw [List.take_append_of_le_length (by simp [bv_length]; omega), List.take_of_length_le (by simp [bv_length]; omega)]
        simp [bv]
end Go.Proofs.Ytelkpdkpnaeggaa
