/- slices.Delete of one class, from a row of the call's own. -/
import Derived.Test.YtdmcgjohpnojkaaGreatDoorCge
import Derived.Deep.RegionLaw
import Derived.Laws.OwnMore
namespace Go.Proofs.YtdmcgjohpnojkaaGreatDoor
set_option maxRecDepth 100000
open Go.RowKit
set_option linter.unusedVariables false

theorem own_take {w : World} {B n z g cap : Nat} {T : TypeId} {xs : List Value} (h : w.ownsRow B T z (.slice (some ⟨g, 0, none⟩) n cap) n xs) (i : Nat) (hi : i ≤ n) : w.ownsRow B T z (.slice (some ⟨g, 0, none⟩) i cap) i (xs.take (i * z)) := by
  have hm : i * z ≤ n * z := Nat.mul_le_mul_right _ hi
  obtain ⟨h1, h2⟩ := h
  rcases h2 with ⟨h2, _⟩ | ⟨g', cap', cur, hv, hb, hg, hn, hc, hs, ht⟩
  · cases h2
  · simp only [Value.slice.injEq, Option.some.injEq, Addr.mk.injEq, and_true, true_and] at hv
    obtain ⟨rfl, rfl⟩ := hv
    refine ⟨by rw [List.length_take]; omega, .inr ⟨g, cap, cur, rfl, hb, hg, by omega, hc, hs, ?_⟩⟩
    rw [← ht, List.take_take, Nat.min_eq_left hm]
theorem own_some {w : World} {B n z g cap : Nat} {T : TypeId} {xs : List Value} (h : w.ownsRow B T z (.slice (some ⟨g, 0, none⟩) n cap) n xs) (j : Nat) (hj : j < cap * z) : ∃ u, w.cell? ⟨g, j, none⟩ = some u := by
  obtain ⟨h1, h2⟩ := h
  rcases h2 with ⟨h2, _⟩ | ⟨g', cap', cur, hv, hb, hg, hn, hc, hs, ht⟩
  · cases h2
  · simp only [Value.slice.injEq, Option.some.injEq, Addr.mk.injEq, and_true, true_and] at hv
    obtain ⟨rfl, rfl⟩ := hv
    rw [cell_of_row w g j cur T (0, 0) hg]
    exact ⟨_, Array.getElem?_eq_getElem (by rw [hs]; exact hj)⟩
theorem own_cap {w : World} {B n z g cap : Nat} {T : TypeId} {xs : List Value} (h : w.ownsRow B T z (.slice (some ⟨g, 0, none⟩) n cap) n xs) : n ≤ cap ∧ cap ≤ maxLen := by
  rcases h.2 with ⟨h2, _⟩ | ⟨g', cap', cur, hv, hb, hg, hn, hc, hs, ht⟩
  · cases h2
  · simp only [Value.slice.injEq, Option.some.injEq, Addr.mk.injEq, and_true, true_and] at hv
    obtain ⟨rfl, rfl⟩ := hv
    exact ⟨hn, hc⟩
/-- a store behind the elements of a row -/
theorem own_behind {w : World} {B n z g cap : Nat} {T : TypeId} {xs : List Value} (h : w.ownsRow B T z (.slice (some ⟨g, 0, none⟩) n cap) n xs) (j : Nat) (hj : n * z ≤ j) (v : Value) : (w.setCell ⟨g, j, none⟩ v).ownsRow B T z (.slice (some ⟨g, 0, none⟩) n cap) n xs := by
  have q := own_store h j v
  rw [List.set_eq_of_length_le (by rw [h.1]; exact hj)] at q
  exact q
theorem step_append_fit {P : Program} (w : World) {ops : Array Oper} {o : Oper} {a : Act} {K : Act → World → Prop} {Q : Exit → Act → World → Prop} {E : Prop} (hgd : o.guard = none) (s x : Operand) (t : TypeId)
    (ho : o.op = .call { callee := .builtin .append, args := #[s, x], argTypes := #[t, t] })
    (base : Nat) (e : TypeId) (i : TypeInfo) (size : Nat) (ht : P.underlying t = some (.slice e)) (hi : P.info? e = some i) (hsize : i.size = size)
    (g n cap : Nat) (xs : List Value) (hs : a.eval s = .slice (some ⟨g, 0, none⟩) n cap) (hown : w.ownsRow base e size (.slice (some ⟨g, 0, none⟩) n cap) n xs)
    (ad : Addr) (m c : Nat) (news : List Value) (hx : a.eval x = .slice (some ad) m c) (hl : news.length = m * size) (hnews : ∀ j u, news[j]? = some u → w.cell? (ad.add j) = some u) (h1 : ∀ u ∈ news, u.oneCell' = true)
    (hroom : n + m ≤ cap)
    (h : ∀ w', w'.ownsRow base e size (.slice (some ⟨g, 0, none⟩) (n + m) cap) (n + m) (xs ++ news) → w.grownBy w' (some g) → K (a.put o.dst (.slice (some ⟨g, 0, none⟩) (n + m) cap)) w') :
    if Region.wanted o (yielded ops a.tmps) = true then Oper.wp P o a w K Q else E := by
  have hw : Region.wanted o (yielded ops a.tmps) = true := by simp [Region.wanted, hgd]
  rw [if_pos hw]
  obtain ⟨w', hr, h2, h3⟩ := run_append_fits (P := P) w base t o.type e i size ht hi hsize g n cap xs hown ad m c news hl hnews h1 hroom
  unfold Oper.wp execOp
  simp only [ho, resolve, invoke, builtin, Sem.run_bind, Sem.run_pure, Result.andThen_ok, List.map_toArray, List.map_cons, List.map_nil, hs, hx, hr]
  exact h w' h2 h3
def zer8 : List Value := [.int .i64 0, .int .i64 0, .int .i64 0, .int .i64 0, .int .i64 0, .int .i64 0, .int .i64 0, .int .i64 0]
theorem own_behinds {B n z g cap : Nat} {T : TypeId} {xs : List Value} : ∀ (vs : List Value) (o : Nat) (w : World), w.ownsRow B T z (.slice (some ⟨g, 0, none⟩) n cap) n xs → n * z ≤ o → (w.setCells g o vs).ownsRow B T z (.slice (some ⟨g, 0, none⟩) n cap) n xs
  | [], o, w, h, _ => h
  | v :: vs, o, w, h, ho => own_behinds vs (o + 1) _ (own_behind h o ho v) (by omega)
theorem below_behinds {B g : Nat} {wb : World} (hg : B ≤ g) : ∀ (vs : List Value) (o : Nat) (w : World), Below B wb w → Below B wb (w.setCells g o vs)
  | [], o, w, h => h
  | v :: vs, o, w, h => below_behinds hg vs (o + 1) _ (h.setCell hg v)
theorem onl_behinds {g : Nat} {wb : World} : ∀ (vs : List Value) (o : Nat) (w : World), Onl wb w (some g) → Onl wb (w.setCells g o vs) (some g)
  | [], o, w, h => h
  | v :: vs, o, w, h => onl_behinds vs (o + 1) _ (onl_set h o v)
theorem run_clear_cls (w : World) (ty : TypeId) (b o c : Nat) (hc : ∀ j, j < 8 → (w.cell? ⟨b, o + j, none⟩).isSome = true) (hf : ∀ j, j < 8 → w.frozen? ⟨b, o + j, none⟩ = false) :
    (Builtin.clear_ #[51] ty #[.slice (some ⟨b, o, none⟩) 1 c]).run Tryz.prog w = .ok (.tuple #[]) (w.setCells b o zer8) := by
  obtain ⟨i0, hi0, hz0, hz1, hz2⟩ := info_parts infoCls
  have hst := run_storeCells_cells (P := Tryz.prog) b o zer8 0 w (by simpa [zer8] using hc) (by simpa [zer8] using hf) (by intro v hv'; simp [zer8] at hv'; subst hv'; rfl)
  simp only [Nat.add_zero] at hst
  have hv : ∀ w, (zeroValue 63).run Tryz.prog w = .ok (.agg #[.int .i64 0, .int .i64 0, .int .i64 0, .int .i64 0, .int .i64 0, .int .i64 0, .int .i64 0, .int .i64 0]) w := by
    intro w
    simp [zeroValue, typeInfo, hi0, hz0]
  have hzc : (Builtin.zeroCells (Value.agg #[.int .i64 0, .int .i64 0, .int .i64 0, .int .i64 0, .int .i64 0, .int .i64 0, .int .i64 0, .int .i64 0]).cells 1).toList = zer8 := by
    apply List.ext_getElem
    · simp [Builtin.zeroCells, zer8, Value.cells]
    · intro j h1 h2
      have h8 : j < 8 := h2
      obtain rfl | rfl | rfl | rfl | rfl | rfl | rfl | rfl : j = 0 ∨ j = 1 ∨ j = 2 ∨ j = 3 ∨ j = 4 ∨ j = 5 ∨ j = 6 ∨ j = 7 := by omega
      all_goals simp [Builtin.zeroCells, zer8, Value.cells]
  simp [Builtin.clear_, run_underlying Tryz.underlying51, hv, hzc, hst]
set_option maxHeartbeats 6400000 in
theorem delete_any (B g n cap i : Nat) (xs : List Value) (w : World) (HO : Hid (w.ownsRow B 63 8 (.slice (some ⟨g, 0, none⟩) n cap) n xs)) (H1 : Hid (∀ u ∈ xs, u.oneCell' = true)) (hi : i < n) (hn : n ≤ 1048576) :
    Calls Tryz.prog 94 #[.slice (some ⟨g, 0, none⟩) n cap, .int .i64 i, .int .i64 (i + 1)] w (fun e w' => e = .returned (.slice (some ⟨g, 0, none⟩) (n - 1) cap) ∧ w'.ownsRow B 63 8 (.slice (some ⟨g, 0, none⟩) (n - 1) cap) (n - 1) (xs.take (i * 8) ++ xs.drop ((i + 1) * 8)) ∧ Below B w w' ∧ ∀ q, q < w.heap.size → q ≠ g → w'.heap[q]? = w.heap[q]?) := by
  obtain ⟨i0, hi0, hz0, hz1, hz2⟩ := info_parts infoCls
  obtain ⟨hnc, hcm⟩ := own_cap HO.out
  have hxl : xs.length = n * 8 := HO.out.1
  have hne : ((i : Int) == (i : Int) + 1) = false := by simp; omega
  have hj1 : (i : Int) + 1 ≤ (n : Int) := by omega
  have hcp : (cap : Int) ≤ 9223372036854775807 := by unfold maxLen at hcm; omega
  have HXL := Lib.hid hxl
  clear hxl hcm
  go_enter Tryz.func94, Tryz.ntmps94
  go_wp2_with fail
  obtain ⟨A, hA, hN⟩ : ∃ A : Addr, (if cap = i + 1 then (⟨g, 0, none⟩ : Addr) else ⟨g, (i + 1) * 8, none⟩) = A ∧ Hid (∀ j u, (xs.drop ((i + 1) * 8))[j]? = some u → w.drew.cell? (A.add j) = some u) := by
    by_cases h : cap = i + 1
    · refine ⟨⟨g, 0, none⟩, by rw [if_pos h], Lib.hid (fun j u hu => ?_)⟩
      have h0 : xs.drop ((i + 1) * 8) = [] := List.drop_eq_nil_of_le (by have := HXL.out; omega)
      rw [h0] at hu
      simp at hu
    · refine ⟨⟨g, (i + 1) * 8, none⟩, by rw [if_neg h], Lib.hid (fun j u hu => ?_)⟩
      rw [List.getElem?_drop] at hu
      have hj : (i + 1) * 8 + j < n * 8 := by have := (List.getElem?_eq_some_iff.1 hu).1; have := HXL.out; omega
      have hadd : (⟨g, (i + 1) * 8, none⟩ : Addr).add j = ⟨g, (i + 1) * 8 + j, none⟩ := by unfold Addr.add; split <;> simp_all
      rw [hadd]
      exact (World.ownsRow.cellAt HO.out _ hj).trans hu
  have hic : i ≤ cap := by omega
  have hjc : i + 1 ≤ cap := by omega
  have hp0 : (0 : Int) ≤ (i : Int) + 1 := by omega
  have hA' : (if cap = i + 1 then (some (⟨g, 0, none⟩ : Addr)) else some ⟨g, (i + 1) * 8, none⟩) = some A := by rw [← hA]; split <;> rfl
  refine wp_region_held_drew (S := fun _ => True) (by kernel_rfl) trivial (fun _ => ?_)
  refine held_take (i := 0) (d := 20) (v := ?_) rfl rfl (by kernel_rfl) (by kernel_rfl) (by kernel_rfl) (fun _ _ _ h => h) (by rfl) ?_ trivial ?_
  rotate_left
  · intro w hSw
    go_simp
    try with_reducible rfl
  try simp only [Act.put, List.setIfInBounds_toArray, List.set_cons_zero, List.set_cons_succ]
  refine held_take (i := 1) (d := 21) (v := ?_) rfl rfl (by kernel_rfl) (by kernel_rfl) (by kernel_rfl) (fun _ _ _ h => h) (by rfl) ?_ trivial ?_
  rotate_left
  · intro w hSw
    go_simp
    try with_reducible rfl
  try simp only [Act.put, List.setIfInBounds_toArray, List.set_cons_zero, List.set_cons_succ]
  refine held_take (i := 2) (d := 22) (v := ?_) rfl rfl (by kernel_rfl) (by kernel_rfl) (by kernel_rfl) (fun _ _ _ h => h) (by rfl) ?_ trivial ?_
  rotate_left
  · intro w hSw
    go_simp
    try with_reducible rfl
  try simp only [Act.put, List.setIfInBounds_toArray, List.set_cons_zero, List.set_cons_succ]
  refine held_take (i := 3) (d := 23) (v := ?_) rfl rfl (by kernel_rfl) (by kernel_rfl) (by kernel_rfl) (fun _ _ _ h => h) (by rfl) ?_ trivial ?_
  rotate_left
  · intro w hSw
    go_simp
    try with_reducible rfl
  try simp only [Act.put, List.setIfInBounds_toArray, List.set_cons_zero, List.set_cons_succ]
  refine held_take (i := 4) (d := 24) (v := ?_) rfl rfl (by kernel_rfl) (by kernel_rfl) (by kernel_rfl) (fun _ _ _ h => h) (by rfl) ?_ trivial ?_
  rotate_left
  · intro w hSw
    go_simp
    try with_reducible rfl
  try simp only [Act.put, List.setIfInBounds_toArray, List.set_cons_zero, List.set_cons_succ]
  refine held_take (i := 5) (d := 25) (v := ?_) rfl rfl (by kernel_rfl) (by kernel_rfl) (by kernel_rfl) (fun _ _ _ h => h) (by rfl) ?_ trivial ?_
  rotate_left
  · intro w hSw
    go_simp
    try with_reducible rfl
  try simp only [Act.put, List.setIfInBounds_toArray, List.set_cons_zero, List.set_cons_succ]
  refine wpAnyH_ready (rs := [6]) (by kernel_rfl) (by simp) ?_
  refine AllReadyH.cons rfl (fun K' hK => ?_) AllReadyH.nil
  refine step_append_fit _ rfl (.tmp 22) (.tmp 25) 51 rfl B 63 i0 8 Tryz.underlying51 hi0 hz1 g i cap (xs.take (i * 8)) (by rfl) (own_take (own_low HO.out (below_drewN (Below.refl _ _) 1) (Nat.le_refl _)) i (by omega)) A (n - (i + 1)) (cap - (i + 1)) (xs.drop ((i + 1) * 8)) (by rfl) (by rw [List.length_drop, HXL.out]; omega) hN.out (fun u hu => H1.out u (List.mem_of_mem_drop hu)) (by omega) ?_
  intro w1 hown hgrow
  refine hK.out _ _ trivial (fun _ => ?_)
  clear hK K'
  refine held_take (i := 7) (d := 0) (v := ?_) rfl rfl (by kernel_rfl) (by kernel_rfl) (by kernel_rfl) (fun _ _ _ h => h) (by rfl) ?_ trivial ?_
  rotate_left
  · intro w hSw
    go_simp
    try with_reducible rfl
  try simp only [Act.put, List.setIfInBounds_toArray]
  refine wpAnyH_done (by kernel_rfl) ?_ _
  have hq : i + (n - (i + 1)) = n - 1 := by omega
  rw [hq] at hown
  simp only [hq]
  have hgB := (World.ownsRow.lt hown g rfl).1
  have B1 : Hid (Below B w w1) := Lib.hid (Below.grown (below_drewN (Below.refl _ _) 1) hgrow (Nat.le_trans hgB (Nat.le_of_lt (World.ownsRow.lt HO.out g rfl).2)) (fun k hk => by cases hk; exact hgB))
  have OW := Lib.hid hown
  have f := World.ownsRow.frozenAt hown
  have HCL := run_clear_cls w1 0 g ((n - 1) * 8) (cap - (n - 1)) (fun j hj => by obtain ⟨u, hu⟩ := own_some hown ((n - 1) * 8 + j) (by omega); rw [hu]; rfl) (fun j hj => f _)
  have hn1 : n - 1 ≤ n := by omega
  have hn2 : n - (n - 1) = 1 := by omega
  have hn3 : ¬ cap = n - 1 := by omega
  have HG := Lib.hid hgrow
  clear f hown hgrow hA hN
  go_wp2_with fail
  go_ret
  refine ⟨rfl, own_behinds _ _ _ OW.out (Nat.le_refl _), below_behinds hgB _ _ _ B1.out, fun q hq hne => ((onl_behinds zer8 _ w1 (fun _ _ => rfl)) q (by simpa using fun h => absurd h.symm hne)).trans (HG.out.block q hq (by simpa using hne))⟩
end Go.Proofs.YtdmcgjohpnojkaaGreatDoor
