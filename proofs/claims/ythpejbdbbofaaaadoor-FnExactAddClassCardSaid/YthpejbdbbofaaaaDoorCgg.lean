/- slices.Delete of one class, from a row of the call's own. -/
import Derived.Test.YthpejbdbbofaaaaDoorCge
import Derived.Deep.RegionLaw
import Derived.Laws.OwnMore
namespace Go.Proofs.YthpejbdbbofaaaaDoor
set_option maxRecDepth 100000
open Go.RowKit
set_option linter.unusedVariables false

theorem own_take {w : World} {B n z g cap : Nat} {T : TypeId} {xs : List Value} (h : w.ownsRow B T z (.slice (some ⟨g, 0, none⟩) n cap) n xs) (i : Nat) (hi : i ≤ n) : w.ownsRow B T z (.slice (some ⟨g, 0, none⟩) i cap) i (xs.take (i * z)) := by
  have hm : i * z ≤ n * z := Nat.mul_le_mul_right _ hi
  obtain ⟨h1, h2⟩ := h
  rcases h2 with ⟨h2, _⟩ | ⟨g', cap', cur, hv, hb, hg, hn, hc, hs, ht⟩
  · cases h2
  · simp only [Value.slice.injEq, Option.some.injEq, Addr.mk.injEq, and_true, true_and] at hv
    obtain ⟨rfl, rfl⟩ := hv
    refine ⟨by rw [List.length_take]; omega, .inr ⟨g, cap, cur, rfl, hb, hg, by omega, hc, hs, ?_⟩⟩
    rw [← ht, List.take_take, Nat.min_eq_left hm]
theorem own_some {w : World} {B n z g cap : Nat} {T : TypeId} {xs : List Value} (h : w.ownsRow B T z (.slice (some ⟨g, 0, none⟩) n cap) n xs) (j : Nat) (hj : j < cap * z) : ∃ u, w.cell? ⟨g, j, none⟩ = some u := by
  obtain ⟨h1, h2⟩ := h
  rcases h2 with ⟨h2, _⟩ | ⟨g', cap', cur, hv, hb, hg, hn, hc, hs, ht⟩
  · cases h2
  · simp only [Value.slice.injEq, Option.some.injEq, Addr.mk.injEq, and_true, true_and] at hv
    obtain ⟨rfl, rfl⟩ := hv
    rw [cell_of_row w g j cur T (0, 0) hg]
    exact ⟨_, Array.getElem?_eq_getElem (by rw [hs]; exact hj)⟩
theorem own_cap {w : World} {B n z g cap : Nat} {T : TypeId} {xs : List Value} (h : w.ownsRow B T z (.slice (some ⟨g, 0, none⟩) n cap) n xs) : n ≤ cap ∧ cap ≤ maxLen := by
  rcases h.2 with ⟨h2, _⟩ | ⟨g', cap', cur, hv, hb, hg, hn, hc, hs, ht⟩
  · cases h2
  · simp only [Value.slice.injEq, Option.some.injEq, Addr.mk.injEq, and_true, true_and] at hv
    obtain ⟨rfl, rfl⟩ := hv
    exact ⟨hn, hc⟩
/-- a store behind the elements of a row -/
theorem own_behind {w : World} {B n z g cap : Nat} {T : TypeId} {xs : List Value} (h : w.ownsRow B T z (.slice (some ⟨g, 0, none⟩) n cap) n xs) (j : Nat) (hj : n * z ≤ j) (v : Value) : (w.setCell ⟨g, j, none⟩ v).ownsRow B T z (.slice (some ⟨g, 0, none⟩) n cap) n xs := by
  have q := own_store h j v
  rw [List.set_eq_of_length_le (by rw [h.1]; exact hj)] at q
  exact q
theorem step_append_fit {P : Program} (w : World) {ops : Array Oper} {o : Oper} {a : Act} {K : Act → World → Prop} {Q : Exit → Act → World → Prop} {E : Prop} (hgd : o.guard = none) (s x : Operand) (t : TypeId)
    (ho : o.op = .call { callee := .builtin .append, args := #[s, x], argTypes := #[t, t] })
    (base : Nat) (e : TypeId) (i : TypeInfo) (size : Nat) (ht : P.underlying t = some (.slice e)) (hi : P.info? e = some i) (hsize : i.size = size)
    (g n cap : Nat) (xs : List Value) (hs : a.eval s = .slice (some ⟨g, 0, none⟩) n cap) (hown : w.ownsRow base e size (.slice (some ⟨g, 0, none⟩) n cap) n xs)
    (ad : Addr) (m c : Nat) (news : List Value) (hx : a.eval x = .slice (some ad) m c) (hl : news.length = m * size) (hnews : ∀ j u, news[j]? = some u → w.cell? (ad.add j) = some u) (h1 : ∀ u ∈ news, u.oneCell' = true)
    (hroom : n + m ≤ cap)
    (h : ∀ w', w'.ownsRow base e size (.slice (some ⟨g, 0, none⟩) (n + m) cap) (n + m) (xs ++ news) → w.grownBy w' (some g) → K (a.put o.dst (.slice (some ⟨g, 0, none⟩) (n + m) cap)) w') :
    if Region.wanted o (yielded ops a.tmps) = true then Oper.wp P o a w K Q else E := by
  have hw : Region.wanted o (yielded ops a.tmps) = true := by simp [Region.wanted, hgd]
  rw [if_pos hw]
  obtain ⟨w', hr, h2, h3⟩ := run_append_fits (P := P) w base t o.type e i size ht hi hsize g n cap xs hown ad m c news hl hnews h1 hroom
  unfold Oper.wp execOp
  simp only [ho, resolve, invoke, builtin, Sem.run_bind, Sem.run_pure, Result.andThen_ok, List.map_toArray, List.map_cons, List.map_nil, hs, hx, hr]
  exact h w' h2 h3
def zer8 : List Value := [.int .i64 0, .int .i64 0, .int .i64 0, .int .i64 0, .int .i64 0, .int .i64 0, .int .i64 0, .int .i64 0]
theorem own_behinds {B n z g cap : Nat} {T : TypeId} {xs : List Value} : ∀ (vs : List Value) (o : Nat) (w : World), w.ownsRow B T z (.slice (some ⟨g, 0, none⟩) n cap) n xs → n * z ≤ o → (w.setCells g o vs).ownsRow B T z (.slice (some ⟨g, 0, none⟩) n cap) n xs
  | [], o, w, h, _ => h
  | v :: vs, o, w, h, ho => own_behinds vs (o + 1) _ (own_behind h o ho v) (by omega)
theorem below_behinds {B g : Nat} {wb : World} (hg : B ≤ g) : ∀ (vs : List Value) (o : Nat) (w : World), Below B wb w → Below B wb (w.setCells g o vs)
  | [], o, w, h => h
  | v :: vs, o, w, h => below_behinds hg vs (o + 1) _ (h.setCell hg v)
theorem onl_behinds {g : Nat} {wb : World} : ∀ (vs : List Value) (o : Nat) (w : World), Onl wb w (some g) → Onl wb (w.setCells g o vs) (some g)
  | [], o, w, h => h
  | v :: vs, o, w, h => onl_behinds vs (o + 1) _ (onl_set h o v)
theorem run_clear_cls (w : World) (ty : TypeId) (b o c : Nat) (hc : ∀ j, j < 8 → (w.cell? ⟨b, o + j, none⟩).isSome = true) (hf : ∀ j, j < 8 → w.frozen? ⟨b, o + j, none⟩ = false) :
    (Builtin.clear_ #[44] ty #[.slice (some ⟨b, o, none⟩) 1 c]).run Tryd.prog w = .ok (.tuple #[]) (w.setCells b o zer8) := by
  obtain ⟨i0, hi0, hz0, hz1, hz2⟩ := info_parts infoCls
  have hst := run_storeCells_cells (P := Tryd.prog) b o zer8 0 w (by simpa [zer8] using hc) (by simpa [zer8] using hf) (by intro v hv'; simp [zer8] at hv'; subst hv'; rfl)
  simp only [Nat.add_zero] at hst
  have hv : ∀ w, (zeroValue 62).run Tryd.prog w = .ok (.agg #[.int .i64 0, .int .i64 0, .int .i64 0, .int .i64 0, .int .i64 0, .int .i64 0, .int .i64 0, .int .i64 0]) w := by
    intro w
    simp [zeroValue, typeInfo, hi0, hz0]
  have hzc : (Builtin.zeroCells (Value.agg #[.int .i64 0, .int .i64 0, .int .i64 0, .int .i64 0, .int .i64 0, .int .i64 0, .int .i64 0, .int .i64 0]).cells 1).toList = zer8 := by
    apply List.ext_getElem
    · simp [Builtin.zeroCells, zer8, Value.cells]
    · intro j h1 h2
      have h8 : j < 8 := h2
      obtain rfl | rfl | rfl | rfl | rfl | rfl | rfl | rfl : j = 0 ∨ j = 1 ∨ j = 2 ∨ j = 3 ∨ j = 4 ∨ j = 5 ∨ j = 6 ∨ j = 7 := by omega
      all_goals simp [Builtin.zeroCells, zer8, Value.cells]
  simp [Builtin.clear_, run_underlying Tryd.underlying44, hv, hzc, hst]
end Go.Proofs.YthpejbdbbofaaaaDoor
