/- slices.Insert of one class into a row of the call's own. -/
import Derived.Test.YtdmcgjohpnojkaaGreatDoorCgg
import Derived.Lib.AppendZerosOnto
import Derived.Lib.Overlaps
import Derived.Laws.Externs
namespace Go.Proofs.YtdmcgjohpnojkaaGreatDoor
set_option maxRecDepth 100000
open Go.RowKit
set_option linter.unusedVariables false
set_option linter.unusedSimpArgs false

theorem run_copy_k {P : Program} (w : World) (dT sT ty elem : TypeId) (k b o dLen dCap : Nat) (a : Addr) (sLen sCap : Nat) (cs : List Value)
    (hu : P.underlying dT = some (.slice elem)) (hs : (P.info? elem).map (·.size) = some k) (hn : cs.length = Nat.min sLen dLen * k)
    (hsrc : ∀ j v, cs[j]? = some v → w.cell? (a.add j) = some v) (hc : ∀ j, j < cs.length → (w.cell? ⟨b, o + j, none⟩).isSome = true) (hf : ∀ j, j < cs.length → w.frozen? ⟨b, o + j, none⟩ = false) (h1 : ∀ v ∈ cs, v.oneCell' = true) :
    (Builtin.copy_ #[dT, sT] ty #[.slice (some ⟨b, o, none⟩) dLen dCap, .slice (some a) sLen sCap]).run P w = .ok (goInt (Nat.min sLen dLen)) (w.setCells b o cs) := by
  have hl := run_loadCells_list (P := P) w a cs hsrc
  have hst := run_storeCells_cells (P := P) b o cs 0 w (by simpa using hc) (by simpa using hf) h1
  cases hq : P.info? elem with
  | none => simp [hq] at hs
  | some i =>
    have hi : i.size = k := by simpa [hq] using hs
    rw [hn] at hl
    simp [Builtin.copy_, run_underlying hu, Builtin.lenOf, Builtin.firstCells, sizeOf, typeInfo, hq, hi, hl, hst]
theorem wpList_copy_k {P : Program} (w : World) {ops : Array Oper} {rest : List Oper} {o : Oper} {a : Act} {Q : Exit → Act → World → Prop} (hgd : o.guard = none) (d s : Operand) (t t' : TypeId)
    (ho : o.op = .call { callee := .builtin .copy, args := #[d, s], argTypes := #[t, t'] }) (v u : Value) (hd : a.eval d = v) (hs : a.eval s = u) {v' : Value} {w' : World}
    (hr : (Builtin.copy_ #[t, t'] o.type #[v, u]).run P w = .ok v' w') (h : wpList P ops Q rest (a.put o.dst v') w') : wpList P ops Q (o :: rest) a w := by
  refine wpList_plain hgd fun K hK => ?_
  unfold Oper.wp execOp
  simp only [ho, resolve, invoke, builtin, Sem.run_bind, Sem.run_pure, Result.andThen_ok, List.map_toArray, List.map_cons, List.map_nil, hd, hs, hr]
  exact hK _ _ h
theorem step_copy_k {P : Program} {ops : Array Oper} {o : Oper} {a : Act} {w : World} {K : Act → World → Prop} {Q : Exit → Act → World → Prop} {E : Prop}
    (hg : o.guard = none) (d x : Operand) (dT sT : TypeId) (hop : o.op = Op.call { callee := Callee.builtin Builtin.copy, args := #[d, x], argTypes := #[dT, sT] })
    (v u : Value) (hd : a.eval d = v) (hx : a.eval x = u) {v' : Value} {w' : World} (hr : (Builtin.copy_ #[dT, sT] o.type #[v, u]).run P w = .ok v' w') (hK : K (a.put o.dst v') w') :
    if Region.wanted o (yielded ops a.tmps) = true then Oper.wp P o a w K Q else E := by
  have hw : Region.wanted o (yielded ops a.tmps) = true := by simp [Region.wanted, hg]
  rw [if_pos hw]
  unfold Oper.wp
  simp [execOp, hop, resolve, invoke, builtin, hd, hx, hr, Result.andThen]
  exact hK
theorem wpList_append_run {P : Program} (w : World) {ops : Array Oper} {rest : List Oper} {o : Oper} {a : Act} {Q : Exit → Act → World → Prop} (hgd : o.guard = none) (d s : Operand) (t t' : TypeId)
    (ho : o.op = .call { callee := .builtin .append, args := #[d, s], argTypes := #[t, t'] }) (v u : Value) (hd : a.eval d = v) (hs : a.eval s = u) {v' : Value} {w' : World}
    (hr : (Builtin.append_ #[t, t'] o.type #[v, u]).run P w = .ok v' w') (h : wpList P ops Q rest (a.put o.dst v') w') : wpList P ops Q (o :: rest) a w := by
  refine wpList_plain hgd fun K hK => ?_
  unfold Oper.wp execOp
  simp only [ho, resolve, invoke, builtin, Sem.run_bind, Sem.run_pure, Result.andThen_ok, List.map_toArray, List.map_cons, List.map_nil, hd, hs, hr]
  exact hK _ _ h
theorem row_cells {g : Nat} {T : TypeId} : ∀ (vs : List Value) (o : Nat) (w : World) (cur : Array Value), w.heap[g]? = some (.cells cur T (0, 0)) → o + vs.length ≤ cur.size →
    ∃ cur' : Array Value, (w.setCells g o vs).heap[g]? = some (.cells cur' T (0, 0)) ∧ cur'.size = cur.size ∧ (∀ j, j < o → cur'[j]? = cur[j]?) ∧ (∀ j, j < vs.length → cur'[o + j]? = vs[j]?) ∧ (∀ j, o + vs.length ≤ j → cur'[j]? = cur[j]?)
  | [], o, w, cur, h, _ => ⟨cur, h, rfl, fun _ _ => rfl, fun j hj => absurd hj (by simp), fun _ _ => rfl⟩
  | v :: r, o, w, cur, h, hl => by
    have hl' : o + (r.length + 1) ≤ cur.size := by simpa using hl
    obtain ⟨c', h1, h2, h3, h4, h5⟩ := row_cells r (o + 1) (w.setCell ⟨g, o, none⟩ v) (cur.setIfInBounds o v) (heap_setCell_same w g o _ _ v h) (by simp; omega)
    refine ⟨c', h1, by rw [h2]; simp, fun j hj => ?_, fun j hj => ?_, fun j hj => ?_⟩
    · rw [h3 j (by omega), Array.getElem?_setIfInBounds_ne (by omega)]
    · match j with
      | 0 =>
        rw [Nat.add_zero, h3 o (by omega), Array.getElem?_setIfInBounds_self_of_lt (by omega)]
        rfl
      | j + 1 =>
        rw [show o + (j + 1) = o + 1 + j by omega, h4 j (by simpa using hj)]
        rfl
    · have hj' : o + (r.length + 1) ≤ j := by simpa using hj
      rw [h5 j (by omega), Array.getElem?_setIfInBounds_ne (by omega)]
theorem setCells_drew (q g : Nat) : ∀ (vs : List Value) (o : Nat) (w : World), (w.drewN q).setCells g o vs = (w.setCells g o vs).drewN q
  | [], _, _ => rfl
  | v :: r, o, w => by rw [World.setCells, World.setCells, ← setCells_drew q g r]; rfl
theorem setCells_drew_heap (q g o : Nat) (vs : List Value) (w : World) (k : Nat) : ((w.drewN q).setCells g o vs).heap[k]? = (w.setCells g o vs).heap[k]? := by rw [setCells_drew]; rfl
theorem setCells2_drew_heap (q g o o' : Nat) (vs vs' : List Value) (w : World) (k : Nat) : (((w.drewN q).setCells g o vs).setCells g o' vs').heap[k]? = ((w.setCells g o vs).setCells g o' vs').heap[k]? := by rw [setCells_drew, setCells_drew]; rfl
/-- a row with one more element laid in -/
theorem own_ins {w : World} {B g cap n i : Nat} {T : TypeId} {xs y : List Value} {cur : Array Value} (h : w.heap[g]? = some (.cells cur T (0, 0))) (hs : cur.size = cap * 8) (hB : B ≤ g) (hn : n + 1 ≤ cap) (hc : cap ≤ maxLen)
    (hx : xs.length = n * 8) (hy : y.length = 8) (hi : i ≤ n) (h0 : ∀ j, j < i * 8 → cur[j]? = xs[j]?) (h1 : ∀ j, j < 8 → cur[i * 8 + j]? = y[j]?) (h2 : ∀ j, i * 8 ≤ j → j < n * 8 → cur[8 + j]? = xs[j]?) :
    w.ownsRow B T 8 (.slice (some ⟨g, 0, none⟩) (n + 1) cap) (n + 1) (xs.take (i * 8) ++ y ++ xs.drop (i * 8)) := by
  have hl : (xs.take (i * 8) ++ y ++ xs.drop (i * 8)).length = (n + 1) * 8 := by
    rw [List.length_append, List.length_append, List.length_take, List.length_drop]; omega
  refine ⟨hl, .inr ⟨g, cap, cur, rfl, hB, h, hn, hc, hs, ?_⟩⟩
  apply List.ext_getElem?
  intro j
  by_cases hj : j < (n + 1) * 8
  · rw [List.getElem?_take_of_lt hj, Array.getElem?_toList]
    by_cases h3 : j < i * 8
    · rw [h0 j h3, List.append_assoc, List.getElem?_append_left (by rw [List.length_take]; omega), List.getElem?_take_of_lt h3]
    · by_cases h4 : j < i * 8 + 8
      · have := h1 (j - i * 8) (by omega)
        rw [show i * 8 + (j - i * 8) = j by omega] at this
        rw [this, List.getElem?_append_left (by rw [List.length_append, List.length_take]; omega), List.getElem?_append_right (by rw [List.length_take]; omega), List.length_take]
        congr 1; omega
      · have := h2 (j - 8) (by omega) (by omega)
        rw [show 8 + (j - 8) = j by omega] at this
        rw [this, List.getElem?_append_right (by rw [List.length_append, List.length_take]; omega), List.getElem?_drop, List.length_append, List.length_take]
        congr 1; omega
  · rw [List.getElem?_eq_none (by rw [List.length_take]; omega), List.getElem?_eq_none (by omega)]
theorem own_row {w : World} {B n z g cap : Nat} {T : TypeId} {xs : List Value} (h : w.ownsRow B T z (.slice (some ⟨g, 0, none⟩) n cap) n xs) : ∃ cur : Array Value, w.heap[g]? = some (.cells cur T (0, 0)) ∧ cur.size = cap * z ∧ n ≤ cap ∧ cap ≤ maxLen ∧ B ≤ g ∧ xs.length = n * z ∧ ∀ j, j < n * z → cur[j]? = xs[j]? := by
  obtain ⟨h1, h2⟩ := h
  rcases h2 with ⟨h2, _⟩ | ⟨g', cap', cur, hv, hb, hg, hn, hc, hs, ht⟩
  · cases h2
  · simp only [Value.slice.injEq, Option.some.injEq, Addr.mk.injEq, and_true, true_and] at hv
    obtain ⟨rfl, rfl⟩ := hv
    refine ⟨cur, hg, hs, hn, hc, hb, h1, fun j hj => ?_⟩
    rw [← ht, List.getElem?_take_of_lt hj, Array.getElem?_toList]
theorem own_form {w : World} {B n z : Nat} {T : TypeId} {v : Value} {xs : List Value} (h : w.ownsRow B T z v (n + 1) xs) : ∃ g cap, v = .slice (some ⟨g, 0, none⟩) (n + 1) cap := by
  rcases h.2 with ⟨_, h0⟩ | ⟨g, cap, cur, hv, _⟩
  · cases h0
  · exact ⟨g, cap, hv⟩
def ClsAt (w : World) (b : Nat) (x : Cls) : Prop := w.heap[b]? = some (.cells (clsC x).toArray 63 (0, 0))
theorem ClsAt.cells {w : World} {b : Nat} {x : Cls} (h : ClsAt w b x) (j : Nat) (u : Value) (hu : (clsC x)[j]? = some u) : w.cell? ((⟨b, 0, none⟩ : Addr).add j) = some u := by
  have hadd : (⟨b, 0, none⟩ : Addr).add j = ⟨b, j, none⟩ := by unfold Addr.add; split <;> simp_all
  rw [hadd, cell_of_row w b j _ _ (0, 0) h]
  simpa using hu
theorem clsC_one (x : Cls) : ∀ u ∈ clsC x, u.oneCell' = true := by intro u hu; simp [clsC] at hu; rcases hu with rfl | rfl | rfl | rfl | rfl | rfl | rfl | rfl <;> rfl
/-- what Insert gives -/
def SaysIns (w : World) (B g n i : Nat) (xs : List Value) (x : Cls) (e : Ending) (w' : World) : Prop :=
  ∃ g' cap', e = .returned (.slice (some ⟨g', 0, none⟩) (n + 1) cap') ∧ w'.ownsRow B 63 8 (.slice (some ⟨g', 0, none⟩) (n + 1) cap') (n + 1) (xs.take (i * 8) ++ clsC x ++ xs.drop (i * 8)) ∧ Below B w w' ∧ ∀ q, q < w.heap.size → q ≠ g → w'.heap[q]? = w.heap[q]?
set_option maxHeartbeats 6400000 in
theorem insert_end (B g n cap ad : Nat) (xs : List Value) (x : Cls) (w : World) (HO : Hid (w.ownsRow B 63 8 (.slice (some ⟨g, 0, none⟩) n cap) n xs)) (HV : Hid (ClsAt w ad x)) (hn : n ≤ 1048576) (h1 : 1 ≤ n) :
    Calls Tryz.prog 90 #[.slice (some ⟨g, 0, none⟩) n cap, .int .i64 n, .slice (some ⟨ad, 0, none⟩) 1 1] w (SaysIns w B g n n xs x) := by
  obtain ⟨i0, hi0, hz0, hz1, hz2⟩ := info_parts infoCls
  obtain ⟨cur, hg, hs, hnc, hcm, hB, hxl, hcur⟩ := own_row HO.out
  have hgl := (World.ownsRow.lt HO.out g rfl).2
  have hd : xs.take (n * 8) = xs ∧ xs.drop (n * 8) = [] := ⟨List.take_of_length_le (by omega), List.drop_eq_nil_of_le (by omega)⟩
  have hcp : (cap : Int) ≤ 9223372036854775807 := by unfold maxLen at hcm; omega
  have HC := Lib.hid (fun j u hu => HV.out.cells j u hu)
  have H1 := Lib.hid (clsC_one x)
  have hl8 : (clsC x).length = 1 * 8 := rfl
  have HD := Lib.hid hd
  clear hcur hg hs hd hcm
  go_enter Tryz.func90, Tryz.ntmps90
  go_wp2_with (at_builtin; refine wpList_append_own _ rfl _ _ 51 rfl B 63 i0 (.agg #[.int .i64 0, .int .i64 0, .int .i64 0, .int .i64 0, .int .i64 0, .int .i64 0, .int .i64 0, .int .i64 0]) 8 64 Tryz.underlying51 hi0 hz0 hz1 hz2 rfl (by decide) (.slice (some ⟨g, 0, none⟩) n cap) n xs (by rfl) HO.out ⟨ad, 0, none⟩ 1 1 (clsC x) (by rfl) hl8 HC.out H1.out (by unfold maxLen; omega) (by omega) (by omega) ?_; intro v1 w4 hown1 hgrow1 _; have HW := Lib.hid (And.intro hown1 hgrow1); clear hown1 hgrow1; refine Hid.out ?_)
  all_goals
    refine Lib.hid ?_
    go_wp2
    go_ret
    obtain ⟨g', cap', hv'⟩ := own_form HW.out.1
    subst hv'
    refine ⟨g', cap', rfl, by rw [HD.out.1, HD.out.2, List.append_nil]; exact HW.out.1, ?_, fun q hq hne => HW.out.2.block q hq (by simpa [Value.ownBlock] using hne)⟩
    exact Below.grown (Below.refl B w) HW.out.2 (by omega) (fun k hk => by cases hk; exact hB)
theorem setCells_heap_far (g : Nat) : ∀ (vs : List Value) (o : Nat) (w : World) (q : Nat), q ≠ g → (w.setCells g o vs).heap[q]? = w.heap[q]?
  | [], _, _, _, _ => rfl
  | v :: r, o, w, q, h => (setCells_heap_far g r (o + 1) _ q h).trans (heap_setCell_other w ⟨g, o, none⟩ q v h)
theorem ClsAt.heap {w w' : World} {b : Nat} {x : Cls} (h : ClsAt w b x) (e : w'.heap[b]? = w.heap[b]?) : ClsAt w' b x := e.trans h
theorem cell_row {w : World} {g : Nat} {cur : Array Value} {T : TypeId} (h : w.heap[g]? = some (.cells cur T (0, 0))) (j : Nat) : w.cell? ⟨g, j, none⟩ = cur[j]? := cell_of_row w g j _ _ (0, 0) h
set_option maxHeartbeats 6400000 in
theorem insert_room (B g n cap i ad : Nat) (xs : List Value) (x : Cls) (w : World) (HO : Hid (w.ownsRow B 63 8 (.slice (some ⟨g, 0, none⟩) n cap) n xs)) (HX : Hid (∀ u ∈ xs, u.oneCell' = true)) (HV : Hid (ClsAt w ad x)) (hne : ad ≠ g) (hn : n ≤ 1048576) (hi : i < n) (hroom : n + 1 ≤ cap) :
    Calls Tryz.prog 90 #[.slice (some ⟨g, 0, none⟩) n cap, .int .i64 i, .slice (some ⟨ad, 0, none⟩) 1 1] w (SaysIns w B g n i xs x) := by
  obtain ⟨i0, hi0, hz0, hz1, hz2⟩ := info_parts infoCls
  obtain ⟨cur, hg, hs, hnc, hcm, hB, hxl, hcur⟩ := own_row HO.out
  have hgl := (World.ownsRow.lt HO.out g rfl).2
  have hsz : (Tryz.prog.info? 63).map (·.size) = some 8 := by rw [hi0]; simp [hz1]
  have hcp : (cap : Int) ≤ 9223372036854775807 := by unfold maxLen at hcm; omega
  have hd1 : ((i : Int) == n) = false := by simp; omega
  have hd2 : decide ((cap : Int) < (n : Int) + 1) = false := not_lt (by omega)
  have hc1 : ¬ cap = i := by omega
  have hc2 : ¬ cap = i + 1 := by omega
  have hov : ∀ lb cb w', w'.heap[ad]? = w.heap[ad]? → w'.heap[g]? = w.heap[g]? → (callFunc 145 #[.slice (some ⟨ad, 0, none⟩) 1 1, .slice (some ⟨g, (i + 1) * 8, none⟩) lb cb]).run Tryz.prog w' = .ok (.value (.bool false)) w' := fun lb cb w' ea eg => by
    have hva : w'.heap[ad]? = some (.cells (clsC x).toArray 63 (0, 0)) := ea.trans HV.out
    have hvg : w'.heap[g]? = some (.cells cur 63 (0, 0)) := eg.trans hg
    rw [run_callFunc_extern Tryz.func145 (by kernel_rfl) (by kernel_rfl) (by kernel_rfl) (e := Extern.SlicesOverlaps.overlaps #[51, 51] #[4]) (by kernel_rfl),
      Lib.run_overlaps_apart w' 51 4 63 Tryz.underlying51 8 (fun w => by simp [sizeOf, typeInfo, hi0, hz1]) ⟨ad, 0, none⟩ ⟨g, (i + 1) * 8, none⟩ 1 1 lb cb hne 63 63 8 cur.size (by simp [World.shape?, hva, clsC]) (by simp [World.shape?, hvg]) (by omega) (frozen_of_row w' ad 0 _ _ hva) (frozen_of_row w' ad 8 _ _ hva)]
    rfl
  have hovw := fun lb cb => hov lb cb w rfl rfl
  have HCP1 : Hid (∀ q ty, (Builtin.copy_ #[51, 51] ty #[.slice (some ⟨g, (i + 1) * 8, none⟩) (n - i) (cap - (i + 1)), .slice (some ⟨g, i * 8, none⟩) (n + 1 - i) (cap - i)]).run Tryz.prog (w.drewN q) = .ok (goInt (n - i : Nat)) ((w.drewN q).setCells g ((i + 1) * 8) (xs.drop (i * 8)))) := Lib.hid (fun q ty => by
    have hm : Nat.min (n + 1 - i) (n - i) = n - i := Nat.min_eq_right (by omega)
    have r := run_copy_k (P := Tryz.prog) (w.drewN q) 51 51 ty 63 8 g ((i + 1) * 8) (n - i) (cap - (i + 1)) ⟨g, i * 8, none⟩ (n + 1 - i) (cap - i) (xs.drop (i * 8)) Tryz.underlying51 hsz (by rw [hm, List.length_drop]; omega)
      (fun j u hu => by
        have hadd : (⟨g, i * 8, none⟩ : Addr).add j = ⟨g, i * 8 + j, none⟩ := by unfold Addr.add; split <;> simp_all
        rw [List.getElem?_drop] at hu
        have hj := (List.getElem?_eq_some_iff.1 hu).1
        rw [hadd, show (w.drewN q).cell? ⟨g, i * 8 + j, none⟩ = w.cell? ⟨g, i * 8 + j, none⟩ from rfl, cell_row hg, hcur _ (by omega)]
        exact hu)
      (fun j hj => by
        rw [List.length_drop] at hj
        rw [show (w.drewN q).cell? ⟨g, (i + 1) * 8 + j, none⟩ = w.cell? ⟨g, (i + 1) * 8 + j, none⟩ from rfl, cell_row hg, Array.getElem?_eq_getElem (by omega)]
        rfl)
      (fun j hj => frozen_of_row w g _ _ _ hg) (fun u hu => HX.out u (List.mem_of_mem_drop hu))
    rw [hm] at r
    exact r)
  obtain ⟨c1, hg1, hz1', k1, k2, k3⟩ := row_cells (xs.drop (i * 8)) ((i + 1) * 8) w cur hg (by rw [List.length_drop]; omega)
  have hld : (xs.drop (i * 8)).length = n * 8 - i * 8 := by rw [List.length_drop]; omega
  rw [hld] at k2 k3
  have HCP2 : Hid (∀ q ty, (Builtin.copy_ #[51, 51] ty #[.slice (some ⟨g, i * 8, none⟩) (n + 1 - i) (cap - i), .slice (some ⟨ad, 0, none⟩) 1 1]).run Tryz.prog ((w.drewN q).setCells g ((i + 1) * 8) (xs.drop (i * 8))) = .ok (goInt (1 : Nat)) (((w.drewN q).setCells g ((i + 1) * 8) (xs.drop (i * 8))).setCells g (i * 8) (clsC x))) := Lib.hid (fun q ty => by
    have hq : ((w.drewN q).setCells g ((i + 1) * 8) (xs.drop (i * 8))).heap[g]? = some (.cells c1 63 (0, 0)) := by
      obtain ⟨c1', hg1', _⟩ := row_cells (xs.drop (i * 8)) ((i + 1) * 8) (w.drewN q) cur hg (by rw [List.length_drop]; omega)
      have e : ((w.drewN q).setCells g ((i + 1) * 8) (xs.drop (i * 8))).heap[g]? = (w.setCells g ((i + 1) * 8) (xs.drop (i * 8))).heap[g]? := setCells_drew_heap q g _ _ w g
      rw [e]; exact hg1
    have hm : Nat.min 1 (n + 1 - i) = 1 := Nat.min_eq_left (by omega)
    have r := run_copy_k (P := Tryz.prog) ((w.drewN q).setCells g ((i + 1) * 8) (xs.drop (i * 8))) 51 51 ty 63 8 g (i * 8) (n + 1 - i) (cap - i) ⟨ad, 0, none⟩ 1 1 (clsC x) Tryz.underlying51 hsz (by rw [hm]; rfl)
      (fun j u hu => ClsAt.cells (HV.out.heap (setCells_heap_far g _ _ (w.drewN q) ad hne)) j u hu)
      (fun j hj => by
        have h8 : j < 8 := hj
        rw [cell_row hq, Array.getElem?_eq_getElem (by omega)]
        rfl)
      (fun j hj => frozen_of_row _ g _ _ _ hq) (clsC_one x)
    rw [hm] at r
    exact r)
  obtain ⟨c2, hg2, hz2', m1, m2, m3⟩ := row_cells (clsC x) (i * 8) (w.setCells g ((i + 1) * 8) (xs.drop (i * 8))) c1 hg1 (by rw [show (clsC x).length = 8 from rfl]; omega)
  rw [show (clsC x).length = 8 from rfl] at m2 m3
  have FIN : Hid (∀ q, SaysIns w B g n i xs x (.returned (.slice (some ⟨g, 0, none⟩) (n + 1) cap)) (((w.drewN q).setCells g ((i + 1) * 8) (xs.drop (i * 8))).setCells g (i * 8) (clsC x))) := Lib.hid (fun q => by
    have e : (((w.drewN q).setCells g ((i + 1) * 8) (xs.drop (i * 8))).setCells g (i * 8) (clsC x)).heap[g]? = some (.cells c2 63 (0, 0)) := (setCells2_drew_heap q g _ _ _ _ w g).trans hg2
    refine ⟨g, cap, rfl, own_ins e (by omega) hB hroom hcm hxl rfl (by omega) (fun j hj => ?_) (fun j hj => m2 j hj) (fun j h1 h2 => ?_), ?_, fun q' hq' hne' => ?_⟩
    · rw [m1 j hj, k1 j (by omega), hcur j (by omega)]
    · rw [m3 (8 + j) (by omega)]
      have := k2 (j - i * 8) (by omega)
      rw [show (i + 1) * 8 + (j - i * 8) = 8 + j by omega, List.getElem?_drop, show i * 8 + (j - i * 8) = j by omega] at this
      exact this
    · exact below_behinds hB _ _ _ (below_behinds hB _ _ _ (below_drewN (Below.refl _ _) q))
    · rw [setCells_heap_far g _ _ _ q' hne', setCells_heap_far g _ _ _ q' hne']; rfl)
  have ew : IntKind.i64.wrap ((i : Int) + 1) = (i : Int) + 1 := IntWalk.i64_in _ (by omega)
  have et : ((i : Int) + 1).toNat = i + 1 := by omega
  have ep : (0 : Int) ≤ (i : Int) + 1 := by omega
  have ej : (i : Int) + 1 ≤ (n : Int) + 1 := by omega
  have hcp1 : (Builtin.copy_ #[51, 51] 3 #[.slice (some ⟨g, (i + 1) * 8, none⟩) (n - i) (cap - (i + 1)), .slice (some ⟨g, i * 8, none⟩) (n + 1 - i) (cap - i)]).run Tryz.prog w.drew = .ok (goInt (n - i : Nat)) (w.drew.setCells g ((i + 1) * 8) (xs.drop (i * 8))) := HCP1.out 1 _
  have hcp2 : (Builtin.copy_ #[51, 51] 3 #[.slice (some ⟨g, i * 8, none⟩) (n + 1 - i) (cap - i), .slice (some ⟨ad, 0, none⟩) 1 1]).run Tryz.prog (w.drew.setCells g ((i + 1) * 8) (xs.drop (i * 8))) = .ok (goInt (1 : Nat)) ((w.drew.setCells g ((i + 1) * 8) (xs.drop (i * 8))).setCells g (i * 8) (clsC x)) := HCP2.out 1 _
  clear hcur hg hs hcm hov hg1 hg2 k1 k2 k3 m1 m2 m3
  go_enter Tryz.func90, Tryz.ntmps90
  go_wp2_with fail
  go_region
  all_goals
    go_wp2_with fail
    go_ret
    exact FIN.out 1
set_option maxHeartbeats 6400000 in
theorem insert_grow (B g n cap i ad : Nat) (xs : List Value) (x : Cls) (w : World) (HO : Hid (w.ownsRow B 63 8 (.slice (some ⟨g, 0, none⟩) n cap) n xs)) (HX : Hid (∀ u ∈ xs, u.oneCell' = true)) (HV : Hid (ClsAt w ad x)) (hBw : B ≤ w.heap.size) (hn : n ≤ 1048576) (hi : i < n) (hroom : ¬ n + 1 ≤ cap) :
    Calls Tryz.prog 90 #[.slice (some ⟨g, 0, none⟩) n cap, .int .i64 i, .slice (some ⟨ad, 0, none⟩) 1 1] w (SaysIns w B g n i xs x) := by
  obtain ⟨i0, hi0, hz0, hz1, hz2⟩ := info_parts infoCls
  obtain ⟨cur, hg, hs, hnc, hcm, hB, hxl, hcur⟩ := own_row HO.out
  obtain rfl : cap = n := by omega
  have hgl := (World.ownsRow.lt HO.out g rfl).2
  have hal : ad < w.heap.size := by
    rcases Nat.lt_or_ge ad w.heap.size with q | q
    · exact q
    · have := HV.out; unfold ClsAt at this; rw [Array.getElem?_eq_none q] at this; cases this
  have hsz : (Tryz.prog.info? 63).map (·.size) = some 8 := by rw [hi0]; simp [hz1]
  have hd1 : ((i : Int) == cap) = false := by simp; omega
  have hd2 : decide ((cap : Int) < (cap : Int) + 1) = true := is_lt (by omega)
  have hc1 : ¬ cap = i := by omega
  have hlt : (xs.take (i * 8)).length = i * 8 := by rw [List.length_take]; omega
  have hold : (Builtin.firstCells i0.size i (.slice (some ⟨g, 0, none⟩) i cap)).run Tryz.prog w.drew = .ok (xs.take (i * 8)).toArray w.drew :=
    run_firstCells_some (P := Tryz.prog) w.drew i0.size i ⟨g, 0, none⟩ i cap (xs.take (i * 8)) (by rw [hz1, hlt]) (fun j u hu => by
      have hj := (List.getElem?_eq_some_iff.1 hu).1
      have hadd : (⟨g, 0, none⟩ : Addr).add j = ⟨g, j, none⟩ := by unfold Addr.add; split <;> simp_all
      rw [List.getElem?_take_of_lt (by omega)] at hu
      rw [hadd, show w.drew.cell? ⟨g, j, none⟩ = w.cell? ⟨g, j, none⟩ from rfl, cell_row hg, hcur _ (by omega)]
      exact hu)
  obtain ⟨k, hk⟩ : ∃ k, k = cap + 1 - i := ⟨_, rfl⟩
  have hki : i + k = cap + 1 := by omega
  have hkI : ((k : Nat) : Int) = (cap : Int) + 1 - i := by omega
  obtain ⟨C, hC⟩ : ∃ C, grownCap w (cap + 1) cap 63 = C := ⟨_, rfl⟩
  have hCge : cap + 1 ≤ C := by rw [← hC]; exact grownCap_ge w (cap + 1) cap 63
  have hCm : C ≤ maxLen := by rw [← hC]; exact grownCap_le_maxLen w (cap + 1) cap 63 (by unfold maxLen; omega)
  obtain ⟨Z, hZ⟩ : ∃ Z : Array Value, (xs.take (i * 8)).toArray ++ Builtin.zeroCells (Value.agg #[.int .i64 0, .int .i64 0, .int .i64 0, .int .i64 0, .int .i64 0, .int .i64 0, .int .i64 0, .int .i64 0]).cells k ++ Builtin.zeroCells (Value.agg #[.int .i64 0, .int .i64 0, .int .i64 0, .int .i64 0, .int .i64 0, .int .i64 0, .int .i64 0, .int .i64 0]).cells (C - (cap + 1)) = Z := ⟨_, rfl⟩
  have hZs : Z.size = C * 8 := by
    rw [← hZ, Array.size_append, Array.size_append, size_zeroCells, size_zeroCells, List.size_toArray, hlt]
    show i * 8 + k * 8 + (C - (cap + 1)) * 8 = C * 8
    omega
  have hZ0 : ∀ j, j < i * 8 → Z[j]? = xs[j]? := fun j hj => by
    rw [← hZ, Array.append_assoc, Array.getElem?_append_left (by rw [List.size_toArray, hlt]; exact hj)]
    simp [hj]
  have HAP : Hid (∀ ty, (Builtin.append_ #[51, 3] ty #[.slice (some ⟨g, 0, none⟩) i cap, .int .i64 ((cap : Int) + 1 - i)]).run Tryz.prog w = .ok (.slice (some ⟨w.heap.size, 0, none⟩) (cap + 1) C) (w.drew.alloc (.cells Z 63))) := Lib.hid (fun ty => by
    have r := Lib.run_append_grow_zeros (P := Tryz.prog) w 51 3 ty 63 i0 _ .i64 .i64 Tryz.underlying51 Tryz.underlying3 hi0 hz0 (some ⟨g, 0, none⟩) i cap (xs.take (i * 8)) hold k (by omega) (by omega) (by omega) (by omega) (by rw [hz2]; omega) (growslice_fits (by omega) (by rw [hz2]; omega))
    rw [hki, hC, hZ, hkI] at r
    exact r)
  obtain ⟨W1, hW1⟩ : ∃ W1, w.drew.alloc (.cells Z 63) = W1 := ⟨_, rfl⟩
  rw [hW1] at HAP
  have hg1 : W1.heap[w.heap.size]? = some (.cells Z 63 (0, 0)) := by rw [← hW1]; exact heap_alloc_new w.drew _
  have b1 : Below w.heap.size w W1 := by rw [← hW1]; exact ((Below.refl _ w).drew).alloc (by simp) _
  have HV1 : ClsAt W1 ad x := (b1.block ad hal).trans HV.out
  have hgW : W1.heap[g]? = some (.cells cur 63 (0, 0)) := (b1.block g hgl).trans hg
  have HCP1 : Hid (∀ ty, (Builtin.copy_ #[51, 51] ty #[.slice (some ⟨w.heap.size, i * 8, none⟩) (cap + 1 - i) (C - i), .slice (some ⟨ad, 0, none⟩) 1 1]).run Tryz.prog W1 = .ok (goInt (1 : Nat)) (W1.setCells w.heap.size (i * 8) (clsC x))) := Lib.hid (fun ty => by
    have hm : Nat.min 1 (cap + 1 - i) = 1 := Nat.min_eq_left (by omega)
    have r := run_copy_k (P := Tryz.prog) W1 51 51 ty 63 8 w.heap.size (i * 8) (cap + 1 - i) (C - i) ⟨ad, 0, none⟩ 1 1 (clsC x) Tryz.underlying51 hsz (by rw [hm]; rfl)
      (fun j u hu => HV1.cells j u hu)
      (fun j hj => by
        have h8 : j < 8 := hj
        rw [cell_row hg1, Array.getElem?_eq_getElem (by omega)]
        rfl)
      (fun j hj => frozen_of_row _ _ _ _ _ hg1) (clsC_one x)
    rw [hm] at r
    exact r)
  obtain ⟨c1, hgc, hz1', k1, k2, k3⟩ := row_cells (clsC x) (i * 8) W1 Z hg1 (by rw [show (clsC x).length = 8 from rfl]; omega)
  rw [show (clsC x).length = 8 from rfl] at k2 k3
  obtain ⟨W2, hW2⟩ : ∃ W2, W1.setCells w.heap.size (i * 8) (clsC x) = W2 := ⟨_, rfl⟩
  rw [hW2] at hgc HCP1
  have hgW2 : W2.heap[g]? = some (.cells cur 63 (0, 0)) := by rw [← hW2, setCells_heap_far _ _ _ _ g (by omega)]; exact hgW
  have b2 : Below w.heap.size w W2 := by rw [← hW2]; exact below_behinds (Nat.le_refl _) _ _ _ b1
  have hld : (xs.drop (i * 8)).length = cap * 8 - i * 8 := by rw [List.length_drop]; omega
  have HCP2 : Hid (∀ q ty, (Builtin.copy_ #[51, 51] ty #[.slice (some ⟨w.heap.size, (i + 1) * 8, none⟩) (cap - i) (C - (i + 1)), .slice (some ⟨g, i * 8, none⟩) (cap - i) (cap - i)]).run Tryz.prog (W2.drewN q) = .ok (goInt (cap - i : Nat)) ((W2.drewN q).setCells w.heap.size ((i + 1) * 8) (xs.drop (i * 8)))) := Lib.hid (fun q ty => by
    have hm : Nat.min (cap - i) (cap - i) = cap - i := Nat.min_self _
    have r := run_copy_k (P := Tryz.prog) (W2.drewN q) 51 51 ty 63 8 w.heap.size ((i + 1) * 8) (cap - i) (C - (i + 1)) ⟨g, i * 8, none⟩ (cap - i) (cap - i) (xs.drop (i * 8)) Tryz.underlying51 hsz (by rw [hm, hld]; omega)
      (fun j u hu => by
        have hadd : (⟨g, i * 8, none⟩ : Addr).add j = ⟨g, i * 8 + j, none⟩ := by unfold Addr.add; split <;> simp_all
        rw [List.getElem?_drop] at hu
        have hj := (List.getElem?_eq_some_iff.1 hu).1
        rw [hadd, show (W2.drewN q).cell? ⟨g, i * 8 + j, none⟩ = W2.cell? ⟨g, i * 8 + j, none⟩ from rfl, cell_row hgW2, hcur _ (by omega)]
        exact hu)
      (fun j hj => by
        rw [hld] at hj
        rw [show (W2.drewN q).cell? ⟨w.heap.size, (i + 1) * 8 + j, none⟩ = W2.cell? ⟨w.heap.size, (i + 1) * 8 + j, none⟩ from rfl, cell_row hgc, Array.getElem?_eq_getElem (by omega)]
        rfl)
      (fun j hj => frozen_of_row W2 _ _ _ _ hgc) (fun u hu => HX.out u (List.mem_of_mem_drop hu))
    rw [hm] at r
    exact r)
  obtain ⟨c2, hg2, hz2', m1, m2, m3⟩ := row_cells (xs.drop (i * 8)) ((i + 1) * 8) W2 c1 hgc (by rw [hld]; omega)
  rw [hld] at m2 m3
  have FIN : Hid (∀ q, SaysIns w B g cap i xs x (.returned (.slice (some ⟨w.heap.size, 0, none⟩) (cap + 1) C)) ((W2.drewN q).setCells w.heap.size ((i + 1) * 8) (xs.drop (i * 8)))) := Lib.hid (fun q => by
    have e : ((W2.drewN q).setCells w.heap.size ((i + 1) * 8) (xs.drop (i * 8))).heap[w.heap.size]? = some (.cells c2 63 (0, 0)) := (setCells_drew_heap q w.heap.size _ _ W2 w.heap.size).trans hg2
    refine ⟨w.heap.size, C, rfl, own_ins e (by omega) hBw hCge hCm hxl rfl (by omega) (fun j hj => ?_) (fun j hj => ?_) (fun j h1 h2 => ?_), ?_, fun q' hq' hne' => ?_⟩
    · rw [m1 j (by omega), k1 j hj, hZ0 j hj]
    · rw [m1 (i * 8 + j) (by omega), k2 j hj]
    · have := m2 (j - i * 8) (by omega)
      rw [show (i + 1) * 8 + (j - i * 8) = 8 + j by omega, List.getElem?_drop, show i * 8 + (j - i * 8) = j by omega] at this
      exact this
    · exact (below_behinds (Nat.le_refl _) _ _ _ (below_drewN b2 q)).mono hBw
    · rw [setCells_heap_far _ _ _ _ q' (by omega)]
      exact b2.block q' hq')
  have HW2 := Lib.hid hW2
  have hC1 : ¬ C = i := by omega
  have hC2 : ¬ C = i + 1 := by omega
  have hCi : (C : Int) ≤ 9223372036854775807 := by unfold maxLen at hCm; omega
  have ew : IntKind.i64.wrap ((i : Int) + 1) = (i : Int) + 1 := IntWalk.i64_in _ (by omega)
  have et : ((i : Int) + 1).toNat = i + 1 := by omega
  have ep : (0 : Int) ≤ (i : Int) + 1 := by omega
  have ej : (i : Int) + 1 ≤ (cap : Int) + 1 := by omega
  have hcp1 := HCP1.out 3
  have hcp2 : (Builtin.copy_ #[51, 51] 3 #[.slice (some ⟨w.heap.size, (i + 1) * 8, none⟩) (cap - i) (C - (i + 1)), .slice (some ⟨g, i * 8, none⟩) (cap - i) (cap - i)]).run Tryz.prog W2.drew = .ok (goInt (cap - i : Nat)) (W2.drew.setCells w.heap.size ((i + 1) * 8) (xs.drop (i * 8))) := HCP2.out 1 _
  clear hcur hg hs hcm hgc hg2 k1 k2 k3 m1 m2 m3 hg1 hgW hgW2 hW1 hW2 hC hZ hZ0 hold hCm HV1 b1 b2
  go_enter Tryz.func90, Tryz.ntmps90
  go_wp2_with (at_builtin; refine wpList_append_run _ rfl _ _ 51 3 rfl _ _ (by rfl) (by rfl) (HAP.out _) ?_)
  go_region
  all_goals
    go_wp2_with fail
    go_ret
    exact FIN.out 1
theorem insert_any (B g n cap i ad : Nat) (xs : List Value) (x : Cls) (w : World) (HO : Hid (w.ownsRow B 63 8 (.slice (some ⟨g, 0, none⟩) n cap) n xs)) (HX : Hid (∀ u ∈ xs, u.oneCell' = true)) (HV : Hid (ClsAt w ad x)) (hne : ad ≠ g) (hBw : B ≤ w.heap.size) (hn : n ≤ 1048576) (h1 : 1 ≤ n) (hi : i ≤ n) :
    Calls Tryz.prog 90 #[.slice (some ⟨g, 0, none⟩) n cap, .int .i64 i, .slice (some ⟨ad, 0, none⟩) 1 1] w (SaysIns w B g n i xs x) := by
  by_cases h : i = n
  · subst h; exact insert_end B g i cap ad xs x w HO HV hn h1
  · by_cases hr : n + 1 ≤ cap
    · exact insert_room B g n cap i ad xs x w HO HX HV hne hn (by omega) hr
    · exact insert_grow B g n cap i ad xs x w HO HX HV hBw hn (by omega) hr
end Go.Proofs.YtdmcgjohpnojkaaGreatDoor
