/- Copies of configurations, the program's. -/
import Derived.Test.YtdmcgjohpnojkaaGreatDoorCga
import Derived.Laws.AppendOwnNone
namespace Go.Proofs.YtdmcgjohpnojkaaGreatDoor
set_option maxRecDepth 100000
open Go.RowKit
set_option linter.unusedVariables false

/-- a configuration of a call's own: for contracts that copy -/
theorem own_news {w : World} {B n z : Nat} {T : TypeId} {g c : Nat} {xs : List Value} (h : w.ownsRow B T z (.slice (some ⟨g, 0, none⟩) n c) n xs) : ∀ j u, xs[j]? = some u → w.cell? ((⟨g, 0, none⟩ : Addr).add j) = some u := by
  intro j u hu
  have hj : j < n * z := by have := (List.getElem?_eq_some_iff.1 hu).1; rw [h.1] at this; exact this
  have hadd : (⟨g, 0, none⟩ : Addr).add j = ⟨g, j, none⟩ := by unfold Addr.add; split <;> simp_all
  rw [hadd, World.ownsRow.cellAt h j hj, hu]
theorem clsCs_one (l : List Cls) : ∀ u ∈ clsCs l, u.oneCell' = true := by
  intro u hu
  unfold clsCs at hu
  obtain ⟨x, _, hx⟩ := List.mem_flatMap.1 hu
  simp only [clsC, List.mem_cons, List.not_mem_nil, or_false] at hx
  rcases hx with rfl | rfl | rfl | rfl | rfl | rfl | rfl | rfl <;> rfl
theorem fltCs_one (l : List Flt) : ∀ u ∈ fltCs l, u.oneCell' = true := by
  intro u hu
  unfold fltCs at hu
  obtain ⟨x, _, hx⟩ := List.mem_flatMap.1 hu
  simp only [fltC, List.mem_cons, List.not_mem_nil, or_false] at hx
  rcases hx with rfl | rfl | rfl | rfl | rfl <;> rfl
theorem copy_facts {W w1 : World} {B n z : Nat} {T : TypeId} {v1 : Value} {xs : List Value} (hB : B ≤ W.heap.size) (h : w1.ownsRow B T z v1 (0 + n) ([] ++ xs)) (hg : W.grownBy w1 (Value.slice none 0 0).ownBlock) : Hid (w1.ownsRow B T z v1 n xs) ∧ Hid (Below W.heap.size W w1) := by
  refine ⟨?_, (Below.refl _ _).grown hg (Nat.le_refl _) (by intro k h; cases h)⟩
  rw [Nat.zero_add, List.nil_append] at h
  exact h
theorem copy_size {w w1 : World} {o o' : Obj} (b : Below ((w.alloc o).alloc o').heap.size ((w.alloc o).alloc o') w1) : w.heap.size + 1 < w1.heap.size := two_size b
theorem copy_box {w w1 : World} {a0 a1 a2 a3 : Value} {t : TypeId} {o' : Obj} (b : Below ((w.alloc (.cells #[a0, a1, a2, a3] t)).alloc o').heap.size ((w.alloc (.cells #[a0, a1, a2, a3] t)).alloc o') w1) : FourIs w1 w.heap.size a0 a1 a2 a3 :=
  ((box_four (Below.refl _ (w.alloc (.cells #[a0, a1, a2, a3] t)))).1.on (one_new2 _ _)).on b
theorem FourIs.set1 {w : World} {b : Nat} {a0 a1 a2 a3 : Value} (h : FourIs w b a0 a1 a2 a3) (v : Value) : FourIs (w.setCell ⟨b, 1, none⟩ v) b a0 v a2 a3 := by
  obtain ⟨h0, h1, h2, h3, hg⟩ := h
  refine ⟨?_, ?_, ?_, ?_, by simpa using hg⟩
  · rw [World.cell?_setCell_other _ _ _ _ (by simp)]; exact h0
  · exact World.cell?_setCell_same' _ _ _ (by rw [h1]; rfl)
  · rw [World.cell?_setCell_other _ _ _ _ (by simp)]; exact h2
  · rw [World.cell?_setCell_other _ _ _ _ (by simp)]; exact h3
set_option maxHeartbeats 6400000 in
theorem copyOf_all (v : Value) (c : Cfg) (B : Nat) (w : World) (HV : Hid (OwnCfg w B v c)) (HM : Hid (CfgM c)) :
    Calls Tryz.prog 80 #[v] w (SaysCfgN w c) := by
  obtain ⟨vc, vf, rfl, oc, of, od⟩ := HV.out
  obtain ⟨s, cs, fs, d⟩ := c
  have hM := HM.out
  unfold CfgM at hM
  simp only at oc of hM ⊢
  obtain ⟨q0, q1, q2⟩ := hM
  obtain ⟨f, cf, rfl, if_⟩ := own_in of
  have OC := Lib.hid oc
  have OF := Lib.hid of
  obtain ⟨i0, hi, hz0, hz1, hz2⟩ := info_parts infoCls
  obtain ⟨j0, hj, hy0, hy1, hy2⟩ := info_parts infoFlt
  have hlc : (clsCs cs).length = cs.length * 8 := clsCs_length cs
  have hlf : (fltCs fs).length = fs.length * 5 := fltCs_length fs
  have HLC := Lib.hid hlc
  have HLF := Lib.hid hlf
  have HOC := Lib.hid (clsCs_one cs)
  have HOF := Lib.hid (fltCs_one fs)
  clear of if_ HV hlc hlf
  rcases oc.2 with ⟨rfl, hcn⟩ | ⟨g, cc, curc, rfl, _⟩
  · obtain rfl : cs = [] := List.eq_nil_of_length_eq_zero hcn
    clear oc hcn HLC HOC hi hz0 hz1 hz2
    rcases OF.out.2 with ⟨hff, hfn⟩ | ⟨f', cap', cur', hff, _⟩
    · simp only [Value.slice.injEq] at hff
      obtain ⟨rfl, _, rfl⟩ := hff
      obtain rfl : fs = [] := List.eq_nil_of_length_eq_zero hfn
      simp only [List.length_nil] at *
      go_enter Tryz.func80, Tryz.ntmps80
      go_wp2_with fail
      exact bodyPost_ret (v := .agg #[.string s, .slice none 0 0, .slice none 0 0, .int .i64 d]) (by simp [results, Tryz.results80, go_sem]) rfl ⟨_, rfl, ⟨_, _, rfl, World.ownsRow_nil _ _ _ _, World.ownsRow_nil _ _ _ _, fun g' h h' => by cases h'⟩, two_new w _ _⟩
    · cases hff
      simp only [List.length_nil] at OC ⊢
      go_enter Tryz.func80, Tryz.ntmps80
      go_wp2_with (at_builtin; refine wpList_append_own _ rfl _ _ 52 rfl (w.heap.size + 1 + 1) 113 j0 (.agg #[.int .i64 0, .int .i64 0, .int .i64 0, .int .i64 0, .int .i64 0]) 5 40 Tryz.underlying52 hj hy0 hy1 hy2 rfl (by decide) (.slice none 0 0) 0 [] rfl (World.ownsRow_nil _ _ _ _) ⟨f', 0, none⟩ fs.length cf (fltCs fs) rfl HLF.out (own_news (own_low (own_low OF.out (one_new2 _ _) (Nat.le_refl _)) (one_new2 _ _) (Nat.le_refl _))) HOF.out (by unfold maxLen; omega) (by omega) (by simp) ?_; intro v2 w2 hown2 hgrow2 _; obtain ⟨O2, B2⟩ := copy_facts (by simp) hown2 hgrow2; obtain ⟨a2, k2, hv2, _⟩ := own_in O2.out; subst hv2; obtain ⟨hc2, hf2⟩ := bcell B2.out; have hz2w := copy_size B2.out; have BW2 : Hid (Below w.heap.size w w2) := Lib.hid ((two_new w _ _).trans (B2.out.mono (by simp; omega))); obtain ⟨z0, z1, z2, z3, _⟩ := copy_box B2.out; clear hown2 hgrow2)
      have F2 : Four w2 (w.heap.size + 1) := by
        refine ⟨?_, ?_, ?_, ?_⟩ <;> rw [hc2 _ _ (by simp)] <;> simp [go_sem]
      obtain ⟨r0, r1, r2, r3⟩ := read4 (four_set F2 ⟨w.heap.size, 2, none⟩ (.slice a2 fs.length k2)) (.string s) (.slice none 0 0) (.slice a2 fs.length k2) (.int .i64 d) _ rfl
      have O2' := own_base (B' := w.heap.size) (own_set (own_set (own_set (own_set (own_set O2.out (p := ⟨w.heap.size, 2, none⟩) (by show w.heap.size < _; omega) (.slice a2 fs.length k2)) (p := ⟨w.heap.size + 1, 0, none⟩) (by show w.heap.size + 1 < _; omega) (.string s)) (p := ⟨w.heap.size + 1, 1, none⟩) (by show w.heap.size + 1 < _; omega) (.slice none 0 0)) (p := ⟨w.heap.size + 1, 2, none⟩) (by show w.heap.size + 1 < _; omega) (.slice a2 fs.length k2)) (p := ⟨w.heap.size + 1, 3, none⟩) (by show w.heap.size + 1 < _; omega) (.int .i64 d)) (by omega)
      have BF := set4 (BW2.out.setCell (p := ⟨w.heap.size, 2, none⟩) (Nat.le_refl _) (.slice a2 fs.length k2)) (w.heap.size + 1) (Nat.le_succ _) (.string s) (.slice none 0 0) (.slice a2 fs.length k2) (.int .i64 d)
      exact bodyPost_ret (v := .agg #[.string s, .slice none 0 0, .slice a2 fs.length k2, .int .i64 d]) (by simp [results, Tryz.results80, go_sem, r0, r1, r2, r3]) rfl ⟨_, rfl, ⟨_, _, rfl, World.ownsRow_nil _ _ _ _, O2', fun g' h h' => by cases h⟩, BF⟩
  have hg : g < w.heap.size := (World.ownsRow.lt oc g rfl).2
  clear oc
  rcases OF.out.2 with ⟨hff, hfn⟩ | ⟨f', cap', cur', hff, _⟩
  · simp only [Value.slice.injEq] at hff
    obtain ⟨rfl, _, rfl⟩ := hff
    obtain rfl : fs = [] := List.eq_nil_of_length_eq_zero hfn
    simp only [List.length_nil] at *
    go_enter Tryz.func80, Tryz.ntmps80
    go_wp2_with (at_builtin; refine wpList_append_own _ rfl _ _ 51 rfl (w.heap.size + 1 + 1) 63 i0 (.agg #[.int .i64 0, .int .i64 0, .int .i64 0, .int .i64 0, .int .i64 0, .int .i64 0, .int .i64 0, .int .i64 0]) 8 64 Tryz.underlying51 hi hz0 hz1 hz2 rfl (by decide) (.slice none 0 0) 0 [] rfl (World.ownsRow_nil _ _ _ _) ⟨g, 0, none⟩ cs.length cc (clsCs cs) rfl HLC.out (own_news (own_low (own_low OC.out (one_new2 _ _) (Nat.le_refl _)) (one_new2 _ _) (Nat.le_refl _))) HOC.out (by unfold maxLen; omega) (by omega) (by simp) ?_; intro v1 w1 hown1 hgrow1 _; obtain ⟨O1, B1⟩ := copy_facts (by simp) hown1 hgrow1; obtain ⟨a1, k1, hv1, _⟩ := own_in O1.out; subst hv1; obtain ⟨hc1, hf1⟩ := bcell B1.out; have hz1w := copy_size B1.out; have FB1 := Lib.hid (copy_box B1.out); obtain ⟨y0, y1, y2, y3, _⟩ := copy_box B1.out; clear hown1 hgrow1; refine Hid.out ?_)
    refine Lib.hid ?_
    have BW1 : Hid (Below w.heap.size w w1) := Lib.hid ((two_new w _ _).trans (B1.out.mono (by simp; omega)))
    have BW2 : Hid (Below w.heap.size w (w1.setCell ⟨w.heap.size, 1, none⟩ (.slice a1 cs.length k1))) := Lib.hid (BW1.out.setCell (Nat.le_refl _) _)
    have OF2 := Lib.hid (own_low OF.out BW2.out (Nat.le_refl _))
    go_wp2_with fail
    have F1 : Four w1 (w.heap.size + 1) := by
      refine ⟨?_, ?_, ?_, ?_⟩ <;> rw [hc1 _ _ (by simp)] <;> simp [go_sem]
    obtain ⟨r0, r1, r2, r3⟩ := read4 (four_set (four_set F1 ⟨w.heap.size, 1, none⟩ (.slice a1 cs.length k1)) ⟨w.heap.size, 2, none⟩ (.slice none 0 0)) (.string s) (.slice a1 cs.length k1) (.slice none 0 0) (.int .i64 d) _ rfl
    have O1' := own_base (B' := w.heap.size) (own_set (own_set (own_set (own_set (own_set (own_set O1.out (p := ⟨w.heap.size, 1, none⟩) (by show w.heap.size < _; omega) (.slice a1 cs.length k1)) (p := ⟨w.heap.size, 2, none⟩) (by show w.heap.size < _; omega) (.slice none 0 0)) (p := ⟨w.heap.size + 1, 0, none⟩) (by show w.heap.size + 1 < _; omega) (.string s)) (p := ⟨w.heap.size + 1, 1, none⟩) (by show w.heap.size + 1 < _; omega) (.slice a1 cs.length k1)) (p := ⟨w.heap.size + 1, 2, none⟩) (by show w.heap.size + 1 < _; omega) (.slice none 0 0)) (p := ⟨w.heap.size + 1, 3, none⟩) (by show w.heap.size + 1 < _; omega) (.int .i64 d)) (by omega)
    have BF := set4 (BW2.out.setCell (p := ⟨w.heap.size, 2, none⟩) (Nat.le_refl _) (.slice none 0 0)) (w.heap.size + 1) (Nat.le_succ _) (.string s) (.slice a1 cs.length k1) (.slice none 0 0) (.int .i64 d)
    exact bodyPost_ret (v := .agg #[.string s, .slice a1 cs.length k1, .slice none 0 0, .int .i64 d]) (by simp [results, Tryz.results80, go_sem, r0, r1, r2, r3]) rfl ⟨_, rfl, ⟨_, _, rfl, O1', World.ownsRow_nil _ _ _ _, fun g' h h' => by cases h'⟩, BF⟩
  · cases hff
    go_enter Tryz.func80, Tryz.ntmps80
    go_wp2_with (at_builtin; refine wpList_append_own _ rfl _ _ 51 rfl (w.heap.size + 1 + 1) 63 i0 (.agg #[.int .i64 0, .int .i64 0, .int .i64 0, .int .i64 0, .int .i64 0, .int .i64 0, .int .i64 0, .int .i64 0]) 8 64 Tryz.underlying51 hi hz0 hz1 hz2 rfl (by decide) (.slice none 0 0) 0 [] rfl (World.ownsRow_nil _ _ _ _) ⟨g, 0, none⟩ cs.length cc (clsCs cs) rfl HLC.out (own_news (own_low (own_low OC.out (one_new2 _ _) (Nat.le_refl _)) (one_new2 _ _) (Nat.le_refl _))) HOC.out (by unfold maxLen; omega) (by omega) (by simp) ?_; intro v1 w1 hown1 hgrow1 _; obtain ⟨O1, B1⟩ := copy_facts (by simp) hown1 hgrow1; obtain ⟨a1, k1, hv1, _⟩ := own_in O1.out; subst hv1; obtain ⟨hc1, hf1⟩ := bcell B1.out; have hz1w := copy_size B1.out; have FB1 := Lib.hid (copy_box B1.out); obtain ⟨y0, y1, y2, y3, _⟩ := copy_box B1.out; clear hown1 hgrow1; refine Hid.out ?_)
    refine Lib.hid ?_
    have BW1 : Hid (Below w.heap.size w w1) := Lib.hid ((two_new w _ _).trans (B1.out.mono (by simp; omega)))
    have BW2 : Hid (Below w.heap.size w (w1.setCell ⟨w.heap.size, 1, none⟩ (.slice a1 cs.length k1))) := Lib.hid (BW1.out.setCell (Nat.le_refl _) _)
    have OF2 := Lib.hid (own_low OF.out BW2.out (Nat.le_refl _))
    go_wp2_with (at_builtin; refine wpList_append_own _ rfl _ _ 52 rfl w1.heap.size 113 j0 (.agg #[.int .i64 0, .int .i64 0, .int .i64 0, .int .i64 0, .int .i64 0]) 5 40 Tryz.underlying52 hj hy0 hy1 hy2 rfl (by decide) (.slice none 0 0) 0 [] rfl (World.ownsRow_nil _ _ _ _) ⟨f', 0, none⟩ fs.length cf (fltCs fs) rfl HLF.out (own_news OF2.out) HOF.out (by unfold maxLen; omega) (by omega) (by simp) ?_; intro v2 w2 hown2 hgrow2 _; obtain ⟨O2, B2⟩ := copy_facts (by simp) hown2 hgrow2; obtain ⟨a2, k2, hv2, _⟩ := own_in O2.out; subst hv2; obtain ⟨hc2, hf2⟩ := bcell B2.out; obtain ⟨z0, z1, z2, z3, _⟩ := (FB1.out.set1 (.slice a1 cs.length k1)).on B2.out; clear hown2 hgrow2)
    have F2 : Four w2 (w.heap.size + 1) := by
      refine ⟨?_, ?_, ?_, ?_⟩ <;> rw [hc2 _ _ (by simpa using hz1w)] <;> rw [World.cell?_setCell_other _ _ _ _ (by simp)] <;> rw [hc1 _ _ (by simp)] <;> simp [go_sem]
    obtain ⟨r0, r1, r2, r3⟩ := read4 (four_set F2 ⟨w.heap.size, 2, none⟩ (.slice a2 fs.length k2)) (.string s) (.slice a1 cs.length k1) (.slice a2 fs.length k2) (.int .i64 d) _ rfl
    have O1' := own_base (B' := w.heap.size) (own_set (own_set (own_set (own_set (own_set (own_low (own_set O1.out (p := ⟨w.heap.size, 1, none⟩) (by show w.heap.size < _; omega) (.slice a1 cs.length k1)) B2.out (Nat.le_refl _)) (p := ⟨w.heap.size, 2, none⟩) (by show w.heap.size < _; omega) (.slice a2 fs.length k2)) (p := ⟨w.heap.size + 1, 0, none⟩) (by show w.heap.size + 1 < _; omega) (.string s)) (p := ⟨w.heap.size + 1, 1, none⟩) (by show w.heap.size + 1 < _; omega) (.slice a1 cs.length k1)) (p := ⟨w.heap.size + 1, 2, none⟩) (by show w.heap.size + 1 < _; omega) (.slice a2 fs.length k2)) (p := ⟨w.heap.size + 1, 3, none⟩) (by show w.heap.size + 1 < _; omega) (.int .i64 d)) (by omega)
    have O2' := own_base (B' := w.heap.size) (own_set (own_set (own_set (own_set (own_set O2.out (p := ⟨w.heap.size, 2, none⟩) (by show w.heap.size < _; omega) (.slice a2 fs.length k2)) (p := ⟨w.heap.size + 1, 0, none⟩) (by show w.heap.size + 1 < _; omega) (.string s)) (p := ⟨w.heap.size + 1, 1, none⟩) (by show w.heap.size + 1 < _; omega) (.slice a1 cs.length k1)) (p := ⟨w.heap.size + 1, 2, none⟩) (by show w.heap.size + 1 < _; omega) (.slice a2 fs.length k2)) (p := ⟨w.heap.size + 1, 3, none⟩) (by show w.heap.size + 1 < _; omega) (.int .i64 d)) (by omega)
    have BF := set4 ((BW2.out.trans (B2.out.mono (by rw [Go.Deep.nblk_setCell]; omega))).setCell (p := ⟨w.heap.size, 2, none⟩) (Nat.le_refl _) (.slice a2 fs.length k2)) (w.heap.size + 1) (Nat.le_succ _) (.string s) (.slice a1 cs.length k1) (.slice a2 fs.length k2) (.int .i64 d)
    exact bodyPost_ret (v := .agg #[.string s, .slice a1 cs.length k1, .slice a2 fs.length k2, .int .i64 d]) (by simp [results, Tryz.results80, go_sem, r0, r1, r2, r3]) rfl ⟨_, rfl, ⟨_, _, rfl, O1', O2', fun g' h h' => by
      have q1 := (World.ownsRow.lt O1.out g' h).2
      have q2 := (World.ownsRow.lt O2.out g' h').1
      omega⟩, BF⟩
theorem copyOf_any (v : Value) (c : Cfg) (B : Nat) (w : World) (HV : Hid (OwnCfg w B v c)) (HM : Hid (CfgM c)) (h1 : 1 ≤ c.cs.length) :
    Calls Tryz.prog 80 #[v] w (SaysCfgN w c) := copyOf_all v c B w HV HM
end Go.Proofs.YtdmcgjohpnojkaaGreatDoor
