import Derived.Test.YtkpocljlmbihcaaDoorPkl
import Derived.WalkSmall
import Derived.Deep.RegionWith
import Derived.Deep.QuietTactic
import Derived.BigQuiet
/- Configurations made of arguments; configurations compared. -/
namespace Go.Proofs.YtkpocljlmbihcaaDoor
set_option maxRecDepth 100000
open Go.RowKit
set_option linter.unusedVariables false

theorem three_old (w : World) (o o' o'' : Obj) : Below w.heap.size w (((w.alloc o).alloc o').alloc o'') :=
  (((Below.refl _ _).alloc (Nat.le_refl _) _).alloc (by simp) _).alloc (by simp; omega) _
theorem three_new {w w1 : World} {o o' o'' : Obj} (b : Below (((w.alloc o).alloc o').alloc o'').heap.size (((w.alloc o).alloc o').alloc o'') w1) : Below w.heap.size w w1 ∧ w.heap.size < w1.heap.size ∧ w.heap.size + 1 < w1.heap.size ∧ w.heap.size + 1 + 1 < w1.heap.size := by
  have hs := b.size
  simp at hs
  exact ⟨(three_old w o o' o'').trans (b.mono (by simp; omega)), by omega, by omega, by omega⟩
set_option maxHeartbeats 3200000 in
theorem toConfig_any (v : Value) (c : Cfg) (w : World) (HA : Hid (ArgCfg w v c)) (HM : Hid (CfgM c)) :
    Calls Tryd.prog 14 #[v] w (SaysCfgN w c) := by
  obtain ⟨ac, cc, af, cf, rfl, m0, m1, m2, ic, if_⟩ := HA.out
  obtain ⟨s, cs, fs, d⟩ := c
  obtain ⟨n, hn⟩ : ∃ n, cs.length = n := ⟨_, rfl⟩
  obtain ⟨m, hm⟩ : ∃ m, fs.length = m := ⟨_, rfl⟩
  have HN := Lib.hid hn
  have HMM := Lib.hid hm
  have hM := HM.out
  unfold CfgM at hM
  simp only [hn, hm] at m1 m2 ic if_ hM ⊢
  obtain ⟨_, q1, q2⟩ := hM
  have IC := Lib.hid ic
  have IF := Lib.hid if_
  have HC : Hid (∀ w, ArgX w ac n (clsCs cs) → Calls Tryd.prog 38 #[.slice ac n cc] w (SaysClassS w cs)) := Lib.hid (fun w h => toClassS_any ac n cc cs w (Lib.hid h) (Lib.hid hn) q1)
  have HF : Hid (∀ w, ArgX w af m (fltCs fs) → Calls Tryd.prog 39 #[.slice af m cf] w (SaysFilterS w fs)) := Lib.hid (fun w h => toFilterS_any af m cf fs w (Lib.hid h) (Lib.hid hm) q2)
  unfold SaysClassS at HC
  unfold SaysFilterS at HF
  rw [hn] at HC
  rw [hm] at HF
  clear HA hn hm ic if_ m0 m1 m2 HM
  go_enter Tryd.func14, Tryd.ntmps14
  go_wp2_with (go_at_call 38; refine (HC.out _ (IC.out.below (three_old _ _ _ _))).mono ?_; rintro e w1 ⟨rfl, b1, o1⟩; have B1 := Lib.hid (three_new b1).1; obtain ⟨hz1, hz2, hz3⟩ := (three_new b1).2; obtain ⟨hc1, hf1⟩ := bcell b1; have O1 := Lib.hid o1; clear b1 o1)
  go_wp2_with (go_at_call 39; refine (HF.out _ (IF.out.below (B1.out.setCell (Nat.le_add_right _ (1 + 1)) _))).mono ?_; rintro e w2 ⟨rfl, b2, o2⟩; obtain ⟨hc2, hf2⟩ := bcell b2; have B2 := Lib.hid b2; have O2 := Lib.hid o2; clear b2 o2)
  have F2 : Four w2 (w.heap.size + 1) := by
    refine ⟨?_, ?_, ?_, ?_⟩ <;> rw [hc2 _ _ (by simpa using hz2)] <;> rw [World.cell?_setCell_other _ _ _ _ (by simp)] <;> rw [hc1 _ _ (by simp)] <;> simp [go_sem]
  obtain ⟨r0, r1, r2, r3⟩ := read4 (four_set (four_set F2 ⟨w.heap.size + 1 + 1, 2, none⟩ (.slice (some ⟨w1.heap.size, 0, none⟩) m m)) ⟨w.heap.size + 1 + 1, 3, none⟩ (.int .i64 d)) (.string s) (.slice (some ⟨w.heap.size + 1 + 1 + 1, 0, none⟩) n n) (.slice (some ⟨w1.heap.size, 0, none⟩) m m) (.int .i64 d) _ rfl
  have BF := (set4 (((B1.out.setCell (p := ⟨w.heap.size + 1 + 1, 1, none⟩) (Nat.le_add_right _ (1 + 1)) (.slice (some ⟨w.heap.size + 1 + 1 + 1, 0, none⟩) n n)).trans (B2.out.mono (by simpa using Nat.le_of_lt hz1)) |>.setCell (p := ⟨w.heap.size + 1 + 1, 2, none⟩) (Nat.le_add_right _ (1 + 1)) (.slice (some ⟨w1.heap.size, 0, none⟩) m m)).setCell (p := ⟨w.heap.size + 1 + 1, 3, none⟩) (Nat.le_add_right _ (1 + 1)) (.int .i64 d)) (w.heap.size + 1) (Nat.le_succ _) (.string s) (.slice (some ⟨w.heap.size + 1 + 1 + 1, 0, none⟩) n n) (.slice (some ⟨w1.heap.size, 0, none⟩) m m) (.int .i64 d))
  have o1 := O1.out
  have o2 := O2.out
  have e1 : (((w.alloc (Obj.cells #[Value.string s, Value.slice ac n cc, Value.slice af m cf, Value.int IntKind.i64 d] 38)).alloc (Obj.cells #[Value.string { data := #[] }, Value.slice none 0 0, Value.slice none 0 0, Value.int IntKind.i64 0] 44)).alloc (Obj.cells #[Value.string s, Value.slice none 0 0, Value.slice none 0 0, Value.int IntKind.i64 0] 44)).heap.size = w.heap.size + 1 + 1 + 1 := by simp
  rw [e1] at o1
  rw [Go.Deep.nblk_setCell] at o2
  have p1 := own_base (B' := w.heap.size) (own_set (own_set (own_set (own_set (own_set (own_set (own_low (own_set o1 (p := ⟨w.heap.size + 1 + 1, 1, none⟩) (by show w.heap.size + 1 + 1 < _; omega) (.slice (some ⟨w.heap.size + 1 + 1 + 1, 0, none⟩) n n)) B2.out (Nat.le_refl _)) (p := ⟨w.heap.size + 1 + 1, 2, none⟩) (by show w.heap.size + 1 + 1 < _; omega) (.slice (some ⟨w1.heap.size, 0, none⟩) m m)) (p := ⟨w.heap.size + 1 + 1, 3, none⟩) (by show w.heap.size + 1 + 1 < _; omega) (.int .i64 d)) (p := ⟨w.heap.size + 1, 0, none⟩) (by show w.heap.size + 1 < _; omega) (.string s)) (p := ⟨w.heap.size + 1, 1, none⟩) (by show w.heap.size + 1 < _; omega) (.slice (some ⟨w.heap.size + 1 + 1 + 1, 0, none⟩) n n)) (p := ⟨w.heap.size + 1, 2, none⟩) (by show w.heap.size + 1 < _; omega) (.slice (some ⟨w1.heap.size, 0, none⟩) m m)) (p := ⟨w.heap.size + 1, 3, none⟩) (by show w.heap.size + 1 < _; omega) (.int .i64 d)) (by omega)
  have p2 := own_base (B' := w.heap.size) (own_set (own_set (own_set (own_set (own_set (own_set o2 (p := ⟨w.heap.size + 1 + 1, 2, none⟩) (by show w.heap.size + 1 + 1 < _; omega) (.slice (some ⟨w1.heap.size, 0, none⟩) m m)) (p := ⟨w.heap.size + 1 + 1, 3, none⟩) (by show w.heap.size + 1 + 1 < _; omega) (.int .i64 d)) (p := ⟨w.heap.size + 1, 0, none⟩) (by show w.heap.size + 1 < _; omega) (.string s)) (p := ⟨w.heap.size + 1, 1, none⟩) (by show w.heap.size + 1 < _; omega) (.slice (some ⟨w.heap.size + 1 + 1 + 1, 0, none⟩) n n)) (p := ⟨w.heap.size + 1, 2, none⟩) (by show w.heap.size + 1 < _; omega) (.slice (some ⟨w1.heap.size, 0, none⟩) m m)) (p := ⟨w.heap.size + 1, 3, none⟩) (by show w.heap.size + 1 < _; omega) (.int .i64 d)) (Nat.le_of_lt hz1)
  exact bodyPost_ret (v := .agg #[.string s, .slice (some ⟨w.heap.size + 1 + 1 + 1, 0, none⟩) n n, .slice (some ⟨w1.heap.size, 0, none⟩) m m, .int .i64 d]) (by simp [results, Tryd.results14, go_sem, r0, r1, r2, r3]) rfl ⟨_, rfl, ⟨_, _, rfl, by rw [HN.out]; exact p1, by rw [HMM.out]; exact p2, fun g h h' => by have hlt : w.heap.size + 1 + 1 + 1 < w1.heap.size := (World.ownsRow.lt o1 _ rfl).2; simp [Value.ownBlock] at h h'; omega⟩, BF⟩
set_option maxHeartbeats 1600000 in
theorem eqClass_same (x : Cls) (w : World) :
    Calls Tryd.prog 67 #[clsV x, clsV x] w (SaysB w true) := by
  obtain ⟨xi, xp, xr, xe, xb, xu, xo, xl⟩ := x
  unfold clsV
  simp only
  go_enter Tryd.func67, Tryd.ntmps67
  go_wp2
  go_ret
  exact ⟨rfl, two_new _ _ _⟩
def EqClassRel (w : World) (n : Nat) (i : Value) (wr : World) : Prop := ∃ k : Nat, k ≤ n ∧ i = .int .i64 k ∧ Below w.heap.size w wr
theorem eqClassS_none (a b : Option Addr) (ca cb : Nat) (w : World) :
    Calls Tryd.prog 44 #[.slice a 0 ca, .slice b 0 cb] w (SaysB w true) := by
  go_enter Tryd.func44, Tryd.ntmps44
  go_wp2
  refine wp_loop_rounds 1 ?_
  rw [rounds_succ]
  go_wp2
  go_ret
  exact ⟨rfl, Below.refl _ _⟩
set_option maxHeartbeats 3200000 in
theorem eqClassS_go (ga gb n ca cb : Nat) (l : List Cls) (w : World) (HA : Hid (AtC w ga (clsCs l))) (HB : Hid (AtC w gb (clsCs l))) (hn : Hid (l.length = n)) (hga : ga < w.heap.size) (hgb : gb < w.heap.size) (hm : n ≤ 1048576) :
    Calls Tryd.prog 44 #[.slice (some ⟨ga, 0, none⟩) n ca, .slice (some ⟨gb, 0, none⟩) n cb] w (SaysB w true) := by
  go_enter Tryd.func44, Tryd.ntmps44
  go_wp2_with fail
  go_loopw [5] (fun i wr => EqClassRel w n i wr) (fun i _ => n - (intOf i).toNat)
  case atStart => exact ⟨0, Nat.zero_le _, rfl, Below.refl _ _⟩
  case round =>
    obtain ⟨k, hk, rfl, hb⟩ := hrel
    have HR := Lib.hid hb
    by_cases hlt : k < n
    · obtain ⟨x, hx⟩ : ∃ x, l.getD k cls0 = x := ⟨_, rfl⟩
      obtain ⟨a0, a1, a2, a3, a4, a5, a6, a7⟩ := (HA.out.below hb hga).cls k (by rw [hn.out]; exact hlt) x hx
      obtain ⟨b0, b1, b2, b3, b4, b5, b6, b7⟩ := (HB.out.below hb hgb).cls k (by rw [hn.out]; exact hlt) x hx
      have HS := Lib.hid (fun w => eqClass_same x w)
      obtain ⟨xi, xp, xr, xe, xb, xu, xo, xl⟩ := x
      unfold clsV at HS
      simp only at HS a0 a1 a2 a3 a4 a5 a6 a7 b0 b1 b2 b3 b4 b5 b6 b7
      clear hb hx
      go_wp2_with fail
      go_region_with (go_at_call 67; refine (HS.out _).mono ?_; rintro e w1 ⟨rfl, b1⟩; have B1 := Lib.hid b1; clear b1)
      all_goals
        go_wp2
        go_roundw
        case rel => exact ⟨k + 1, by omega, by go_num, (show Below w.heap.size w wr.drew from below_drewN HR.out 1).trans (B1.out.mono (show w.heap.size ≤ wr.heap.size from HR.out.size))⟩
        case measure => simp [intOf]; omega
    · go_wp2_with fail
      go_ret
      exact ⟨rfl, HR.out⟩
theorem eqClassS_any (a b : Option Addr) (n ca cb : Nat) (l : List Cls) (w : World) (HA : Hid (InX w a n (clsCs l))) (HB : Hid (InX w b n (clsCs l))) (hn : Hid (l.length = n)) (hm : n ≤ 1048576) :
    Calls Tryd.prog 44 #[.slice a n ca, .slice b n cb] w (SaysB w true) := by
  rcases Nat.eq_zero_or_pos n with h0 | h0
  · subst h0; exact eqClassS_none a b ca cb w
  · obtain ⟨ga, rfl, ha, hga⟩ := HA.out h0
    obtain ⟨gb, rfl, hb, hgb⟩ := HB.out h0
    exact eqClassS_go ga gb n ca cb l w ha hb hn hga hgb hm
set_option maxHeartbeats 1600000 in
theorem eqFilter_same (x : Flt) (w : World) :
    Calls Tryd.prog 68 #[fltV x, fltV x] w (SaysB w true) := by
  obtain ⟨xo, xf, xm, xv, xt⟩ := x
  unfold fltV
  simp only
  go_enter Tryd.func68, Tryd.ntmps68
  go_wp2
  go_ret
  exact ⟨rfl, two_new _ _ _⟩
def EqFilterRel (w : World) (n : Nat) (i : Value) (wr : World) : Prop := ∃ k : Nat, k ≤ n ∧ i = .int .i64 k ∧ Below w.heap.size w wr
theorem eqFilterS_none (a b : Option Addr) (ca cb : Nat) (w : World) :
    Calls Tryd.prog 45 #[.slice a 0 ca, .slice b 0 cb] w (SaysB w true) := by
  go_enter Tryd.func45, Tryd.ntmps45
  go_wp2
  refine wp_loop_rounds 1 ?_
  rw [rounds_succ]
  go_wp2
  go_ret
  exact ⟨rfl, Below.refl _ _⟩
set_option maxHeartbeats 3200000 in
theorem eqFilterS_go (ga gb n ca cb : Nat) (l : List Flt) (w : World) (HA : Hid (AtC w ga (fltCs l))) (HB : Hid (AtC w gb (fltCs l))) (hn : Hid (l.length = n)) (hga : ga < w.heap.size) (hgb : gb < w.heap.size) (hm : n ≤ 1048576) :
    Calls Tryd.prog 45 #[.slice (some ⟨ga, 0, none⟩) n ca, .slice (some ⟨gb, 0, none⟩) n cb] w (SaysB w true) := by
  go_enter Tryd.func45, Tryd.ntmps45
  go_wp2_with fail
  go_loopw [5] (fun i wr => EqFilterRel w n i wr) (fun i _ => n - (intOf i).toNat)
  case atStart => exact ⟨0, Nat.zero_le _, rfl, Below.refl _ _⟩
  case round =>
    obtain ⟨k, hk, rfl, hb⟩ := hrel
    have HR := Lib.hid hb
    by_cases hlt : k < n
    · obtain ⟨x, hx⟩ : ∃ x, l.getD k flt0 = x := ⟨_, rfl⟩
      obtain ⟨a0, a1, a2, a3, a4⟩ := (HA.out.below hb hga).flt k (by rw [hn.out]; exact hlt) x hx
      obtain ⟨b0, b1, b2, b3, b4⟩ := (HB.out.below hb hgb).flt k (by rw [hn.out]; exact hlt) x hx
      have HS := Lib.hid (fun w => eqFilter_same x w)
      obtain ⟨xo, xf, xm, xv, xt⟩ := x
      unfold fltV at HS
      simp only at HS a0 a1 a2 a3 a4 b0 b1 b2 b3 b4
      clear hb hx
      go_wp2_with fail
      go_region_with (go_at_call 68; refine (HS.out _).mono ?_; rintro e w1 ⟨rfl, b1⟩; have B1 := Lib.hid b1; clear b1)
      all_goals
        go_wp2
        go_roundw
        case rel => exact ⟨k + 1, by omega, by go_num, (show Below w.heap.size w wr.drew from below_drewN HR.out 1).trans (B1.out.mono (show w.heap.size ≤ wr.heap.size from HR.out.size))⟩
        case measure => simp [intOf]; omega
    · go_wp2_with fail
      go_ret
      exact ⟨rfl, HR.out⟩
theorem eqFilterS_any (a b : Option Addr) (n ca cb : Nat) (l : List Flt) (w : World) (HA : Hid (InX w a n (fltCs l))) (HB : Hid (InX w b n (fltCs l))) (hn : Hid (l.length = n)) (hm : n ≤ 1048576) :
    Calls Tryd.prog 45 #[.slice a n ca, .slice b n cb] w (SaysB w true) := by
  rcases Nat.eq_zero_or_pos n with h0 | h0
  · subst h0; exact eqFilterS_none a b ca cb w
  · obtain ⟨ga, rfl, ha, hga⟩ := HA.out h0
    obtain ⟨gb, rfl, hb, hgb⟩ := HB.out h0
    exact eqFilterS_go ga gb n ca cb l w ha hb hn hga hgb hm
set_option maxHeartbeats 3200000 in
theorem eqConfig_any (v v' : Value) (c : Cfg) (w : World) (h : Hid (CfgV w v c)) (h' : Hid (CfgV w v' c)) (HM : Hid (CfgM c)) :
    Calls Tryd.prog 16 #[v, v'] w (SaysB w true) := by
  obtain ⟨ac, cc, af, cf, rfl, ic, if_⟩ := h.out
  obtain ⟨ac', cc', af', cf', rfl, ic', if'⟩ := h'.out
  obtain ⟨s, cs, fs, d⟩ := c
  obtain ⟨n, hn⟩ : ∃ n, cs.length = n := ⟨_, rfl⟩
  obtain ⟨m, hm⟩ : ∃ m, fs.length = m := ⟨_, rfl⟩
  have hM := HM.out
  unfold CfgM at hM
  simp only [hn, hm] at ic if_ ic' if' hM ⊢
  obtain ⟨_, q1, q2⟩ := hM
  have IC := Lib.hid ic
  have IF := Lib.hid if_
  have IC' := Lib.hid ic'
  have IF' := Lib.hid if'
  have HC : Hid (∀ w, InX w ac n (clsCs cs) → InX w ac' n (clsCs cs) → Calls Tryd.prog 44 #[.slice ac n cc, .slice ac' n cc'] w (SaysB w true)) := Lib.hid (fun w h h' => eqClassS_any ac ac' n cc cc' cs w (Lib.hid h) (Lib.hid h') (Lib.hid hn) q1)
  have HF : Hid (∀ w, InX w af m (fltCs fs) → InX w af' m (fltCs fs) → Calls Tryd.prog 45 #[.slice af m cf, .slice af' m cf'] w (SaysB w true)) := Lib.hid (fun w h h' => eqFilterS_any af af' m cf cf' fs w (Lib.hid h) (Lib.hid h') (Lib.hid hm) q2)
  clear h h' hn hm ic if_ ic' if' HM
  go_enter Tryd.func16, Tryd.ntmps16
  go_wp2_with (go_at_call 44; refine (HC.out _ (IC.out.below (two_new _ _ _)) (IC'.out.below (two_new _ _ _))).mono ?_; rintro e w1 ⟨rfl, b1⟩; have B1 := Lib.hid (two_below b1); have hz2 := two_size b1; have hz1 := Nat.lt_of_succ_lt hz2; obtain ⟨hc1, hf1⟩ := bcell b1; clear b1)
  go_wp2_with (go_at_call 45; refine (HF.out _ (IF.out.below B1.out) (IF'.out.below B1.out)).mono ?_; rintro e w2 ⟨rfl, b2⟩; obtain ⟨hc2, hf2⟩ := bcell b2; have B2 := Lib.hid (B1.out.trans (b2.mono B1.out.size)); clear b2)
  go_ret
  exact ⟨rfl, B2.out⟩
end Go.Proofs.YtkpocljlmbihcaaDoor
