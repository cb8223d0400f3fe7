/- Lists of classes and of filters made of arguments; configurations made. -/
import Derived.Test.YtkpocljlmbihcaaDoorCfl
import Derived.Deep.OwnRows
namespace Go.Proofs.YtkpocljlmbihcaaDoor
set_option maxRecDepth 100000
open Go.RowKit
set_option linter.unusedVariables false

theorem infoCls : (Tryd.prog.info? 26).map (fun i => (i.zero, i.size, i.bytes)) = some (some (.agg #[.int .i64 0, .int .i64 0, .int .i64 0, .int .i64 0, .int .i64 0, .int .i64 0, .int .i64 0, .int .i64 0]), 8, 64) := by kernel_rfl
theorem infoFlt : (Tryd.prog.info? 32).map (fun i => (i.zero, i.size, i.bytes)) = some (some (.agg #[.int .i64 0, .int .i64 0, .int .i64 0, .int .i64 0, .int .i64 0]), 5, 40) := by kernel_rfl
theorem set_cls {n : Nat} {w w1 : World} (h : Below n w w1) (b : Nat) (hb : n ≤ b) (j0 j1 j2 j3 j4 j5 j6 j7 : Nat) (v0 v1 v2 v3 v4 v5 v6 v7 : Value) : Below n w ((((((((w1.setCell ⟨b, j0, none⟩ v0).setCell ⟨b, j1, none⟩ v1).setCell ⟨b, j2, none⟩ v2).setCell ⟨b, j3, none⟩ v3).setCell ⟨b, j4, none⟩ v4).setCell ⟨b, j5, none⟩ v5).setCell ⟨b, j6, none⟩ v6).setCell ⟨b, j7, none⟩ v7) := (((((((h.setCell hb _).setCell hb _).setCell hb _).setCell hb _).setCell hb _).setCell hb _).setCell hb _).setCell hb _
theorem got_cls {l : List Cls} {xs : List Value} {k n : Nat} (h : GotX (clsCs l) xs (k * 8)) (hl : xs.length = n * 8) (hk : k < n) (hn : l.length = n) (x : Cls) (hx : l.getD k cls0 = x) :
    GotX (clsCs l) ((((((((xs.set (k * 8) (.int .i64 x.i)).set (k * 8 + 1) (.int .i64 x.p)).set (k * 8 + 2) (.int .i64 x.r)).set (k * 8 + 3) (.int .i64 x.e)).set (k * 8 + 4) (.int .i64 x.b)).set (k * 8 + 5) (.int .i64 x.u)).set (k * 8 + 6) (.int .i64 x.o)).set (k * 8 + 7) (.int .i64 x.l)) ((k + 1) * 8) := by
  intro m hm
  by_cases hmk : m < k * 8
  · rw [List.getElem?_set_ne (by omega), List.getElem?_set_ne (by omega), List.getElem?_set_ne (by omega), List.getElem?_set_ne (by omega), List.getElem?_set_ne (by omega), List.getElem?_set_ne (by omega), List.getElem?_set_ne (by omega), List.getElem?_set_ne (by omega)]
    exact h m hmk
  · obtain ⟨j, hj, hm2⟩ : ∃ j, j < 8 ∧ m = k * 8 + j := ⟨m - k * 8, by omega, by omega⟩
    have q := clsCs_get l k j hj (by omega)
    rw [← hm2, hx] at q
    rw [q]
    match j, hj with
    | 0, _ => rw [hm2]; simp [List.getElem?_set, clsC]; omega
    | 1, _ => rw [hm2]; simp [List.getElem?_set, clsC]; omega
    | 2, _ => rw [hm2]; simp [List.getElem?_set, clsC]; omega
    | 3, _ => rw [hm2]; simp [List.getElem?_set, clsC]; omega
    | 4, _ => rw [hm2]; simp [List.getElem?_set, clsC]; omega
    | 5, _ => rw [hm2]; simp [List.getElem?_set, clsC]; omega
    | 6, _ => rw [hm2]; simp [List.getElem?_set, clsC]; omega
    | 7, _ => rw [hm2]; simp [List.getElem?_set, clsC]; omega
set_option maxHeartbeats 1600000 in
theorem toClass_any (x : Cls) (w : World) :
    Calls Tryd.prog 7 #[clsV x] w (SaysV w (clsV x)) := by
  obtain ⟨xi, xp, xr, xe, xb, xu, xo, xl⟩ := x
  unfold clsV
  simp only
  go_enter Tryd.func7, Tryd.ntmps7
  go_wp2
  exact bodyPost_ret (v := .agg #[.int .i64 xi, .int .i64 xp, .int .i64 xr, .int .i64 xe, .int .i64 xb, .int .i64 xu, .int .i64 xo, .int .i64 xl]) (by simp [results, Tryd.results7, go_sem]) rfl ⟨rfl, (two_new _ _ _).alloc (by simp; omega) _⟩
def clsRel (w : World) (l : List Cls) (n : Nat) (i : Value) (wr : World) : Prop :=
  ∃ (k : Nat) (xs : List Value), k ≤ n ∧ i = .int .i64 k ∧ wr.ownsRow w.heap.size 26 8 (.slice (some ⟨w.heap.size, 0, none⟩) n n) n xs ∧ Below w.heap.size w wr ∧ GotX (clsCs l) xs (k * 8)
def SaysClassS (w : World) (l : List Cls) (e : Ending) (w' : World) : Prop := e = .returned (.slice (some ⟨w.heap.size, 0, none⟩) l.length l.length) ∧ Below w.heap.size w w' ∧ w'.ownsRow w.heap.size 26 8 (.slice (some ⟨w.heap.size, 0, none⟩) l.length l.length) l.length (clsCs l)
set_option maxHeartbeats 6400000 in
theorem toClassS_any (ad : Option Addr) (n c : Nat) (l : List Cls) (w : World) (HI : Hid (ArgX w ad n (clsCs l))) (hn : Hid (l.length = n)) (hm : n ≤ 1048576) :
    Calls Tryd.prog 38 #[.slice ad n c] w (SaysClassS w l) := by
  obtain ⟨i0, hi, hz0, hz1, hz2⟩ := info_parts infoCls
  have H0 : GotX (clsCs l) (madeCells (Value.agg #[.int .i64 0, .int .i64 0, .int .i64 0, .int .i64 0, .int .i64 0, .int .i64 0, .int .i64 0, .int .i64 0]).cells (n * 8)).toList (0 * 8) := fun j hj => absurd hj (by omega)
  have HG0 := Lib.hid H0
  clear H0
  go_enter Tryd.func38, Tryd.ntmps38
  go_wp2_with (at_make; refine wpList_make_full _ rfl _ _ 41 rfl w.heap.size 26 i0 (.agg #[.int .i64 0, .int .i64 0, .int .i64 0, .int .i64 0, .int .i64 0, .int .i64 0, .int .i64 0, .int .i64 0]) 8 Tryd.underlying41 hi hz0 hz1 .i64 .i64 _ _ n rfl rfl (by omega) (by omega) (by rw [hz2]; omega) (by unfold maxLen; omega) (Nat.le_refl _) ?_; intro w0 hown0 hgrow0; have HO := Lib.hid hown0; clear hown0)
  go_loopw [4] (fun i wr => clsRel w l n i wr) (fun i _ => n - (intOf i).toNat)
  case atStart => exact ⟨0, _, Nat.zero_le _, rfl, HO.out, (Below.refl _ _).grown hgrow0 (Nat.le_refl _) (by intro k h; cases h), HG0.out⟩
  case round =>
    obtain ⟨k, xs, hk, rfl, ho, hb, hg⟩ := hrel
    have HO1 := Lib.hid ho
    have HB1 := Lib.hid hb
    have HG := Lib.hid hg
    clear hg hgrow0
    by_cases hlt : k < n
    · obtain ⟨b, off, rfl, HR, hbw⟩ := HI.out (by omega)
      obtain ⟨x, hx⟩ : ∃ x, l.getD k cls0 = x := ⟨_, rfl⟩
      have hl1 : k < l.length := by rw [hn.out]; exact hlt
      obtain ⟨a0, a1, a2, a3, a4, a5, a6, a7⟩ := (HR.below hb hbw).cls k hl1 x hx
      have HX := Lib.hid (got_cls HG.out ho.1 hlt hn.out x hx)
      have hgl := (World.ownsRow.lt ho _ rfl).2
      have HS : Hid (∀ w, Calls Tryd.prog 7 #[clsV x] w (SaysV w (clsV x))) := Lib.hid (fun w => toClass_any x w)
      obtain ⟨xi, xp, xr, xe, xb, xu, xo, xl⟩ := x
      unfold clsV at HS
      simp only at HS a0 a1 a2 a3 a4 a5 a6 a7
      clear hb hx hl1 ho HR
      go_wp2_with (go_at_call 7; refine (HS.out _).mono ?_; rintro e w1 ⟨rfl, b1⟩; have B1 := Lib.hid b1; have O1 := Lib.hid (own_low HO1.out b1 (Nat.le_refl _)); obtain ⟨u0, c0⟩ := own_cell O1.out (k * 8) (by omega); obtain ⟨u1, c1⟩ := own_cell O1.out (k * 8 + 1) (by omega); obtain ⟨u2, c2⟩ := own_cell O1.out (k * 8 + 2) (by omega); obtain ⟨u3, c3⟩ := own_cell O1.out (k * 8 + 3) (by omega); obtain ⟨u4, c4⟩ := own_cell O1.out (k * 8 + 4) (by omega); obtain ⟨u5, c5⟩ := own_cell O1.out (k * 8 + 5) (by omega); obtain ⟨u6, c6⟩ := own_cell O1.out (k * 8 + 6) (by omega); obtain ⟨u7, c7⟩ := own_cell O1.out (k * 8 + 7) (by omega); have f0 := World.ownsRow.frozenAt O1.out (k * 8); have f1 := World.ownsRow.frozenAt O1.out (k * 8 + 1); have f2 := World.ownsRow.frozenAt O1.out (k * 8 + 2); have f3 := World.ownsRow.frozenAt O1.out (k * 8 + 3); have f4 := World.ownsRow.frozenAt O1.out (k * 8 + 4); have f5 := World.ownsRow.frozenAt O1.out (k * 8 + 5); have f6 := World.ownsRow.frozenAt O1.out (k * 8 + 6); have f7 := World.ownsRow.frozenAt O1.out (k * 8 + 7); clear b1)
      go_roundw
      case rel => exact ⟨k + 1, _, by omega, by go_num, (own_store (own_store (own_store (own_store (own_store (own_store (own_store (own_store O1.out _ _) _ _) _ _) _ _) _ _) _ _) _ _) _ _), set_cls (HB1.out.trans (B1.out.mono HB1.out.size)) _ (Nat.le_refl _) _ _ _ _ _ _ _ _ _ _ _ _ _ _ _ _, HX.out⟩
      case measure => simp [intOf]; omega
    · have hkn : k = n := by omega
      subst hkn
      clear hb
      go_wp2_with fail
      go_ret
      have e := got_all (ys := clsCs l) (xs := xs) (by rw [clsCs_length, hn.out]; exact HG.out) (by rw [clsCs_length, hn.out]; exact ho.1)
      subst e
      exact ⟨by rw [hn.out]; rfl, HB1.out, by rw [hn.out]; exact HO1.out⟩
theorem set_flt {n : Nat} {w w1 : World} (h : Below n w w1) (b : Nat) (hb : n ≤ b) (j0 j1 j2 j3 j4 : Nat) (v0 v1 v2 v3 v4 : Value) : Below n w (((((w1.setCell ⟨b, j0, none⟩ v0).setCell ⟨b, j1, none⟩ v1).setCell ⟨b, j2, none⟩ v2).setCell ⟨b, j3, none⟩ v3).setCell ⟨b, j4, none⟩ v4) := ((((h.setCell hb _).setCell hb _).setCell hb _).setCell hb _).setCell hb _
theorem got_flt {l : List Flt} {xs : List Value} {k n : Nat} (h : GotX (fltCs l) xs (k * 5)) (hl : xs.length = n * 5) (hk : k < n) (hn : l.length = n) (x : Flt) (hx : l.getD k flt0 = x) :
    GotX (fltCs l) (((((xs.set (k * 5) (.int .i64 x.o)).set (k * 5 + 1) (.int .i64 x.f)).set (k * 5 + 2) (.int .i64 x.m)).set (k * 5 + 3) (.int .i64 x.v)).set (k * 5 + 4) (.int .i64 x.t)) ((k + 1) * 5) := by
  intro m hm
  by_cases hmk : m < k * 5
  · rw [List.getElem?_set_ne (by omega), List.getElem?_set_ne (by omega), List.getElem?_set_ne (by omega), List.getElem?_set_ne (by omega), List.getElem?_set_ne (by omega)]
    exact h m hmk
  · obtain ⟨j, hj, hm2⟩ : ∃ j, j < 5 ∧ m = k * 5 + j := ⟨m - k * 5, by omega, by omega⟩
    have q := fltCs_get l k j hj (by omega)
    rw [← hm2, hx] at q
    rw [q]
    match j, hj with
    | 0, _ => rw [hm2]; simp [List.getElem?_set, fltC]; omega
    | 1, _ => rw [hm2]; simp [List.getElem?_set, fltC]; omega
    | 2, _ => rw [hm2]; simp [List.getElem?_set, fltC]; omega
    | 3, _ => rw [hm2]; simp [List.getElem?_set, fltC]; omega
    | 4, _ => rw [hm2]; simp [List.getElem?_set, fltC]; omega
set_option maxHeartbeats 1600000 in
theorem toFilter_any (x : Flt) (w : World) :
    Calls Tryd.prog 10 #[fltV x] w (SaysV w (fltV x)) := by
  obtain ⟨xo, xf, xm, xv, xt⟩ := x
  unfold fltV
  simp only
  go_enter Tryd.func10, Tryd.ntmps10
  go_wp2
  exact bodyPost_ret (v := .agg #[.int .i64 xo, .int .i64 xf, .int .i64 xm, .int .i64 xv, .int .i64 xt]) (by simp [results, Tryd.results10, go_sem]) rfl ⟨rfl, (two_new _ _ _).alloc (by simp; omega) _⟩
def fltRel (w : World) (l : List Flt) (n : Nat) (i : Value) (wr : World) : Prop :=
  ∃ (k : Nat) (xs : List Value), k ≤ n ∧ i = .int .i64 k ∧ wr.ownsRow w.heap.size 32 5 (.slice (some ⟨w.heap.size, 0, none⟩) n n) n xs ∧ Below w.heap.size w wr ∧ GotX (fltCs l) xs (k * 5)
def SaysFilterS (w : World) (l : List Flt) (e : Ending) (w' : World) : Prop := e = .returned (.slice (some ⟨w.heap.size, 0, none⟩) l.length l.length) ∧ Below w.heap.size w w' ∧ w'.ownsRow w.heap.size 32 5 (.slice (some ⟨w.heap.size, 0, none⟩) l.length l.length) l.length (fltCs l)
set_option maxHeartbeats 6400000 in
theorem toFilterS_any (ad : Option Addr) (n c : Nat) (l : List Flt) (w : World) (HI : Hid (ArgX w ad n (fltCs l))) (hn : Hid (l.length = n)) (hm : n ≤ 1048576) :
    Calls Tryd.prog 39 #[.slice ad n c] w (SaysFilterS w l) := by
  obtain ⟨i0, hi, hz0, hz1, hz2⟩ := info_parts infoFlt
  have H0 : GotX (fltCs l) (madeCells (Value.agg #[.int .i64 0, .int .i64 0, .int .i64 0, .int .i64 0, .int .i64 0]).cells (n * 5)).toList (0 * 5) := fun j hj => absurd hj (by omega)
  have HG0 := Lib.hid H0
  clear H0
  go_enter Tryd.func39, Tryd.ntmps39
  go_wp2_with (at_make; refine wpList_make_full _ rfl _ _ 42 rfl w.heap.size 32 i0 (.agg #[.int .i64 0, .int .i64 0, .int .i64 0, .int .i64 0, .int .i64 0]) 5 Tryd.underlying42 hi hz0 hz1 .i64 .i64 _ _ n rfl rfl (by omega) (by omega) (by rw [hz2]; omega) (by unfold maxLen; omega) (Nat.le_refl _) ?_; intro w0 hown0 hgrow0; have HO := Lib.hid hown0; clear hown0)
  go_loopw [4] (fun i wr => fltRel w l n i wr) (fun i _ => n - (intOf i).toNat)
  case atStart => exact ⟨0, _, Nat.zero_le _, rfl, HO.out, (Below.refl _ _).grown hgrow0 (Nat.le_refl _) (by intro k h; cases h), HG0.out⟩
  case round =>
    obtain ⟨k, xs, hk, rfl, ho, hb, hg⟩ := hrel
    have HO1 := Lib.hid ho
    have HB1 := Lib.hid hb
    have HG := Lib.hid hg
    clear hg hgrow0
    by_cases hlt : k < n
    · obtain ⟨b, off, rfl, HR, hbw⟩ := HI.out (by omega)
      obtain ⟨x, hx⟩ : ∃ x, l.getD k flt0 = x := ⟨_, rfl⟩
      have hl1 : k < l.length := by rw [hn.out]; exact hlt
      obtain ⟨a0, a1, a2, a3, a4⟩ := (HR.below hb hbw).flt k hl1 x hx
      have HX := Lib.hid (got_flt HG.out ho.1 hlt hn.out x hx)
      have hgl := (World.ownsRow.lt ho _ rfl).2
      have HS : Hid (∀ w, Calls Tryd.prog 10 #[fltV x] w (SaysV w (fltV x))) := Lib.hid (fun w => toFilter_any x w)
      obtain ⟨xo, xf, xm, xv, xt⟩ := x
      unfold fltV at HS
      simp only at HS a0 a1 a2 a3 a4
      clear hb hx hl1 ho HR
      go_wp2_with (go_at_call 10; refine (HS.out _).mono ?_; rintro e w1 ⟨rfl, b1⟩; have B1 := Lib.hid b1; have O1 := Lib.hid (own_low HO1.out b1 (Nat.le_refl _)); obtain ⟨u0, c0⟩ := own_cell O1.out (k * 5) (by omega); obtain ⟨u1, c1⟩ := own_cell O1.out (k * 5 + 1) (by omega); obtain ⟨u2, c2⟩ := own_cell O1.out (k * 5 + 2) (by omega); obtain ⟨u3, c3⟩ := own_cell O1.out (k * 5 + 3) (by omega); obtain ⟨u4, c4⟩ := own_cell O1.out (k * 5 + 4) (by omega); have f0 := World.ownsRow.frozenAt O1.out (k * 5); have f1 := World.ownsRow.frozenAt O1.out (k * 5 + 1); have f2 := World.ownsRow.frozenAt O1.out (k * 5 + 2); have f3 := World.ownsRow.frozenAt O1.out (k * 5 + 3); have f4 := World.ownsRow.frozenAt O1.out (k * 5 + 4); clear b1)
      go_roundw
      case rel => exact ⟨k + 1, _, by omega, by go_num, (own_store (own_store (own_store (own_store (own_store O1.out _ _) _ _) _ _) _ _) _ _), set_flt (HB1.out.trans (B1.out.mono HB1.out.size)) _ (Nat.le_refl _) _ _ _ _ _ _ _ _ _ _, HX.out⟩
      case measure => simp [intOf]; omega
    · have hkn : k = n := by omega
      subst hkn
      clear hb
      go_wp2_with fail
      go_ret
      have e := got_all (ys := fltCs l) (xs := xs) (by rw [fltCs_length, hn.out]; exact HG.out) (by rw [fltCs_length, hn.out]; exact ho.1)
      subst e
      exact ⟨by rw [hn.out]; rfl, HB1.out, by rw [hn.out]; exact HO1.out⟩
/-- a configuration of the call's own -/
def OwnCfg (w : World) (B : Nat) (v : Value) (c : Cfg) : Prop :=
  ∃ vc vf, v = .agg #[.string c.s, vc, vf, .int .i64 c.d] ∧ w.ownsRow B 26 8 vc c.cs.length (clsCs c.cs) ∧ w.ownsRow B 32 5 vf c.fs.length (fltCs c.fs) ∧ ∀ g, vc.ownBlock = some g → vf.ownBlock ≠ some g
theorem OwnCfg.cfg {w : World} {B : Nat} {v : Value} {c : Cfg} (h : OwnCfg w B v c) : CfgV w v c := by
  obtain ⟨vc, vf, hv, h1, h2, _⟩ := h
  obtain ⟨ac, cc, e1, i1⟩ := own_in h1
  obtain ⟨af, cf, e2, i2⟩ := own_in h2
  exact ⟨ac, cc, af, cf, by rw [hv, e1, e2], i1, i2⟩
theorem OwnCfg.low {w w' : World} {B B' : Nat} {v : Value} {c : Cfg} (h : OwnCfg w B v c) (hb : Below B' w w') (hB : w.heap.size ≤ B') : OwnCfg w' B v c := by
  obtain ⟨vc, vf, hv, h1, h2, h3⟩ := h
  exact ⟨vc, vf, hv, own_low h1 hb hB, own_low h2 hb hB, h3⟩
def SaysCfgN (w : World) (c : Cfg) (e : Ending) (w' : World) : Prop := ∃ v, e = .returned v ∧ OwnCfg w' w.heap.size v c ∧ Below w.heap.size w w'
end Go.Proofs.YtkpocljlmbihcaaDoor
