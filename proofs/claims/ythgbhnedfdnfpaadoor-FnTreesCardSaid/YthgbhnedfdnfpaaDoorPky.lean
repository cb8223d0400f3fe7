import Derived.Test.YthgbhnedfdnfpaaDoorPku
import Derived.Test.YthgbhnedfdnfpaaDoorPkx
/- What a law draws of configurations: a configuration in a box, its rows, and the cursor, while it is made and changed. -/
namespace Go.Proofs.YthgbhnedfdnfpaaDoor
set_option maxRecDepth 100000
open Go.RowKit
set_option linter.unusedVariables false
set_option linter.unusedSimpArgs false

/-- a filter with one number changed -/
def updF (x : Flt) (j : Nat) (z : Int) : Flt := match j with
  | 0 => { x with o := z }
  | 1 => { x with f := z }
  | 2 => { x with m := z }
  | 3 => { x with v := z }
  | _ => { x with t := z }
theorem fltC_upd (x : Flt) (j : Nat) (z : Int) (hj : j < 5) : (fltC x).set j (.int .i64 z) = fltC (updF x j z) := by
  match j, hj with
  | 0, _ | 1, _ | 2, _ | 3, _ | 4, _ => rfl
theorem fltCs_upd : ∀ (fs : List Flt) (k j : Nat) (z : Int), k < fs.length → j < 5 → (fltCs fs).set (k * 5 + j) (.int .i64 z) = fltCs (fs.set k (updF (fs.getD k flt0) j z))
  | [], k, j, z, h, _ => absurd h (by simp)
  | x :: r, 0, j, z, _, hj => by
    rw [fltCs_cons, Nat.zero_mul, Nat.zero_add, List.set_append_left _ _ (by simp [fltC]; omega), fltC_upd x j z hj]
    simp [fltCs_cons]
  | x :: r, k + 1, j, z, h, hj => by
    have ih := fltCs_upd r k j z (by simpa using h) hj
    have e : (k + 1) * 5 + j - (fltC x).length = k * 5 + j := by simp [fltC]; omega
    rw [fltCs_cons, List.set_append_right _ _ (by simp [fltC]; omega), e, ih]
    simp [fltCs_cons]
theorem FourIs.set0 {w : World} {b : Nat} {a0 a1 a2 a3 : Value} (h : FourIs w b a0 a1 a2 a3) (v : Value) : FourIs (w.setCell ⟨b, 0, none⟩ v) b v a1 a2 a3 := by
  obtain ⟨h0, h1, h2, h3, hg⟩ := h
  refine ⟨?_, ?_, ?_, ?_, by simpa using hg⟩
  · exact World.cell?_setCell_same' _ _ _ (by rw [h0]; rfl)
  all_goals (rw [World.cell?_setCell_other _ _ _ _ (by simp)]; assumption)
theorem FourIs.set3 {w : World} {b : Nat} {a0 a1 a2 a3 : Value} (h : FourIs w b a0 a1 a2 a3) (v : Value) : FourIs (w.setCell ⟨b, 3, none⟩ v) b a0 a1 a2 v := by
  obtain ⟨h0, h1, h2, h3, hg⟩ := h
  refine ⟨?_, ?_, ?_, World.cell?_setCell_same' _ _ _ (by rw [h3]; rfl), by simpa using hg⟩
  all_goals (rw [World.cell?_setCell_other _ _ _ _ (by simp)]; assumption)
theorem own_nat {w : World} {B g n c : Nat} {K : List Nat} (h : w.ownsRow B 3 1 (.slice (some ⟨g, 0, none⟩) n c) n (nv K)) (k : Nat) (hk : k < K.length) : w.cell? ⟨g, k, none⟩ = some (.int .i64 ((K.getD k 0 : Nat) : Int)) := by
  obtain ⟨ad, c', e, hi⟩ := own_in h
  cases e
  have hn : K.length = n := by have := h.1; rw [nv_length] at this; omega
  obtain ⟨g', e, ht, _⟩ := hi (by omega)
  cases e
  exact ht.at k (nv_get K k hk)
theorem own_five {w : World} {B g n c : Nat} {M : List Flt} (h : w.ownsRow B 77 5 (.slice (some ⟨g, 0, none⟩) n c) n (fltCs M)) (k : Nat) (hk : k < M.length) : Five w g k (M.getD k flt0) := by
  obtain ⟨ad, c', e, hi⟩ := own_in h
  cases e
  have hn : M.length = n := by have := h.1; rw [fltCs_length] at this; omega
  obtain ⟨g', e, ht, _⟩ := hi (by omega)
  cases e
  exact ht.flt k hk _ rfl
/-- a configuration in box bo while it is made: the result's box is still empty; a list of places -/
structure KC (w W : World) (a : Option Addr) (n cap t bo : Nat) (s : ByteArray) (vC vF vl : Value) (d : Int) (L : List Cls) (M : List Flt) (K : List Nat) (wx : World) : Prop where
  cur : CurAt wx w.heap.size a n cap t
  bar : Bar w.heap.size W.heap.size W wx
  zer : Zer wx W.heap.size
  box : FourIs wx bo (.string s) vC vF (.int .i64 d)
  fro : FroB wx bo
  rb : W.heap.size < bo
  C : wx.ownsRow (W.heap.size + 1) 43 8 vC L.length (clsCs L)
  F : wx.ownsRow (W.heap.size + 1) 77 5 vF M.length (fltCs M)
  l : wx.ownsRow (W.heap.size + 1) 3 1 vl K.length (nv K)
  nC : ∀ g, vC.ownBlock = some g → g ≠ bo
  nF : ∀ g, vF.ownBlock = some g → g ≠ bo
  nl : ∀ g, vl.ownBlock = some g → g ≠ bo
  CF : ∀ g, vC.ownBlock = some g → vF.ownBlock ≠ some g
  Cl : ∀ g, vC.ownBlock = some g → vl.ownBlock ≠ some g
  Fl : ∀ g, vF.ownBlock = some g → vl.ownBlock ≠ some g
section
variable {w W wx w' : World} {a : Option Addr} {n cap t t' t0 bo : Nat} {zs : List Int} {s s' : ByteArray} {vC vF vl v' : Value} {d : Int} {L L' : List Cls} {M M' : List Flt} {K K' : List Nat}
theorem KC.dr (h : KC w W a n cap t bo s vC vF vl d L M K wx) (HD : Dr w W a n cap zs t0) : Dr w wx a n cap zs t := HD.bar h.cur h.bar
theorem KC.only (h : KC w W a n cap t bo s vC vF vl d L M K wx) (hw : w.heap.size < W.heap.size) (hc : CurAt w' w.heap.size a n cap t') (ho : OnlyBlock w.heap.size wx w') : KC w W a n cap t' bo s vC vF vl d L M K w' := by
  have hrb := h.rb
  have hs : wx.heap.size ≤ w'.heap.size := by rw [ho.2.1]; exact Nat.le_refl _
  exact ⟨hc, h.bar.trans (Bar.of_only ho _), h.zer.same (ho.2.2 _ (by omega)) hs, h.box.same (ho.2.2 _ (by omega)) hs, h.fro.same (ho.2.2 _ (by omega)), h.rb, own_only h.C ho (by omega), own_only h.F ho (by omega), own_only h.l ho (by omega), h.nC, h.nF, h.nl, h.CF, h.Cl, h.Fl⟩
theorem KC.on (h : KC w W a n cap t bo s vC vF vl d L M K wx) (hb : Below wx.heap.size wx w') : KC w W a n cap t bo s vC vF vl d L M K w' :=
  ⟨h.cur.kept (hb.block _ h.cur.lt), h.bar.trans ((Bar.of_below hb).mono h.bar.size), h.zer.on hb, h.box.on hb, h.fro.on hb h.box.2.2.2.2, h.rb, own_low h.C hb (Nat.le_refl _), own_low h.F hb (Nat.le_refl _), own_low h.l hb (Nat.le_refl _), h.nC, h.nF, h.nl, h.CF, h.Cl, h.Fl⟩
theorem KC.upd {g c m : Nat} (h : KC w W a n cap t bo s (.slice (some ⟨g, 0, none⟩) m c) vF vl d L M K wx) (hm : L.length = m) (hw : w.heap.size < W.heap.size) (k j : Nat) (z : Int) (hk : k < L.length) (hj : j < 8) :
    KC w W a n cap t bo s (.slice (some ⟨g, 0, none⟩) m c) vF vl d (L.set k (updC (L.getD k cls0) j z)) M K (wx.setCell ⟨g, k * 8 + j, none⟩ (.int .i64 z)) := by
  have hg := (World.ownsRow.lt h.C g rfl).1
  have hgb := h.nC g rfl
  refine ⟨h.cur.kept (Below.heap_setCell wx ⟨g, k * 8 + j, none⟩ _ _ (by show w.heap.size ≠ g; omega)), h.bar.trans (Bar.of_below ((Below.refl W.heap.size wx).setCell (p := ⟨g, k * 8 + j, none⟩) (by show W.heap.size ≤ g; omega) _)), h.zer.set (by omega) _, h.box.far (by omega) _, h.fro.set _ _, h.rb, ?_, own_far h.F (fun g' e q => h.CF g rfl (by rw [← q]; exact e)) _, own_far h.l (fun g' e q => h.Cl g rfl (by rw [← q]; exact e)) _, h.nC, h.nF, h.nl, h.CF, h.Cl, h.Fl⟩
  subst hm
  rw [List.length_set]
  exact own_updC h.C k j z hk hj
theorem KC.updF {g c m : Nat} (h : KC w W a n cap t bo s vC (.slice (some ⟨g, 0, none⟩) m c) vl d L M K wx) (hm : M.length = m) (hw : w.heap.size < W.heap.size) (k j : Nat) (z : Int) (hk : k < M.length) (hj : j < 5) :
    KC w W a n cap t bo s vC (.slice (some ⟨g, 0, none⟩) m c) vl d L (M.set k (updF (M.getD k flt0) j z)) K (wx.setCell ⟨g, k * 5 + j, none⟩ (.int .i64 z)) := by
  have hg := (World.ownsRow.lt h.F g rfl).1
  have hgb := h.nF g rfl
  refine ⟨h.cur.kept (Below.heap_setCell wx ⟨g, k * 5 + j, none⟩ _ _ (by show w.heap.size ≠ g; omega)), h.bar.trans (Bar.of_below ((Below.refl W.heap.size wx).setCell (p := ⟨g, k * 5 + j, none⟩) (by show W.heap.size ≤ g; omega) _)), h.zer.set (by omega) _, h.box.far (by omega) _, h.fro.set _ _, h.rb, own_far h.C (fun g' e q => h.CF g' e (by rw [q]; rfl)) _, ?_, own_far h.l (fun g' e q => h.Fl g rfl (by rw [← q]; exact e)) _, h.nC, h.nF, h.nl, h.CF, h.Cl, h.Fl⟩
  subst hm
  rw [List.length_set, ← fltCs_upd M k j z hk hj]
  exact own_store h.F _ _
/-- a store into the box -/
theorem KC.box_ (h : KC w W a n cap t bo s vC vF vl d L M K wx) (hw : w.heap.size < W.heap.size) (j : Nat) (u : Value) :
    CurAt (wx.setCell ⟨bo, j, none⟩ u) w.heap.size a n cap t ∧ Bar w.heap.size W.heap.size W (wx.setCell ⟨bo, j, none⟩ u) ∧ Zer (wx.setCell ⟨bo, j, none⟩ u) W.heap.size ∧ FroB (wx.setCell ⟨bo, j, none⟩ u) bo ∧
    (wx.setCell ⟨bo, j, none⟩ u).ownsRow (W.heap.size + 1) 43 8 vC L.length (clsCs L) ∧ (wx.setCell ⟨bo, j, none⟩ u).ownsRow (W.heap.size + 1) 77 5 vF M.length (fltCs M) ∧ (wx.setCell ⟨bo, j, none⟩ u).ownsRow (W.heap.size + 1) 3 1 vl K.length (nv K) := by
  have hrb := h.rb
  exact ⟨h.cur.kept (Below.heap_setCell wx ⟨bo, j, none⟩ _ _ (by show w.heap.size ≠ bo; omega)), h.bar.trans (Bar.of_below ((Below.refl W.heap.size wx).setCell (p := ⟨bo, j, none⟩) (by show W.heap.size ≤ bo; omega) _)), h.zer.set (by omega) _, h.fro.set _ _, own_far h.C h.nC _, own_far h.F h.nF _, own_far h.l h.nl _⟩
theorem KC.setS (h : KC w W a n cap t bo s vC vF vl d L M K wx) (hw : w.heap.size < W.heap.size) (s' : ByteArray) : KC w W a n cap t bo s' vC vF vl d L M K (wx.setCell ⟨bo, 0, none⟩ (.string s')) := by
  obtain ⟨a1, a2, a3, a4, a5, a6, a7⟩ := h.box_ hw 0 (.string s')
  exact ⟨a1, a2, a3, h.box.set0 _, a4, h.rb, a5, a6, a7, h.nC, h.nF, h.nl, h.CF, h.Cl, h.Fl⟩
theorem KC.setD (h : KC w W a n cap t bo s vC vF vl d L M K wx) (hw : w.heap.size < W.heap.size) (z : Int) : KC w W a n cap t bo s vC vF vl z L M K (wx.setCell ⟨bo, 3, none⟩ (.int .i64 z)) := by
  obtain ⟨a1, a2, a3, a4, a5, a6, a7⟩ := h.box_ hw 3 (.int .i64 z)
  exact ⟨a1, a2, a3, h.box.set3 _, a4, h.rb, a5, a6, a7, h.nC, h.nF, h.nl, h.CF, h.Cl, h.Fl⟩
theorem KC.setNil (h : KC w W a n cap t bo s vC vF vl d L M K wx) (hw : w.heap.size < W.heap.size) : KC w W a n cap t bo s (.slice none 0 0) vF vl d [] M K (wx.setCell ⟨bo, 1, none⟩ (.slice none 0 0)) := by
  obtain ⟨a1, a2, a3, a4, a5, a6, a7⟩ := h.box_ hw 1 (.slice none 0 0)
  exact ⟨a1, a2, a3, h.box.set1 _, a4, h.rb, World.ownsRow_nil _ _ _ _, a6, a7, (fun g e => by cases e), h.nF, h.nl, (fun g e => by cases e), (fun g e => by cases e), h.Fl⟩
theorem KC.newC (h : KC w W a n cap t bo s vC vF vl d L M K wx) (hw : w.heap.size < W.heap.size) (hb : Below wx.heap.size wx w') (ho : w'.ownsRow wx.heap.size 43 8 v' L'.length (clsCs L')) : KC w W a n cap t bo s v' vF vl d L' M K (w'.setCell ⟨bo, 1, none⟩ v') := by
  have h0 := h.on hb
  obtain ⟨a1, a2, a3, a4, a5, a6, a7⟩ := h0.box_ hw 1 v'
  have hlt := fun g e => (World.ownsRow.lt ho g e).1
  have hbo := h.box.2.2.2.2
  have hsz := h.bar.size
  refine ⟨a1, a2, a3, h0.box.set1 _, a4, h.rb, ?_, a6, a7, fun g e => by have := hlt g e; omega, h.nF, h.nl, fun g e q => by have := hlt g e; have := (World.ownsRow.lt h.F g q).2; omega, fun g e q => by have := hlt g e; have := (World.ownsRow.lt h.l g q).2; omega, h.Fl⟩
  exact own_far (own_base ho (by have := h.rb; omega)) (fun g e => by have := hlt g e; omega) _
theorem KC.newl (h : KC w W a n cap t bo s vC vF vl d L M K wx) (hb : Below wx.heap.size wx w') (ho : w'.ownsRow wx.heap.size 3 1 v' K'.length (nv K')) : KC w W a n cap t bo s vC vF v' d L M K' w' := by
  have h0 := h.on hb
  have hlt := fun g e => (World.ownsRow.lt ho g e).1
  have hbo := h.box.2.2.2.2
  have hrb := h.rb
  exact ⟨h0.cur, h0.bar, h0.zer, h0.box, h0.fro, h0.rb, h0.C, h0.F, own_base ho (by omega), h.nC, h.nF, fun g e => by have := hlt g e; omega, h.CF, fun g e q => by have := hlt g q; have := (World.ownsRow.lt h.C g e).2; omega, fun g e q => by have := hlt g q; have := (World.ownsRow.lt h.F g e).2; omega⟩
theorem KC.grown (h : KC w W a n cap t bo s vC vF vl d L M K wx) (hw : w.heap.size < W.heap.size) {o : Option Nat} (hg : wx.grownBy w' o) (hr : ∀ k, o = some k → W.heap.size + 1 ≤ k) (hb : o ≠ some bo) :
    CurAt w' w.heap.size a n cap t ∧ Bar w.heap.size W.heap.size W w' ∧ Zer w' W.heap.size ∧ FourIs w' bo (.string s) vC vF (.int .i64 d) ∧ FroB w' bo := by
  have hz := h.zer.1.2.2.2.2
  have hbo := h.box.2.2.2.2
  exact ⟨cur_grown h.cur hg (fun q => by have := hr _ q; omega), bar_grown h.bar hg h.bar.size (fun k q => by have := hr k q; omega), h.zer.same (hg.block _ hz (fun q => by have := hr _ q.symm; omega)) hg.size, h.box.same (hg.block _ hbo (fun q => hb q.symm)) hg.size, h.fro.same (hg.block _ hbo (fun q => hb q.symm))⟩
theorem ne_app {w : World} {B n z bo : Nat} {T : TypeId} {v v' : Value} {xs : List Value} (h : ∀ g, v.ownBlock = some g → g ≠ bo) (hat : v'.ownBlock = v.ownBlock ∨ v'.ownBlock = some w.heap.size) (hb : bo < w.heap.size) : ∀ g, v'.ownBlock = some g → g ≠ bo := fun g e => by
  rcases hat with q | q
  · exact h g (by rw [← q]; exact e)
  · rw [q] at e
    have : w.heap.size = g := by simpa using e
    omega
theorem KC.appF (h : KC w W a n cap t bo s vC vF vl d L M K wx) (hw : w.heap.size < W.heap.size) (y : Flt) (hg : wx.grownBy w' vF.ownBlock) (ho : w'.ownsRow (W.heap.size + 1) 77 5 v' (M.length + 1) (fltCs M ++ fltC y)) (hat : v'.ownBlock = vF.ownBlock ∨ v'.ownBlock = some wx.heap.size) :
    KC w W a n cap t bo s vC v' vl d L (M ++ [y]) K (w'.setCell ⟨bo, 2, none⟩ v') := by
  have hbo := h.box.2.2.2.2
  obtain ⟨b1, b2, b3, b4, b5⟩ := h.grown hw hg (fun k q => (World.ownsRow.lt h.F k q).1) (fun q => h.nF bo q rfl)
  have nF' := ne_app (w := wx) (B := 0) (n := 0) (z := 0) (T := 3) (xs := []) h.nF hat hbo
  have h0 : KC w W a n cap t bo s vC vF vl d L M K wx := h
  have hrb := h.rb
  refine ⟨b1.kept (Below.heap_setCell w' ⟨bo, 2, none⟩ _ _ (by show w.heap.size ≠ bo; omega)), b2.trans (Bar.of_below ((Below.refl W.heap.size w').setCell (p := ⟨bo, 2, none⟩) (by show W.heap.size ≤ bo; omega) _)), b3.set (by omega) _, b4.set2 _, b5.set _ _, h.rb, own_far (own_kept h.C hg h.CF) h.nC _, ?_, own_far (own_kept h.l hg (dis_symm h.Fl)) h.nl _, h.nC, nF', h.nl, dis_app h.CF hat h.C, h.Cl, dis_symm (dis_app (dis_symm h.Fl) hat h.l)⟩
  rw [List.length_append, fltCs_append, show fltCs [y] = fltC y by simp [fltCs]]
  exact own_far ho nF' _
theorem KC.appC (h : KC w W a n cap t bo s vC vF vl d L M K wx) (hw : w.heap.size < W.heap.size) (y : Cls) (hg : wx.grownBy w' vC.ownBlock) (ho : w'.ownsRow (W.heap.size + 1) 43 8 v' (L.length + 1) (clsCs L ++ clsC y)) (hat : v'.ownBlock = vC.ownBlock ∨ v'.ownBlock = some wx.heap.size) :
    KC w W a n cap t bo s v' vF vl d (L ++ [y]) M K (w'.setCell ⟨bo, 1, none⟩ v') := by
  have hbo := h.box.2.2.2.2
  obtain ⟨b1, b2, b3, b4, b5⟩ := h.grown hw hg (fun k q => (World.ownsRow.lt h.C k q).1) (fun q => h.nC bo q rfl)
  have nC' := ne_app (w := wx) (B := 0) (n := 0) (z := 0) (T := 3) (xs := []) h.nC hat hbo
  have hrb := h.rb
  refine ⟨b1.kept (Below.heap_setCell w' ⟨bo, 1, none⟩ _ _ (by show w.heap.size ≠ bo; omega)), b2.trans (Bar.of_below ((Below.refl W.heap.size w').setCell (p := ⟨bo, 1, none⟩) (by show W.heap.size ≤ bo; omega) _)), b3.set (by omega) _, b4.set1 _, b5.set _ _, h.rb, ?_, own_far (own_kept h.F hg (dis_symm h.CF)) h.nF _, own_far (own_kept h.l hg (dis_symm h.Cl)) h.nl _, nC', h.nF, h.nl, dis_symm (dis_app (dis_symm h.CF) hat h.F), dis_symm (dis_app (dis_symm h.Cl) hat h.l), h.Fl⟩
  rw [List.length_append, clsCs_append, show clsCs [y] = clsC y by simp [clsCs]]
  exact own_far ho nC' _
theorem KC.barS (h : KC w W a n cap t bo s vC vF vl d L M K wx) (hw : w.heap.size < W.heap.size) (hc : CurAt w' w.heap.size a n cap t') (hb : Bar w.heap.size wx.heap.size wx w') : KC w W a n cap t' bo s vC vF vl d L M K w' := by
  have hrb := h.rb
  have hbo := h.box.2.2.2.2
  have hz := h.zer.1.2.2.2.2
  exact ⟨hc, h.bar.trans (hb.mono h.bar.size), h.zer.same (hb.block _ hz (by omega)) hb.size, h.box.same (hb.block _ hbo (by omega)) hb.size, h.fro.same (hb.block _ hbo (by omega)), h.rb, own_bar h.C hb (by omega) (Nat.le_refl _), own_bar h.F hb (by omega) (Nat.le_refl _), own_bar h.l hb (by omega) (Nat.le_refl _), h.nC, h.nF, h.nl, h.CF, h.Cl, h.Fl⟩
/-- behind an append to the filters, ahead of the store -/
theorem KC.mid (h : KC w W a n cap t bo s vC vF vl d L M K wx) (hw : w.heap.size < W.heap.size) (hg : wx.grownBy w' vF.ownBlock) :
    FourIs w' bo (.string s) vC vF (.int .i64 d) ∧ FroB w' bo ∧ w'.ownsRow (W.heap.size + 1) 43 8 vC L.length (clsCs L) ∧ w'.ownsRow (W.heap.size + 1) 3 1 vl K.length (nv K) := by
  obtain ⟨b1, b2, b3, b4, b5⟩ := h.grown hw hg (fun k q => (World.ownsRow.lt h.F k q).1) (fun q => h.nF bo q rfl)
  exact ⟨b4, b5, own_kept h.C hg h.CF, own_kept h.l hg (dis_symm h.Fl)⟩
theorem lit_flt (w : World) (B : Nat) (hB : B ≤ w.heap.size) (x : Flt) : (w.alloc (.cells #[.int .i64 x.o, .int .i64 x.f, .int .i64 x.m, .int .i64 x.v, .int .i64 x.t] 77)).ownsRow B 77 5 (.slice (some ⟨w.heap.size, 0, none⟩) 1 1) 1 (fltC x) :=
  World.ownsRow_lit w #[.int .i64 x.o, .int .i64 x.f, .int .i64 x.m, .int .i64 x.v, .int .i64 x.t] 1 hB (by unfold maxLen; omega) rfl
/-- the result's box filled -/
theorem KC.fin (h : KC w W a n cap t bo s vC vF vl d L M K wx) (hw : w.heap.size < W.heap.size) (u0 u1 u2 u3 : Value) :
    CurAt ((((wx.setCell ⟨W.heap.size, 0, none⟩ u0).setCell ⟨W.heap.size, 1, none⟩ u1).setCell ⟨W.heap.size, 2, none⟩ u2).setCell ⟨W.heap.size, 3, none⟩ u3) w.heap.size a n cap t ∧
    Bar w.heap.size W.heap.size W ((((wx.setCell ⟨W.heap.size, 0, none⟩ u0).setCell ⟨W.heap.size, 1, none⟩ u1).setCell ⟨W.heap.size, 2, none⟩ u2).setCell ⟨W.heap.size, 3, none⟩ u3) ∧
    OwnCfg ((((wx.setCell ⟨W.heap.size, 0, none⟩ u0).setCell ⟨W.heap.size, 1, none⟩ u1).setCell ⟨W.heap.size, 2, none⟩ u2).setCell ⟨W.heap.size, 3, none⟩ u3) W.heap.size (.agg #[.string s, vC, vF, .int .i64 d]) ⟨s, L, M, d⟩ := by
  have hb := set4 (Below.refl W.heap.size wx) W.heap.size (Nat.le_refl _) u0 u1 u2 u3
  have ho : OwnCfg wx (W.heap.size + 1) (.agg #[.string s, vC, vF, .int .i64 d]) ⟨s, L, M, d⟩ := ⟨vC, vF, rfl, h.C, h.F, h.CF⟩
  exact ⟨h.cur.kept (hb.block _ hw), h.bar.trans (Bar.of_below hb), (ho.set4 (Nat.lt_succ_self _) u0 u1 u2 u3).base (Nat.le_succ _)⟩
end
end Go.Proofs.YthgbhnedfdnfpaaDoor
