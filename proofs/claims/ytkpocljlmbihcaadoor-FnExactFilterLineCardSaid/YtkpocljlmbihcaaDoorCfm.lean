/- Rows of cells, classes and filters in memory: what a configuration's value holds. -/
import Derived.Test.YtkpocljlmbihcaaDoorCfp
import Derived.Test.YtkpocljlmbihcaaDoorKwk
import Derived.Test.YtkpocljlmbihcaaDoorOpn
import Derived.Deep.OwnRows
namespace Go.Proofs.YtkpocljlmbihcaaDoor
set_option maxRecDepth 100000
open Go.RowKit
set_option linter.unusedVariables false

/-! Classes. -/
def clsC (x : Cls) : List Value := [.int .i64 x.i, .int .i64 x.p, .int .i64 x.r, .int .i64 x.e, .int .i64 x.b, .int .i64 x.u, .int .i64 x.o, .int .i64 x.l]
def clsV (x : Cls) : Value := .agg #[.int .i64 x.i, .int .i64 x.p, .int .i64 x.r, .int .i64 x.e, .int .i64 x.b, .int .i64 x.u, .int .i64 x.o, .int .i64 x.l]
def clsCs (l : List Cls) : List Value := l.flatMap clsC
theorem clsCs_cons (x : Cls) (r : List Cls) : clsCs (x :: r) = clsC x ++ clsCs r := by simp [clsCs]
theorem clsCs_append (l m : List Cls) : clsCs (l ++ m) = clsCs l ++ clsCs m := by simp [clsCs]
theorem clsCs_length (l : List Cls) : (clsCs l).length = l.length * 8 := by
  unfold clsCs
  induction l with
  | nil => rfl
  | cons x r ih => simp [clsC] at *; omega
theorem clsCs_get : ∀ (l : List Cls) (i j : Nat), j < 8 → i < l.length → (clsCs l)[i * 8 + j]? = (clsC (l.getD i cls0))[j]?
  | [], i, j, _, h => absurd h (by simp)
  | x :: r, 0, j, hj, _ => by
    rw [clsCs_cons, List.getElem?_append_left (by simp [clsC]; omega)]
    simp
  | x :: r, i + 1, j, hj, h => by
    have e : (i + 1) * 8 + j - (clsC x).length = i * 8 + j := by simp [clsC]; omega
    rw [clsCs_cons, List.getElem?_append_right (by simp [clsC]; omega), e, clsCs_get r i j hj (by simpa using h)]
    simp
/-- the cells of a class of a row -/
def Eight (w : World) (g k : Nat) (x : Cls) : Prop := w.cell? ⟨g, k * 8, none⟩ = some (.int .i64 x.i) ∧ w.cell? ⟨g, k * 8 + 1, none⟩ = some (.int .i64 x.p) ∧ w.cell? ⟨g, k * 8 + 2, none⟩ = some (.int .i64 x.r) ∧ w.cell? ⟨g, k * 8 + 3, none⟩ = some (.int .i64 x.e) ∧
  w.cell? ⟨g, k * 8 + 4, none⟩ = some (.int .i64 x.b) ∧ w.cell? ⟨g, k * 8 + 5, none⟩ = some (.int .i64 x.u) ∧ w.cell? ⟨g, k * 8 + 6, none⟩ = some (.int .i64 x.o) ∧ w.cell? ⟨g, k * 8 + 7, none⟩ = some (.int .i64 x.l)
theorem AtC.cls {w : World} {g : Nat} {l : List Cls} (h : AtC w g (clsCs l)) (k : Nat) (hk : k < l.length) (x : Cls) (hx : l.getD k cls0 = x) : Eight w g k x := by
  subst hx
  have q := fun j (hj : j < 8) => clsCs_get l k j hj hk
  exact ⟨h.at _ ((q 0 (by decide)).trans rfl), h.at _ ((q 1 (by decide)).trans rfl), h.at _ ((q 2 (by decide)).trans rfl), h.at _ ((q 3 (by decide)).trans rfl), h.at _ ((q 4 (by decide)).trans rfl), h.at _ ((q 5 (by decide)).trans rfl), h.at _ ((q 6 (by decide)).trans rfl), h.at _ ((q 7 (by decide)).trans rfl)⟩
/-- the same behind an allocation: for the walk -/
def EightA (w : World) (g k : Nat) (x : Cls) : Prop := ∀ o, Eight (w.alloc o) g k x
theorem Eight.later {w : World} {g k : Nat} {x : Cls} (h : Eight w g k x) (hg : g < w.heap.size) :
    (∀ o, (w.alloc o).cell? ⟨g, k * 8, none⟩ = some (.int .i64 x.i)) ∧ (∀ o, (w.alloc o).cell? ⟨g, k * 8 + 1, none⟩ = some (.int .i64 x.p)) ∧ (∀ o, (w.alloc o).cell? ⟨g, k * 8 + 2, none⟩ = some (.int .i64 x.r)) ∧ (∀ o, (w.alloc o).cell? ⟨g, k * 8 + 3, none⟩ = some (.int .i64 x.e)) ∧
    (∀ o, (w.alloc o).cell? ⟨g, k * 8 + 4, none⟩ = some (.int .i64 x.b)) ∧ (∀ o, (w.alloc o).cell? ⟨g, k * 8 + 5, none⟩ = some (.int .i64 x.u)) ∧ (∀ o, (w.alloc o).cell? ⟨g, k * 8 + 6, none⟩ = some (.int .i64 x.o)) ∧ (∀ o, (w.alloc o).cell? ⟨g, k * 8 + 7, none⟩ = some (.int .i64 x.l)) := by
  obtain ⟨h0, h1, h2, h3, h4, h5, h6, h7⟩ := h
  have q := fun o => (bcell (one_new2 w o)).1
  exact ⟨fun o => (q o g _ hg).trans h0, fun o => (q o g _ hg).trans h1, fun o => (q o g _ hg).trans h2, fun o => (q o g _ hg).trans h3, fun o => (q o g _ hg).trans h4, fun o => (q o g _ hg).trans h5, fun o => (q o g _ hg).trans h6, fun o => (q o g _ hg).trans h7⟩

/-! Filters. -/
def fltC (x : Flt) : List Value := [.int .i64 x.o, .int .i64 x.f, .int .i64 x.m, .int .i64 x.v, .int .i64 x.t]
def fltV (x : Flt) : Value := .agg #[.int .i64 x.o, .int .i64 x.f, .int .i64 x.m, .int .i64 x.v, .int .i64 x.t]
def fltCs (l : List Flt) : List Value := l.flatMap fltC
theorem fltCs_cons (x : Flt) (r : List Flt) : fltCs (x :: r) = fltC x ++ fltCs r := by simp [fltCs]
theorem fltCs_append (l m : List Flt) : fltCs (l ++ m) = fltCs l ++ fltCs m := by simp [fltCs]
theorem fltCs_length (l : List Flt) : (fltCs l).length = l.length * 5 := by
  unfold fltCs
  induction l with
  | nil => rfl
  | cons x r ih => simp [fltC] at *; omega
theorem fltCs_get : ∀ (l : List Flt) (i j : Nat), j < 5 → i < l.length → (fltCs l)[i * 5 + j]? = (fltC (l.getD i flt0))[j]?
  | [], i, j, _, h => absurd h (by simp)
  | x :: r, 0, j, hj, _ => by
    rw [fltCs_cons, List.getElem?_append_left (by simp [fltC]; omega)]
    simp
  | x :: r, i + 1, j, hj, h => by
    have e : (i + 1) * 5 + j - (fltC x).length = i * 5 + j := by simp [fltC]; omega
    rw [fltCs_cons, List.getElem?_append_right (by simp [fltC]; omega), e, fltCs_get r i j hj (by simpa using h)]
    simp
def Five (w : World) (g k : Nat) (x : Flt) : Prop := w.cell? ⟨g, k * 5, none⟩ = some (.int .i64 x.o) ∧ w.cell? ⟨g, k * 5 + 1, none⟩ = some (.int .i64 x.f) ∧ w.cell? ⟨g, k * 5 + 2, none⟩ = some (.int .i64 x.m) ∧ w.cell? ⟨g, k * 5 + 3, none⟩ = some (.int .i64 x.v) ∧ w.cell? ⟨g, k * 5 + 4, none⟩ = some (.int .i64 x.t)
theorem AtC.flt {w : World} {g : Nat} {l : List Flt} (h : AtC w g (fltCs l)) (k : Nat) (hk : k < l.length) (x : Flt) (hx : l.getD k flt0 = x) : Five w g k x := by
  subst hx
  have q := fun j (hj : j < 5) => fltCs_get l k j hj hk
  exact ⟨h.at _ ((q 0 (by decide)).trans rfl), h.at _ ((q 1 (by decide)).trans rfl), h.at _ ((q 2 (by decide)).trans rfl), h.at _ ((q 3 (by decide)).trans rfl), h.at _ ((q 4 (by decide)).trans rfl)⟩
theorem Five.later {w : World} {g k : Nat} {x : Flt} (h : Five w g k x) (hg : g < w.heap.size) :
    (∀ o, (w.alloc o).cell? ⟨g, k * 5, none⟩ = some (.int .i64 x.o)) ∧ (∀ o, (w.alloc o).cell? ⟨g, k * 5 + 1, none⟩ = some (.int .i64 x.f)) ∧ (∀ o, (w.alloc o).cell? ⟨g, k * 5 + 2, none⟩ = some (.int .i64 x.m)) ∧ (∀ o, (w.alloc o).cell? ⟨g, k * 5 + 3, none⟩ = some (.int .i64 x.v)) ∧ (∀ o, (w.alloc o).cell? ⟨g, k * 5 + 4, none⟩ = some (.int .i64 x.t)) := by
  obtain ⟨h0, h1, h2, h3, h4⟩ := h
  have q := fun o => (bcell (one_new2 w o)).1
  exact ⟨fun o => (q o g _ hg).trans h0, fun o => (q o g _ hg).trans h1, fun o => (q o g _ hg).trans h2, fun o => (q o g _ hg).trans h3, fun o => (q o g _ hg).trans h4⟩

/-! Configurations. -/
/-- a value is a configuration, its lists in memory -/
def CfgV (w : World) (v : Value) (c : Cfg) : Prop :=
  ∃ ac cc af cf, v = .agg #[.string c.s, .slice ac c.cs.length cc, .slice af c.fs.length cf, .int .i64 c.d] ∧ InX w ac c.cs.length (clsCs c.cs) ∧ InX w af c.fs.length (fltCs c.fs)
theorem CfgV.below {w w' : World} {v : Value} {c : Cfg} (h : CfgV w v c) (hb : Below w.heap.size w w') : CfgV w' v c := by
  obtain ⟨ac, cc, af, cf, hv, hc, hf⟩ := h
  exact ⟨ac, cc, af, cf, hv, hc.below hb, hf.below hb⟩
end Go.Proofs.YtkpocljlmbihcaaDoor
