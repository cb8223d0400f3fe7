import Derived.Test.YthgbhnedfdnfpaaGreatDoorPkd
import Derived.Test.YthgbhnedfdnfpaaGreatDoorPkc
import Derived.Test.YthgbhnedfdnfpaaGreatDoorPkh
import Derived.Deep.OwnRows
import Derived.Deep.RegionWith
import Derived.WalkSmall
import Derived.Deep.RegionHeld3
import Derived.Deep.QuietTactic
import Derived.LoopTactic
import Derived.WalkMore
import Derived.BigQuiet
import Derived.Deep.AppendLies
/- Rows of cells, classes and filters in memory: what a configuration's value holds. -/
namespace Go.Proofs.YthgbhnedfdnfpaaGreatDoor
set_option maxRecDepth 100000
open Go.RowKit
set_option linter.unusedVariables false

def clsC (x : Cls) : List Value := [.int .i64 x.i, .int .i64 x.p, .int .i64 x.r, .int .i64 x.e, .int .i64 x.b, .int .i64 x.u, .int .i64 x.o, .int .i64 x.l]
def clsV (x : Cls) : Value := .agg #[.int .i64 x.i, .int .i64 x.p, .int .i64 x.r, .int .i64 x.e, .int .i64 x.b, .int .i64 x.u, .int .i64 x.o, .int .i64 x.l]
def clsCs (l : List Cls) : List Value := l.flatMap clsC
theorem clsCs_cons (x : Cls) (r : List Cls) : clsCs (x :: r) = clsC x ++ clsCs r := by simp [clsCs]
theorem clsCs_append (l m : List Cls) : clsCs (l ++ m) = clsCs l ++ clsCs m := by simp [clsCs]
theorem clsCs_length (l : List Cls) : (clsCs l).length = l.length * 8 := by
  unfold clsCs
  induction l with
  | nil => rfl
  | cons x r ih => simp [clsC] at *; omega
theorem clsCs_get : ∀ (l : List Cls) (i j : Nat), j < 8 → i < l.length → (clsCs l)[i * 8 + j]? = (clsC (l.getD i cls0))[j]?
  | [], i, j, _, h => absurd h (by simp)
  | x :: r, 0, j, hj, _ => by
    rw [clsCs_cons, List.getElem?_append_left (by simp [clsC]; omega)]
    simp
  | x :: r, i + 1, j, hj, h => by
    have e : (i + 1) * 8 + j - (clsC x).length = i * 8 + j := by simp [clsC]; omega
    rw [clsCs_cons, List.getElem?_append_right (by simp [clsC]; omega), e, clsCs_get r i j hj (by simpa using h)]
    simp
def Eight (w : World) (g k : Nat) (x : Cls) : Prop := w.cell? ⟨g, k * 8, none⟩ = some (.int .i64 x.i) ∧ w.cell? ⟨g, k * 8 + 1, none⟩ = some (.int .i64 x.p) ∧ w.cell? ⟨g, k * 8 + 2, none⟩ = some (.int .i64 x.r) ∧ w.cell? ⟨g, k * 8 + 3, none⟩ = some (.int .i64 x.e) ∧
  w.cell? ⟨g, k * 8 + 4, none⟩ = some (.int .i64 x.b) ∧ w.cell? ⟨g, k * 8 + 5, none⟩ = some (.int .i64 x.u) ∧ w.cell? ⟨g, k * 8 + 6, none⟩ = some (.int .i64 x.o) ∧ w.cell? ⟨g, k * 8 + 7, none⟩ = some (.int .i64 x.l)
theorem AtC.cls {w : World} {g : Nat} {l : List Cls} (h : AtC w g (clsCs l)) (k : Nat) (hk : k < l.length) (x : Cls) (hx : l.getD k cls0 = x) : Eight w g k x := by
  subst hx
  have q := fun j (hj : j < 8) => clsCs_get l k j hj hk
  exact ⟨h.at _ ((q 0 (by decide)).trans rfl), h.at _ ((q 1 (by decide)).trans rfl), h.at _ ((q 2 (by decide)).trans rfl), h.at _ ((q 3 (by decide)).trans rfl), h.at _ ((q 4 (by decide)).trans rfl), h.at _ ((q 5 (by decide)).trans rfl), h.at _ ((q 6 (by decide)).trans rfl), h.at _ ((q 7 (by decide)).trans rfl)⟩
theorem Eight.later {w : World} {g k : Nat} {x : Cls} (h : Eight w g k x) (hg : g < w.heap.size) :
    (∀ o, (w.alloc o).cell? ⟨g, k * 8, none⟩ = some (.int .i64 x.i)) ∧ (∀ o, (w.alloc o).cell? ⟨g, k * 8 + 1, none⟩ = some (.int .i64 x.p)) ∧ (∀ o, (w.alloc o).cell? ⟨g, k * 8 + 2, none⟩ = some (.int .i64 x.r)) ∧ (∀ o, (w.alloc o).cell? ⟨g, k * 8 + 3, none⟩ = some (.int .i64 x.e)) ∧
    (∀ o, (w.alloc o).cell? ⟨g, k * 8 + 4, none⟩ = some (.int .i64 x.b)) ∧ (∀ o, (w.alloc o).cell? ⟨g, k * 8 + 5, none⟩ = some (.int .i64 x.u)) ∧ (∀ o, (w.alloc o).cell? ⟨g, k * 8 + 6, none⟩ = some (.int .i64 x.o)) ∧ (∀ o, (w.alloc o).cell? ⟨g, k * 8 + 7, none⟩ = some (.int .i64 x.l)) := by
  obtain ⟨h0, h1, h2, h3, h4, h5, h6, h7⟩ := h
  have q := fun o => (bcell (one_new2 w o)).1
  exact ⟨fun o => (q o g _ hg).trans h0, fun o => (q o g _ hg).trans h1, fun o => (q o g _ hg).trans h2, fun o => (q o g _ hg).trans h3, fun o => (q o g _ hg).trans h4, fun o => (q o g _ hg).trans h5, fun o => (q o g _ hg).trans h6, fun o => (q o g _ hg).trans h7⟩

def fltC (x : Flt) : List Value := [.int .i64 x.o, .int .i64 x.f, .int .i64 x.m, .int .i64 x.v, .int .i64 x.t]
def fltV (x : Flt) : Value := .agg #[.int .i64 x.o, .int .i64 x.f, .int .i64 x.m, .int .i64 x.v, .int .i64 x.t]
def fltCs (l : List Flt) : List Value := l.flatMap fltC
theorem fltCs_cons (x : Flt) (r : List Flt) : fltCs (x :: r) = fltC x ++ fltCs r := by simp [fltCs]
theorem fltCs_append (l m : List Flt) : fltCs (l ++ m) = fltCs l ++ fltCs m := by simp [fltCs]
theorem fltCs_length (l : List Flt) : (fltCs l).length = l.length * 5 := by
  unfold fltCs
  induction l with
  | nil => rfl
  | cons x r ih => simp [fltC] at *; omega
theorem fltCs_get : ∀ (l : List Flt) (i j : Nat), j < 5 → i < l.length → (fltCs l)[i * 5 + j]? = (fltC (l.getD i flt0))[j]?
  | [], i, j, _, h => absurd h (by simp)
  | x :: r, 0, j, hj, _ => by
    rw [fltCs_cons, List.getElem?_append_left (by simp [fltC]; omega)]
    simp
  | x :: r, i + 1, j, hj, h => by
    have e : (i + 1) * 5 + j - (fltC x).length = i * 5 + j := by simp [fltC]; omega
    rw [fltCs_cons, List.getElem?_append_right (by simp [fltC]; omega), e, fltCs_get r i j hj (by simpa using h)]
    simp
def Five (w : World) (g k : Nat) (x : Flt) : Prop := w.cell? ⟨g, k * 5, none⟩ = some (.int .i64 x.o) ∧ w.cell? ⟨g, k * 5 + 1, none⟩ = some (.int .i64 x.f) ∧ w.cell? ⟨g, k * 5 + 2, none⟩ = some (.int .i64 x.m) ∧ w.cell? ⟨g, k * 5 + 3, none⟩ = some (.int .i64 x.v) ∧ w.cell? ⟨g, k * 5 + 4, none⟩ = some (.int .i64 x.t)
theorem AtC.flt {w : World} {g : Nat} {l : List Flt} (h : AtC w g (fltCs l)) (k : Nat) (hk : k < l.length) (x : Flt) (hx : l.getD k flt0 = x) : Five w g k x := by
  subst hx
  have q := fun j (hj : j < 5) => fltCs_get l k j hj hk
  exact ⟨h.at _ ((q 0 (by decide)).trans rfl), h.at _ ((q 1 (by decide)).trans rfl), h.at _ ((q 2 (by decide)).trans rfl), h.at _ ((q 3 (by decide)).trans rfl), h.at _ ((q 4 (by decide)).trans rfl)⟩
theorem Five.later {w : World} {g k : Nat} {x : Flt} (h : Five w g k x) (hg : g < w.heap.size) :
    (∀ o, (w.alloc o).cell? ⟨g, k * 5, none⟩ = some (.int .i64 x.o)) ∧ (∀ o, (w.alloc o).cell? ⟨g, k * 5 + 1, none⟩ = some (.int .i64 x.f)) ∧ (∀ o, (w.alloc o).cell? ⟨g, k * 5 + 2, none⟩ = some (.int .i64 x.m)) ∧ (∀ o, (w.alloc o).cell? ⟨g, k * 5 + 3, none⟩ = some (.int .i64 x.v)) ∧ (∀ o, (w.alloc o).cell? ⟨g, k * 5 + 4, none⟩ = some (.int .i64 x.t)) := by
  obtain ⟨h0, h1, h2, h3, h4⟩ := h
  have q := fun o => (bcell (one_new2 w o)).1
  exact ⟨fun o => (q o g _ hg).trans h0, fun o => (q o g _ hg).trans h1, fun o => (q o g _ hg).trans h2, fun o => (q o g _ hg).trans h3, fun o => (q o g _ hg).trans h4⟩

def CfgV (w : World) (v : Value) (c : Cfg) : Prop :=
  ∃ ac cc af cf, v = .agg #[.string c.s, .slice ac c.cs.length cc, .slice af c.fs.length cf, .int .i64 c.d] ∧ InX w ac c.cs.length (clsCs c.cs) ∧ InX w af c.fs.length (fltCs c.fs)
theorem CfgV.below {w w' : World} {v : Value} {c : Cfg} (h : CfgV w v c) (hb : Below w.heap.size w w') : CfgV w' v c := by
  obtain ⟨ac, cc, af, cf, hv, hc, hf⟩ := h
  exact ⟨ac, cc, af, cf, hv, hc.below hb, hf.below hb⟩
end Go.Proofs.YthgbhnedfdnfpaaGreatDoor

/- Slices of integers: what reads as a list of integers, what the call made itself, and the contracts of the copying and comparing functions of the laws. -/
namespace Go.Proofs.YthgbhnedfdnfpaaGreatDoor
set_option maxRecDepth 100000
open Go.RowKit

theorem infoI : (Tryz.prog.info? 3).map (fun i => (i.zero, i.size, i.bytes)) = some (some (.int .i64 0), 1, 8) := by kernel_rfl

def iv (zs : List Int) : List Value := zs.map (Value.int .i64)
theorem iv_length (zs : List Int) : (iv zs).length = zs.length := by simp [iv]
theorem iv_get (zs : List Int) (i : Nat) (h : i < zs.length) : (iv zs)[i]? = some (.int .i64 (zs.getD i 0)) := by
  simp [iv, h]

def RowI (w : World) (b off : Nat) (zs : List Int) : Prop :=
  (∀ i, i < zs.length → w.cell? ⟨b, off + i, none⟩ = some (.int .i64 (zs.getD i 0))) ∧ ∀ n ∈ zs, -9223372036854775808 ≤ n ∧ n ≤ 9223372036854775807

def OwnI (w : World) (B g n cap : Nat) (zs : List Int) : Prop :=
  w.ownsRow B 3 1 (.slice (some ⟨g, 0, none⟩) n cap) n (iv zs)

theorem OwnI.len {w : World} {B g n cap : Nat} {zs : List Int} (h : OwnI w B g n cap zs) : zs.length = n := by
  have := h.1; rw [iv_length] at this; omega
theorem OwnI.lt {w : World} {B g n cap : Nat} {zs : List Int} (h : OwnI w B g n cap zs) : B ≤ g ∧ g < w.heap.size := World.ownsRow.lt h g rfl
theorem OwnI.row {w : World} {B g n cap : Nat} {zs : List Int} (h : OwnI w B g n cap zs) (hr : ∀ n ∈ zs, -9223372036854775808 ≤ n ∧ n ≤ 9223372036854775807) : RowI w g 0 zs := by
  refine ⟨fun i hi => ?_, hr⟩
  have hl := h.len
  have := World.ownsRow.cellAt h i (by omega)
  rw [Nat.zero_add, this, iv_get _ _ hi]
theorem OwnI.below {w w' : World} {B B' g n cap : Nat} {zs : List Int} (h : OwnI w B g n cap zs) (hb : Below B' w w') (hg : g < B') : OwnI w' B g n cap zs := by
  obtain ⟨h1, h2⟩ := h
  refine ⟨h1, ?_⟩
  rcases h2 with h2 | ⟨g', cap', cur, a, b, c, d⟩
  · exact .inl h2
  · cases a
    exact .inr ⟨g, cap, cur, rfl, b, by rw [hb.block g hg]; exact c, d⟩
theorem OwnI.base {w : World} {B B' g n cap : Nat} {zs : List Int} (h : OwnI w B g n cap zs) (hB : B' ≤ B) : OwnI w B' g n cap zs := by
  obtain ⟨h1, h2⟩ := h
  refine ⟨h1, ?_⟩
  rcases h2 with h2 | ⟨g', cap', cur, a, b, c, d⟩
  · exact .inl h2
  · exact .inr ⟨g', cap', cur, a, Nat.le_trans hB b, c, d⟩
theorem RowI.below {w w' : World} {b off B : Nat} {zs : List Int} (h : RowI w b off zs) (hb : Below B w w') (hB : b < B) : RowI w' b off zs :=
  ⟨fun i hi => (hb.cell (p := ⟨b, off + i, none⟩) hB).trans (h.1 i hi), h.2⟩
theorem RowI.drewN {w : World} {b off : Nat} {zs : List Int} (h : RowI w b off zs) (q : Nat) : RowI (w.drewN q) b off zs := h
theorem RowI.at {w : World} {b off : Nat} {zs : List Int} (h : RowI w b off zs) (k : Nat) (hk : k < zs.length) :
    ∃ c, Hid (c = zs.getD k 0) ∧ -9223372036854775808 ≤ c ∧ c ≤ 9223372036854775807 ∧ w.cell? ⟨b, off + k, none⟩ = some (.int .i64 c) := by
  refine ⟨zs.getD k 0, rfl, ?_, ?_, h.1 k hk⟩
  · exact (h.2 _ (by rw [List.getD_eq_getElem?_getD, List.getElem?_eq_getElem hk]; exact List.getElem_mem hk)).1
  · exact (h.2 _ (by rw [List.getD_eq_getElem?_getD, List.getElem?_eq_getElem hk]; exact List.getElem_mem hk)).2

def InI (w : World) (a : Option Addr) (zs : List Int) : Prop :=
  zs = [] ∨ ∃ b off, a = some ⟨b, off, none⟩ ∧ RowI w b off zs

theorem iv_set (zs : List Int) (k : Nat) (c : Int) : (iv zs).set k (.int .i64 c) = iv (zs.set k c) := by simp [iv, List.map_set]
theorem OwnI.store {w : World} {B g n cap : Nat} {zs : List Int} (h : OwnI w B g n cap zs) (k : Nat) (c : Int) : OwnI (w.setCell ⟨g, k, none⟩ (.int .i64 c)) B g n cap (zs.set k c) := by
  have := (World.ownsRow.stored h k (.int .i64 c)).1
  rw [iv_set] at this
  exact this
theorem OwnI.cell {w : World} {B g n cap : Nat} {zs : List Int} (h : OwnI w B g n cap zs) (k : Nat) (hk : k < n) : w.cell? ⟨g, k, none⟩ = some (.int .i64 (zs.getD k 0)) := by
  have hl := h.len
  rw [World.ownsRow.cellAt h k (by omega), iv_get _ _ (by omega)]

theorem InI.below {w w' : World} {a : Option Addr} {zs : List Int} (h : InI w a zs) (hb : Below w.heap.size w w') : InI w' a zs := by
  by_cases e : zs = []
  · exact .inl e
  · rcases h with h | ⟨b, off, rfl, hr⟩
    · exact absurd h e
    · have hp : 0 < zs.length := List.length_pos_iff.2 e
      exact .inr ⟨b, off, rfl, hr.below hb (World.block_lt_of_cell? w _ (hr.1 0 hp))⟩
theorem InI.range {w : World} {a : Option Addr} {zs : List Int} (h : InI w a zs) : ∀ n ∈ zs, -9223372036854775808 ≤ n ∧ n ≤ 9223372036854775807 := by
  rcases h with rfl | ⟨b, off, rfl, hr⟩
  · intro n hn; cases hn
  · exact hr.2
end Go.Proofs.YthgbhnedfdnfpaaGreatDoor

/- Worlds that differ from one only behind it: what a region that draws its order keeps. -/
namespace Go.Proofs.YthgbhnedfdnfpaaGreatDoor
set_option maxRecDepth 100000
open Go.RowKit
set_option linter.unusedVariables false

def BX (wb w' : World) : Prop := Below wb.heap.size wb w'
theorem BX.drew0 (wb : World) : BX wb wb.drew := below_drewN (Below.refl _ _) 1
theorem BX.refl (wb : World) : BX wb wb := Below.refl _ _
theorem BX.alloc {wb w' : World} (h : BX wb w') (o : Obj) : BX wb (w'.alloc o) := Below.alloc h h.size o
theorem BX.call {wb w' w1 : World} (h : BX wb w') (b : Below w'.heap.size w' w1) : BX wb w1 := Below.trans h (b.mono h.size)
theorem BX.call' {wb w' w1 : World} (b : Below w'.heap.size w' w1) (h : BX wb w') : BX wb w1 := h.call b
theorem BX.set {wb w' : World} {b o : Nat} (h : BX wb w') (hb : wb.heap.size ≤ b) (v : Value) : BX wb (w'.setCell ⟨b, o, none⟩ v) := Below.setCell h hb v
theorem BX.size {wb w' : World} (h : BX wb w') : wb.heap.size ≤ w'.heap.size := Below.size h
theorem BX.drew {wb w' : World} (h : BX wb w') : BX wb w'.drew := below_drewN h 1
theorem held_take {P : Program} {ops : Array Oper} {Q : Exit → Act → World → Prop} {md : Region.Mode} {S : World → Prop} {i d : Nat} {oi : Oper} {v : Value} {fuel : Nat} {listed : Array Bool} {a : Act} {w : World} (hi : ops[i]? = Option.some oi) (hd : oi.dst = Option.some d)
    (hs : Region.noSelect ops = true) (hf : Region.free md ops listed i = true) (hr : (Region.ready md ops listed).contains i = true)
    (hQ : ∀ c a w, Q (.panic c) (a.put oi.dst v) w → Q (.panic c) a w) (hw : Region.wanted oi (yielded ops a.tmps) = true) (hv : ∀ w, S w → (execOp a.eval oi).run P w = .ok (.value v) w) (hS : S w)
    (h : wpAnyH P md ops Q S fuel (listed.setIfInBounds i true) (a.put (Option.some d) v) w) : wpAnyH P md ops Q S (fuel + 1) listed a w :=
  wpAnyH_take hi hs hf hr hQ (.inl ⟨hw, hv⟩) hS (by rw [hd]; exact h)
theorem held_skip {P : Program} {ops : Array Oper} {Q : Exit → Act → World → Prop} {md : Region.Mode} {S : World → Prop} {i d : Nat} {oi : Oper} {fuel : Nat} {listed : Array Bool} {a : Act} {w : World} (hi : ops[i]? = Option.some oi) (hd : oi.dst = Option.some d)
    (hs : Region.noSelect ops = true) (hf : Region.free md ops listed i = true) (hr : (Region.ready md ops listed).contains i = true)
    (hQ : ∀ c a w, Q (.panic c) (a.put oi.dst undef) w → Q (.panic c) a w) (hw : Region.wanted oi (yielded ops a.tmps) = false) (hS : S w)
    (h : wpAnyH P md ops Q S fuel (listed.setIfInBounds i true) (a.put (Option.some d) undef) w) : wpAnyH P md ops Q S (fuel + 1) listed a w :=
  wpAnyH_take hi hs hf hr hQ (.inr ⟨hw, rfl⟩) hS (by rw [hd]; exact h)
end Go.Proofs.YthgbhnedfdnfpaaGreatDoor

/- Rows of integers of the call's own: marked, held, compared; only one block written. -/
namespace Go.Proofs.YthgbhnedfdnfpaaGreatDoor
set_option maxRecDepth 100000
open Go.RowKit
set_option linter.unusedVariables false

def nv (ks : List Nat) : List Value := ks.map (fun k : Nat => Value.int .i64 (k : Int))
theorem nv_length (ks : List Nat) : (nv ks).length = ks.length := by simp [nv]
theorem nv_snoc (ks : List Nat) (k : Nat) : nv (ks ++ [k]) = nv ks ++ [.int .i64 (k : Int)] := by simp [nv]
theorem nv_get (ks : List Nat) (j : Nat) (h : j < ks.length) : (nv ks)[j]? = some (.int .i64 ((ks.getD j 0 : Nat) : Int)) := by simp [nv, h]
theorem AtC.nat {w : World} {g : Nat} {ks : List Nat} (h : AtC w g (nv ks)) (k : Nat) (hk : k < ks.length) (j : Nat) (hj : ks.getD k 0 = j) : w.cell? ⟨g, k, none⟩ = some (.int .i64 (j : Int)) := by
  subst hj
  exact h.at k (nv_get ks k hk)
def Onl (w w' : World) (p : Option Nat) : Prop := ∀ g, p ≠ some g → w'.heap[g]? = w.heap[g]?
theorem onl_set {w w1 : World} {g : Nat} (h : Onl w w1 (some g)) (j : Nat) (v : Value) : Onl w (w1.setCell ⟨g, j, none⟩ v) (some g) := fun g' hg => by
  rw [Go.Deep.blk_setCell_other _ _ _ _ (fun q => hg (by rw [q]))]; exact h g' hg
theorem own_onl {w w' : World} {B n z : Nat} {T : TypeId} {v : Value} {xs : List Value} {p : Option Nat} (h : w.ownsRow B T z v n xs) (ho : Onl w w' p) (hp : ∀ g, v.ownBlock = some g → p ≠ some g) : w'.ownsRow B T z v n xs := by
  obtain ⟨h1, h2⟩ := h
  refine ⟨h1, ?_⟩
  rcases h2 with h2 | ⟨g', cap', cur, a, b, c, d⟩
  · exact .inl h2
  · exact .inr ⟨g', cap', cur, a, b, by rw [ho g' (hp g' (by rw [a]; rfl))]; exact c, d⟩
theorem own_heap {w w' : World} {B n z : Nat} {T : TypeId} {v : Value} {xs : List Value} (h : w.ownsRow B T z v n xs) (ho : ∀ g, v.ownBlock = some g → w'.heap[g]? = w.heap[g]?) : w'.ownsRow B T z v n xs := by
  obtain ⟨h1, h2⟩ := h
  refine ⟨h1, ?_⟩
  rcases h2 with h2 | ⟨g', cap', cur, a, b, c, d⟩
  · exact .inl h2
  · exact .inr ⟨g', cap', cur, a, b, by rw [ho g' (by rw [a]; rfl)]; exact c, d⟩
theorem cell_heap {w w' : World} {g : Nat} (h : w'.heap[g]? = w.heap[g]?) (o : Nat) : w'.cell? ⟨g, o, none⟩ = w.cell? ⟨g, o, none⟩ := by simp only [World.cell?, h]
end Go.Proofs.YthgbhnedfdnfpaaGreatDoor

/- The model's functions over classes: what is found, children, rates, ways up. -/
namespace Go.Proofs.YthgbhnedfdnfpaaGreatDoor
set_option maxRecDepth 100000
open Go.RowKit
set_option linter.unusedVariables false

def fndI (cs : List Cls) (id : Int) : Int := match fnd cs id with | .none => -1 | .some k => k
theorem fndI_some {cs : List Cls} {id : Int} {k : Nat} (h : fnd cs id = Option.some k) : fndI cs id = k := by unfold fndI; rw [h]
theorem fndI_none {cs : List Cls} {id : Int} (h : fnd cs id = Option.none) : fndI cs id = -1 := by unfold fndI; rw [h]
def Aft (w : World) (o : Obj) (wr : World) : Prop := Below (w.alloc o).heap.size (w.alloc o) wr
theorem Aft.all {w wr : World} {a0 a1 a2 a3 : Value} {t : TypeId} (h : Aft w (.cells #[a0, a1, a2, a3] t) wr) : FourIs wr w.heap.size a0 a1 a2 a3 ∧ Below w.heap.size w wr := box_four h
theorem Aft.refl (w : World) (o : Obj) : Aft w o (w.alloc o) := Below.refl _ _
theorem Aft.on {w wr w1 : World} {o : Obj} (h : Aft w o wr) (b : Below wr.heap.size wr w1) : Aft w o w1 := Below.trans h (b.mono (Below.size h))
theorem Aft.up {w wr w1 : World} {o : Obj} (h : Aft w o wr) (b : Below (w.heap.size + 1) wr w1) : Aft w o w1 := Below.trans h (show Below (w.alloc o).heap.size wr w1 by rw [show (w.alloc o).heap.size = w.heap.size + 1 by simp]; exact b)
theorem Aft.alloc {w wr : World} {o : Obj} (h : Aft w o wr) (o' : Obj) : Aft w o (wr.alloc o') := h.on (one_new2 _ _)
def FRel (w : World) (o : Obj) (n : Nat) (cs : List Cls) (id : Int) (i : Value) (wr : World) : Prop := ∃ k : Nat, k ≤ n ∧ i = .int .i64 k ∧ Aft w o wr ∧ ∀ j, j < k → (cs.getD j cls0).i ≠ id
set_option maxHeartbeats 1600000 in
theorem cfFind_any (s : ByteArray) (ac af : Option Addr) (n cc m cf : Nat) (d : Int) (cs : List Cls) (id : Int) (w : World) (HI : Hid (InX w ac n (clsCs cs))) (hn : Hid (cs.length = n)) (hm : n ≤ 1048576) :
    Calls Tryz.prog 49 #[(.agg #[.string s, .slice ac n cc, .slice af m cf, .int .i64 d]), .int .i64 id] w (SaysI w (fndI cs id)) := by
  go_enter Tryz.func49, Tryz.ntmps49
  go_wp2_with fail
  go_loopw [10] (fun i wr => FRel w (Obj.cells #[.string s, .slice ac n cc, .slice af m cf, .int .i64 d] 26) n cs id i wr) (fun i _ => n - (intOf i).toNat)
  case atStart => exact ⟨0, Nat.zero_le _, rfl, Aft.refl _ _, fun j hj => absurd hj (Nat.not_lt_zero j)⟩
  case round =>
    obtain ⟨k, hk, rfl, hb, hno⟩ := hrel
    have HB := Lib.hid hb
    have HN := Lib.hid hno
    clear hno
    by_cases hlt : k < n
    · obtain ⟨g, rfl, ht, hg⟩ := HI.out (by omega)
      obtain ⟨x, hx⟩ : ∃ x, cs.getD k cls0 = x := ⟨_, rfl⟩
      have hl1 : k < cs.length := by rw [hn.out]; exact hlt
      obtain ⟨a0, a1, a2, a3, a4, a5, a6, a7⟩ := (ht.below hb.all.2 hg).cls k hl1 x hx
      by_cases he : x.i = id
      · have HX : Hid (fndI cs id = k) := Lib.hid (fndI_some (fnd_some cs id k hl1 (by rw [hx]; exact he) HN.out))
        obtain ⟨xi, xp, xr, xe, xb, xu, xo, xl⟩ := x
        simp only at a0 a1 a2 a3 a4 a5 a6 a7 he
        have dq : (xi == id) = true := by simpa using he
        clear hb hx hl1 ht he
        go_wp2_with fail
        go_ret
        exact ⟨ret_int HX.out.symm, (HB.out.alloc _).all.2⟩
      · have HX : Hid (∀ j, j < k + 1 → (cs.getD j cls0).i ≠ id) := Lib.hid (fun j hj => by
          rcases Nat.lt_succ_iff_lt_or_eq.1 hj with h | h
          · exact HN.out j h
          · rw [h, hx]; exact he)
        obtain ⟨xi, xp, xr, xe, xb, xu, xo, xl⟩ := x
        simp only at a0 a1 a2 a3 a4 a5 a6 a7 he
        have dq : (xi == id) = false := by simpa using he
        clear hb hx hl1 ht he
        go_wp2_with fail
        go_roundw
        case rel => exact ⟨k + 1, by omega, by go_num, HB.out.alloc _, HX.out⟩
        case measure => simp [intOf]; omega
    · have HX : Hid (fndI cs id = -1) := Lib.hid (fndI_none (fnd_none cs id (fun j hj => HN.out j (by have := hn.out; omega))))
      clear hb
      go_wp2_with fail
      go_ret
      exact ⟨ret_int HX.out.symm, HB.out.all.2⟩

theorem own_snoc {w wx w1 : World} {B k : Nat} {v v' : Value} {ks : List Nat} {u : Value} (hu : u = .int .i64 (k : Int)) (hb : Below B w wx) (h' : w1.ownsRow B 3 1 v' (ks.length + 1) (nv ks ++ [u])) (hB : B ≤ wx.heap.size) (hg : wx.grownBy w1 v.ownBlock) (hl : ∀ g, v.ownBlock = some g → B ≤ g) :
    w1.ownsRow B 3 1 v' (ks ++ [k]).length (nv (ks ++ [k])) ∧ Below B w w1 := by
  subst hu
  refine ⟨?_, hb.grown hg hB hl⟩
  rw [nv_snoc, List.length_append]
  exact h'
def KRel (w : World) (o : Obj) (n : Nat) (cs : List Cls) (id : Int) (K : List Nat) (out i : Value) (wr : World) : Prop :=
  ∃ (k : Nat) (ks : List Nat), k ≤ n ∧ ks.length ≤ k ∧ i = .int .i64 k ∧ Aft w o wr ∧ wr.ownsRow (w.heap.size + 1) 3 1 out ks.length (nv ks) ∧ Hid (ks ++ kidsF id k (cs.drop k) = K)
def SaysNs (w : World) (K : List Nat) (e : Ending) (w' : World) : Prop := ∃ v, e = .returned v ∧ w'.ownsRow w.heap.size 3 1 v K.length (nv K) ∧ Below w.heap.size w w'
set_option maxHeartbeats 3200000 in
theorem cfKids_any (s : ByteArray) (ac af : Option Addr) (n cc m cf : Nat) (d : Int) (cs : List Cls) (q : Nat) (w : World) (HI : Hid (InX w ac n (clsCs cs))) (hn : Hid (cs.length = n)) (hm : n ≤ 1048576) (hq : q < n) :
    Calls Tryz.prog 50 #[(.agg #[.string s, .slice ac n cc, .slice af m cf, .int .i64 d]), .int .i64 q] w (SaysNs w (kids cs (cs.getD q cls0).i)) := by
  obtain ⟨i0, hi, hz0, hz1, hz2⟩ := info_parts infoI
  obtain ⟨y, hy⟩ : ∃ y, cs.getD q cls0 = y := ⟨_, rfl⟩
  rw [hy]
  obtain ⟨K, hK⟩ : ∃ K, kids cs y.i = K := ⟨_, rfl⟩
  have H0 : Hid ([] ++ kidsF y.i 0 (cs.drop 0) = K) := Lib.hid hK
  rw [hK]
  have HY := Lib.hid hy
  clear hK hy
  go_enter Tryz.func50, Tryz.ntmps50
  go_wp2_with fail
  go_loopw [5, 11] (fun out i wr => KRel w (Obj.cells #[.string s, .slice ac n cc, .slice af m cf, .int .i64 d] 26) n cs y.i K out i wr) (fun _ i _ => n - (intOf i).toNat)
  case atStart => exact ⟨0, [], Nat.zero_le _, Nat.le_refl _, rfl, Aft.refl _ _, (World.ownsRow_nil _ _ _ _ : (w.alloc (Obj.cells #[.string s, .slice ac n cc, .slice af m cf, .int .i64 d] 26)).ownsRow _ 3 1 _ 0 []), H0⟩
  case round =>
    obtain ⟨k, ks, hk, hkl, rfl, hb, ho, HP⟩ := hrel
    have HB := Lib.hid hb
    have HO := Lib.hid ho
    by_cases hlt : k < n
    · obtain ⟨g, rfl, ht, hg⟩ := HI.out (by omega)
      obtain ⟨x, hx⟩ : ∃ x, cs.getD k cls0 = x := ⟨_, rfl⟩
      have hl1 : k < cs.length := by rw [hn.out]; exact hlt
      have ht2 := ht.below hb.all.2 hg
      obtain ⟨a0, a1, a2, a3, a4, a5, a6, a7⟩ := ht2.cls k hl1 x hx
      have hgr : g < wr.heap.size := Nat.lt_of_lt_of_le hg hb.all.2.size
      have b0 := ((ht2.cls q (by rw [hn.out]; exact hq) y HY.out).later hgr).1
      obtain ⟨_, e1, _, _, hgw⟩ := hb.all.1
      have e1' := fun o => ((bcell (one_new2 wr o)).1 _ 1 hgw).trans e1
      have HE := Lib.hid (kidsF_at y.i cs k hl1 x hx)
      obtain ⟨yi, yp, yr, ye, yb, yu, yo, yl⟩ := y
      obtain ⟨xi, xp, xr, xe, xb, xu, xo, xl⟩ := x
      simp only at a0 a1 a2 a3 a4 a5 a6 a7 b0 HE
      clear hb hx hl1 ht ht2 e1
      by_cases he : xp = yi
      · have dq : (xp == yi) = true := by simpa using he
        have HX : Hid ((ks ++ [k]) ++ kidsF yi (k + 1) (cs.drop (k + 1)) = K) := Lib.hid (by rw [← HP.out, HE.out, if_pos he]; simp)
        clear he
        go_wp2_with fail
        go_quiet (fail)
        go_wp2_with (at_builtin; refine wpList_append_own _ rfl _ _ 33 rfl (w.heap.size + 1) 3 i0 (.int .i64 0) 1 8 Tryz.underlying33 hi hz0 hz1 hz2 rfl (by decide) _ _ _ rfl (World.ownsRow.alloc (w := (wr.alloc (Obj.cells #[.int .i64 xi, .int .i64 xp, .int .i64 xr, .int .i64 xe, .int .i64 xb, .int .i64 xu, .int .i64 xo, .int .i64 xl] 41)).drewN nq) (World.ownsRow.alloc HO.out _) _) ⟨wr.heap.size + 1, 0, none⟩ 1 1 [.int .i64 (k : Int)] rfl rfl (by have := one_int ((wr.alloc (Obj.cells #[.int .i64 xi, .int .i64 xp, .int .i64 xr, .int .i64 xe, .int .i64 xb, .int .i64 xu, .int .i64 xo, .int .i64 xl] 41)).drewN nq) (.int .i64 (k : Int)) 3; simpa using this) (by intro u hu; simp at hu; subst hu; rfl) (by unfold maxLen; omega) (by omega) (by have := (HB.out.all).1.2.2.2.2; simp; omega) ?_; intro v' w3 hown1 hgrow1 _)
        have F := Lib.hid (own_snoc rfl ((((Below.refl (w.heap.size + 1) wr).alloc (HB.out.all).1.2.2.2.2 (Obj.cells #[.int .i64 xi, .int .i64 xp, .int .i64 xr, .int .i64 xe, .int .i64 xb, .int .i64 xu, .int .i64 xo, .int .i64 xl] 41)).trans (below_drewN (Below.refl _ _) nq)).alloc (by have := (HB.out.all).1.2.2.2.2; simp; omega) _) hown1 (by have := (HB.out.all).1.2.2.2.2; simp; omega) hgrow1 (fun g h => (World.ownsRow.lt HO.out g h).1))
        clear hown1 hgrow1
        go_roundw
        case rel => exact ⟨k + 1, ks ++ [k], by omega, by simp; omega, by go_num, HB.out.up F.out.2, F.out.1, HX⟩
        case measure => simp [intOf]; omega
      · have dq : (xp == yi) = false := by simpa using he
        have HX : Hid (ks ++ kidsF yi (k + 1) (cs.drop (k + 1)) = K) := Lib.hid (by rw [← HP.out, HE.out, if_neg he])
        clear he
        go_wp2_with fail
        go_quiet (fail)
        go_wp2_with fail
        go_roundw
        case rel => exact ⟨k + 1, ks, by omega, by omega, by go_num, (HB.out.alloc _).on (below_drewN (Below.refl _ _) _), World.ownsRow.alloc HO.out _, HX⟩
        case measure => simp [intOf]; omega
    · have HX : Hid (ks = K) := Lib.hid (by rw [← HP.out, kidsF_end _ cs k (by rw [hn.out]; omega), List.append_nil])
      clear hb ho
      go_wp2_with fail
      go_ret
      exact ⟨_, rfl, by rw [← HX.out]; exact own_base HO.out (Nat.le_succ _), HB.out.all.2⟩
end Go.Proofs.YthgbhnedfdnfpaaGreatDoor
