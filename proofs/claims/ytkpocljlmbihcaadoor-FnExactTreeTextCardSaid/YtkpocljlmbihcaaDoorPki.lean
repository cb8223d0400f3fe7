import Derived.Test.YtkpocljlmbihcaaDoorPkd
import Derived.Test.YtkpocljlmbihcaaDoorPkc
import Derived.Deep.RegionWith
import Derived.WalkSmall
import Derived.Deep.RegionHeld3
import Derived.Deep.QuietTactic
import Derived.Test.YtkpocljlmbihcaaDoorPkh
import Derived.LoopTactic
import Derived.WalkMore
import Derived.BigQuiet
import Derived.Deep.AppendLies
import Derived.Laws.BitsAllLaws
/- Slices of integers: what reads as a list of integers, what the call made itself, and the contracts of the copying and comparing functions of the laws. -/
namespace Go.Proofs.YtkpocljlmbihcaaDoor
set_option maxRecDepth 100000
open Go.RowKit

theorem infoI : (Tryd.prog.info? 3).map (fun i => (i.zero, i.size, i.bytes)) = some (some (.int .i64 0), 1, 8) := by kernel_rfl

/-- the cells of a list of bytes -/
def iv (zs : List Int) : List Value := zs.map (Value.int .i64)
theorem iv_length (zs : List Int) : (iv zs).length = zs.length := by simp [iv]
theorem iv_get (zs : List Int) (i : Nat) (h : i < zs.length) : (iv zs)[i]? = some (.int .i64 (zs.getD i 0)) := by
  simp [iv, h]

/-- in world w, the bytes zs lie from cell off of block b on -/
def RowI (w : World) (b off : Nat) (zs : List Int) : Prop :=
  (∀ i, i < zs.length → w.cell? ⟨b, off + i, none⟩ = some (.int .i64 (zs.getD i 0))) ∧ ∀ n ∈ zs, -9223372036854775808 ≤ n ∧ n ≤ 9223372036854775807

/-- a slice of n bytes of the call's own: block g, the bytes zs -/
def OwnI (w : World) (B g n cap : Nat) (zs : List Int) : Prop :=
  w.ownsRow B 3 1 (.slice (some ⟨g, 0, none⟩) n cap) n (iv zs)

theorem OwnI.len {w : World} {B g n cap : Nat} {zs : List Int} (h : OwnI w B g n cap zs) : zs.length = n := by
  have := h.1; rw [iv_length] at this; omega
theorem OwnI.lt {w : World} {B g n cap : Nat} {zs : List Int} (h : OwnI w B g n cap zs) : B ≤ g ∧ g < w.heap.size := World.ownsRow.lt h g rfl
theorem OwnI.row {w : World} {B g n cap : Nat} {zs : List Int} (h : OwnI w B g n cap zs) (hr : ∀ n ∈ zs, -9223372036854775808 ≤ n ∧ n ≤ 9223372036854775807) : RowI w g 0 zs := by
  refine ⟨fun i hi => ?_, hr⟩
  have hl := h.len
  have := World.ownsRow.cellAt h i (by omega)
  rw [Nat.zero_add, this, iv_get _ _ hi]
theorem OwnI.below {w w' : World} {B B' g n cap : Nat} {zs : List Int} (h : OwnI w B g n cap zs) (hb : Below B' w w') (hg : g < B') : OwnI w' B g n cap zs := by
  obtain ⟨h1, h2⟩ := h
  refine ⟨h1, ?_⟩
  rcases h2 with h2 | ⟨g', cap', cur, a, b, c, d⟩
  · exact .inl h2
  · cases a
    exact .inr ⟨g, cap, cur, rfl, b, by rw [hb.block g hg]; exact c, d⟩
theorem OwnI.base {w : World} {B B' g n cap : Nat} {zs : List Int} (h : OwnI w B g n cap zs) (hB : B' ≤ B) : OwnI w B' g n cap zs := by
  obtain ⟨h1, h2⟩ := h
  refine ⟨h1, ?_⟩
  rcases h2 with h2 | ⟨g', cap', cur, a, b, c, d⟩
  · exact .inl h2
  · exact .inr ⟨g', cap', cur, a, Nat.le_trans hB b, c, d⟩
theorem RowI.below {w w' : World} {b off B : Nat} {zs : List Int} (h : RowI w b off zs) (hb : Below B w w') (hB : b < B) : RowI w' b off zs :=
  ⟨fun i hi => (hb.cell (p := ⟨b, off + i, none⟩) hB).trans (h.1 i hi), h.2⟩
theorem RowI.drewN {w : World} {b off : Nat} {zs : List Int} (h : RowI w b off zs) (q : Nat) : RowI (w.drewN q) b off zs := h
theorem RowI.at {w : World} {b off : Nat} {zs : List Int} (h : RowI w b off zs) (k : Nat) (hk : k < zs.length) :
    ∃ c, Hid (c = zs.getD k 0) ∧ -9223372036854775808 ≤ c ∧ c ≤ 9223372036854775807 ∧ w.cell? ⟨b, off + k, none⟩ = some (.int .i64 c) := by
  refine ⟨zs.getD k 0, rfl, ?_, ?_, h.1 k hk⟩
  · exact (h.2 _ (by rw [List.getD_eq_getElem?_getD, List.getElem?_eq_getElem hk]; exact List.getElem_mem hk)).1
  · exact (h.2 _ (by rw [List.getD_eq_getElem?_getD, List.getElem?_eq_getElem hk]; exact List.getElem_mem hk)).2

/-- what a slice that came in reads as: nothing, or a row of bytes -/
def InI (w : World) (a : Option Addr) (zs : List Int) : Prop :=
  zs = [] ∨ ∃ b off, a = some ⟨b, off, none⟩ ∧ RowI w b off zs

/-- a copy was made: a new block that holds the bytes -/
def MadeI (w : World) (n : Nat) (zs : List Int) (e : Ending) (w' : World) : Prop :=
  e = .returned (.slice (some ⟨w.heap.size, 0, none⟩) n n) ∧ OwnI w' w.heap.size w.heap.size n n zs ∧ Below w.heap.size w w'

theorem iv_set (zs : List Int) (k : Nat) (c : Int) : (iv zs).set k (.int .i64 c) = iv (zs.set k c) := by simp [iv, List.map_set]
theorem OwnI.store {w : World} {B g n cap : Nat} {zs : List Int} (h : OwnI w B g n cap zs) (k : Nat) (c : Int) : OwnI (w.setCell ⟨g, k, none⟩ (.int .i64 c)) B g n cap (zs.set k c) := by
  have := (World.ownsRow.stored h k (.int .i64 c)).1
  rw [iv_set] at this
  exact this
theorem OwnI.cell {w : World} {B g n cap : Nat} {zs : List Int} (h : OwnI w B g n cap zs) (k : Nat) (hk : k < n) : w.cell? ⟨g, k, none⟩ = some (.int .i64 (zs.getD k 0)) := by
  have hl := h.len
  rw [World.ownsRow.cellAt h k (by omega), iv_get _ _ (by omega)]

theorem madeI {w : World} {B g n : Nat} (h : w.ownsRow B 3 1 (.slice (some ⟨g, 0, none⟩) n n) n (madeCells (Value.int .i64 0).cells (n * 1)).toList) : OwnI w B g n n (List.replicate n 0) := by
  have e : (madeCells (Value.int .i64 0).cells (n * 1)).toList = iv (List.replicate n 0) := by
    rw [Nat.mul_one, iv, List.map_replicate]
    exact toList_madeCells_one _ n
  rw [e] at h
  exact h

/-- at each round's head of the copying loop -/
def CopyRelI (w : World) (n : Nat) (zs : List Int) (i : Value) (wr : World) : Prop :=
  ∃ k : Nat, k ≤ n ∧ i = .int .i64 k ∧ OwnI wr w.heap.size w.heap.size n n (fillTo zs k) ∧ Below w.heap.size w wr

def EqRelI (w : World) (n : Nat) (i : Value) (wr : World) : Prop := ∃ k q : Nat, k ≤ n ∧ i = .int .i64 k ∧ wr = w.drewN q

theorem wf_i64 {n : Int} (h : (Lit.int .i64 n).wf = true) : -9223372036854775808 ≤ n ∧ n ≤ 9223372036854775807 := by
  have h' : (decide (IntKind.i64.min ≤ n) && decide (n ≤ IntKind.i64.max)) = true := h
  have e1 : IntKind.i64.min = -9223372036854775808 := by decide
  have e2 : IntKind.i64.max = 9223372036854775807 := by decide
  rw [e1, e2] at h'
  simp at h'
  exact h'
theorem IsRow.viewI {w : World} {a : Option Addr} {len cap : Nat} {zs : List Int} (h : IsRow .i64 w a len cap zs) : len ≤ maxLen ∧ ∃ ys, Hid (ys.length = len) ∧ Hid (InI w a ys) := by
  rcases h with ⟨rfl, rfl, rfl, rfl⟩ | ⟨x, rfl, hl, hm, hz, hcell, hwf⟩
  · exact ⟨Nat.zero_le _, [], rfl, .inl rfl⟩
  · refine ⟨Nat.le_trans hl hm, zs.take len, by unfold Hid; simp; omega, ?_⟩
    rcases Nat.eq_zero_or_pos len with rfl | hp
    · exact .inl (by simp)
    · obtain ⟨b, off, spot⟩ := x
      have hspot : spot = none := by simpa [Addr.add] using World.cell?_spot (hcell 0 (by omega))
      subst hspot
      refine .inr ⟨b, off, rfl, fun i hi => ?_, fun n hn => wf_i64 (hwf n (List.mem_of_mem_take hn))⟩
      simp at hi
      have := hcell i (by omega)
      rw [show (⟨b, off, none⟩ : Addr).add i = ⟨b, off + i, none⟩ by unfold Addr.add; split <;> simp_all] at this
      rw [this]
      simp [List.getD_eq_getElem?_getD]
      rw [List.getElem?_take, if_pos (by omega)]
theorem InI.below {w w' : World} {a : Option Addr} {zs : List Int} (h : InI w a zs) (hb : Below w.heap.size w w') : InI w' a zs := by
  by_cases e : zs = []
  · exact .inl e
  · rcases h with h | ⟨b, off, rfl, hr⟩
    · exact absurd h e
    · have hp : 0 < zs.length := List.length_pos_iff.2 e
      exact .inr ⟨b, off, rfl, hr.below hb (World.block_lt_of_cell? w _ (hr.1 0 hp))⟩
theorem InI.range {w : World} {a : Option Addr} {zs : List Int} (h : InI w a zs) : ∀ n ∈ zs, -9223372036854775808 ≤ n ∧ n ≤ 9223372036854775807 := by
  rcases h with rfl | ⟨b, off, rfl, hr⟩
  · intro n hn; cases hn
  · exact hr.2
end Go.Proofs.YtkpocljlmbihcaaDoor

/- Worlds that differ from one only behind it: what a region that draws its order keeps. -/
namespace Go.Proofs.YtkpocljlmbihcaaDoor
set_option maxRecDepth 100000
open Go.RowKit
set_option linter.unusedVariables false

/-- only what lies behind the box was written -/
def BX (wb w' : World) : Prop := Below wb.heap.size wb w'
theorem BX.drew0 (wb : World) : BX wb wb.drew := below_drewN (Below.refl _ _) 1
theorem undrew {X w1 : World} (b : Below X.drew.heap.size X.drew w1) : Below X.heap.size X w1 := (show Below X.heap.size X X.drew from below_drewN (Below.refl _ _) 1).trans b
theorem BX.refl (wb : World) : BX wb wb := Below.refl _ _
theorem BX.alloc {wb w' : World} (h : BX wb w') (o : Obj) : BX wb (w'.alloc o) := Below.alloc h h.size o
theorem BX.call {wb w' w1 : World} (h : BX wb w') (b : Below w'.heap.size w' w1) : BX wb w1 := Below.trans h (b.mono h.size)
theorem BX.call' {wb w' w1 : World} (b : Below w'.heap.size w' w1) (h : BX wb w') : BX wb w1 := h.call b
theorem BX.set {wb w' : World} {b o : Nat} (h : BX wb w') (hb : wb.heap.size ≤ b) (v : Value) : BX wb (w'.setCell ⟨b, o, none⟩ v) := Below.setCell h hb v
theorem BX.size {wb w' : World} (h : BX wb w') : wb.heap.size ≤ w'.heap.size := Below.size h
theorem BX.size1 {wb w' : World} (h : BX wb w') : wb.heap.size ≤ w'.heap.size + 1 := Nat.le_succ_of_le (Below.size h)
theorem BX.drew {wb w' : World} (h : BX wb w') : BX wb w'.drew := below_drewN h 1
/-- An operation of a region that draws its order, taken first: its slot's number written out. -/
theorem held_take {P : Program} {ops : Array Oper} {Q : Exit → Act → World → Prop} {md : Region.Mode} {S : World → Prop} {i d : Nat} {oi : Oper} {v : Value} {fuel : Nat} {listed : Array Bool} {a : Act} {w : World} (hi : ops[i]? = Option.some oi) (hd : oi.dst = Option.some d)
    (hs : Region.noSelect ops = true) (hf : Region.free md ops listed i = true) (hr : (Region.ready md ops listed).contains i = true)
    (hQ : ∀ c a w, Q (.panic c) (a.put oi.dst v) w → Q (.panic c) a w) (hw : Region.wanted oi (yielded ops a.tmps) = true) (hv : ∀ w, S w → (execOp a.eval oi).run P w = .ok (.value v) w) (hS : S w)
    (h : wpAnyH P md ops Q S fuel (listed.setIfInBounds i true) (a.put (Option.some d) v) w) : wpAnyH P md ops Q S (fuel + 1) listed a w :=
  wpAnyH_take hi hs hf hr hQ (.inl ⟨hw, hv⟩) hS (by rw [hd]; exact h)
/-- The same of one that is not wanted. -/
theorem held_skip {P : Program} {ops : Array Oper} {Q : Exit → Act → World → Prop} {md : Region.Mode} {S : World → Prop} {i d : Nat} {oi : Oper} {fuel : Nat} {listed : Array Bool} {a : Act} {w : World} (hi : ops[i]? = Option.some oi) (hd : oi.dst = Option.some d)
    (hs : Region.noSelect ops = true) (hf : Region.free md ops listed i = true) (hr : (Region.ready md ops listed).contains i = true)
    (hQ : ∀ c a w, Q (.panic c) (a.put oi.dst undef) w → Q (.panic c) a w) (hw : Region.wanted oi (yielded ops a.tmps) = false) (hS : S w)
    (h : wpAnyH P md ops Q S fuel (listed.setIfInBounds i true) (a.put (Option.some d) undef) w) : wpAnyH P md ops Q S (fuel + 1) listed a w :=
  wpAnyH_take hi hs hf hr hQ (.inr ⟨hw, rfl⟩) hS (by rw [hd]; exact h)
end Go.Proofs.YtkpocljlmbihcaaDoor

/- Rows of integers of the call's own: marked, held, compared; only one block written. -/
namespace Go.Proofs.YtkpocljlmbihcaaDoor
set_option maxRecDepth 100000
open Go.RowKit
set_option linter.unusedVariables false

def nv (ks : List Nat) : List Value := ks.map (fun k : Nat => Value.int .i64 (k : Int))
theorem nv_length (ks : List Nat) : (nv ks).length = ks.length := by simp [nv]
theorem nv_snoc (ks : List Nat) (k : Nat) : nv (ks ++ [k]) = nv ks ++ [.int .i64 (k : Int)] := by simp [nv]
theorem nv_get (ks : List Nat) (j : Nat) (h : j < ks.length) : (nv ks)[j]? = some (.int .i64 ((ks.getD j 0 : Nat) : Int)) := by simp [nv, h]
theorem AtC.nat {w : World} {g : Nat} {ks : List Nat} (h : AtC w g (nv ks)) (k : Nat) (hk : k < ks.length) (j : Nat) (hj : ks.getD k 0 = j) : w.cell? ⟨g, k, none⟩ = some (.int .i64 (j : Int)) := by
  subst hj
  exact h.at k (nv_get ks k hk)
def EqNRel (w : World) (n : Nat) (i : Value) (wr : World) : Prop := ∃ k : Nat, k ≤ n ∧ i = .int .i64 k ∧ Below w.heap.size w wr
/-- only one block was written -/
def Onl (w w' : World) (p : Option Nat) : Prop := ∀ g, p ≠ some g → w'.heap[g]? = w.heap[g]?
theorem onl_set {w w1 : World} {g : Nat} (h : Onl w w1 (some g)) (j : Nat) (v : Value) : Onl w (w1.setCell ⟨g, j, none⟩ v) (some g) := fun g' hg => by
  rw [Go.Deep.blk_setCell_other _ _ _ _ (fun q => hg (by rw [q]))]; exact h g' hg
def SaysMk (w : World) (B : Nat) (v : Value) (r : Int) (e : Ending) (w' : World) : Prop := e = .returned (.int .i64 r) ∧ Below B w w' ∧ Onl w w' v.ownBlock
theorem own_onl {w w' : World} {B n z : Nat} {T : TypeId} {v : Value} {xs : List Value} {p : Option Nat} (h : w.ownsRow B T z v n xs) (ho : Onl w w' p) (hp : ∀ g, v.ownBlock = some g → p ≠ some g) : w'.ownsRow B T z v n xs := by
  obtain ⟨h1, h2⟩ := h
  refine ⟨h1, ?_⟩
  rcases h2 with h2 | ⟨g', cap', cur, a, b, c, d⟩
  · exact .inl h2
  · exact .inr ⟨g', cap', cur, a, b, by rw [ho g' (hp g' (by rw [a]; rfl))]; exact c, d⟩
theorem own_heap {w w' : World} {B n z : Nat} {T : TypeId} {v : Value} {xs : List Value} (h : w.ownsRow B T z v n xs) (ho : ∀ g, v.ownBlock = some g → w'.heap[g]? = w.heap[g]?) : w'.ownsRow B T z v n xs := by
  obtain ⟨h1, h2⟩ := h
  refine ⟨h1, ?_⟩
  rcases h2 with h2 | ⟨g', cap', cur, a, b, c, d⟩
  · exact .inl h2
  · exact .inr ⟨g', cap', cur, a, b, by rw [ho g' (by rw [a]; rfl)]; exact c, d⟩
theorem cell_heap {w w' : World} {g : Nat} (h : w'.heap[g]? = w.heap[g]?) (o : Nat) : w'.cell? ⟨g, o, none⟩ = w.cell? ⟨g, o, none⟩ := by simp only [World.cell?, h]
theorem heap_alloc_lt (w : World) (o : Obj) (g : Nat) (h : g < w.heap.size) : (w.alloc o).heap[g]? = w.heap[g]? := (one_new2 w o).block g h
def mkI (n : Nat) : List Value := (List.range n).map (fun j : Nat => Value.int .i64 (1 + (j : Int)))
theorem mkI_length (n : Nat) : (mkI n).length = n := by simp [mkI]
theorem mkI_get (n j : Nat) (h : j < n) : (mkI n)[j]? = some (Value.int .i64 (1 + (j : Int))) := by simp [mkI, h]
end Go.Proofs.YtkpocljlmbihcaaDoor

/- The model's functions over classes: what is found, children, rates, ways up. -/
namespace Go.Proofs.YtkpocljlmbihcaaDoor
set_option maxRecDepth 100000
open Go.RowKit
set_option linter.unusedVariables false

/-- an index or -1 -/
def fndI (cs : List Cls) (id : Int) : Int := match fnd cs id with | .none => -1 | .some k => k
theorem fndI_some {cs : List Cls} {id : Int} {k : Nat} (h : fnd cs id = Option.some k) : fndI cs id = k := by unfold fndI; rw [h]
theorem fndI_none {cs : List Cls} {id : Int} (h : fnd cs id = Option.none) : fndI cs id = -1 := by unfold fndI; rw [h]
/-- a world behind the box of a configuration -/
def Aft (w : World) (o : Obj) (wr : World) : Prop := Below (w.alloc o).heap.size (w.alloc o) wr
theorem Aft.all {w wr : World} {a0 a1 a2 a3 : Value} {t : TypeId} (h : Aft w (.cells #[a0, a1, a2, a3] t) wr) : FourIs wr w.heap.size a0 a1 a2 a3 ∧ Below w.heap.size w wr := box_four h
theorem Aft.refl (w : World) (o : Obj) : Aft w o (w.alloc o) := Below.refl _ _
theorem Aft.on {w wr w1 : World} {o : Obj} (h : Aft w o wr) (b : Below wr.heap.size wr w1) : Aft w o w1 := Below.trans h (b.mono (Below.size h))
theorem Aft.up {w wr w1 : World} {o : Obj} (h : Aft w o wr) (b : Below (w.heap.size + 1) wr w1) : Aft w o w1 := Below.trans h (show Below (w.alloc o).heap.size wr w1 by rw [show (w.alloc o).heap.size = w.heap.size + 1 by simp]; exact b)
theorem Aft.alloc {w wr : World} {o : Obj} (h : Aft w o wr) (o' : Obj) : Aft w o (wr.alloc o') := h.on (one_new2 _ _)
def FRel (w : World) (o : Obj) (n : Nat) (cs : List Cls) (id : Int) (i : Value) (wr : World) : Prop := ∃ k : Nat, k ≤ n ∧ i = .int .i64 k ∧ Aft w o wr ∧ ∀ j, j < k → (cs.getD j cls0).i ≠ id
set_option maxHeartbeats 1600000 in
theorem cfFind_any (s : ByteArray) (ac af : Option Addr) (n cc m cf : Nat) (d : Int) (cs : List Cls) (id : Int) (w : World) (HI : Hid (InX w ac n (clsCs cs))) (hn : Hid (cs.length = n)) (hm : n ≤ 1048576) :
    Calls Tryd.prog 58 #[(.agg #[.string s, .slice ac n cc, .slice af m cf, .int .i64 d]), .int .i64 id] w (SaysI w (fndI cs id)) := by
  go_enter Tryd.func58, Tryd.ntmps58
  go_wp2_with fail
  go_loopw [10] (fun i wr => FRel w (Obj.cells #[.string s, .slice ac n cc, .slice af m cf, .int .i64 d] 44) n cs id i wr) (fun i _ => n - (intOf i).toNat)
  case atStart => exact ⟨0, Nat.zero_le _, rfl, Aft.refl _ _, fun j hj => absurd hj (Nat.not_lt_zero j)⟩
  case round =>
    obtain ⟨k, hk, rfl, hb, hno⟩ := hrel
    have HB := Lib.hid hb
    have HN := Lib.hid hno
    clear hno
    by_cases hlt : k < n
    · obtain ⟨g, rfl, ht, hg⟩ := HI.out (by omega)
      obtain ⟨x, hx⟩ : ∃ x, cs.getD k cls0 = x := ⟨_, rfl⟩
      have hl1 : k < cs.length := by rw [hn.out]; exact hlt
      obtain ⟨a0, a1, a2, a3, a4, a5, a6, a7⟩ := (ht.below hb.all.2 hg).cls k hl1 x hx
      by_cases he : x.i = id
      · have HX : Hid (fndI cs id = k) := Lib.hid (fndI_some (fnd_some cs id k hl1 (by rw [hx]; exact he) HN.out))
        obtain ⟨xi, xp, xr, xe, xb, xu, xo, xl⟩ := x
        simp only at a0 a1 a2 a3 a4 a5 a6 a7 he
        have dq : (xi == id) = true := by simpa using he
        clear hb hx hl1 ht he
        go_wp2_with fail
        go_ret
        exact ⟨ret_int HX.out.symm, (HB.out.alloc _).all.2⟩
      · have HX : Hid (∀ j, j < k + 1 → (cs.getD j cls0).i ≠ id) := Lib.hid (fun j hj => by
          rcases Nat.lt_succ_iff_lt_or_eq.1 hj with h | h
          · exact HN.out j h
          · rw [h, hx]; exact he)
        obtain ⟨xi, xp, xr, xe, xb, xu, xo, xl⟩ := x
        simp only at a0 a1 a2 a3 a4 a5 a6 a7 he
        have dq : (xi == id) = false := by simpa using he
        clear hb hx hl1 ht he
        go_wp2_with fail
        go_roundw
        case rel => exact ⟨k + 1, by omega, by go_num, HB.out.alloc _, HX.out⟩
        case measure => simp [intOf]; omega
    · have HX : Hid (fndI cs id = -1) := Lib.hid (fndI_none (fnd_none cs id (fun j hj => HN.out j (by have := hn.out; omega))))
      clear hb
      go_wp2_with fail
      go_ret
      exact ⟨ret_int HX.out.symm, HB.out.all.2⟩

/-! Lists of indices. -/
theorem own_snoc {w wx w1 : World} {B k : Nat} {v v' : Value} {ks : List Nat} {u : Value} (hu : u = .int .i64 (k : Int)) (hb : Below B w wx) (h' : w1.ownsRow B 3 1 v' (ks.length + 1) (nv ks ++ [u])) (hB : B ≤ wx.heap.size) (hg : wx.grownBy w1 v.ownBlock) (hl : ∀ g, v.ownBlock = some g → B ≤ g) :
    w1.ownsRow B 3 1 v' (ks ++ [k]).length (nv (ks ++ [k])) ∧ Below B w w1 := by
  subst hu
  refine ⟨?_, hb.grown hg hB hl⟩
  rw [nv_snoc, List.length_append]
  exact h'
def KRel (w : World) (o : Obj) (n : Nat) (cs : List Cls) (id : Int) (K : List Nat) (out i : Value) (wr : World) : Prop :=
  ∃ (k : Nat) (ks : List Nat), k ≤ n ∧ ks.length ≤ k ∧ i = .int .i64 k ∧ Aft w o wr ∧ wr.ownsRow (w.heap.size + 1) 3 1 out ks.length (nv ks) ∧ Hid (ks ++ kidsF id k (cs.drop k) = K)
def SaysNs (w : World) (K : List Nat) (e : Ending) (w' : World) : Prop := ∃ v, e = .returned v ∧ w'.ownsRow w.heap.size 3 1 v K.length (nv K) ∧ Below w.heap.size w w'
set_option maxHeartbeats 3200000 in
theorem cfKids_any (s : ByteArray) (ac af : Option Addr) (n cc m cf : Nat) (d : Int) (cs : List Cls) (q : Nat) (w : World) (HI : Hid (InX w ac n (clsCs cs))) (hn : Hid (cs.length = n)) (hm : n ≤ 1048576) (hq : q < n) :
    Calls Tryd.prog 57 #[(.agg #[.string s, .slice ac n cc, .slice af m cf, .int .i64 d]), .int .i64 q] w (SaysNs w (kids cs (cs.getD q cls0).i)) := by
  obtain ⟨i0, hi, hz0, hz1, hz2⟩ := info_parts infoI
  obtain ⟨y, hy⟩ : ∃ y, cs.getD q cls0 = y := ⟨_, rfl⟩
  rw [hy]
  obtain ⟨K, hK⟩ : ∃ K, kids cs y.i = K := ⟨_, rfl⟩
  have H0 : Hid ([] ++ kidsF y.i 0 (cs.drop 0) = K) := Lib.hid hK
  rw [hK]
  have HY := Lib.hid hy
  clear hK hy
  go_enter Tryd.func57, Tryd.ntmps57
  go_wp2_with fail
  go_loopw [5, 11] (fun out i wr => KRel w (Obj.cells #[.string s, .slice ac n cc, .slice af m cf, .int .i64 d] 44) n cs y.i K out i wr) (fun _ i _ => n - (intOf i).toNat)
  case atStart => exact ⟨0, [], Nat.zero_le _, Nat.le_refl _, rfl, Aft.refl _ _, (World.ownsRow_nil _ _ _ _ : (w.alloc (Obj.cells #[.string s, .slice ac n cc, .slice af m cf, .int .i64 d] 44)).ownsRow _ 3 1 _ 0 []), H0⟩
  case round =>
    obtain ⟨k, ks, hk, hkl, rfl, hb, ho, HP⟩ := hrel
    have HB := Lib.hid hb
    have HO := Lib.hid ho
    by_cases hlt : k < n
    · obtain ⟨g, rfl, ht, hg⟩ := HI.out (by omega)
      obtain ⟨x, hx⟩ : ∃ x, cs.getD k cls0 = x := ⟨_, rfl⟩
      have hl1 : k < cs.length := by rw [hn.out]; exact hlt
      have ht2 := ht.below hb.all.2 hg
      obtain ⟨a0, a1, a2, a3, a4, a5, a6, a7⟩ := ht2.cls k hl1 x hx
      have hgr : g < wr.heap.size := Nat.lt_of_lt_of_le hg hb.all.2.size
      have b0 := ((ht2.cls q (by rw [hn.out]; exact hq) y HY.out).later hgr).1
      obtain ⟨_, e1, _, _, hgw⟩ := hb.all.1
      have e1' := fun o => ((bcell (one_new2 wr o)).1 _ 1 hgw).trans e1
      have HE := Lib.hid (kidsF_at y.i cs k hl1 x hx)
      obtain ⟨yi, yp, yr, ye, yb, yu, yo, yl⟩ := y
      obtain ⟨xi, xp, xr, xe, xb, xu, xo, xl⟩ := x
      simp only at a0 a1 a2 a3 a4 a5 a6 a7 b0 HE
      clear hb hx hl1 ht ht2 e1
      by_cases he : xp = yi
      · have dq : (xp == yi) = true := by simpa using he
        have HX : Hid ((ks ++ [k]) ++ kidsF yi (k + 1) (cs.drop (k + 1)) = K) := Lib.hid (by rw [← HP.out, HE.out, if_pos he]; simp)
        clear he
        go_wp2_with fail
        go_quiet (fail)
        go_wp2_with (at_builtin; refine wpList_append_own _ rfl _ _ 61 rfl (w.heap.size + 1) 3 i0 (.int .i64 0) 1 8 Tryd.underlying61 hi hz0 hz1 hz2 rfl (by decide) _ _ _ rfl (World.ownsRow.alloc (w := (wr.alloc (Obj.cells #[.int .i64 xi, .int .i64 xp, .int .i64 xr, .int .i64 xe, .int .i64 xb, .int .i64 xu, .int .i64 xo, .int .i64 xl] 26)).drewN nq) (World.ownsRow.alloc HO.out _) _) ⟨wr.heap.size + 1, 0, none⟩ 1 1 [.int .i64 (k : Int)] rfl rfl (by have := one_int ((wr.alloc (Obj.cells #[.int .i64 xi, .int .i64 xp, .int .i64 xr, .int .i64 xe, .int .i64 xb, .int .i64 xu, .int .i64 xo, .int .i64 xl] 26)).drewN nq) (.int .i64 (k : Int)) 3; simpa using this) (by intro u hu; simp at hu; subst hu; rfl) (by unfold maxLen; omega) (by omega) (by have := (HB.out.all).1.2.2.2.2; simp; omega) ?_; intro v' w3 hown1 hgrow1 _)
        have F := Lib.hid (own_snoc rfl ((((Below.refl (w.heap.size + 1) wr).alloc (HB.out.all).1.2.2.2.2 (Obj.cells #[.int .i64 xi, .int .i64 xp, .int .i64 xr, .int .i64 xe, .int .i64 xb, .int .i64 xu, .int .i64 xo, .int .i64 xl] 26)).trans (below_drewN (Below.refl _ _) nq)).alloc (by have := (HB.out.all).1.2.2.2.2; simp; omega) _) hown1 (by have := (HB.out.all).1.2.2.2.2; simp; omega) hgrow1 (fun g h => (World.ownsRow.lt HO.out g h).1))
        clear hown1 hgrow1
        go_roundw
        case rel => exact ⟨k + 1, ks ++ [k], by omega, by simp; omega, by go_num, HB.out.up F.out.2, F.out.1, HX⟩
        case measure => simp [intOf]; omega
      · have dq : (xp == yi) = false := by simpa using he
        have HX : Hid (ks ++ kidsF yi (k + 1) (cs.drop (k + 1)) = K) := Lib.hid (by rw [← HP.out, HE.out, if_neg he])
        clear he
        go_wp2_with fail
        go_quiet (fail)
        go_wp2_with fail
        go_roundw
        case rel => exact ⟨k + 1, ks, by omega, by omega, by go_num, (HB.out.alloc _).on (below_drewN (Below.refl _ _) _), World.ownsRow.alloc HO.out _, HX⟩
        case measure => simp [intOf]; omega
    · have HX : Hid (ks = K) := Lib.hid (by rw [← HP.out, kidsF_end _ cs k (by rw [hn.out]; omega), List.append_nil])
      clear hb ho
      go_wp2_with fail
      go_ret
      exact ⟨_, rfl, by rw [← HX.out]; exact own_base HO.out (Nat.le_succ _), HB.out.all.2⟩
end Go.Proofs.YtkpocljlmbihcaaDoor

/- The model's functions over classes: leaves, rates, ways up, targets. -/
namespace Go.Proofs.YtkpocljlmbihcaaDoor
set_option maxRecDepth 100000
open Go.RowKit
set_option linter.unusedVariables false

theorem hasK_kids (cs : List Cls) (id : Int) : (((kids cs id).length : Int) == 0) = !hasK cs id := by
  have := kidsF_nil id cs 0
  unfold kids
  cases hk : hasK cs id with
  | false => rw [this.2 hk]; rfl
  | true =>
    have : kidsF id 0 cs ≠ [] := fun h => by rw [this.1 h] at hk; cases hk
    have := List.length_pos_iff.2 this
    simp; omega
set_option maxHeartbeats 1600000 in
theorem cfLeaf_any (s : ByteArray) (ac af : Option Addr) (n cc m cf : Nat) (d : Int) (cs : List Cls) (q : Nat) (w : World) (HI : Hid (InX w ac n (clsCs cs))) (hn : Hid (cs.length = n)) (hm : n ≤ 1048576) (hq : q < n) :
    Calls Tryd.prog 78 #[(.agg #[.string s, .slice ac n cc, .slice af m cf, .int .i64 d]), .int .i64 q] w (SaysB w (!hasK cs (cs.getD q cls0).i)) := by
  have HK := Lib.hid (fun w HI => cfKids_any s ac af n cc m cf d cs q w HI hn hm hq)
  have HL := Lib.hid (hasK_kids cs (cs.getD q cls0).i)
  obtain ⟨K, hK⟩ : ∃ K, kids cs (cs.getD q cls0).i = K := ⟨_, rfl⟩
  obtain ⟨b, hb⟩ : ∃ b, (!hasK cs (cs.getD q cls0).i) = b := ⟨_, rfl⟩
  rw [hK] at HK HL
  rw [hb] at HL ⊢
  clear hK hb
  go_enter Tryd.func78, Tryd.ntmps78
  go_wp2_with (go_at_call 57; refine (HK.out _ (Lib.hid (HI.out.below (one_new2 _ _)))).mono ?_; rintro e w1 ⟨v, rfl, o1, b1⟩; obtain ⟨ad, c1, rfl, _⟩ := own_in o1; have B1 := Lib.hid ((one_new2 _ _).trans (b1.mono (by simp))); clear b1 o1)
  go_ret
  exact ⟨ret_bool HL.out, B1.out⟩
set_option maxHeartbeats 1600000 in
theorem cfTarget_any (s : ByteArray) (ac af : Option Addr) (n cc m cf : Nat) (d : Int) (cs : List Cls) (id : Int) (w : World) (HI : Hid (InX w ac n (clsCs cs))) (hn : Hid (cs.length = n)) (hm : n ≤ 1048576) :
    Calls Tryd.prog 56 #[(.agg #[.string s, .slice ac n cc, .slice af m cf, .int .i64 d]), .int .i64 id] w (SaysB w (leafB cs id)) := by
  have HF := Lib.hid (fun w HI => cfFind_any s ac af n cc m cf d cs id w HI hn hm)
  cases hf : fnd cs id with
  | none =>
    rw [fndI_none hf] at HF
    have HX : Hid (leafB cs id = false) := Lib.hid (by unfold leafB; rw [hf]; rfl)
    clear hf
    go_enter Tryd.func56, Tryd.ntmps56
    go_wp2_with (go_at_call 58; refine (HF.out _ (Lib.hid (HI.out.below (one_new2 _ _)))).mono ?_; rintro e w1 ⟨rfl, b1⟩; have B1 := Lib.hid (box_four b1).2; clear b1)
    go_ret
    exact ⟨ret_bool HX.out.symm, B1.out⟩
  | some k =>
    rw [fndI_some hf] at HF
    have hk := fnd_get cs id k hf
    have hkn : k < n := by rw [← hn.out]; exact hk.1
    have HX : Hid (leafB cs id = !hasK cs (cs.getD k cls0).i) := Lib.hid (by unfold leafB; rw [hf, hk.2]; rfl)
    have HL := Lib.hid (fun w HI => cfLeaf_any s ac af n cc m cf d cs k w HI hn hm hkn)
    have d0 := is_le (show (0 : Int) ≤ (k : Int) by omega)
    obtain ⟨b, hb⟩ : ∃ b, (!hasK cs (cs.getD k cls0).i) = b := ⟨_, rfl⟩
    rw [hb] at HL HX
    clear hf hk hb
    go_enter Tryd.func56, Tryd.ntmps56
    go_wp2_with (go_at_call 58; refine (HF.out _ (Lib.hid (HI.out.below (one_new2 _ _)))).mono ?_; rintro e w1 ⟨rfl, b1⟩; have B1 := Lib.hid (box_four b1).2; obtain ⟨c0, c1, c2, c3, _⟩ := (box_four b1).1; clear b1)
    go_wp2_with (go_at_call 78; refine (HL.out _ (Lib.hid (HI.out.below B1.out))).mono ?_; rintro e w2 ⟨rfl, b2⟩; have B2 := Lib.hid (B1.out.trans (b2.mono B1.out.size)); clear b2)
    go_ret
    exact ⟨ret_bool HX.out.symm, B2.out⟩
def SpRelC (cs : List Cls) (K : List Nat) (S : Int) (a i : Value) : Prop := ∃ (k : Nat) (z : Int), k ≤ K.length ∧ i = .int .i64 k ∧ a = .int .i64 z ∧ z ≤ 100000 ∧ -(100000 * (k : Int)) ≤ z ∧ Hid (spK cs z (K.drop k) = S)
theorem spK_at (cs : List Cls) (z : Int) (K : List Nat) (k : Nat) (h : k < K.length) (j : Nat) (hj : K.getD k 0 = j) : spK cs z (K.drop k) = spK cs (z - (cs.getD j cls0).r) (K.drop (k + 1)) := by
  rw [List.drop_eq_getElem_cons h, spK]
  subst hj
  simp [List.getD_eq_getElem?_getD, h]
theorem spK_end (cs : List Cls) (z : Int) (K : List Nat) (k : Nat) (h : K.length ≤ k) : spK cs z (K.drop k) = z := by
  rw [List.drop_eq_nil_of_le h]; rfl
def RatesIn (cs : List Cls) : Prop := ∀ k, k < cs.length → 1 ≤ (cs.getD k cls0).r ∧ (cs.getD k cls0).r ≤ 100000
theorem okL_rates {cs : List Cls} {b : Int} (h : okL b cs = true) : RatesIn cs := fun k hk => rateOk_r (okL_ids cs b h k hk).2.2
theorem kids_lt (cs : List Cls) (id : Int) (k : Nat) (h : k < (kids cs id).length) : (kids cs id).getD k 0 < cs.length := by
  have := kidsF_lt id cs 0 ((kids cs id).getD k 0) (by unfold kids at *; simp [List.getD_eq_getElem?_getD, h])
  omega
set_option maxHeartbeats 3200000 in
theorem cfSpare_any (s : ByteArray) (ac af : Option Addr) (n cc m cf : Nat) (d : Int) (cs : List Cls) (q : Nat) (w : World) (HI : Hid (InX w ac n (clsCs cs))) (hn : Hid (cs.length = n)) (hm : n ≤ 1048576) (hq : q < n) (h24 : n ≤ 24) (HR : Hid (RatesIn cs)) :
    Calls Tryd.prog 77 #[(.agg #[.string s, .slice ac n cc, .slice af m cf, .int .i64 d]), .int .i64 q] w (SaysI w (spare cs (cs.getD q cls0))) := by
  have HK := Lib.hid (fun w HI => cfKids_any s ac af n cc m cf d cs q w HI hn hm hq)
  have hqn : q < cs.length := by rw [hn.out]; exact hq
  obtain ⟨y, hy⟩ : ∃ y, cs.getD q cls0 = y := ⟨_, rfl⟩
  have hyr := HR.out q hqn
  rw [hy] at HK hyr ⊢
  have HLT := Lib.hid (kids_lt cs y.i)
  have hKl : (kids cs y.i).length ≤ n := by have := kidsF_len y.i cs 0; unfold kids; rw [← hn.out]; exact this
  have H0 : Hid (spK cs y.r ((kids cs y.i).drop 0) = spare cs y) := Lib.hid (by rw [List.drop_zero]; exact spare_kids cs y)
  obtain ⟨K, hK⟩ : ∃ K, kids cs y.i = K := ⟨_, rfl⟩
  obtain ⟨S, hS⟩ : ∃ S, spare cs y = S := ⟨_, rfl⟩
  rw [hK] at HK hKl HLT H0
  rw [hS] at H0 ⊢
  obtain ⟨g, rfl, ht, hg⟩ := HI.out (by omega)
  have HT := Lib.hid ht
  obtain ⟨_, _, b2, _⟩ := ht.cls q hqn y hy
  have b2' := fun o => ((bcell (one_new2 w o)).1 g (q * 8 + 2) hg).trans b2
  obtain ⟨yi, yp, yr, ye, yb, yu, yo, yl⟩ := y
  simp only at b2' hyr H0
  clear hK hS hy ht b2
  go_enter Tryd.func77, Tryd.ntmps77
  go_wp2_with (go_at_call 57; refine (HK.out _ (Lib.hid (HI.out.below (one_new2 _ _)))).mono ?_; rintro e w1 ⟨v, rfl, o1, b1⟩; have B1 := Lib.hid (box_four b1).2; obtain ⟨c0, c1, c2, c3, _⟩ := (box_four b1).1; obtain ⟨ad, cK, rfl, iK⟩ := own_in o1; have HIK := Lib.hid iK; clear b1 o1 iK)
  go_loop [5, 18] (fun a i => SpRelC cs K S a i) (fun _ i => K.length - (intOf i).toNat)
  case atStart => exact ⟨0, yr, Nat.zero_le _, rfl, rfl, by omega, by omega, H0⟩
  case round =>
    obtain ⟨k, z, hk, rfl, rfl, z1, z2, HP⟩ := hrel
    by_cases hlt : k < K.length
    · obtain ⟨gk, rfl, hkt, hkg⟩ := HIK.out (by omega)
      obtain ⟨j, hj⟩ : ∃ j, K.getD k 0 = j := ⟨_, rfl⟩
      have e0 := hkt.nat k hlt j hj
      have hjl : j < cs.length := by rw [← hj]; exact HLT.out k hlt
      have hjn : j < n := by rw [← hn.out]; exact hjl
      obtain ⟨x, hx⟩ : ∃ x, cs.getD j cls0 = x := ⟨_, rfl⟩
      have hxr := HR.out j hjl
      rw [hx] at hxr
      obtain ⟨_, _, a2, _⟩ := (HT.out.below B1.out hg).cls j hjl x hx
      have HE := Lib.hid (spK_at cs z K k hlt j hj)
      rw [hx] at HE
      obtain ⟨xi, xp, xr, xe, xb, xu, xo, xl⟩ := x
      simp only at a2 hxr HE
      have HX : Hid (spK cs (z - xr) (K.drop (k + 1)) = S) := Lib.hid (HE.out.symm.trans HP.out)
      have k24 : (k : Int) < 24 := by omega
      clear hkt hj hx hjl
      go_wp2_with fail
      go_round
      case rel => exact ⟨k + 1, z - xr, by omega, by go_num, rfl, by omega, by omega, HX⟩
      case measure => simp [intOf]; omega
    · have HX : Hid (z = S) := Lib.hid (by rw [← HP.out, spK_end cs z K k (by omega)])
      go_wp2_with fail
      go_ret
      exact ⟨ret_int HX.out, B1.out⟩
end Go.Proofs.YtkpocljlmbihcaaDoor

/- The model's functions over classes: ways up, what is valid by itself. -/
namespace Go.Proofs.YtkpocljlmbihcaaDoor
set_option maxRecDepth 100000
open Go.RowKit
set_option linter.unusedVariables false

def lenV : Value → Nat
  | .slice _ n _ => n
  | _ => 0
def UpRel (w : World) (o : Obj) (n : Nat) (cs : List Cls) (U : List Nat) (i out : Value) (wr : World) : Prop :=
  ∃ (v : Int) (ks : List Nat), i = .int .i64 v ∧ ks.length ≤ 9 ∧ Aft w o wr ∧ wr.ownsRow (w.heap.size + 1) 3 1 out ks.length (nv ks) ∧
    ((v = -1 ∧ Hid (ks = U)) ∨ ∃ k : Nat, k < n ∧ v = k ∧ Hid (ks ++ up cs (9 - ks.length) k = U))
theorem up_step (cs : List Cls) (f k : Nat) : up cs (f + 1) k = k :: (match fnd cs (cs.getD k cls0).p with | .none => [] | .some j => up cs f j) := rfl
set_option maxHeartbeats 6400000 in
theorem cfUp_any (s : ByteArray) (ac af : Option Addr) (n cc m cf : Nat) (d : Int) (cs : List Cls) (q : Nat) (w : World) (HI : Hid (InX w ac n (clsCs cs))) (hn : Hid (cs.length = n)) (hm : n ≤ 1048576) (hq : q < n) :
    Calls Tryd.prog 36 #[(.agg #[.string s, .slice ac n cc, .slice af m cf, .int .i64 d]), .int .i64 q] w (SaysNs w (up cs 9 q)) := by
  obtain ⟨i0, hi, hz0, hz1, hz2⟩ := info_parts infoI
  obtain ⟨U, hU⟩ : ∃ U, up cs 9 q = U := ⟨_, rfl⟩
  have H0 : Hid ([] ++ up cs (9 - 0) q = U) := Lib.hid hU
  rw [hU]
  have HF := Lib.hid (fun id w HI => cfFind_any s ac af n cc m cf d cs id w HI hn hm)
  clear hU
  go_enter Tryd.func36, Tryd.ntmps36
  go_wp2_with fail
  go_loopw [1, 5] (fun i out wr => UpRel w (Obj.cells #[.string s, .slice ac n cc, .slice af m cf, .int .i64 d] 44) n cs U i out wr) (fun _ out _ => 10 - lenV out)
  case atStart => exact ⟨q, [], rfl, Nat.zero_le _, Aft.refl _ _, (World.ownsRow_nil _ _ _ _ : (w.alloc (Obj.cells #[.string s, .slice ac n cc, .slice af m cf, .int .i64 d] 44)).ownsRow _ 3 1 _ 0 []), .inr ⟨q, hq, rfl, H0⟩⟩
  case round =>
    obtain ⟨v, ks, rfl, hk9, hb, ho, hv⟩ := hrel
    have HB := Lib.hid hb
    have HO := Lib.hid ho
    obtain ⟨ad, cO, rfl, _⟩ := own_in ho
    rcases hv with ⟨rfl, HX⟩ | ⟨k, hkn, rfl, HX⟩
    · clear hb ho
      go_wp2_with fail
      go_ret
      exact ⟨_, rfl, by rw [← HX.out]; exact own_base HO.out (Nat.le_succ _), HB.out.all.2⟩
    · by_cases h9 : ks.length ≤ 8
      · obtain ⟨x, hx⟩ : ∃ x, cs.getD k cls0 = x := ⟨_, rfl⟩
        have hl1 : k < cs.length := by rw [hn.out]; exact hkn
        have hU : ks ++ k :: (match fnd cs x.p with | .none => [] | .some j => up cs (8 - ks.length) j) = U := by
          have := HX.out
          rw [show 9 - ks.length = (8 - ks.length) + 1 by omega, up_step, hx] at this
          exact this
        have HFx := Lib.hid (HF.out x.p)
        have HU := Lib.hid hU
        have d8 : decide ((ks.length : Int) ≤ 8) = true := is_le (by omega)
        have d0 : decide ((0 : Int) ≤ (k : Int)) = true := is_le (by omega)
        clear hb ho hU
        go_wp2_with (at_builtin; refine wpList_append_own _ rfl _ _ 61 rfl (w.heap.size + 1) 3 i0 (.int .i64 0) 1 8 Tryd.underlying61 hi hz0 hz1 hz2 rfl (by decide) _ _ _ rfl (World.ownsRow.alloc HO.out _) ⟨wr.heap.size, 0, none⟩ 1 1 [.int .i64 (k : Int)] rfl rfl (by have := one_int wr (.int .i64 (k : Int)) 3; simpa using this) (by intro u hu; simp at hu; subst hu; rfl) (by unfold maxLen; omega) (by omega) (by have := (HB.out.all).1.2.2.2.2; simp; omega) ?_; intro v' w3 hown1 hgrow1 _; have F := Lib.hid (own_snoc rfl ((Below.refl (w.heap.size + 1) wr).alloc (HB.out.all).1.2.2.2.2 (.cells #[.int .i64 (k : Int)] 3)) hown1 (by have := (HB.out.all).1.2.2.2.2; simp; omega) hgrow1 (fun g h => (World.ownsRow.lt HO.out g h).1)); have HB3 := Lib.hid (HB.out.up F.out.2); obtain ⟨ad3, c3, hv3, _⟩ := own_in F.out.1; clear hown1 hgrow1; refine Hid.out ?_)
        refine Lib.hid ?_
        have O3 : Hid (w3.ownsRow (w.heap.size + 1) 3 1 (.slice ad3 (ks.length + 1) c3) (ks ++ [k]).length (nv (ks ++ [k]))) := Lib.hid (by rw [← show v' = .slice ad3 (ks.length + 1) c3 by simpa using hv3]; exact F.out.1)
        obtain ⟨g, rfl, ht, hg⟩ := HI.out (by omega)
        obtain ⟨_, a1, _⟩ := (ht.below HB3.out.all.2 hg).cls k hl1 x hx
        obtain ⟨e0, e1, e2, e3, hgw⟩ := HB3.out.all.1
        have hI3 : InX w3 (some ⟨g, 0, none⟩) n (clsCs cs) := HI.out.below HB3.out.all.2
        have HI3 := Lib.hid hI3
        have hgr : g < w3.heap.size := Nat.lt_of_lt_of_le hg HB3.out.all.2.size
        cases hf : fnd cs x.p with
        | none =>
          rw [fndI_none hf] at HFx
          have HY : Hid (ks ++ [k] = U) := Lib.hid (by have := HU.out; rw [hf] at this; simpa using this)
          obtain ⟨xi, xp, xr, xe, xb, xu, xo, xl⟩ := x
          simp only at a1 HFx
          clear hx hl1 hf ht hI3
          go_wp2_with fail
          go_region_with (go_at_call 58; refine (HFx.out _ (Lib.hid (HI3.out.below (below_drewN (Below.refl _ _) _)))).mono ?_; rintro e w4 ⟨rfl, b4⟩; have B4 := Lib.hid ((below_drewN (Below.refl _ w3) 1).trans b4); clear b4)
          all_goals
            (try go_simp)
            go_wp2
            go_roundw
            case rel => exact ⟨-1, ks ++ [k], rfl, by simp; omega, HB3.out.on B4.out, own_low O3.out B4.out (Nat.le_refl _), .inl ⟨rfl, HY⟩⟩
            case measure => simp [lenV]; omega
        | some j =>
          rw [fndI_some hf] at HFx
          have hjn : j < n := by rw [← hn.out]; exact (fnd_get cs x.p j hf).1
          have HY : Hid ((ks ++ [k]) ++ up cs (9 - (ks ++ [k]).length) j = U) := Lib.hid (by
            have := HU.out
            rw [hf] at this
            rw [← this, show 9 - (ks ++ [k]).length = 8 - ks.length by simp only [List.length_append, List.length_cons, List.length_nil]; omega]
            simp)
          obtain ⟨xi, xp, xr, xe, xb, xu, xo, xl⟩ := x
          simp only at a1 HFx
          clear hx hl1 hf ht hI3
          go_wp2_with fail
          go_region_with (go_at_call 58; refine (HFx.out _ (Lib.hid (HI3.out.below (below_drewN (Below.refl _ _) _)))).mono ?_; rintro e w4 ⟨rfl, b4⟩; have B4 := Lib.hid ((below_drewN (Below.refl _ w3) 1).trans b4); clear b4)
          all_goals
            (try go_simp)
            go_wp2
            go_roundw
            case rel => exact ⟨j, ks ++ [k], rfl, by simp; omega, HB3.out.on B4.out, own_low O3.out B4.out (Nat.le_refl _), .inr ⟨j, hjn, rfl, HY⟩⟩
            case measure => simp [lenV]; omega
      · have HX2 : Hid (ks = U) := Lib.hid (by have := HX.out; rw [show 9 - ks.length = 0 by omega] at this; simpa [up] using this)
        have d8 : decide ((ks.length : Int) ≤ 8) = false := not_le (by omega)
        have d0 : decide ((0 : Int) ≤ (k : Int)) = true := is_le (by omega)
        clear hb ho
        go_wp2_with fail
        go_ret
        exact ⟨_, rfl, by rw [← HX2.out]; exact own_base HO.out (Nat.le_succ _), HB.out.all.2⟩
def ClsSelf (x : Cls) : Bool := inB x.i 1 999 && rateOk x
set_option maxHeartbeats 1600000 in
theorem cfClass_any (x : Cls) (w : World) : Calls Tryd.prog 17 #[clsV x] w (SaysB w (ClsSelf x)) := by
  have HX : Hid (ClsSelf x = (inB x.i 1 999 && (inB x.r 1 100000 && (inB x.e x.r 100000 && (inB x.b 1500 1000000 && (inB x.u 1500 1000000 && inB x.o 0 7)))))) := Lib.hid rfl
  have H1 := Lib.hid (fun w => l1In_any x.i 1 999 w)
  have H2 := Lib.hid (fun w => l1In_any x.r 1 100000 w)
  have H3 := Lib.hid (fun w => l1In_any x.e x.r 100000 w)
  have H4 := Lib.hid (fun w => l1In_any x.b 1500 1000000 w)
  have H5 := Lib.hid (fun w => l1In_any x.u 1500 1000000 w)
  have H6 := Lib.hid (fun w => l1In_any x.o 0 7 w)
  generalize inB x.i 1 999 = b1 at HX H1
  generalize inB x.r 1 100000 = b2 at HX H2
  generalize inB x.e x.r 100000 = b3 at HX H3
  generalize inB x.b 1500 1000000 = b4 at HX H4
  generalize inB x.u 1500 1000000 = b5 at HX H5
  generalize inB x.o 0 7 = b6 at HX H6
  generalize ClsSelf x = B at HX ⊢
  obtain ⟨xi, xp, xr, xe, xb, xu, xo, xl⟩ := x
  unfold clsV
  simp only at H1 H2 H3 H4 H5 H6 ⊢
  go_enter Tryd.func17, Tryd.ntmps17
  go_wp2_with (first | (go_at_call 26; (with_reducible refine (H1.out _).mono ?_); rintro e w' ⟨rfl, rfl⟩) | (go_at_call 26; (with_reducible refine (H2.out _).mono ?_); rintro e w' ⟨rfl, rfl⟩) | (go_at_call 26; (with_reducible refine (H3.out _).mono ?_); rintro e w' ⟨rfl, rfl⟩) | (go_at_call 26; (with_reducible refine (H4.out _).mono ?_); rintro e w' ⟨rfl, rfl⟩) | (go_at_call 26; (with_reducible refine (H5.out _).mono ?_); rintro e w' ⟨rfl, rfl⟩) | (go_at_call 26; (with_reducible refine (H6.out _).mono ?_); rintro e w' ⟨rfl, rfl⟩))
  all_goals
    go_ret
    exact ⟨ret_bool (by rw [HX.out]; simp_all), one_new2 _ _⟩
end Go.Proofs.YtkpocljlmbihcaaDoor
