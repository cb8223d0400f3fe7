/- DropClass, the model's (written by tools/gen_cgo.py). -/
import Derived.Test.YthpejbdbbofaaaaDoorCgi
import Derived.Deep.CutRange
import Derived.Deep.RegionHeld3
namespace Go.Proofs.YthpejbdbbofaaaaDoor
set_option maxRecDepth 100000
open Go.RowKit
set_option linter.unusedVariables false
set_option linter.unusedSimpArgs false

/-- a class boxed by the call -/
def DcR (w1 : World) (x : Cls) (v : Value) (wx : World) : Prop := ∃ bx, v = .pointer (some ⟨bx, 0, none⟩) ∧ Below w1.heap.size w1 wx ∧ w1.heap.size ≤ bx ∧ bx < wx.heap.size ∧ EightB wx bx x
/-- the box of a configuration without classes -/
def DdR (w2 : World) (s : ByteArray) (fs : List Flt) (d : Int) (v : Value) (wx : World) : Prop := ∃ bo vf, v = .pointer (some ⟨bo, 0, none⟩) ∧ Below w2.heap.size w2 wx ∧ w2.heap.size ≤ bo ∧ bo < wx.heap.size ∧ FourIs wx bo (.string s) (.slice none 0 0) vf (.int .i64 d) ∧ FroB wx bo ∧ wx.ownsRow w2.heap.size 77 5 vf fs.length (fltCs fs) ∧ ∀ g, vf.ownBlock = some g → g ≠ bo
theorem own_far {w : World} {B n z b j : Nat} {T : TypeId} {v : Value} {xs : List Value} (h : w.ownsRow B T z v n xs) (hd : ∀ g, v.ownBlock = some g → g ≠ b) (u : Value) : (w.setCell ⟨b, j, none⟩ u).ownsRow B T z v n xs :=
  own_onl h (onl_set (fun _ _ => rfl) _ _) (fun g hg e => hd g hg (by simpa using e.symm))
theorem own_far4 {w : World} {B n z b : Nat} {T : TypeId} {v : Value} {xs : List Value} (h : w.ownsRow B T z v n xs) (hd : ∀ g, v.ownBlock = some g → g ≠ b) (v0 v1 v2 v3 : Value) : ((((w.setCell ⟨b, 0, none⟩ v0).setCell ⟨b, 1, none⟩ v1).setCell ⟨b, 2, none⟩ v2).setCell ⟨b, 3, none⟩ v3).ownsRow B T z v n xs :=
  own_far (own_far (own_far (own_far h hd v0) hd v1) hd v2) hd v3
theorem eight_new (w : World) (x : Cls) (t : TypeId) : EightB (w.alloc (.cells #[.int .i64 x.i, .int .i64 x.p, .int .i64 x.r, .int .i64 x.e, .int .i64 x.b, .int .i64 x.u, .int .i64 x.o, .int .i64 x.l] t)) w.heap.size x := (box_eight (Below.refl _ _)).1
theorem put8 {w1 : World} {b : Nat} (h : EightS w1 b) (x : Cls) : EightB ((((((((w1.setCell ⟨b, 0, none⟩ (.int .i64 x.i)).setCell ⟨b, 1, none⟩ (.int .i64 x.p)).setCell ⟨b, 2, none⟩ (.int .i64 x.r)).setCell ⟨b, 3, none⟩ (.int .i64 x.e)).setCell ⟨b, 4, none⟩ (.int .i64 x.b)).setCell ⟨b, 5, none⟩ (.int .i64 x.u)).setCell ⟨b, 6, none⟩ (.int .i64 x.o)).setCell ⟨b, 7, none⟩ (.int .i64 x.l)) b x := read8 h x _ rfl
/-- the model's result, as far as it is gathered -/
def DlAt (w2 : World) (B3 bo : Nat) (s : ByteArray) (fs : List Flt) (d : Int) (vF v : Value) (L : List Cls) (wr : World) : Prop :=
  Below w2.heap.size w2 wr ∧ B3 ≤ wr.heap.size ∧ FourIs wr bo (.string s) v vF (.int .i64 d) ∧ FroB wr bo ∧ wr.ownsRow w2.heap.size 77 5 vF fs.length (fltCs fs) ∧ wr.ownsRow B3 62 8 v L.length (clsCs L)
theorem DlAt.on {w2 wr w' : World} {B3 bo : Nat} {s : ByteArray} {fs : List Flt} {d : Int} {vF v : Value} {L : List Cls} (h : DlAt w2 B3 bo s fs d vF v L wr) (hb : Below wr.heap.size wr w') : DlAt w2 B3 bo s fs d vF v L w' := by
  obtain ⟨h1, h2, h3, h4, h5, h6⟩ := h
  exact ⟨h1.trans (hb.mono h1.size), Nat.le_trans h2 hb.size, h3.on hb, h4.on hb h3.2.2.2.2, own_low h5 hb (Nat.le_refl _), own_low h6 hb (Nat.le_refl _)⟩
theorem DlAt.snoc {w2 wr w' : World} {B3 bo : Nat} {s : ByteArray} {fs : List Flt} {d : Int} {vF v v' : Value} {L : List Cls} {y : Cls} (h : DlAt w2 B3 bo s fs d vF v L wr) (hg : wr.grownBy w' v.ownBlock)
    (ho : w'.ownsRow B3 62 8 v' (L.length + 1) (clsCs L ++ clsC y)) (h1 : w2.heap.size ≤ bo) (h2 : bo < B3) (h3 : w2.heap.size ≤ B3) (h4 : ∀ g, vF.ownBlock = some g → g < B3 ∧ g ≠ bo) :
    DlAt w2 B3 bo s fs d vF v' (L ++ [y]) (w'.setCell ⟨bo, 1, none⟩ v') := by
  obtain ⟨a1, a2, a3, a4, a5, a6⟩ := h
  have hl := fun g hv => (World.ownsRow.lt a6 g hv).1
  have hbk := hg.block bo a3.2.2.2.2 (fun q => by have := hl bo q.symm; omega)
  refine ⟨(a1.grown hg a1.size (fun g hv => by have := hl g hv; omega)).setCell h1 _, ?_, (a3.same hbk hg.size).set1 _, (a4.same hbk).set _ _, ?_, ?_⟩
  · rw [Go.Deep.nblk_setCell]; exact Nat.le_trans a2 hg.size
  · exact own_far (own_heap a5 (fun g hv => hg.block g (World.ownsRow.lt a5 g hv).2 (fun q => by have := hl g q.symm; have := (h4 g hv).1; omega))) (fun g hv => (h4 g hv).2) _
  · rw [List.length_append, clsCs_append]
    have : clsCs [y] = clsC y := by simp [clsCs]
    rw [this]
    exact own_far ho (fun g hv => by have := (World.ownsRow.lt ho g hv).1; omega) _
theorem eight_cells (w : World) (y : Cls) (t : TypeId) : ∀ j u, (clsC y)[j]? = some u → (w.alloc (.cells #[.int .i64 y.i, .int .i64 y.p, .int .i64 y.r, .int .i64 y.e, .int .i64 y.b, .int .i64 y.u, .int .i64 y.o, .int .i64 y.l] t)).cell? ((⟨w.heap.size, 0, none⟩ : Addr).add j) = some u := by
  intro j u hj
  unfold clsC at hj
  match j, hj with
  | 0, hj | 1, hj | 2, hj | 3, hj | 4, hj | 5, hj | 6, hj | 7, hj => simp at hj; subst hj; simp [Addr.add]
  | j + 8, hj => simp at hj
theorem clsC_one (y : Cls) : ∀ u ∈ clsC y, u.oneCell' = true := by
  intro u hu
  simp only [clsC, List.mem_cons, List.not_mem_nil, or_false] at hu
  rcases hu with rfl | rfl | rfl | rfl | rfl | rfl | rfl | rfl <;> rfl
theorem filter_at (cs : List Cls) (k : Nat) (hk : k < cs.length) (x : Cls) (hx : cs.getD k cls0 = x) (p : Cls → Bool) : (cs.drop k).filter p = (if p x then [x] else []) ++ (cs.drop (k + 1)).filter p := by
  rw [List.getD_eq_getElem?_getD, List.getElem?_eq_getElem hk] at hx
  simp only [Option.getD_some] at hx
  rw [List.drop_eq_getElem_cons hk, hx, List.filter_cons]
  split <;> simp
def DlRel (w2 : World) (B3 bo : Nat) (s : ByteArray) (fs : List Flt) (d : Int) (vF : Value) (cs C : List Cls) (id : Int) (i : Value) (wr : World) : Prop :=
  ∃ (j : Nat) (L : List Cls) (v : Value), j ≤ cs.length ∧ L.length ≤ j ∧ i = .int .i64 j ∧ DlAt w2 B3 bo s fs d vF v L wr ∧ Hid (L ++ (cs.drop j).filter (fun y => !(y.i == id)) = C)
end Go.Proofs.YthpejbdbbofaaaaDoor
