/- Boxes of faults: read, stored, kept. -/
import Derived.Test.YtdfkehgkonadhaaDoorFam
namespace Go.Proofs.YtdfkehgkonadhaaDoor
set_option maxRecDepth 100000
open Go.RowKit
set_option linter.unusedVariables false
set_option linter.unusedSimpArgs false

/-- the cells of a result that is a fault are there -/
def TwoS (w1 : World) (b : Nat) : Prop := (w1.cell? ⟨b, 0, none⟩).isSome = true ∧ (w1.cell? ⟨b, 1, none⟩).isSome = true
theorem TwoIs.some {w : World} {b : Nat} {a0 a1 : Value} (h : TwoIs w b a0 a1) : TwoS w b := by
  obtain ⟨h0, h1, _⟩ := h
  exact ⟨by rw [h0]; rfl, by rw [h1]; rfl⟩
theorem readS2 {w1 : World} {b : Nat} (h : TwoS w1 b) (v0 v1 : Value) (W : World) (hW : W = (w1.setCell ⟨b, 0, none⟩ v0).setCell ⟨b, 1, none⟩ v1) :
    W.cell? ⟨b, 0, none⟩ = some v0 ∧ W.cell? ⟨b, 1, none⟩ = some v1 := by
  obtain ⟨h0, h1⟩ := h
  subst hW
  refine ⟨?_, ?_⟩ <;> simp [go_sem, World.cell?_setCell_other, World.cell?_setCell_same', h0, h1]
theorem setS2 {n : Nat} {w w1 : World} (h : Below n w w1) (b : Nat) (hb : n ≤ b) (v0 v1 : Value) : Below n w ((w1.setCell ⟨b, 0, none⟩ v0).setCell ⟨b, 1, none⟩ v1) :=
  (h.setCell hb _).setCell hb _
theorem putS2 {w1 : World} {b : Nat} (h : TwoS w1 b) (hb : b < w1.heap.size) (v0 v1 : Value) : TwoIs ((w1.setCell ⟨b, 0, none⟩ v0).setCell ⟨b, 1, none⟩ v1) b v0 v1 := by
  obtain ⟨r0, r1⟩ := readS2 h v0 v1 _ rfl
  exact ⟨r0, r1, by simpa [Go.Deep.nblk_setCell] using hb⟩
def FroC (w : World) (g : Nat) : Prop := ∀ o, w.frozen? ⟨g, o, none⟩ = false
theorem FroC.on {w w1 : World} {g : Nat} (h : FroC w g) (b : Below w.heap.size w w1) (hg : g < w.heap.size) : FroC w1 g := fun o => ((bcell b).2 g o hg).trans (h o)
theorem FroC.new (w : World) (a : Array Value) (t : TypeId) : FroC (w.alloc (.cells a t)) w.heap.size := fun o => by simp
theorem FroC.set {w : World} {g : Nat} (h : FroC w g) (p : Addr) (v : Value) : FroC (w.setCell p v) g := fun o => by rw [World.frozen?_setCell]; exact h o
theorem bcell' {B : Nat} {W w1 : World} (hb : Below B W w1) : (∀ b o, b < B → w1.cell? ⟨b, o, none⟩ = W.cell? ⟨b, o, none⟩) ∧ (∀ b o, b < B → w1.frozen? ⟨b, o, none⟩ = W.frozen? ⟨b, o, none⟩) :=
  ⟨fun b o h => hb.cell (p := ⟨b, o, none⟩) h, fun b o h => hb.frozen (p := ⟨b, o, none⟩) h⟩
theorem TwoIs.on' {w w1 : World} {g B : Nat} {a0 a1 : Value} (h : TwoIs w g a0 a1) (b : Below B w w1) (hg : g < B) : TwoIs w1 g a0 a1 := by
  obtain ⟨h0, h1, hl⟩ := h
  have hc := (bcell' b).1
  exact ⟨(hc _ _ hg).trans h0, (hc _ _ hg).trans h1, Nat.lt_of_lt_of_le hl b.size⟩
end Go.Proofs.YtdfkehgkonadhaaDoor
