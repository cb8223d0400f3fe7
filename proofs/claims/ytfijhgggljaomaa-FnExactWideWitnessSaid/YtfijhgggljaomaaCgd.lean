/- SetLimit, the program's: a copy with one limit changed. -/
import Derived.Test.YtfijhgggljaomaaCgb
import Derived.Test.YtfijhgggljaomaaCgc
namespace Go.Proofs.Ytfijhgggljaomaa
open Go.RowKit
set_option linter.unusedVariables false

def cfg0 : Cfg := ⟨⟨#[]⟩, [], [], 0⟩
def setL (c : Cfg) (k : Nat) (lim : Int) : Cfg := ⟨c.s, c.cs.set k { c.cs.getD k cls0 with l := lim }, c.fs, c.d⟩
def slK (c : Cfg) (id : Int) : Nat := match fnd c.cs id with | .none => 0 | .some k => k
theorem slK_some {c : Cfg} {id : Int} {k : Nat} (h : fnd c.cs id = Option.some k) : slK c id = k := by unfold slK; rw [h]
def resSetLimit2 (c : Cfg) (id lim : Int) : Bool := (goodC c && leafB c.cs id) && goodC (setL c (slK c id) lim)
def resSetLimit1 (c : Cfg) (id lim : Int) : Cfg := if resSetLimit2 c id lim then setL c (slK c id) lim else cfg0
theorem sl_no {c : Cfg} {id : Int} (lim : Int) (h : (goodC c && leafB c.cs id) = false) : resSetLimit1 c id lim = cfg0 ∧ resSetLimit2 c id lim = false := by
  have : resSetLimit2 c id lim = false := by unfold resSetLimit2; rw [h]; rfl
  unfold resSetLimit1; rw [this]; exact ⟨rfl, rfl⟩
theorem sl_yes {c : Cfg} {id lim : Int} {k : Nat} (h : (goodC c && leafB c.cs id) = true) (hf : fnd c.cs id = Option.some k) : resSetLimit1 c id lim = (if goodC (setL c k lim) then setL c k lim else cfg0) ∧ resSetLimit2 c id lim = goodC (setL c k lim) := by
  have : resSetLimit2 c id lim = goodC (setL c k lim) := by unfold resSetLimit2; rw [h, slK_some hf]; rfl
  unfold resSetLimit1; rw [this, slK_some hf]; exact ⟨rfl, rfl⟩
def SaysCB (w : World) (c : Cfg) (b : Bool) (e : Ending) (w' : World) : Prop := ∃ v, e = .returned (.tuple #[v, .bool b]) ∧ OwnCfg w' w.heap.size v c ∧ Below w.heap.size w w'
theorem own_zV (w : World) (B : Nat) : OwnCfg w B zV cfg0 := ⟨.slice none 0 0, .slice none 0 0, rfl, World.ownsRow_nil _ _ _ _, World.ownsRow_nil _ _ _ _, fun g h => by cases h⟩
theorem OwnCfg.st {w : World} {B : Nat} {v : Value} {c : Cfg} (h : OwnCfg w B v c) {p : Addr} (hp : p.block < B) (u : Value) : OwnCfg (w.setCell p u) B v c := by
  obtain ⟨vc, vf, hv, a, b, d⟩ := h
  exact ⟨vc, vf, hv, own_set a hp u, own_set b hp u, d⟩
theorem OwnCfg.base {w : World} {B B' : Nat} {v : Value} {c : Cfg} (h : OwnCfg w B v c) (hB : B' ≤ B) : OwnCfg w B' v c := by
  obtain ⟨vc, vf, hv, a, b, d⟩ := h
  exact ⟨vc, vf, hv, own_base a hB, own_base b hB, d⟩
theorem OwnCfg.on {w w' : World} {B : Nat} {v : Value} {c : Cfg} (h : OwnCfg w B v c) (hb : Below w.heap.size w w') : OwnCfg w' B v c := by
  obtain ⟨vc, vf, hv, a, b, d⟩ := h
  exact ⟨vc, vf, hv, own_low a hb (Nat.le_refl _), own_low b hb (Nat.le_refl _), d⟩
theorem OwnCfg.set4 {w : World} {B g : Nat} {v : Value} {c : Cfg} (h : OwnCfg w B v c) (hg : g < B) (v0 v1 v2 v3 : Value) : OwnCfg ((((w.setCell ⟨g, 0, none⟩ v0).setCell ⟨g, 1, none⟩ v1).setCell ⟨g, 2, none⟩ v2).setCell ⟨g, 3, none⟩ v3) B v c :=
  (((h.st (p := ⟨g, 0, none⟩) hg v0).st (p := ⟨g, 1, none⟩) hg v1).st (p := ⟨g, 2, none⟩) hg v2).st (p := ⟨g, 3, none⟩) hg v3
theorem clsCs_set : ∀ (cs : List Cls) (k : Nat) (lim : Int), k < cs.length → (clsCs cs).set (k * 8 + 7) (.int .i64 lim) = clsCs (cs.set k { cs.getD k cls0 with l := lim })
  | [], k, lim, h => absurd h (by simp)
  | x :: r, 0, lim, _ => by simp [clsCs_cons, clsC]
  | x :: r, k + 1, lim, h => by
    have ih := clsCs_set r k lim (by simpa using h)
    rw [show (k + 1) * 8 + 7 = (k * 8 + 7) + 8 by omega]
    simp only [List.getD_cons_succ, List.set_cons_succ, clsCs_cons, clsC, List.cons_append, List.nil_append]
    rw [ih]
theorem setL_M {c : Cfg} (h : CfgM c) (k : Nat) (lim : Int) : CfgM (setL c k lim) := by
  obtain ⟨a, b, d⟩ := h
  exact ⟨a, by show (c.cs.set k _).length ≤ _; rw [List.length_set]; exact b, d⟩
theorem OwnCfg.lim {w : World} {B g cc : Nat} {s : ByteArray} {cs : List Cls} {fs : List Flt} {vf : Value} {d : Int} (h : OwnCfg w B (.agg #[.string s, .slice (some ⟨g, 0, none⟩) cs.length cc, vf, .int .i64 d]) ⟨s, cs, fs, d⟩) (k : Nat) (hk : k < cs.length) (lim : Int) :
    OwnCfg (w.setCell ⟨g, k * 8 + 7, none⟩ (.int .i64 lim)) B (.agg #[.string s, .slice (some ⟨g, 0, none⟩) cs.length cc, vf, .int .i64 d]) (setL ⟨s, cs, fs, d⟩ k lim) := by
  obtain ⟨vc', vf', hv, a, b, dd⟩ := h
  simp only [Value.agg.injEq, Array.mk.injEq, List.cons.injEq, and_true, true_and] at hv
  obtain ⟨rfl, rfl⟩ := hv
  simp only at a b
  refine ⟨_, _, rfl, ?_, ?_, dd⟩
  · show World.ownsRow _ _ _ _ _ (cs.set k { cs.getD k cls0 with l := lim }).length (clsCs (cs.set k { cs.getD k cls0 with l := lim }))
    rw [List.length_set, ← clsCs_set cs k lim hk]
    exact own_store a _ _
  · exact own_onl b (onl_set (fun _ _ => rfl) _ _) (fun g' h' q => dd g' (by rw [← q]; rfl) h')
theorem Four.on {w w1 : World} {b : Nat} (h : Four w b) (hb : b < w.heap.size) (bb : Below w.heap.size w w1) : Four w1 b := by
  obtain ⟨h0, h1, h2, h3⟩ := h
  refine ⟨?_, ?_, ?_, ?_⟩ <;> rw [(bcell bb).1 _ _ hb] <;> assumption
/-- the box of a result, still empty -/
def Zer (w : World) (b : Nat) : Prop := FourIs w b (.string ⟨#[]⟩) (.slice none 0 0) (.slice none 0 0) (.int .i64 0) ∧ FroB w b
theorem Zer.on {w w1 : World} {b : Nat} (h : Zer w b) (bb : Below w.heap.size w w1) : Zer w1 b := ⟨h.1.on bb, h.2.on bb h.1.2.2.2.2⟩
theorem Zer.set {w : World} {b : Nat} (h : Zer w b) {g j : Nat} (hg : b ≠ g) (v : Value) : Zer (w.setCell ⟨g, j, none⟩ v) b := by
  obtain ⟨⟨h0, h1, h2, h3, hb⟩, hf⟩ := h
  refine ⟨⟨?_, ?_, ?_, ?_, by rw [Go.Deep.nblk_setCell]; exact hb⟩, hf.set _ _⟩ <;> rw [World.cell?_setCell_other _ _ _ _ (by simp)] <;> assumption
theorem Zer.four {w : World} {b : Nat} (h : Zer w b) : Four w b := by
  obtain ⟨⟨h0, h1, h2, h3, hb⟩, hf⟩ := h
  refine ⟨?_, ?_, ?_, ?_⟩ <;> simp only [h0, h1, h2, h3, Option.isSome]
theorem zer_new {w w1 : World} {o : Obj} {t : TypeId} (b : Below ((w.alloc o).alloc (.cells #[.string ⟨#[]⟩, .slice none 0 0, .slice none 0 0, .int .i64 0] t)).heap.size ((w.alloc o).alloc (.cells #[.string ⟨#[]⟩, .slice none 0 0, .slice none 0 0, .int .i64 0] t)) w1) : Zer w1 (w.heap.size + 1) := by
  have h : Zer ((w.alloc o).alloc (.cells #[.string ⟨#[]⟩, .slice none 0 0, .slice none 0 0, .int .i64 0] t)) (w.heap.size + 1) := by
    have := (box_four (Below.refl _ ((w.alloc o).alloc (.cells #[.string ⟨#[]⟩, .slice none 0 0, .slice none 0 0, .int .i64 0] t)))).1
    rw [show (w.alloc o).heap.size = w.heap.size + 1 by simp] at this
    exact ⟨this, by have q := FroB.new (w.alloc o) #[.string ⟨#[]⟩, .slice none 0 0, .slice none 0 0, .int .i64 0] t; rw [show (w.alloc o).heap.size = w.heap.size + 1 by simp] at q; exact q⟩
  exact h.on b
end Go.Proofs.Ytfijhgggljaomaa
