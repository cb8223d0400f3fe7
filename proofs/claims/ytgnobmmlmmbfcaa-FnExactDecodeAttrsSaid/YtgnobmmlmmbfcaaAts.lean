/- The reader in its block: what a call may write; the strict reading step by step. -/
import Derived.Test.YtgnobmmlmmbfcaaAtr
import Derived.Test.YtgnobmmlmmbfcaaAtd
import Derived.Test.YtgnobmmlmmbfcaaApw
import Derived.Test.YtgnobmmlmmbfcaaAnl
namespace Go.Proofs.Ytgnobmmlmmbfcaa
open Go.RowKit
set_option linter.unusedVariables false
set_option maxRecDepth 100000

/-- the box and the row of a reader are the only old blocks that were written -/
structure Kp (g : Nat) (v v' : Value) (w w' : World) : Prop where
  low : Below g w w'
  keep : ∀ b, b < w.heap.size → b ≠ g → v.ownBlock ≠ some b → w'.heap[b]? = w.heap[b]?
  own : ∀ b, v'.ownBlock = some b → v.ownBlock = some b ∨ w.heap.size ≤ b
theorem Kp.refl (g : Nat) (v : Value) (w : World) : Kp g v v w w := ⟨Below.refl _ _, fun _ _ _ _ => rfl, fun _ h => .inl h⟩
theorem Kp.trans {g : Nat} {v v1 v2 : Value} {w w1 w2 : World} (h : Kp g v v1 w w1) (k : Kp g v1 v2 w1 w2) : Kp g v v2 w w2 := by
  refine ⟨h.low.trans k.low, fun b hb hg ho => ?_, fun b hb => ?_⟩
  · refine (k.keep b (Nat.lt_of_lt_of_le hb h.low.size) hg (fun q => ?_)).trans (h.keep b hb hg ho)
    rcases h.own b q with q | q
    · exact ho q
    · omega
  · rcases k.own b hb with q | q
    · exact h.own b q
    · exact .inr (Nat.le_trans h.low.size q)
theorem Kp.call {g : Nat} {v v1 : Value} {w w1 w2 : World} (h : Kp g v v1 w w1) (hg : g < w.heap.size) (b : Below w1.heap.size w1 w2) : Kp g v v1 w w2 :=
  h.trans ⟨b.mono (by have := h.low.size; omega), fun k hk _ _ => b.block k hk, fun _ q => .inl q⟩
theorem Kp.set {g b j : Nat} {v v1 : Value} {w w1 : World} (h : Kp g v v1 w w1) (hg : g < w.heap.size) (hb : b = g ∨ w.heap.size ≤ b) (u : Value) : Kp g v v1 w (w1.setCell ⟨b, j, none⟩ u) := by
  refine ⟨h.low.setCell (show g ≤ b by omega) u, fun k hk hkg ho => ?_, h.own⟩
  rw [Below.heap_setCell _ _ _ _ (show k ≠ b by omega)]
  exact h.keep k hk hkg ho
theorem Kp.grown {g : Nat} {v v1 v2 : Value} {w w1 w2 : World} (h : Kp g v v1 w w1) (hgr : w1.grownBy w2 v1.ownBlock) (hat : ∀ k, v2.ownBlock = some k → v1.ownBlock = some k ∨ w1.heap.size ≤ k) (hl : ∀ k, v1.ownBlock = some k → g ≤ k) (hg : g ≤ w1.heap.size) : Kp g v v2 w w2 :=
  h.trans ⟨(Below.refl g w1).grown hgr hg hl, fun k hk _ ho => hgr.block k hk (fun q => ho q.symm), hat⟩
theorem Kp.below {g B : Nat} {v v' : Value} {w w' : World} (h : Kp g v v' w w') (hB : B ≤ g) : Below B w w' := h.low.mono hB
theorem BoxAt.keep {w w' : World} {b g : Nat} {cs : Array Value} {T : TypeId} {v v' : Value} (h : BoxAt w b cs T) (k : Kp g v v' w w') (hne : b ≠ g) (ho : v.ownBlock ≠ some b) : BoxAt w' b cs T := (k.keep b h.lt hne ho).trans h
theorem BoxAt.grown {w w' : World} {b : Nat} {cs : Array Value} {T : TypeId} {r : Option Nat} (h : BoxAt w b cs T) (k : w.grownBy w' r) (hne : r ≠ some b) : BoxAt w' b cs T := (k.block b h.lt (fun q => hne q.symm)).trans h
theorem BoxAt.other {w : World} {b b' j : Nat} {cs : Array Value} {T : TypeId} (h : BoxAt w b cs T) (hne : b ≠ b') (u : Value) : BoxAt (w.setCell ⟨b', j, none⟩ u) b cs T := (Below.heap_setCell w ⟨b', j, none⟩ u b hne).trans h
theorem BoxAt.set1 {w : World} {b : Nat} {x y : Value} {T : TypeId} (h : BoxAt w b #[x, y] T) (u : Value) : BoxAt (w.setCell ⟨b, 1, none⟩ u) b #[x, u] T := by
  unfold BoxAt at *
  simp [World.setCell, Array.getElem?_modify, h]
theorem own_other {w : World} {B n z b j : Nat} {T : TypeId} {v : Value} {xs : List Value} (h : w.ownsRow B T z v n xs) (hb : v.ownBlock ≠ some b) (u : Value) : (w.setCell ⟨b, j, none⟩ u).ownsRow B T z v n xs :=
  own_onl h (p := some b) (fun k hk => Below.heap_setCell w ⟨b, j, none⟩ u k (fun q => hk (by rw [q]))) (fun k hk q => hb (by rw [hk, ← q]))
/-- what the reader holds -/
def RdrAt (w : World) (g : Nat) (s : ByteArray) (T : TypeId) (v : Value) (out : List At) : Prop := BoxAt w g #[.string s, v] T ∧ OwnA w (g + 1) v out
theorem RdrAt.on {w w' : World} {g : Nat} {s : ByteArray} {T : TypeId} {v : Value} {out : List At} (h : RdrAt w g s T v out) (b : Below w.heap.size w w') : RdrAt w' g s T v out := ⟨h.1.below b, own_low h.2 b (Nat.le_refl _)⟩
theorem RdrAt.set {w : World} {g : Nat} {s : ByteArray} {T : TypeId} {v : Value} {out : List At} (h : RdrAt w g s T v out) {b j : Nat} (hb : b ≠ g) (ho : v.ownBlock ≠ some b) (u : Value) : RdrAt (w.setCell ⟨b, j, none⟩ u) g s T v out := ⟨h.1.other (Ne.symm hb) u, own_other h.2 ho u⟩
theorem RdrAt.lt {w : World} {g : Nat} {s : ByteArray} {T : TypeId} {v : Value} {out : List At} (h : RdrAt w g s T v out) : g < w.heap.size := h.1.lt
/-- an attribute appended, and the row put back into its box -/
theorem RdrAt.app {w w' : World} {g : Nat} {s : ByteArray} {T : TypeId} {v v' : Value} {out : List At} {x : At} (h : RdrAt w g s T v out) (h' : w'.ownsRow (g + 1) 35 4 v' (out.length + 1) (atCs out ++ atC x)) (hgr : w.grownBy w' v.ownBlock) :
    RdrAt (w'.setCell ⟨g, 1, none⟩ v') g s T v' (out ++ [x]) := by
  have hl := World.ownsRow.lt h.2
  have hl' := World.ownsRow.lt h'
  refine ⟨(h.1.grown hgr (fun q => by have := (hl g q).1; omega)).set1 v', own_other ?_ (fun q => by have := (hl' g q).1; omega) v'⟩
  rw [List.length_append, atCs_append, show atCs [x] = atC x by simp [atCs]]
  exact h'
theorem RdrAt.kp {w w' : World} {g : Nat} {s : ByteArray} {T : TypeId} {v v' : Value} {out : List At} (h : RdrAt w g s T v out) (hgr : w.grownBy w' v.ownBlock) (hat : ∀ k, v'.ownBlock = some k → v.ownBlock = some k ∨ w.heap.size ≤ k) :
    Kp g v v' w (w'.setCell ⟨g, 1, none⟩ v') :=
  ((Kp.refl g v w).grown hgr hat (fun k q => by have := (World.ownsRow.lt h.2 k q).1; omega) (by have := h.lt; omega)).set h.lt (.inl rfl) v'
/-! The strict reading, step by step. -/
theorem hd_pos {s : ByteArray} {a : Nat} (h : 4 ≤ rdS s a) : 4 ≤ padA (rdS s a) := by unfold padA; omega
theorem lsF_fuel (s : ByteArray) : ∀ (f f' dp a en : Nat) (out : List At), en - a ≤ f → en - a ≤ f' → lsF s f dp a en out = lsF s f' dp a en out
  | 0, 0, _, _, _, _, _, _ => rfl
  | 0, f' + 1, dp, a, en, out, h, _ => by
    rw [lsF, lsF, if_neg (by omega)]
  | f + 1, 0, dp, a, en, out, _, h => by
    rw [lsF, lsF, if_neg (by omega)]
  | f + 1, f' + 1, dp, a, en, out, h, h' => by
    rw [lsF, lsF]
    by_cases hlt : a < en
    · rw [if_pos hlt, if_pos hlt]
      by_cases hf : 0 < (hdF s out.length dp a en).1
      · rw [if_pos hf, if_pos hf]
      · rw [if_neg hf, if_neg hf]
        obtain ⟨_, _, h4, h5, h6, _, _⟩ := hd_none (show (hdF s out.length dp a en).1 = 0 by omega)
        have hp := hd_pos h5
        have hpd := rd_pad s a
        have e1 : ∀ o, lsF s f dp (a + padA (rdS s a)) en o = lsF s f' dp (a + padA (rdS s a)) en o := fun o => lsF_fuel s f f' dp _ en o (by omega) (by omega)
        have e2 : ∀ o, lsF s f (dp + 1) (a + 4) (a + rdS s a) o = lsF s f' (dp + 1) (a + 4) (a + rdS s a) o := fun o => lsF_fuel s f f' (dp + 1) (a + 4) (a + rdS s a) o (by omega) (by omega)
        rw [e1, e2, e1]
    · rw [if_neg hlt, if_neg hlt]
/-- the reading, with as much fuel as it needs -/
def LS (s : ByteArray) (dp a en : Nat) (out : List At) : List At × (Nat × Nat) := lsF s (en - a) dp a en out
theorem LS_end {s : ByteArray} {dp a en : Nat} {out : List At} (h : ¬ a < en) : LS s dp a en out = (out, (0, 0)) := by
  unfold LS
  rw [show en - a = 0 by omega]
  rfl
theorem LS_bad {s : ByteArray} {dp a en : Nat} {out : List At} {p : Nat × Nat} (h : a < en) (hp : hdF s out.length dp a en = p) (hf : 0 < p.1) : LS s dp a en out = (out, p) := by
  unfold LS
  rw [show en - a = (en - a - 1) + 1 by omega, lsF, if_pos h, hp, if_pos hf]
theorem LS_flat {s : ByteArray} {dp a en : Nat} {out : List At} (h : a < en) (hf : (hdF s out.length dp a en).1 = 0) (hk : rdS s (a + 2) < 32768) :
    LS s dp a en out = LS s dp (a + padA (rdS s a)) en (out ++ [⟨(dp : Int), (rdS s (a + 2) : Int), false, s.extract (a + 4) (a + rdS s a)⟩]) := by
  obtain ⟨_, _, h4, h5, h6, _, _⟩ := hd_none hf
  have hp := hd_pos h5
  unfold LS
  rw [show en - a = (en - a - 1) + 1 by omega, lsF, if_pos h, if_neg (by omega), if_pos hk]
  exact lsF_fuel s _ _ dp _ en _ (by omega) (by omega)
theorem LS_nest {s : ByteArray} {dp a en : Nat} {out : List At} (h : a < en) (hf : (hdF s out.length dp a en).1 = 0) (hk : ¬ rdS s (a + 2) < 32768) {r : List At × (Nat × Nat)}
    (hr : LS s (dp + 1) (a + 4) (a + rdS s a) (out ++ [⟨(dp : Int), (rdS s (a + 2) : Int) - 32768, true, ⟨#[]⟩⟩]) = r) :
    LS s dp a en out = if 0 < r.2.1 then r else LS s dp (a + padA (rdS s a)) en r.1 := by
  obtain ⟨_, _, h4, h5, h6, _, _⟩ := hd_none hf
  have hp := hd_pos h5
  have hpd := rd_pad s a
  unfold LS at *
  rw [show en - a = (en - a - 1) + 1 by omega, lsF, if_pos h, if_neg (by omega), if_neg hk]
  have e1 : ∀ o, lsF s (en - a - 1) dp (a + padA (rdS s a)) en o = lsF s (en - (a + padA (rdS s a))) dp (a + padA (rdS s a)) en o := fun o => lsF_fuel s _ _ dp _ en o (by omega) (by omega)
  have e2 : ∀ o, lsF s (en - a - 1) (dp + 1) (a + 4) (a + rdS s a) o = lsF s (a + rdS s a - (a + 4)) (dp + 1) (a + 4) (a + rdS s a) o := fun o => lsF_fuel s _ _ (dp + 1) (a + 4) (a + rdS s a) o (by omega) (by omega)
  rw [e1, e2, hr]
theorem lsF_len (s : ByteArray) : ∀ (f dp a en : Nat) (out : List At), out.length ≤ 400 → (lsF s f dp a en out).1.length ≤ 400
  | 0, _, _, _, _, h => h
  | f + 1, dp, a, en, out, h => by
    rw [lsF]
    split
    · split
      · exact h
      · rename_i hf
        obtain ⟨_, h2, _⟩ := hd_none (show (hdF s out.length dp a en).1 = 0 by omega)
        have hx : ∀ x : At, (out ++ [x]).length ≤ 400 := fun x => by rw [List.length_append]; simp; omega
        split
        · exact lsF_len s f _ _ _ _ (hx _)
        · split
          · exact lsF_len s f _ _ _ _ (hx _)
          · exact lsF_len s f _ _ _ _ (lsF_len s f _ _ _ _ (hx _))
    · exact h
theorem LS_len {s : ByteArray} {dp a en : Nat} {out : List At} (h : out.length ≤ 400) : (LS s dp a en out).1.length ≤ 400 := lsF_len s _ _ _ _ _ h
theorem dcF_eq (s : ByteArray) : dcF s = if 6000 < s.size then ([], (5, 0)) else (if 0 < (LS s 1 0 s.size []).2.1 then ([], (LS s 1 0 s.size []).2) else LS s 1 0 s.size []) := rfl
/-- the attribute that a flat one is -/
def SaysL (g : Nat) (s : ByteArray) (T : TypeId) (v : Value) (w : World) (R : List At × (Nat × Nat)) (e : Ending) (w' : World) : Prop :=
  e = .returned (fuV R.2) ∧ ∃ v', RdrAt w' g s T v' R.1 ∧ Kp g v v' w w'
end Go.Proofs.Ytgnobmmlmmbfcaa
