import Derived.Test.YtkpocljlmbihcaaGreatDoorPkg
import Derived.Test.YtkpocljlmbihcaaGreatDoorPkk
import Derived.Deep.RegionHeld3
import Derived.Test.YtkpocljlmbihcaaGreatDoorPkf
import Derived.Lib.SmallJoins
import Derived.Deep.Slices
import Derived.Test.YtkpocljlmbihcaaGreatDoorPkc
/- A region that draws its order and, last of all, writes a cell that it has read: loads are taken first under two conditions on the world, of which the second falls once a marked operation is listed (the append that waits for the load). -/
namespace Go.Proofs.YtkpocljlmbihcaaGreatDoor
set_option maxRecDepth 100000
open Go.RowKit
set_option linter.unusedVariables false

section
variable {P : Program} {ops : Array Oper} {Q : Exit → Act → World → Prop} {md : Region.Mode} {S T : World → Prop} {b : Nat}
/-- S, and T as long as operation b is not listed -/
def Both (S T : World → Prop) (b : Nat) (l : Array Bool) (w : World) : Prop := S w ∧ (l.getD b false = true ∨ T w)
/-- whatever order is picked: behind each operation the two conditions hold -/
def AnyL (P : Program) (md : Region.Mode) (ops : Array Oper) (Q : Exit → Act → World → Prop) (S T : World → Prop) (b : Nat) : Nat → Array Bool → Act → World → Prop
  | 0, l, a, w => Region.ready md ops l = [] ∧ Q .normal a w
  | f + 1, l, a, w => (Region.ready md ops l = [] → Q .normal a w) ∧
    ∀ i ∈ Region.ready md ops l, wpOp P ops Q i (fun a' w' => Both S T b (l.setIfInBounds i true) w' ∧ AnyL P md ops Q S T b f (l.setIfInBounds i true) a' w') a w
theorem AnyL.any : ∀ (f : Nat) (l : Array Bool) (a : Act) (w : World), AnyL P md ops Q S T b f l a w → wpAny P md ops Q f l a w
  | 0, _, _, _, h => h
  | f + 1, _, _, _, h => ⟨h.1, fun i hi => wpOp_mono (fun _ _ k => AnyL.any f _ _ _ k.2) (h.2 i hi)⟩
theorem AnyL.begin {id : Nat} {a : Act} {w : World} (hm : P.follows .mixedOrders = true) (h : AnyL P .any ops Q S T b ops.size (Array.replicate ops.size false) a w.drew) : (Code.region id ops true).wp P Q a w :=
  wp_region_any hm (AnyL.any _ _ _ _ h)
theorem AnyL.done {l : Array Bool} {a : Act} {w : World} (hr : Region.ready md ops l = []) (h : Q .normal a w) : ∀ f, AnyL P md ops Q S T b f l a w
  | 0 => ⟨hr, h⟩
  | _ + 1 => ⟨fun _ => h, fun i hi => by rw [hr] at hi; cases hi⟩
/-- operation b waits for operation i -/
def waitsB (md : Region.Mode) (ops : Array Oper) (b i : Nat) : Bool := match ops[b]? with
  | some ob => ob.after.any (fun e => Region.binds md e && (e.on == i))
  | none => false
/-- what a taken operation leans on: S, or T while b is not listed and waits for it -/
def Leans (S T R : World → Prop) (md : Region.Mode) (ops : Array Oper) (b i : Nat) (l : Array Bool) : Prop :=
  (∀ w, S w → R w) ∨ ((∀ w, T w → R w) ∧ l.getD b false = false ∧ waitsB md ops b i = true)
theorem Leans.at {R : World → Prop} {i : Nat} {l : Array Bool} {w : World} (h : Leans S T R md ops b i l) (hb : Both S T b l w) : R w := by
  rcases h with h | ⟨h, hl, _⟩
  · exact h w hb.1
  · rcases hb.2 with k | k
    · rw [hl] at k; cases k
    · exact h w k
theorem unlisted {l : Array Bool} {i : Nat} (h : l.getD i true = false) : l.getD i false = false := by
  rcases Nat.lt_or_ge i l.size with q | q
  · simp [q] at h ⊢; exact h
  · simp [Array.getElem?_eq_none q]
theorem Leans.next {R : World → Prop} {i j : Nat} {l : Array Bool} (h : Leans S T R md ops b i l) (hi : i ∈ Region.ready md ops l) (hj : j ∈ Region.ready md ops l) : Leans S T R md ops b i (l.setIfInBounds j true) := by
  rcases h with h | ⟨h, hl, hw⟩
  · exact .inl h
  · refine .inr ⟨h, ?_, hw⟩
    have hne : j ≠ b := fun e => by
      subst e
      obtain ⟨_, o, ho, hall⟩ := mem_ready.1 hj
      unfold waitsB at hw
      rw [ho] at hw
      obtain ⟨k, hk, h1, h2⟩ : ∃ e ∈ o.after, Region.binds md e = true ∧ e.on = i := by
        have := Array.any_eq_true.1 hw
        obtain ⟨x, hx, hb⟩ := this
        rw [Bool.and_eq_true, beq_iff_eq] at hb
        exact ⟨_, Array.getElem_mem hx, hb.1, hb.2⟩
      have q := hall k hk h1
      rw [h2, unlisted (mem_ready.1 hi).1] at q
      cases q
    rw [getD_set_ne false hne]
    exact hl
theorem AnyL.first {R : World → Prop} {i : Nat} {oi : Oper} {v : Value} (hi : ops[i]? = Option.some oi) (hsel : ∀ (j : Nat) (o : Oper) cs x, ops[j]? = some o → o.op ≠ .select cs x) (hib : i ≠ b)
    (hQ : ∀ c a w, Q (.panic c) (a.put oi.dst v) w → Q (.panic c) a w) : ∀ (f : Nat) (l : Array Bool) (a : Act) (w : World),
      (∀ j oj, ops[j]? = some oj → j ≠ i → l.getD j true = false → (∀ e ∈ oj.after, Region.binds md e = true → e.on ≠ i) → oi.apart ops oj = true) →
      i ∈ Region.ready md ops l → YieldsIf P ops R oi v a → Both S T b l w → Leans S T R md ops b i l →
      AnyL P md ops Q S T b f (l.setIfInBounds i true) (a.put oi.dst v) w → AnyL P md ops Q S T b (f + 1) l a w
  | f, l, a, w, hfree, hr, hy, hB, hL, H => by
    refine ⟨fun e => absurd hr (by rw [e]; exact List.not_mem_nil), fun j hj => ?_⟩
    by_cases hji : j = i
    · rw [hji]
      refine hy.wpOp hi (hL.at hB) ⟨⟨hB.1, hB.2.imp (fun q => getD_set_true q) id⟩, H⟩
    · match f, H with
      | 0, H => exact absurd (ready_mono hj hji) (by rw [H.1]; exact List.not_mem_nil)
      | f + 1, H =>
        obtain ⟨hu, oj, hoj, hall⟩ := mem_ready.1 hj
        have hno : ∀ e ∈ oj.after, Region.binds md e = true → e.on ≠ i := fun e he hb q => by
          have k := hall e he hb
          rw [q, unlisted (mem_ready.1 hr).1] at k
          cases k
        have h2 := wpOp_putIf hoj (hfree j oj hoj hji hu hno) (fun cs x => hsel i oi cs x hi) (fun cs x => hsel j oj cs x hoj) hQ hy (H.2 j (ready_mono hj hji))
        refine wpOp_mono (fun a' w' k => ?_) h2
        obtain ⟨k1, ⟨k2, k3⟩, k4⟩ := k
        rw [Array.setIfInBounds_comm _ _ (Ne.symm hji)] at k3 k4
        rw [getD_set_ne false hib] at k3
        refine ⟨⟨k2, k3⟩, AnyL.first hi hsel hib hQ f _ a' w' (fun p op hp hpi hun hn => ?_) (ready_mono hr (Ne.symm hji)) k1 ⟨k2, k3⟩ (hL.next hr hj) k4⟩
        refine hfree p op hp hpi ?_ hn
        by_cases hjp : j = p
        · rw [← hjp]; exact hu
        · rw [getD_set_ne true hjp] at hun; exact hun
/-- taken first, under S -/
theorem AnyL.takeS {i d : Nat} {oi : Oper} {v : Value} {f : Nat} {l : Array Bool} {a : Act} {w : World} (hi : ops[i]? = Option.some oi) (hd : oi.dst = Option.some d) (hs : Region.noSelect ops = true) (hf : Region.free md ops l i = true) (hr : (Region.ready md ops l).contains i = true) (hib : i ≠ b)
    (hQ : ∀ c a w, Q (.panic c) (a.put oi.dst v) w → Q (.panic c) a w) (hw : Region.wanted oi (yielded ops a.tmps) = true) (hB : Both S T b l w) (hv : ∀ w, S w → (execOp a.eval oi).run P w = .ok (.value v) w)
    (h : AnyL P md ops Q S T b f (l.setIfInBounds i true) (a.put (Option.some d) v) w) : AnyL P md ops Q S T b (f + 1) l a w :=
  AnyL.first (R := S) hi (Region.noSelect_spec hs) hib hQ f l a w (Region.free_spec hi hf) (by simpa using hr) (.inl ⟨hw, hv⟩) hB (.inl fun _ q => q) (by rw [hd]; exact h)
/-- taken first, under T, by an operation for which b waits -/
theorem AnyL.takeT {i d : Nat} {oi : Oper} {v : Value} {f : Nat} {l : Array Bool} {a : Act} {w : World} (hi : ops[i]? = Option.some oi) (hd : oi.dst = Option.some d) (hs : Region.noSelect ops = true) (hf : Region.free md ops l i = true) (hr : (Region.ready md ops l).contains i = true) (hib : i ≠ b)
    (hlb : l.getD b false = false) (hwb : waitsB md ops b i = true)
    (hQ : ∀ c a w, Q (.panic c) (a.put oi.dst v) w → Q (.panic c) a w) (hw : Region.wanted oi (yielded ops a.tmps) = true) (hB : Both S T b l w) (hv : ∀ w, T w → (execOp a.eval oi).run P w = .ok (.value v) w)
    (h : AnyL P md ops Q S T b f (l.setIfInBounds i true) (a.put (Option.some d) v) w) : AnyL P md ops Q S T b (f + 1) l a w :=
  AnyL.first (R := T) hi (Region.noSelect_spec hs) hib hQ f l a w (Region.free_spec hi hf) (by simpa using hr) (.inl ⟨hw, hv⟩) hB (.inr ⟨fun _ q => q, hlb, hwb⟩) (by rw [hd]; exact h)
def AllL (P : Program) (md : Region.Mode) (ops : Array Oper) (Q : Exit → Act → World → Prop) (S T : World → Prop) (b f : Nat) (l : Array Bool) (a : Act) (w : World) (rs : List Nat) : Prop :=
  ∀ i ∈ rs, wpOp P ops Q i (fun a' w' => Both S T b (l.setIfInBounds i true) w' ∧ AnyL P md ops Q S T b f (l.setIfInBounds i true) a' w') a w
theorem AllL.nil {f : Nat} {l : Array Bool} {a : Act} {w : World} : AllL P md ops Q S T b f l a w [] := fun _ h => by cases h
theorem AllL.cons {f : Nat} {l : Array Bool} {a : Act} {w : World} {i : Nat} {o : Oper} {rs : List Nat} (ho : ops[i]? = Option.some o)
    (h : ∀ K' : Act → World → Prop, Shut (∀ a w, Both S T b (l.setIfInBounds i true) w → AnyL P md ops Q S T b f (l.setIfInBounds i true) a w → K' a w) → if Region.wanted o (yielded ops a.tmps) = true then Oper.wp P o a w K' Q else K' (a.put o.dst undef) w)
    (hs : AllL P md ops Q S T b f l a w rs) : AllL P md ops Q S T b f l a w (i :: rs) := fun j hj => by
  rcases List.mem_cons.1 hj with e | hj
  · rw [e]
    exact wpOp_step ho (fun K' hK => h K' (fun a w hS hW => hK a w ⟨hS, hW⟩))
  · exact hs j hj
theorem AnyL.ready {rs : List Nat} {f : Nat} {l : Array Bool} {a : Act} {w : World} (hr : Region.ready md ops l = rs) (hne : rs ≠ []) (h : AllL P md ops Q S T b f l a w rs) : AnyL P md ops Q S T b (f + 1) l a w :=
  ⟨fun h0 => absurd (hr ▸ h0) hne, hr ▸ h⟩
/-! The moves, with the two conditions apart. -/
theorem both_of {l : Array Bool} {w : World} (h : S w ∧ T w) : Both S T b l w := ⟨h.1, .inr h.2⟩
theorem AnyL.tS {i d : Nat} {oi : Oper} {v : Value} {f : Nat} {l : Array Bool} {a : Act} {w : World} (hi : ops[i]? = Option.some oi) (hd : oi.dst = Option.some d) (hs : Region.noSelect ops = true) (hf : Region.free md ops l i = true) (hr : (Region.ready md ops l).contains i = true) (hib : i ≠ b)
    (hQ : ∀ c a w, Q (.panic c) (a.put oi.dst v) w → Q (.panic c) a w) (hw : Region.wanted oi (yielded ops a.tmps) = true) (hv : ∀ w, S w → (execOp a.eval oi).run P w = .ok (.value v) w) (hB : S w ∧ T w)
    (h : AnyL P md ops Q S T b f (l.setIfInBounds i true) (a.put (Option.some d) v) w) : AnyL P md ops Q S T b (f + 1) l a w :=
  AnyL.takeS hi hd hs hf hr hib hQ hw (both_of hB) hv h
theorem AnyL.tT {i d : Nat} {oi : Oper} {v : Value} {f : Nat} {l : Array Bool} {a : Act} {w : World} (hi : ops[i]? = Option.some oi) (hd : oi.dst = Option.some d) (hs : Region.noSelect ops = true) (hf : Region.free md ops l i = true) (hr : (Region.ready md ops l).contains i = true) (hib : i ≠ b)
    (hlb : l.getD b false = false) (hwb : waitsB md ops b i = true)
    (hQ : ∀ c a w, Q (.panic c) (a.put oi.dst v) w → Q (.panic c) a w) (hw : Region.wanted oi (yielded ops a.tmps) = true) (hv : ∀ w, T w → (execOp a.eval oi).run P w = .ok (.value v) w) (hB : S w ∧ T w)
    (h : AnyL P md ops Q S T b f (l.setIfInBounds i true) (a.put (Option.some d) v) w) : AnyL P md ops Q S T b (f + 1) l a w :=
  AnyL.takeT hi hd hs hf hr hib hlb hwb hQ hw (both_of hB) hv h
/-- an operation other than b, ahead of it -/
theorem AllL.consN {f : Nat} {l : Array Bool} {a : Act} {w : World} {i : Nat} {o : Oper} {rs : List Nat} (ho : ops[i]? = Option.some o)
    (h : ∀ K' : Act → World → Prop, Shut (∀ a w, (S w ∧ T w) → (S w ∧ T w → AnyL P md ops Q S T b f (l.setIfInBounds i true) a w) → K' a w) → if Region.wanted o (yielded ops a.tmps) = true then Oper.wp P o a w K' Q else K' (a.put o.dst undef) w)
    (hs : AllL P md ops Q S T b f l a w rs) : AllL P md ops Q S T b f l a w (i :: rs) :=
  AllL.cons ho (fun K' hK => h K' (fun a w hST hW => hK.out a w (both_of hST) (hW hST))) hs
/-- operation b, and what comes behind it -/
theorem AllL.consB {f : Nat} {l : Array Bool} {a : Act} {w : World} {i : Nat} {o : Oper} {rs : List Nat} (ho : ops[i]? = Option.some o) (hl : (l.setIfInBounds i true).getD b false = true)
    (h : ∀ K' : Act → World → Prop, Shut (∀ a w, S w → AnyL P md ops Q S T b f (l.setIfInBounds i true) a w → K' a w) → if Region.wanted o (yielded ops a.tmps) = true then Oper.wp P o a w K' Q else K' (a.put o.dst undef) w)
    (hs : AllL P md ops Q S T b f l a w rs) : AllL P md ops Q S T b f l a w (i :: rs) :=
  AllL.cons ho (fun K' hK => h K' (fun a w hS hW => hK.out a w ⟨hS, .inl hl⟩ hW)) hs
/-- taken behind b, in whatever world -/
theorem AnyL.tE {i d : Nat} {oi : Oper} {v : Value} {f : Nat} {l : Array Bool} {a : Act} {w : World} (hi : ops[i]? = Option.some oi) (hd : oi.dst = Option.some d) (hs : Region.noSelect ops = true) (hf : Region.free md ops l i = true) (hr : (Region.ready md ops l).contains i = true) (hib : i ≠ b) (hl : l.getD b false = true)
    (hQ : ∀ c a w, Q (.panic c) (a.put oi.dst v) w → Q (.panic c) a w) (hw : Region.wanted oi (yielded ops a.tmps) = true) (hv : ∀ w, S w → (execOp a.eval oi).run P w = .ok (.value v) w) (hB : S w)
    (h : AnyL P md ops Q S T b f (l.setIfInBounds i true) (a.put (Option.some d) v) w) : AnyL P md ops Q S T b (f + 1) l a w :=
  AnyL.takeS hi hd hs hf hr hib hQ hw ⟨hB, .inl hl⟩ hv h
end
end Go.Proofs.YtkpocljlmbihcaaGreatDoor

/- Canonical texts, the program's: the printer in its block; a line written (written by tools/gen_prv.py). -/
namespace Go.Proofs.YtkpocljlmbihcaaGreatDoor
set_option maxRecDepth 100000
open Go.RowKit
set_option linter.unusedVariables false
set_option linter.unusedSimpArgs false

/-! The printer in its block. -/
def spL (Sp : Nat → Nat × Nat) : List Value := (List.range 48).map (fun j => .int .i64 ((if j % 2 = 0 then (Sp (j / 2)).1 else (Sp (j / 2)).2 : Nat) : Int))
theorem spL_length (Sp : Nat → Nat × Nat) : (spL Sp).length = 48 := by simp [spL]
theorem spL_get (Sp : Nat → Nat × Nat) (j : Nat) (h : j < 48) : (spL Sp)[j]? = some (.int .i64 ((if j % 2 = 0 then (Sp (j / 2)).1 else (Sp (j / 2)).2 : Nat) : Int)) := by simp [spL, h]
theorem spL_even (Sp : Nat → Nat × Nat) (i : Nat) (h : i < 24) : (spL Sp)[i * 2]? = some (.int .i64 ((Sp i).1 : Int)) := by
  rw [spL_get _ _ (by omega), if_pos (by omega), show i * 2 / 2 = i by omega]
theorem spL_odd (Sp : Nat → Nat × Nat) (i : Nat) (h : i < 24) : (spL Sp)[i * 2 + 1]? = some (.int .i64 ((Sp i).2 : Int)) := by
  rw [spL_get _ _ (by omega), if_neg (by omega), show (i * 2 + 1) / 2 = i by omega]
def spSet (Sp : Nat → Nat × Nat) (i a b : Nat) : Nat → Nat × Nat := fun j => if j = i then (a, b) else Sp j
theorem spL_set (Sp : Nat → Nat × Nat) (i a b : Nat) (h : i < 24) : ((spL Sp).set (i * 2) (.int .i64 (a : Int))).set (i * 2 + 1) (.int .i64 (b : Int)) = spL (spSet Sp i a b) := by
  apply List.ext_getElem?
  intro j
  by_cases hj : j < 48
  · rw [spL_get _ _ hj]
    by_cases h1 : j = i * 2 + 1
    · subst h1
      rw [List.getElem?_set_self (by rw [List.length_set, spL_length]; exact hj), if_neg (by omega), show (i * 2 + 1) / 2 = i by omega]
      simp [spSet]
    · rw [List.getElem?_set_ne (by omega)]
      by_cases h2 : j = i * 2
      · subst h2
        rw [List.getElem?_set_self (by rw [spL_length]; exact hj), if_pos (by omega), show i * 2 / 2 = i by omega]
        simp [spSet]
      · rw [List.getElem?_set_ne (by omega), spL_get _ _ hj]
        have : j / 2 ≠ i := by omega
        simp [spSet, this]
  · rw [List.getElem?_eq_none (by rw [List.length_set, List.length_set, spL_length]; omega), List.getElem?_eq_none (by rw [spL_length]; omega)]
def pX (v0 v1 v2 v3 lv wv : Value) (Sp : Nat → Nat × Nat) : List Value := v0 :: v1 :: v2 :: v3 :: lv :: wv :: spL Sp
theorem pX_length (v0 v1 v2 v3 lv wv : Value) (Sp : Nat → Nat × Nat) : (pX v0 v1 v2 v3 lv wv Sp).length = 54 := by simp [pX, spL_length]
/-- the printer -/
def PrV (w : World) (g : Nat) (v0 v1 v2 v3 lv wv : Value) (Sp : Nat → Nat × Nat) : Prop := w.heap[g]? = some (.cells (pX v0 v1 v2 v3 lv wv Sp).toArray 58 (0, 0))
theorem PrV.lt {w : World} {g : Nat} {v0 v1 v2 v3 lv wv : Value} {Sp : Nat → Nat × Nat} (h : PrV w g v0 v1 v2 v3 lv wv Sp) : g < w.heap.size := by
  rcases Nat.lt_or_ge g w.heap.size with q | q
  · exact q
  · unfold PrV at h
    rw [Array.getElem?_eq_none q] at h
    cases h
theorem PrV.cell {w : World} {g : Nat} {v0 v1 v2 v3 lv wv : Value} {Sp : Nat → Nat × Nat} (h : PrV w g v0 v1 v2 v3 lv wv Sp) (j : Nat) : w.cell? ⟨g, j, none⟩ = (pX v0 v1 v2 v3 lv wv Sp)[j]? := by
  rw [cell_of_row w g j _ _ (0, 0) h]; simp
theorem PrV.cells {w : World} {g : Nat} {v0 v1 v2 v3 lv wv : Value} {Sp : Nat → Nat × Nat} (h : PrV w g v0 v1 v2 v3 lv wv Sp) :
    w.cell? ⟨g, 0, none⟩ = some v0 ∧ w.cell? ⟨g, 1, none⟩ = some v1 ∧ w.cell? ⟨g, 2, none⟩ = some v2 ∧ w.cell? ⟨g, 3, none⟩ = some v3 ∧ w.cell? ⟨g, 4, none⟩ = some lv ∧ w.cell? ⟨g, 5, none⟩ = some wv ∧ (∀ o, w.frozen? ⟨g, o, none⟩ = false) :=
  ⟨by rw [h.cell]; rfl, by rw [h.cell]; rfl, by rw [h.cell]; rfl, by rw [h.cell]; rfl, by rw [h.cell]; rfl, by rw [h.cell]; rfl, fun o => frozen_of_row w g o _ _ h⟩
theorem PrV.span {w : World} {g : Nat} {v0 v1 v2 v3 lv wv : Value} {Sp : Nat → Nat × Nat} (h : PrV w g v0 v1 v2 v3 lv wv Sp) (i : Nat) (hi : i < 24) : w.cell? ⟨g, 6 + i * 2, none⟩ = some (.int .i64 ((Sp i).1 : Int)) ∧ w.cell? ⟨g, 6 + i * 2 + 1, none⟩ = some (.int .i64 ((Sp i).2 : Int)) := by
  refine ⟨?_, ?_⟩
  · rw [h.cell, show 6 + i * 2 = i * 2 + 6 by omega]
    exact spL_even Sp i hi
  · rw [h.cell, show 6 + i * 2 + 1 = (i * 2 + 1) + 6 by omega]
    exact spL_odd Sp i hi
theorem PrV.same {w w' : World} {g : Nat} {v0 v1 v2 v3 lv wv : Value} {Sp : Nat → Nat × Nat} (h : PrV w g v0 v1 v2 v3 lv wv Sp) (hb : w'.heap[g]? = w.heap[g]?) : PrV w' g v0 v1 v2 v3 lv wv Sp := hb.trans h
theorem PrV.setL {w : World} {g : Nat} {v0 v1 v2 v3 lv wv : Value} {Sp : Nat → Nat × Nat} (h : PrV w g v0 v1 v2 v3 lv wv Sp) (u : Value) : PrV (w.setCell ⟨g, 4, none⟩ u) g v0 v1 v2 v3 u wv Sp := by
  have := heap_setCell_same w g 4 _ _ u h
  unfold PrV
  rw [this]
  simp [pX]
theorem PrV.setW {w : World} {g : Nat} {v0 v1 v2 v3 lv wv : Value} {Sp : Nat → Nat × Nat} (h : PrV w g v0 v1 v2 v3 lv wv Sp) (u : Value) : PrV (w.setCell ⟨g, 5, none⟩ u) g v0 v1 v2 v3 lv u Sp := by
  have := heap_setCell_same w g 5 _ _ u h
  unfold PrV
  rw [this]
  simp [pX]
theorem spL_set_pX (v0 v1 v2 v3 lv wv : Value) (Sp : Nat → Nat × Nat) (i a b : Nat) (hi : i < 24) : ((pX v0 v1 v2 v3 lv wv Sp).set (6 + i * 2) (.int .i64 (a : Int))).set (6 + i * 2 + 1) (.int .i64 (b : Int)) = pX v0 v1 v2 v3 lv wv (spSet Sp i a b) := by
  unfold pX
  rw [← spL_set Sp i a b hi, show 6 + i * 2 = i * 2 + 6 by omega, show i * 2 + 6 + 1 = (i * 2 + 1) + 6 by omega]
  simp only [List.set_cons_succ]
theorem PrV.setS {w : World} {g : Nat} {v0 v1 v2 v3 lv wv : Value} {Sp : Nat → Nat × Nat} (h : PrV w g v0 v1 v2 v3 lv wv Sp) (i a b : Nat) (hi : i < 24) : PrV ((w.setCell ⟨g, 6 + i * 2, none⟩ (.int .i64 (a : Int))).setCell ⟨g, 6 + i * 2 + 1, none⟩ (.int .i64 (b : Int))) g v0 v1 v2 v3 lv wv (spSet Sp i a b) := by
  have h1 := heap_setCell_same w g (6 + i * 2) _ _ (.int .i64 (a : Int)) h
  have h2 := heap_setCell_same _ g (6 + i * 2 + 1) _ _ (.int .i64 (b : Int)) h1
  unfold PrV
  rw [h2, ← spL_set_pX v0 v1 v2 v3 lv wv Sp i a b hi]
  simp
/-- the printer and its lists -/
def PrS (w : World) (g : Nat) (v0 v1 v2 v3 lv wv : Value) (L : List ByteArray) (W : List Nat) (Sp : Nat → Nat × Nat) : Prop :=
  PrV w g v0 v1 v2 v3 lv wv Sp ∧ w.ownsRow (g + 1) 9 1 lv L.length (sv L) ∧ w.ownsRow (g + 1) 3 1 wv W.length (nv W) ∧ ∀ k, lv.ownBlock = some k → wv.ownBlock ≠ some k
theorem PrS.below {w w' : World} {g : Nat} {v0 v1 v2 v3 lv wv : Value} {L : List ByteArray} {W : List Nat} {Sp : Nat → Nat × Nat} (h : PrS w g v0 v1 v2 v3 lv wv L W Sp) (b : Below w.heap.size w w') : PrS w' g v0 v1 v2 v3 lv wv L W Sp :=
  ⟨h.1.same (b.block g h.1.lt), own_low h.2.1 b (Nat.le_refl _), own_low h.2.2.1 b (Nat.le_refl _), h.2.2.2⟩
theorem PrS.lt {w : World} {g : Nat} {v0 v1 v2 v3 lv wv : Value} {L : List ByteArray} {W : List Nat} {Sp : Nat → Nat × Nat} (h : PrS w g v0 v1 v2 v3 lv wv L W Sp) : g < w.heap.size := h.1.lt
/-- nothing below a block was written, and nothing behind it but a row and what is new -/
def KeepB (g : Nat) (row : Option Nat) (w w' : World) : Prop := Below g w w' ∧ ∀ k, g < k → k < w.heap.size → row ≠ some k → w'.heap[k]? = w.heap[k]?
theorem sv_append (a b : List ByteArray) : sv (a ++ b) = sv a ++ sv b := by simp [sv]
theorem own_hp {w w' : World} {B n z : Nat} {T : TypeId} {v : Value} {xs : List Value} (h : w.ownsRow B T z v n xs) (ho : ∀ k, v.ownBlock = some k → w'.heap[k]? = w.heap[k]?) : w'.ownsRow B T z v n xs := own_heap h ho
/-- a line put behind the others -/
theorem PrS.snocL {w w1 w2 : World} {g : Nat} {v0 v1 v2 v3 lv wv lv' : Value} {L : List ByteArray} {W : List Nat} {Sp : Nat → Nat × Nat} {x : ByteArray} (h : PrS w g v0 v1 v2 v3 lv wv L W Sp) (b : Below w.heap.size w w1)
    (ho : w2.ownsRow (g + 1) 9 1 lv' (L.length + 1) (sv L ++ [.string x])) (hg : w1.grownBy w2 lv.ownBlock) (hat : ∀ k, lv'.ownBlock = some k → lv.ownBlock = some k ∨ w1.heap.size ≤ k) :
    PrS (w2.setCell ⟨g, 4, none⟩ lv') g v0 v1 v2 v3 lv' wv (L ++ [x]) W Sp ∧ KeepB g lv.ownBlock w (w2.setCell ⟨g, 4, none⟩ lv') ∧ w2.cell? ⟨g, 4, none⟩ = some lv ∧ w2.frozen? ⟨g, 4, none⟩ = false := by
  have h1 := h.below b
  have hgl := h1.lt
  have hlb := fun k hk => World.ownsRow.lt h1.2.1 k hk
  have hwb := fun k hk => World.ownsRow.lt h1.2.2.1 k hk
  have hlo := fun k hk => World.ownsRow.lt h.2.1 k hk
  have hgb : w2.heap[g]? = w1.heap[g]? := hg.block g hgl (fun e => by have := (hlb g e.symm).1; omega)
  have hv2 := h1.1.same hgb
  have hset : ∀ k, k ≠ g → (w2.setCell ⟨g, 4, none⟩ lv').heap[k]? = w2.heap[k]? := fun k hk => heap_setCell_other w2 ⟨g, 4, none⟩ k lv' (fun e => hk e)
  refine ⟨⟨hv2.setL lv', ?_, ?_, fun k hk hw => ?_⟩, ⟨?_, ?_⟩, hv2.cells.2.2.2.2.1, hv2.cells.2.2.2.2.2.2 4⟩
  · rw [List.length_append, sv_append]
    exact own_hp ho (fun k hk => hset k (fun e => by have := (World.ownsRow.lt ho k hk).1; omega))
  · refine own_hp h1.2.2.1 (fun k hk => ?_)
    rw [hset k (fun e => by have := (hwb k hk).1; omega)]
    exact hg.block k (hwb k hk).2 (fun e => h.2.2.2 k e.symm hk)
  · rcases hat k hk with e | e
    · exact h.2.2.2 k e hw
    · have := (hwb k hw).2; omega
  · exact ((b.mono (Nat.le_of_lt h.lt)).grown hg (Nat.le_of_lt hgl) (fun k hk => by have := (hlb k hk).1; omega)).setCell (Nat.le_refl g) _
  · intro k hgk hks hne
    rw [hset k (by omega), hg.block k (Nat.lt_of_lt_of_le hks b.size) (fun e => hne e.symm), b.block k hks]
/-- an index put behind the others -/
theorem PrS.snocW {w w1 w2 : World} {g : Nat} {v0 v1 v2 v3 lv wv wv' : Value} {L : List ByteArray} {W : List Nat} {Sp : Nat → Nat × Nat} {x : Nat} (h : PrS w g v0 v1 v2 v3 lv wv L W Sp) (b : Below w.heap.size w w1)
    (ho : w2.ownsRow (g + 1) 3 1 wv' (W.length + 1) (nv W ++ [.int .i64 (x : Int)])) (hg : w1.grownBy w2 wv.ownBlock) (hat : ∀ k, wv'.ownBlock = some k → wv.ownBlock = some k ∨ w1.heap.size ≤ k) :
    PrS (w2.setCell ⟨g, 5, none⟩ wv') g v0 v1 v2 v3 lv wv' L (W ++ [x]) Sp ∧ KeepB g wv.ownBlock w (w2.setCell ⟨g, 5, none⟩ wv') ∧ w2.cell? ⟨g, 5, none⟩ = some wv ∧ w2.frozen? ⟨g, 5, none⟩ = false := by
  have h1 := h.below b
  have hgl := h1.lt
  have hlb := fun k hk => World.ownsRow.lt h1.2.2.1 k hk
  have hwb := fun k hk => World.ownsRow.lt h1.2.1 k hk
  have hgb : w2.heap[g]? = w1.heap[g]? := hg.block g hgl (fun e => by have := (hlb g e.symm).1; omega)
  have hv2 := h1.1.same hgb
  have hset : ∀ k, k ≠ g → (w2.setCell ⟨g, 5, none⟩ wv').heap[k]? = w2.heap[k]? := fun k hk => heap_setCell_other w2 ⟨g, 5, none⟩ k wv' (fun e => hk e)
  refine ⟨⟨hv2.setW wv', ?_, ?_, fun k hk hw => ?_⟩, ⟨?_, ?_⟩, hv2.cells.2.2.2.2.2.1, hv2.cells.2.2.2.2.2.2 5⟩
  · refine own_hp h1.2.1 (fun k hk => ?_)
    rw [hset k (fun e => by have := (hwb k hk).1; omega)]
    exact hg.block k (hwb k hk).2 (fun e => h.2.2.2 k hk e.symm)
  · rw [List.length_append, nv_snoc]
    exact own_hp ho (fun k hk => hset k (fun e => by have := (World.ownsRow.lt ho k hk).1; omega))
  · rcases hat k hw with e | e
    · exact h.2.2.2 k hk e
    · have := (hwb k hk).2; omega
  · exact ((b.mono (Nat.le_of_lt h.lt)).grown hg (Nat.le_of_lt hgl) (fun k hk => by have := (hlb k hk).1; omega)).setCell (Nat.le_refl g) _
  · intro k hgk hks hne
    rw [hset k (by omega), hg.block k (Nat.lt_of_lt_of_le hks b.size) (fun e => hne e.symm), b.block k hks]
/-- what writing a line says -/
def SaysL (w : World) (g : Nat) (v0 v1 v2 v3 lv wv : Value) (L : List ByteArray) (W : List Nat) (Sp : Nat → Nat × Nat) (e : Ending) (w' : World) : Prop :=
  e = .returned (.tuple #[]) ∧ ∃ lv', PrS w' g v0 v1 v2 v3 lv' wv L W Sp ∧ KeepB g lv.ownBlock w w'
theorem one_cell (w : World) (v : Value) (t : TypeId) : ∀ j u, [v][j]? = some u → (w.alloc (.cells #[v] t)).cell? ((⟨w.heap.size, 0, none⟩ : Addr).add j) = some u := one_int w v t
set_option maxHeartbeats 6400000 in
theorem writeLine_any (g l : Nat) (t : ByteArray) (v0 v1 v2 v3 lv wv : Value) (L : List ByteArray) (W : List Nat) (Sp : Nat → Nat × Nat) (w : World) (HP : Hid (PrS w g v0 v1 v2 v3 lv wv L W Sp)) (hl : l ≤ 100) (hL : L.length ≤ 3000000) (ht : t.size ≤ 10000000) :
    Calls Tryz.prog 79 #[.pointer (some ⟨g, 0, none⟩), .int .i64 (l : Int), .string t] w (SaysL w g v0 v1 v2 v3 lv wv (L ++ [indS l ++ t ++ ⟨#[10]⟩]) W Sp) := by
  obtain ⟨i0, hi, hz0, hz1, hz2⟩ := info_parts infoStr
  have HRP : Hid (∀ w, Calls Tryz.prog 103 #[.string ⟨#[32, 32]⟩, .int .i64 (l : Int)] w (SaysV w (.string (indS l)))) := Lib.hid (fun w => Tryz.strings_Repeat ⟨#[32, 32]⟩ l w (by omega) (by rw [show (⟨#[32, 32]⟩ : ByteArray).size = 2 from rfl]; omega))
  have his := indS_size l
  have hil : (indS l).size ≤ 200 := by omega
  generalize indS l = ii at HRP hil ⊢
  have k1 : ¬ (9223372036854775807 < ii.size + t.size) := by omega
  have k2 : ¬ (9223372036854775807 < ii.size + t.size + 1) := by omega
  obtain ⟨x, hx⟩ : ∃ x, ii ++ t ++ ⟨#[10]⟩ = x := ⟨_, rfl⟩
  have HX := Lib.hid hx
  rw [hx]
  have hgl := HP.out.lt
  have HD := Lib.hid (HP.out.below (below_drewN (Below.refl w.heap.size w) 1))
  have hbd : Below w.heap.size w w.drew := below_drewN (Below.refl w.heap.size w) 1
  have HBD := Lib.hid hbd
  clear his hx hbd
  go_enter Tryz.func79, Tryz.ntmps79
  go_wp2_with fail
  refine AnyL.begin (S := fun _ => True) (T := fun w' => w'.cell? ⟨g, 4, none⟩ = some lv) (b := 14) (by kernel_rfl) ?_
  have HDd : Hid (PrS w.drew g v0 v1 v2 v3 lv wv L W Sp) := HD
  obtain ⟨u0, hu0⟩ : ∃ u0, w.drew = u0 := ⟨_, rfl⟩
  rw [show World.drewN w 1 = u0 from hu0] at HD
  rw [hu0] at HBD HDd ⊢
  have hg0 : g < u0.heap.size := HDd.out.lt
  have hB := And.intro trivial HDd.out.1.cells.2.2.2.2.1
  clear hu0
  refine AnyL.tS (i := 0) (d := 6) (v := ?_) rfl rfl (by kernel_rfl) (by kernel_rfl) (by kernel_rfl) (by decide) (fun _ _ _ h => h) (by rfl) ?_ (by assumption) ?_
  rotate_left
  · intro w' hSw
    (try dsimp only at hSw)
    go_simp
    try with_reducible rfl
  try simp only [Act.put, List.setIfInBounds_toArray, List.set_cons_zero, List.set_cons_succ]
  refine AnyL.tS (i := 1) (d := 7) (v := ?_) rfl rfl (by kernel_rfl) (by kernel_rfl) (by kernel_rfl) (by decide) (fun _ _ _ h => h) (by rfl) ?_ (by assumption) ?_
  rotate_left
  · intro w' hSw
    (try dsimp only at hSw)
    go_simp
    try with_reducible rfl
  try simp only [Act.put, List.setIfInBounds_toArray, List.set_cons_zero, List.set_cons_succ]
  refine AnyL.tS (i := 2) (d := 8) (v := ?_) rfl rfl (by kernel_rfl) (by kernel_rfl) (by kernel_rfl) (by decide) (fun _ _ _ h => h) (by rfl) ?_ (by assumption) ?_
  rotate_left
  · intro w' hSw
    (try dsimp only at hSw)
    go_simp
    try with_reducible rfl
  try simp only [Act.put, List.setIfInBounds_toArray, List.set_cons_zero, List.set_cons_succ]
  refine AnyL.tS (i := 3) (d := 9) (v := ?_) rfl rfl (by kernel_rfl) (by kernel_rfl) (by kernel_rfl) (by decide) (fun _ _ _ h => h) (by rfl) ?_ (by assumption) ?_
  rotate_left
  · intro w' hSw
    (try dsimp only at hSw)
    go_simp
    try with_reducible rfl
  try simp only [Act.put, List.setIfInBounds_toArray, List.set_cons_zero, List.set_cons_succ]
  refine AnyL.tT (i := 4) (d := 10) (v := ?_) rfl rfl (by kernel_rfl) (by kernel_rfl) (by kernel_rfl) (by decide) (by kernel_rfl) (by kernel_rfl) (fun _ _ _ h => h) (by rfl) ?_ (by assumption) ?_
  rotate_left
  · intro w' hSw
    (try dsimp only at hSw)
    go_simp
    try with_reducible rfl
  try simp only [Act.put, List.setIfInBounds_toArray, List.set_cons_zero, List.set_cons_succ]
  refine AnyL.tS (i := 5) (d := 11) (v := ?_) rfl rfl (by kernel_rfl) (by kernel_rfl) (by kernel_rfl) (by decide) (fun _ _ _ h => h) (by rfl) ?_ (by assumption) ?_
  rotate_left
  · intro w' hSw
    (try dsimp only at hSw)
    go_simp
    try with_reducible rfl
  try simp only [Act.put, List.setIfInBounds_toArray, List.set_cons_zero, List.set_cons_succ]
  refine AnyL.tS (i := 7) (d := 13) (v := ?_) rfl rfl (by kernel_rfl) (by kernel_rfl) (by kernel_rfl) (by decide) (fun _ _ _ h => h) (by rfl) ?_ (by assumption) ?_
  rotate_left
  · intro w' hSw
    (try dsimp only at hSw)
    go_simp
    try with_reducible rfl
  try simp only [Act.put, List.setIfInBounds_toArray, List.set_cons_zero, List.set_cons_succ]
  refine AnyL.ready (rs := [6]) (by kernel_rfl) (by simp) ?_
  refine (AllL.consN rfl (fun K' hK => ?_) AllL.nil)
  go_simp
  go_at_call 103
  refine (HRP.out _).mono ?_
  rintro e u1 ⟨rfl, b⟩
  have B1 := Lib.hid b
  have P1 := Lib.hid (HDd.out.below b)
  refine hK.out _ _ ⟨trivial, P1.out.1.cells.2.2.2.2.1⟩ (fun hB => ?_)
  clear hK K' b
  try simp only [Act.put, List.setIfInBounds_toArray, List.set_cons_zero, List.set_cons_succ]
  refine AnyL.tS (i := 8) (d := 14) (v := ?_) rfl rfl (by kernel_rfl) (by kernel_rfl) (by kernel_rfl) (by decide) (fun _ _ _ h => h) (by rfl) ?_ (by assumption) ?_
  rotate_left
  · intro w' hSw
    (try dsimp only at hSw)
    go_simp
    try with_reducible rfl
  try simp only [Act.put, List.setIfInBounds_toArray, List.set_cons_zero, List.set_cons_succ]
  refine AnyL.tS (i := 9) (d := 15) (v := ?_) rfl rfl (by kernel_rfl) (by kernel_rfl) (by kernel_rfl) (by decide) (fun _ _ _ h => h) (by rfl) ?_ (by assumption) ?_
  rotate_left
  · intro w' hSw
    (try dsimp only at hSw)
    go_simp
    try with_reducible rfl
  try simp only [Act.put, List.setIfInBounds_toArray, List.set_cons_zero, List.set_cons_succ]
  refine AnyL.ready (rs := [10]) (by kernel_rfl) (by simp) ?_
  refine (AllL.consN rfl (fun K' hK => ?_) AllL.nil)
  go_simp
  rw [HX.out]
  have P2 := Lib.hid (P1.out.below (one_new2 u1 (.cells #[.string x] 9)))
  have B2 := Lib.hid (HBD.out.trans ((B1.out.trans ((one_new2 u1 (.cells #[.string x] 9)).mono B1.out.size)).mono HBD.out.size))
  refine hK.out _ _ ⟨trivial, P2.out.1.cells.2.2.2.2.1⟩ (fun hB => ?_)
  clear hK K'
  try simp only [Act.put, List.setIfInBounds_toArray, List.set_cons_zero, List.set_cons_succ]
  refine AnyL.ready (rs := [11]) (by kernel_rfl) (by simp) ?_
  refine (AllL.consN rfl (fun K' hK => ?_) AllL.nil)
  refine step_append_at _ rfl (.tmp 10) (.tmp 16) 53 rfl (g + 1) 9 i0 (.string ⟨#[]⟩) 1 16 Tryz.underlying53 hi hz0 hz1 hz2 rfl (by decide) lv L.length (sv L) (by rfl) P2.out.2.1 ⟨u1.heap.size, 0, none⟩ 1 1 [.string x] (by rfl) rfl (one_cell u1 (.string x) 9) (by intro u hu; simp at hu; subst hu; rfl) (by unfold maxLen; omega) (by omega) (by have := P2.out.lt; omega) ?_
  intro lv' u3 hown hgrow hat
  obtain ⟨al, cl, rfl, _⟩ := own_in hown
  obtain ⟨q1, q2, q3, q4⟩ := PrS.snocL HP.out B2.out hown hgrow hat
  have Q1 := Lib.hid q1
  have Q2 := Lib.hid q2
  refine hK.out _ _ ⟨trivial, q3⟩ (fun hB => ?_)
  clear hK K' hown hgrow hat q1 q2
  try simp only [Act.put, List.setIfInBounds_toArray, List.set_cons_zero, List.set_cons_succ]
  refine AnyL.tS (i := 12) (d := 18) (v := ?_) rfl rfl (by kernel_rfl) (by kernel_rfl) (by kernel_rfl) (by decide) (fun _ _ _ h => h) (by rfl) ?_ (by assumption) ?_
  rotate_left
  · intro w' hSw
    (try dsimp only at hSw)
    go_simp
    try with_reducible rfl
  try simp only [Act.put, List.setIfInBounds_toArray, List.set_cons_zero, List.set_cons_succ]
  refine AnyL.tS (i := 13) (d := 19) (v := ?_) rfl rfl (by kernel_rfl) (by kernel_rfl) (by kernel_rfl) (by decide) (fun _ _ _ h => h) (by rfl) ?_ (by assumption) ?_
  rotate_left
  · intro w' hSw
    (try dsimp only at hSw)
    go_simp
    try with_reducible rfl
  try simp only [Act.put, List.setIfInBounds_toArray, List.set_cons_zero, List.set_cons_succ]
  refine AnyL.ready (rs := [14]) (by kernel_rfl) (by simp) ?_
  refine (AllL.consB rfl (by kernel_rfl) (fun K' hK => ?_) AllL.nil)
  go_simp
  refine hK.out _ _ trivial ?_
  clear hK K'
  try simp only [Act.put, List.setIfInBounds_toArray, List.set_cons_zero, List.set_cons_succ]
  refine AnyL.done (by kernel_rfl) ?_ _
  go_wp2_with fail
  exact bodyPost_ret (v := .tuple #[]) (by simp [results, Tryz.results79, go_sem]) rfl ⟨rfl, _, Q1.out, Q2.out⟩
end Go.Proofs.YtkpocljlmbihcaaGreatDoor

/- Arguments that are configurations or classes: opened. -/
namespace Go.Proofs.YtkpocljlmbihcaaGreatDoor
set_option maxRecDepth 100000
open Go.RowKit Go.Joins Go.ChangeShapes Go.WideShapes Go.Deep
set_option linter.unusedVariables false

def EightO (w : World) (b off k : Nat) (x : Cls) : Prop := w.cell? ⟨b, off + k * 8, none⟩ = some (.int .i64 x.i) ∧ w.cell? ⟨b, off + k * 8 + 1, none⟩ = some (.int .i64 x.p) ∧ w.cell? ⟨b, off + k * 8 + 2, none⟩ = some (.int .i64 x.r) ∧ w.cell? ⟨b, off + k * 8 + 3, none⟩ = some (.int .i64 x.e) ∧
  w.cell? ⟨b, off + k * 8 + 4, none⟩ = some (.int .i64 x.b) ∧ w.cell? ⟨b, off + k * 8 + 5, none⟩ = some (.int .i64 x.u) ∧ w.cell? ⟨b, off + k * 8 + 6, none⟩ = some (.int .i64 x.o) ∧ w.cell? ⟨b, off + k * 8 + 7, none⟩ = some (.int .i64 x.l)
theorem OffC.cls {w : World} {b off : Nat} {l : List Cls} (h : OffC w b off (clsCs l)) (k : Nat) (hk : k < l.length) (x : Cls) (hx : l.getD k cls0 = x) : EightO w b off k x := by
  subst hx
  have q := fun j (hj : j < 8) => clsCs_get l k j hj hk
  exact ⟨h.at _ ((q 0 (by decide)).trans rfl), h.at _ ((q 1 (by decide)).trans rfl), h.at _ ((q 2 (by decide)).trans rfl), h.at _ ((q 3 (by decide)).trans rfl), h.at _ ((q 4 (by decide)).trans rfl), h.at _ ((q 5 (by decide)).trans rfl), h.at _ ((q 6 (by decide)).trans rfl), h.at _ ((q 7 (by decide)).trans rfl)⟩
def FiveO (w : World) (b off k : Nat) (x : Flt) : Prop := w.cell? ⟨b, off + k * 5, none⟩ = some (.int .i64 x.o) ∧ w.cell? ⟨b, off + k * 5 + 1, none⟩ = some (.int .i64 x.f) ∧ w.cell? ⟨b, off + k * 5 + 2, none⟩ = some (.int .i64 x.m) ∧ w.cell? ⟨b, off + k * 5 + 3, none⟩ = some (.int .i64 x.v) ∧ w.cell? ⟨b, off + k * 5 + 4, none⟩ = some (.int .i64 x.t)
theorem OffC.flt {w : World} {b off : Nat} {l : List Flt} (h : OffC w b off (fltCs l)) (k : Nat) (hk : k < l.length) (x : Flt) (hx : l.getD k flt0 = x) : FiveO w b off k x := by
  subst hx
  have q := fun j (hj : j < 5) => fltCs_get l k j hj hk
  exact ⟨h.at _ ((q 0 (by decide)).trans rfl), h.at _ ((q 1 (by decide)).trans rfl), h.at _ ((q 2 (by decide)).trans rfl), h.at _ ((q 3 (by decide)).trans rfl), h.at _ ((q 4 (by decide)).trans rfl)⟩
section
variable {H : Type} {enc : TypeId × Value → H} {w : World} {base : Nat} {spare : Nat → Bool} {held : Bool}
theorem open_clss {fuel : Nat} {cs : List Value} {x : DataW H × List MemPlace} (h : DataW.trod enc Tryz.prog w base spare held fuel 22 cs = some x) :
    ∃ (a : Option Addr) (len cap : Nat) (l : List Cls), cs = [.slice a len cap] ∧ len ≤ maxLen ∧ l.length = len ∧ ArgX w a len (clsCs l) := by
  obtain ⟨a, len, cap, F, hcs, hm, hF⟩ := open_rows (z := 8) Tryz.underlying22 (by kernel_rfl) rfl (by decide) Tryz.underlying79 (by
    intro i hi
    rcases (show i = 0 ∨ i = 1 ∨ i = 2 ∨ i = 3 ∨ i = 4 ∨ i = 5 ∨ i = 6 ∨ i = 7 by simp at hi; omega) with rfl | rfl | rfl | rfl | rfl | rfl | rfl | rfl <;> exact ⟨_, rfl, rfl, rfl⟩) h
  refine ⟨a, len, cap, (List.range len).map (fun i => ⟨F i 0, F i 1, F i 2, F i 3, F i 4, F i 5, F i 6, F i 7⟩), hcs, hm, by simp, fun hn => ?_⟩
  obtain ⟨b, off, ha, hc, hb⟩ := hF hn
  refine ⟨b, off, ha, fun j hj => ?_, hb⟩
  rw [clsCs_length, List.length_map, List.length_range] at hj
  have q := hc (j / 8) (j % 8) (by omega) (by omega)
  rw [show j / 8 * 8 + j % 8 = j by omega] at q
  have g := clsCs_get ((List.range len).map (fun i => (⟨F i 0, F i 1, F i 2, F i 3, F i 4, F i 5, F i 6, F i 7⟩ : Cls))) (j / 8) (j % 8) (by omega) (by simp; omega)
  rw [show j / 8 * 8 + j % 8 = j by omega] at g
  rw [q, g]
  have e : ((List.range len).map (fun i => (⟨F i 0, F i 1, F i 2, F i 3, F i 4, F i 5, F i 6, F i 7⟩ : Cls))).getD (j / 8) cls0 = ⟨F (j / 8) 0, F (j / 8) 1, F (j / 8) 2, F (j / 8) 3, F (j / 8) 4, F (j / 8) 5, F (j / 8) 6, F (j / 8) 7⟩ := by
    simp [List.getD_eq_getElem?_getD, show j / 8 < len by omega]
  rw [e]
  rcases (show j % 8 = 0 ∨ j % 8 = 1 ∨ j % 8 = 2 ∨ j % 8 = 3 ∨ j % 8 = 4 ∨ j % 8 = 5 ∨ j % 8 = 6 ∨ j % 8 = 7 by omega) with h | h | h | h | h | h | h | h <;> rw [h] <;> rfl
theorem open_flts {fuel : Nat} {cs : List Value} {x : DataW H × List MemPlace} (h : DataW.trod enc Tryz.prog w base spare held fuel 23 cs = some x) :
    ∃ (a : Option Addr) (len cap : Nat) (l : List Flt), cs = [.slice a len cap] ∧ len ≤ maxLen ∧ l.length = len ∧ ArgX w a len (fltCs l) := by
  obtain ⟨a, len, cap, F, hcs, hm, hF⟩ := open_rows (z := 5) Tryz.underlying23 (by kernel_rfl) rfl (by decide) Tryz.underlying81 (by
    intro i hi
    rcases (show i = 0 ∨ i = 1 ∨ i = 2 ∨ i = 3 ∨ i = 4 by simp at hi; omega) with rfl | rfl | rfl | rfl | rfl <;> exact ⟨_, rfl, rfl, rfl⟩) h
  refine ⟨a, len, cap, (List.range len).map (fun i => ⟨F i 0, F i 1, F i 2, F i 3, F i 4⟩), hcs, hm, by simp, fun hn => ?_⟩
  obtain ⟨b, off, ha, hc, hb⟩ := hF hn
  refine ⟨b, off, ha, fun j hj => ?_, hb⟩
  rw [fltCs_length, List.length_map, List.length_range] at hj
  have q := hc (j / 5) (j % 5) (by omega) (by omega)
  rw [show j / 5 * 5 + j % 5 = j by omega] at q
  have g := fltCs_get ((List.range len).map (fun i => (⟨F i 0, F i 1, F i 2, F i 3, F i 4⟩ : Flt))) (j / 5) (j % 5) (by omega) (by simp; omega)
  rw [show j / 5 * 5 + j % 5 = j by omega] at g
  rw [q, g]
  have e : ((List.range len).map (fun i => (⟨F i 0, F i 1, F i 2, F i 3, F i 4⟩ : Flt))).getD (j / 5) flt0 = ⟨F (j / 5) 0, F (j / 5) 1, F (j / 5) 2, F (j / 5) 3, F (j / 5) 4⟩ := by
    simp [List.getD_eq_getElem?_getD, show j / 5 < len by omega]
  rw [e]
  rcases (show j % 5 = 0 ∨ j % 5 = 1 ∨ j % 5 = 2 ∨ j % 5 = 3 ∨ j % 5 = 4 by omega) with h | h | h | h | h <;> rw [h] <;> rfl
/-- an argument that is a configuration -/
def ArgCfg (w : World) (v : Value) (c : Cfg) : Prop :=
  ∃ ac cc af cf, v = .agg #[.string c.s, .slice ac c.cs.length cc, .slice af c.fs.length cf, .int .i64 c.d] ∧ c.s.size ≤ maxLen ∧ c.cs.length ≤ maxLen ∧ c.fs.length ≤ maxLen ∧ ArgX w ac c.cs.length (clsCs c.cs) ∧ ArgX w af c.fs.length (fltCs c.fs)
theorem ArgCfg.below {w w' : World} {v : Value} {c : Cfg} (h : ArgCfg w v c) (hb : Below w.heap.size w w') : ArgCfg w' v c := by
  obtain ⟨ac, cc, af, cf, hv, m0, m1, m2, hc, hf⟩ := h
  exact ⟨ac, cc, af, cf, hv, m0, m1, m2, hc.below hb, hf.below hb⟩
theorem open_cfg {r : Reach} {b0 : Nat} {v : Value} {d : DataW H} {p : List MemPlace} (hv : Value.okWide Tryz.prog w r b0 25 v) (h : DataW.Trod enc Tryz.prog w base spare held 25 v d p) : ∃ c, ArgCfg w v c := by
  obtain ⟨v0, v1, v2, v3, y0, y1, y2, y3, n, rfl, _, _, h0, h1, h2, h3⟩ := open_agg4 Tryz.underlying25 (by kernel_rfl) (by kernel_rfl) hv h
  obtain ⟨s, e0, _, w0⟩ := DataW.trod_string Tryz.underlying9 h0
  obtain ⟨a1, n1, c1, cs, e1, m1, l1, i1⟩ := open_clss h1
  obtain ⟨a2, n2, c2, fs, e2, m2, l2, i2⟩ := open_flts h2
  obtain ⟨x, e3, _, _⟩ := DataW.trod_int Tryz.underlying3 h3
  obtain rfl := (List.cons.inj e0).1
  obtain rfl := (List.cons.inj e1).1
  obtain rfl := (List.cons.inj e2).1
  obtain rfl := (List.cons.inj e3).1
  subst l1 l2
  exact ⟨⟨s, cs, fs, x⟩, a1, c1, a2, c2, rfl, w0, m1, m2, i1, i2⟩
theorem array8 {α : Type} {cs : Array α} (h : cs.size = 8) : ∃ c0 c1 c2 c3 c4 c5 c6 c7, cs = #[c0, c1, c2, c3, c4, c5, c6, c7] := by
  obtain ⟨l⟩ := cs
  match l, h with
  | [c0, c1, c2, c3, c4, c5, c6, c7], _ => exact ⟨c0, c1, c2, c3, c4, c5, c6, c7, rfl⟩
theorem open_cls {r : Reach} {b0 : Nat} {v : Value} {d : DataW H} {p : List MemPlace} (hv : Value.okWide Tryz.prog w r b0 79 v) (h : DataW.Trod enc Tryz.prog w base spare held 79 v d p) : ∃ x : Cls, v = clsV x := by
  obtain ⟨cs, rfl, hsz⟩ := okWide_struct Tryz.underlying79 hv
  obtain ⟨c0, c1, c2, c3, c4, c5, c6, c7, rfl⟩ := array8 (hsz.trans (show Tryz.prog.cellsOf 79 = 8 by kernel_rfl))
  obtain ⟨fuel, hf⟩ := h
  obtain ⟨f, hfj⟩ := open_ints_struct Tryz.underlying79 (by
    intro i hi
    rcases (show i = 0 ∨ i = 1 ∨ i = 2 ∨ i = 3 ∨ i = 4 ∨ i = 5 ∨ i = 6 ∨ i = 7 by simp at hi; omega) with rfl | rfl | rfl | rfl | rfl | rfl | rfl | rfl <;> exact ⟨_, rfl, rfl, rfl⟩) hf
  have q := fun j (hj : j < 8) => hfj j hj
  refine ⟨⟨f 0, f 1, f 2, f 3, f 4, f 5, f 6, f 7⟩, ?_⟩
  have q0 := Option.some.inj (q 0 (by decide))
  have q1 := Option.some.inj (q 1 (by decide))
  have q2 := Option.some.inj (q 2 (by decide))
  have q3 := Option.some.inj (q 3 (by decide))
  have q4 := Option.some.inj (q 4 (by decide))
  have q5 := Option.some.inj (q 5 (by decide))
  have q6 := Option.some.inj (q 6 (by decide))
  have q7 := Option.some.inj (q 7 (by decide))
  rw [q0, q1, q2, q3, q4, q5, q6, q7]
  rfl
end
end Go.Proofs.YtkpocljlmbihcaaGreatDoor

/- What the laws do with configurations: measured, made of arguments, compared. -/
namespace Go.Proofs.YtkpocljlmbihcaaGreatDoor
set_option maxRecDepth 100000
open Go.RowKit
set_option linter.unusedVariables false

def CfgM (c : Cfg) : Prop := c.s.size ≤ 1048576 ∧ c.cs.length ≤ 1048576 ∧ c.fs.length ≤ 1048576
theorem szClassS_any (a : Option Addr) (n c : Nat) (r : Int) (w : World) (hn : n ≤ 9223372036854775807) (h0 : 0 ≤ r) (h1 : r ≤ 1048576) :
    Calls Tryz.prog 22 #[.slice a n c, .int .i64 r] w (SaysI w (lessN r n)) := by
  by_cases h : r - (n : Int) < 0
  · have d := is_lt h
    have e : lessN r n = -1 := if_pos h
    rw [e]
    clear e h
    go_enter Tryz.func22, Tryz.ntmps22
    go_wp2
    go_ret
    exact ⟨rfl, Below.refl _ _⟩
  · have d := not_lt (Int.not_lt.1 h)
    have e : lessN r n = r - n := if_neg h
    rw [e]
    clear e h
    go_enter Tryz.func22, Tryz.ntmps22
    go_wp2
    go_ret
    exact ⟨rfl, Below.refl _ _⟩
theorem szFilterS_any (a : Option Addr) (n c : Nat) (r : Int) (w : World) (hn : n ≤ 9223372036854775807) (h0 : 0 ≤ r) (h1 : r ≤ 1048576) :
    Calls Tryz.prog 23 #[.slice a n c, .int .i64 r] w (SaysI w (lessN r n)) := by
  by_cases h : r - (n : Int) < 0
  · have d := is_lt h
    have e : lessN r n = -1 := if_pos h
    rw [e]
    clear e h
    go_enter Tryz.func23, Tryz.ntmps23
    go_wp2
    go_ret
    exact ⟨rfl, Below.refl _ _⟩
  · have d := not_lt (Int.not_lt.1 h)
    have e : lessN r n = r - n := if_neg h
    rw [e]
    clear e h
    go_enter Tryz.func23, Tryz.ntmps23
    go_wp2
    go_ret
    exact ⟨rfl, Below.refl _ _⟩
def SaysZC (w : World) (c : Cfg) (e : Ending) (w' : World) : Prop := ∃ r : Int, e = .returned (.int .i64 r) ∧ Below w.heap.size w w' ∧ (0 ≤ r → CfgM c)
set_option maxHeartbeats 1600000 in
theorem szConfig_any (v : Value) (c : Cfg) (w : World) (HA : Hid (ArgCfg w v c)) :
    Calls Tryz.prog 7 #[v, .int .i64 1048576] w (SaysZC w c) := by
  obtain ⟨ac, cc, af, cf, rfl, m0, m1, m2, _, _⟩ := HA.out
  obtain ⟨s, cs, fs, d⟩ := c
  obtain ⟨n, hn⟩ : ∃ n, cs.length = n := ⟨_, rfl⟩
  obtain ⟨m, hm⟩ : ∃ m, fs.length = m := ⟨_, rfl⟩
  have HN := Lib.hid hn
  have HM := Lib.hid hm
  simp only [hn, hm] at m1 m2 ⊢
  unfold maxLen at m0 m1 m2
  simp only at m0
  clear HA hn hm
  by_cases h : (1048576 : Int) - s.size < 0
  · have d := is_lt h
    clear h
    go_enter Tryz.func7, Tryz.ntmps7
    go_wp2_with fail
    go_ret
    exact ⟨-1, rfl, one_new2 _ _, fun h => absurd h (by omega)⟩
  · have d0 := not_lt (Int.not_lt.1 h)
    have hs : 0 ≤ (1048576 : Int) - s.size := by omega
    have hs1 : (1048576 : Int) - s.size ≤ 1048576 := by omega
    have HZ := Lib.hid (fun w => szClassS_any ac n cc ((1048576 : Int) - s.size) w (by omega) hs hs1)
    clear h
    by_cases h : (1048576 : Int) - s.size - (n : Int) < 0
    · rw [lessN_neg h] at HZ
      clear h
      go_enter Tryz.func7, Tryz.ntmps7
      go_wp2_with (go_at_call 22; refine (HZ.out _).mono ?_; rintro e w1 ⟨rfl, b1⟩; have B1 := Lib.hid ((one_new2 _ _).trans (b1.mono (by simp))); clear b1)
      go_ret
      exact ⟨-1, rfl, B1.out, fun h => absurd h (by omega)⟩
    · rw [lessN_pos h] at HZ
      have d1 := not_lt (Int.not_lt.1 h)
      have hr : 0 ≤ (1048576 : Int) - s.size - n := by omega
      have hr1 : (1048576 : Int) - s.size - n ≤ 1048576 := by omega
      have HY := Lib.hid (fun w => szFilterS_any af m cf ((1048576 : Int) - s.size - n) w (by omega) hr hr1)
      clear h
      by_cases h : (1048576 : Int) - s.size - (n : Int) - (m : Int) < 0
      · rw [lessN_neg h] at HY
        clear h
        go_enter Tryz.func7, Tryz.ntmps7
        go_wp2_with (go_at_call 22; refine (HZ.out _).mono ?_; rintro e w1 ⟨rfl, b1⟩; have B1 := Lib.hid (box_four b1).2; obtain ⟨c0, c1, c2, c3, cl⟩ := (box_four b1).1; clear b1 cl)
        go_wp2_with (go_at_call 23; refine (HY.out _).mono ?_; rintro e w2 ⟨rfl, b2⟩; have B2 := Lib.hid (B1.out.trans (b2.mono B1.out.size)); clear b2 c0 c1 c2 c3)
        go_ret
        exact ⟨-1, rfl, B2.out, fun h => absurd h (by omega)⟩
      · rw [lessN_pos h] at HY
        have d2 := not_lt (Int.not_lt.1 h)
        have HF : Hid (CfgM ⟨s, cs, fs, d⟩) := Lib.hid ⟨by show s.size ≤ 1048576; omega, by show cs.length ≤ 1048576; rw [HN.out]; omega, by show fs.length ≤ 1048576; rw [HM.out]; omega⟩
        clear h
        go_enter Tryz.func7, Tryz.ntmps7
        go_wp2_with (go_at_call 22; refine (HZ.out _).mono ?_; rintro e w1 ⟨rfl, b1⟩; have B1 := Lib.hid (box_four b1).2; obtain ⟨c0, c1, c2, c3, cl⟩ := (box_four b1).1; clear b1 cl)
        go_wp2_with (go_at_call 23; refine (HY.out _).mono ?_; rintro e w2 ⟨rfl, b2⟩; have B2 := Lib.hid (B1.out.trans (b2.mono B1.out.size)); clear b2 c0 c1 c2 c3)
        go_ret
        exact ⟨_, rfl, B2.out, fun _ => HF.out⟩
end Go.Proofs.YtkpocljlmbihcaaGreatDoor
