/- A region that draws its order and, last of all, writes a cell that it has read: loads are taken first under two conditions on the world, of which the second falls once a marked operation is listed (the append that waits for the load). -/
import Derived.Test.YtgnobmmlmmbfcaaBxw
namespace Go.Proofs.Ytgnobmmlmmbfcaa
open Go.RowKit
set_option linter.unusedVariables false

section
variable {P : Program} {ops : Array Oper} {Q : Exit → Act → World → Prop} {md : Region.Mode} {S T : World → Prop} {b : Nat}
/-- S, and T as long as operation b is not listed -/
def Both (S T : World → Prop) (b : Nat) (l : Array Bool) (w : World) : Prop := S w ∧ (l.getD b false = true ∨ T w)
/-- whatever order is picked: behind each operation the two conditions hold -/
def AnyL (P : Program) (md : Region.Mode) (ops : Array Oper) (Q : Exit → Act → World → Prop) (S T : World → Prop) (b : Nat) : Nat → Array Bool → Act → World → Prop
  | 0, l, a, w => Region.ready md ops l = [] ∧ Q .normal a w
  | f + 1, l, a, w => (Region.ready md ops l = [] → Q .normal a w) ∧
    ∀ i ∈ Region.ready md ops l, wpOp P ops Q i (fun a' w' => Both S T b (l.setIfInBounds i true) w' ∧ AnyL P md ops Q S T b f (l.setIfInBounds i true) a' w') a w
theorem AnyL.any : ∀ (f : Nat) (l : Array Bool) (a : Act) (w : World), AnyL P md ops Q S T b f l a w → wpAny P md ops Q f l a w
  | 0, _, _, _, h => h
  | f + 1, _, _, _, h => ⟨h.1, fun i hi => wpOp_mono (fun _ _ k => AnyL.any f _ _ _ k.2) (h.2 i hi)⟩
theorem AnyL.begin {id : Nat} {a : Act} {w : World} (hm : P.follows .mixedOrders = true) (h : AnyL P .any ops Q S T b ops.size (Array.replicate ops.size false) a w.drew) : (Code.region id ops true).wp P Q a w :=
  wp_region_any hm (AnyL.any _ _ _ _ h)
theorem AnyL.done {l : Array Bool} {a : Act} {w : World} (hr : Region.ready md ops l = []) (h : Q .normal a w) : ∀ f, AnyL P md ops Q S T b f l a w
  | 0 => ⟨hr, h⟩
  | _ + 1 => ⟨fun _ => h, fun i hi => by rw [hr] at hi; cases hi⟩
/-- operation b waits for operation i -/
def waitsB (md : Region.Mode) (ops : Array Oper) (b i : Nat) : Bool := match ops[b]? with
  | some ob => ob.after.any (fun e => Region.binds md e && (e.on == i))
  | none => false
/-- what a taken operation leans on: S, or T while b is not listed and waits for it -/
def Leans (S T R : World → Prop) (md : Region.Mode) (ops : Array Oper) (b i : Nat) (l : Array Bool) : Prop :=
  (∀ w, S w → R w) ∨ ((∀ w, T w → R w) ∧ l.getD b false = false ∧ waitsB md ops b i = true)
theorem Leans.at {R : World → Prop} {i : Nat} {l : Array Bool} {w : World} (h : Leans S T R md ops b i l) (hb : Both S T b l w) : R w := by
  rcases h with h | ⟨h, hl, _⟩
  · exact h w hb.1
  · rcases hb.2 with k | k
    · rw [hl] at k; cases k
    · exact h w k
theorem unlisted {l : Array Bool} {i : Nat} (h : l.getD i true = false) : l.getD i false = false := by
  rcases Nat.lt_or_ge i l.size with q | q
  · simp [q] at h ⊢; exact h
  · simp [Array.getElem?_eq_none q]
theorem Leans.next {R : World → Prop} {i j : Nat} {l : Array Bool} (h : Leans S T R md ops b i l) (hi : i ∈ Region.ready md ops l) (hj : j ∈ Region.ready md ops l) : Leans S T R md ops b i (l.setIfInBounds j true) := by
  rcases h with h | ⟨h, hl, hw⟩
  · exact .inl h
  · refine .inr ⟨h, ?_, hw⟩
    have hne : j ≠ b := fun e => by
      subst e
      obtain ⟨_, o, ho, hall⟩ := mem_ready.1 hj
      unfold waitsB at hw
      rw [ho] at hw
      obtain ⟨k, hk, h1, h2⟩ : ∃ e ∈ o.after, Region.binds md e = true ∧ e.on = i := by
        have := Array.any_eq_true.1 hw
        obtain ⟨x, hx, hb⟩ := this
        rw [Bool.and_eq_true, beq_iff_eq] at hb
        exact ⟨_, Array.getElem_mem hx, hb.1, hb.2⟩
      have q := hall k hk h1
      rw [h2, unlisted (mem_ready.1 hi).1] at q
      cases q
    rw [getD_set_ne false hne]
    exact hl
theorem AnyL.first {R : World → Prop} {i : Nat} {oi : Oper} {v : Value} (hi : ops[i]? = Option.some oi) (hsel : ∀ (j : Nat) (o : Oper) cs x, ops[j]? = some o → o.op ≠ .select cs x) (hib : i ≠ b)
    (hQ : ∀ c a w, Q (.panic c) (a.put oi.dst v) w → Q (.panic c) a w) : ∀ (f : Nat) (l : Array Bool) (a : Act) (w : World),
      (∀ j oj, ops[j]? = some oj → j ≠ i → l.getD j true = false → (∀ e ∈ oj.after, Region.binds md e = true → e.on ≠ i) → oi.apart ops oj = true) →
      i ∈ Region.ready md ops l → YieldsIf P ops R oi v a → Both S T b l w → Leans S T R md ops b i l →
      AnyL P md ops Q S T b f (l.setIfInBounds i true) (a.put oi.dst v) w → AnyL P md ops Q S T b (f + 1) l a w
  | f, l, a, w, hfree, hr, hy, hB, hL, H => by
    refine ⟨fun e => absurd hr (by rw [e]; exact List.not_mem_nil), fun j hj => ?_⟩
    by_cases hji : j = i
    · rw [hji]
      refine hy.wpOp hi (hL.at hB) ⟨⟨hB.1, hB.2.imp (fun q => getD_set_true q) id⟩, H⟩
    · match f, H with
      | 0, H => exact absurd (ready_mono hj hji) (by rw [H.1]; exact List.not_mem_nil)
      | f + 1, H =>
        obtain ⟨hu, oj, hoj, hall⟩ := mem_ready.1 hj
        have hno : ∀ e ∈ oj.after, Region.binds md e = true → e.on ≠ i := fun e he hb q => by
          have k := hall e he hb
          rw [q, unlisted (mem_ready.1 hr).1] at k
          cases k
        have h2 := wpOp_putIf hoj (hfree j oj hoj hji hu hno) (fun cs x => hsel i oi cs x hi) (fun cs x => hsel j oj cs x hoj) hQ hy (H.2 j (ready_mono hj hji))
        refine wpOp_mono (fun a' w' k => ?_) h2
        obtain ⟨k1, ⟨k2, k3⟩, k4⟩ := k
        rw [Array.setIfInBounds_comm _ _ (Ne.symm hji)] at k3 k4
        rw [getD_set_ne false hib] at k3
        refine ⟨⟨k2, k3⟩, AnyL.first hi hsel hib hQ f _ a' w' (fun p op hp hpi hun hn => ?_) (ready_mono hr (Ne.symm hji)) k1 ⟨k2, k3⟩ (hL.next hr hj) k4⟩
        refine hfree p op hp hpi ?_ hn
        by_cases hjp : j = p
        · rw [← hjp]; exact hu
        · rw [getD_set_ne true hjp] at hun; exact hun
/-- taken first, under S -/
theorem AnyL.takeS {i d : Nat} {oi : Oper} {v : Value} {f : Nat} {l : Array Bool} {a : Act} {w : World} (hi : ops[i]? = Option.some oi) (hd : oi.dst = Option.some d) (hs : Region.noSelect ops = true) (hf : Region.free md ops l i = true) (hr : (Region.ready md ops l).contains i = true) (hib : i ≠ b)
    (hQ : ∀ c a w, Q (.panic c) (a.put oi.dst v) w → Q (.panic c) a w) (hw : Region.wanted oi (yielded ops a.tmps) = true) (hB : Both S T b l w) (hv : ∀ w, S w → (execOp a.eval oi).run P w = .ok (.value v) w)
    (h : AnyL P md ops Q S T b f (l.setIfInBounds i true) (a.put (Option.some d) v) w) : AnyL P md ops Q S T b (f + 1) l a w :=
  AnyL.first (R := S) hi (Region.noSelect_spec hs) hib hQ f l a w (Region.free_spec hi hf) (by simpa using hr) (.inl ⟨hw, hv⟩) hB (.inl fun _ q => q) (by rw [hd]; exact h)
/-- taken first, under T, by an operation for which b waits -/
theorem AnyL.takeT {i d : Nat} {oi : Oper} {v : Value} {f : Nat} {l : Array Bool} {a : Act} {w : World} (hi : ops[i]? = Option.some oi) (hd : oi.dst = Option.some d) (hs : Region.noSelect ops = true) (hf : Region.free md ops l i = true) (hr : (Region.ready md ops l).contains i = true) (hib : i ≠ b)
    (hlb : l.getD b false = false) (hwb : waitsB md ops b i = true)
    (hQ : ∀ c a w, Q (.panic c) (a.put oi.dst v) w → Q (.panic c) a w) (hw : Region.wanted oi (yielded ops a.tmps) = true) (hB : Both S T b l w) (hv : ∀ w, T w → (execOp a.eval oi).run P w = .ok (.value v) w)
    (h : AnyL P md ops Q S T b f (l.setIfInBounds i true) (a.put (Option.some d) v) w) : AnyL P md ops Q S T b (f + 1) l a w :=
  AnyL.first (R := T) hi (Region.noSelect_spec hs) hib hQ f l a w (Region.free_spec hi hf) (by simpa using hr) (.inl ⟨hw, hv⟩) hB (.inr ⟨fun _ q => q, hlb, hwb⟩) (by rw [hd]; exact h)
def AllL (P : Program) (md : Region.Mode) (ops : Array Oper) (Q : Exit → Act → World → Prop) (S T : World → Prop) (b f : Nat) (l : Array Bool) (a : Act) (w : World) (rs : List Nat) : Prop :=
  ∀ i ∈ rs, wpOp P ops Q i (fun a' w' => Both S T b (l.setIfInBounds i true) w' ∧ AnyL P md ops Q S T b f (l.setIfInBounds i true) a' w') a w
theorem AllL.nil {f : Nat} {l : Array Bool} {a : Act} {w : World} : AllL P md ops Q S T b f l a w [] := fun _ h => by cases h
theorem AllL.cons {f : Nat} {l : Array Bool} {a : Act} {w : World} {i : Nat} {o : Oper} {rs : List Nat} (ho : ops[i]? = Option.some o)
    (h : ∀ K' : Act → World → Prop, Shut (∀ a w, Both S T b (l.setIfInBounds i true) w → AnyL P md ops Q S T b f (l.setIfInBounds i true) a w → K' a w) → if Region.wanted o (yielded ops a.tmps) = true then Oper.wp P o a w K' Q else K' (a.put o.dst undef) w)
    (hs : AllL P md ops Q S T b f l a w rs) : AllL P md ops Q S T b f l a w (i :: rs) := fun j hj => by
  rcases List.mem_cons.1 hj with e | hj
  · rw [e]
    exact wpOp_step ho (fun K' hK => h K' (fun a w hS hW => hK a w ⟨hS, hW⟩))
  · exact hs j hj
theorem AnyL.ready {rs : List Nat} {f : Nat} {l : Array Bool} {a : Act} {w : World} (hr : Region.ready md ops l = rs) (hne : rs ≠ []) (h : AllL P md ops Q S T b f l a w rs) : AnyL P md ops Q S T b (f + 1) l a w :=
  ⟨fun h0 => absurd (hr ▸ h0) hne, hr ▸ h⟩
/-! The moves, with the two conditions apart. -/
theorem both_of {l : Array Bool} {w : World} (h : S w ∧ T w) : Both S T b l w := ⟨h.1, .inr h.2⟩
theorem AnyL.tS {i d : Nat} {oi : Oper} {v : Value} {f : Nat} {l : Array Bool} {a : Act} {w : World} (hi : ops[i]? = Option.some oi) (hd : oi.dst = Option.some d) (hs : Region.noSelect ops = true) (hf : Region.free md ops l i = true) (hr : (Region.ready md ops l).contains i = true) (hib : i ≠ b)
    (hQ : ∀ c a w, Q (.panic c) (a.put oi.dst v) w → Q (.panic c) a w) (hw : Region.wanted oi (yielded ops a.tmps) = true) (hv : ∀ w, S w → (execOp a.eval oi).run P w = .ok (.value v) w) (hB : S w ∧ T w)
    (h : AnyL P md ops Q S T b f (l.setIfInBounds i true) (a.put (Option.some d) v) w) : AnyL P md ops Q S T b (f + 1) l a w :=
  AnyL.takeS hi hd hs hf hr hib hQ hw (both_of hB) hv h
theorem AnyL.tT {i d : Nat} {oi : Oper} {v : Value} {f : Nat} {l : Array Bool} {a : Act} {w : World} (hi : ops[i]? = Option.some oi) (hd : oi.dst = Option.some d) (hs : Region.noSelect ops = true) (hf : Region.free md ops l i = true) (hr : (Region.ready md ops l).contains i = true) (hib : i ≠ b)
    (hlb : l.getD b false = false) (hwb : waitsB md ops b i = true)
    (hQ : ∀ c a w, Q (.panic c) (a.put oi.dst v) w → Q (.panic c) a w) (hw : Region.wanted oi (yielded ops a.tmps) = true) (hv : ∀ w, T w → (execOp a.eval oi).run P w = .ok (.value v) w) (hB : S w ∧ T w)
    (h : AnyL P md ops Q S T b f (l.setIfInBounds i true) (a.put (Option.some d) v) w) : AnyL P md ops Q S T b (f + 1) l a w :=
  AnyL.takeT hi hd hs hf hr hib hlb hwb hQ hw (both_of hB) hv h
/-- an operation other than b, ahead of it -/
theorem AllL.consN {f : Nat} {l : Array Bool} {a : Act} {w : World} {i : Nat} {o : Oper} {rs : List Nat} (ho : ops[i]? = Option.some o)
    (h : ∀ K' : Act → World → Prop, Shut (∀ a w, (S w ∧ T w) → (S w ∧ T w → AnyL P md ops Q S T b f (l.setIfInBounds i true) a w) → K' a w) → if Region.wanted o (yielded ops a.tmps) = true then Oper.wp P o a w K' Q else K' (a.put o.dst undef) w)
    (hs : AllL P md ops Q S T b f l a w rs) : AllL P md ops Q S T b f l a w (i :: rs) :=
  AllL.cons ho (fun K' hK => h K' (fun a w hST hW => hK.out a w (both_of hST) (hW hST))) hs
/-- operation b, and what comes behind it -/
theorem AllL.consB {f : Nat} {l : Array Bool} {a : Act} {w : World} {i : Nat} {o : Oper} {rs : List Nat} (ho : ops[i]? = Option.some o) (hl : (l.setIfInBounds i true).getD b false = true)
    (h : ∀ K' : Act → World → Prop, Shut (∀ a w, S w → AnyL P md ops Q S T b f (l.setIfInBounds i true) a w → K' a w) → if Region.wanted o (yielded ops a.tmps) = true then Oper.wp P o a w K' Q else K' (a.put o.dst undef) w)
    (hs : AllL P md ops Q S T b f l a w rs) : AllL P md ops Q S T b f l a w (i :: rs) :=
  AllL.cons ho (fun K' hK => h K' (fun a w hS hW => hK.out a w ⟨hS, .inl hl⟩ hW)) hs
/-- taken behind b, in whatever world -/
theorem AnyL.tE {i d : Nat} {oi : Oper} {v : Value} {f : Nat} {l : Array Bool} {a : Act} {w : World} (hi : ops[i]? = Option.some oi) (hd : oi.dst = Option.some d) (hs : Region.noSelect ops = true) (hf : Region.free md ops l i = true) (hr : (Region.ready md ops l).contains i = true) (hib : i ≠ b) (hl : l.getD b false = true)
    (hQ : ∀ c a w, Q (.panic c) (a.put oi.dst v) w → Q (.panic c) a w) (hw : Region.wanted oi (yielded ops a.tmps) = true) (hv : ∀ w, S w → (execOp a.eval oi).run P w = .ok (.value v) w) (hB : S w)
    (h : AnyL P md ops Q S T b f (l.setIfInBounds i true) (a.put (Option.some d) v) w) : AnyL P md ops Q S T b (f + 1) l a w :=
  AnyL.takeS hi hd hs hf hr hib hQ hw ⟨hB, .inl hl⟩ hv h
end
end Go.Proofs.Ytgnobmmlmmbfcaa
