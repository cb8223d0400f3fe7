import Derived.Test.YthgbhnedfdnfpaaDoorPkf
import Derived.Test.YthgbhnedfdnfpaaDoorPkr
import Derived.Test.YthgbhnedfdnfpaaDoorPkg
/- A region that draws its order and, last of all, writes a cell that it has read: loads are taken first under two conditions on the world, of which the second falls once a marked operation is listed (the append that waits for the load). -/
namespace Go.Proofs.YthgbhnedfdnfpaaDoor
set_option maxRecDepth 100000
open Go.RowKit
set_option linter.unusedVariables false

section
variable {P : Program} {ops : Array Oper} {Q : Exit → Act → World → Prop} {md : Region.Mode} {S T : World → Prop} {b : Nat}
/-- S, and T as long as operation b is not listed -/
def Both (S T : World → Prop) (b : Nat) (l : Array Bool) (w : World) : Prop := S w ∧ (l.getD b false = true ∨ T w)
/-- whatever order is picked: behind each operation the two conditions hold -/
def AnyL (P : Program) (md : Region.Mode) (ops : Array Oper) (Q : Exit → Act → World → Prop) (S T : World → Prop) (b : Nat) : Nat → Array Bool → Act → World → Prop
  | 0, l, a, w => Region.ready md ops l = [] ∧ Q .normal a w
  | f + 1, l, a, w => (Region.ready md ops l = [] → Q .normal a w) ∧
    ∀ i ∈ Region.ready md ops l, wpOp P ops Q i (fun a' w' => Both S T b (l.setIfInBounds i true) w' ∧ AnyL P md ops Q S T b f (l.setIfInBounds i true) a' w') a w
theorem AnyL.any : ∀ (f : Nat) (l : Array Bool) (a : Act) (w : World), AnyL P md ops Q S T b f l a w → wpAny P md ops Q f l a w
  | 0, _, _, _, h => h
  | f + 1, _, _, _, h => ⟨h.1, fun i hi => wpOp_mono (fun _ _ k => AnyL.any f _ _ _ k.2) (h.2 i hi)⟩
theorem AnyL.begin {id : Nat} {a : Act} {w : World} (hm : P.follows .mixedOrders = true) (h : AnyL P .any ops Q S T b ops.size (Array.replicate ops.size false) a w.drew) : (Code.region id ops true).wp P Q a w :=
  wp_region_any hm (AnyL.any _ _ _ _ h)
theorem AnyL.done {l : Array Bool} {a : Act} {w : World} (hr : Region.ready md ops l = []) (h : Q .normal a w) : ∀ f, AnyL P md ops Q S T b f l a w
  | 0 => ⟨hr, h⟩
  | _ + 1 => ⟨fun _ => h, fun i hi => by rw [hr] at hi; cases hi⟩
/-- operation b waits for operation i -/
def waitsB (md : Region.Mode) (ops : Array Oper) (b i : Nat) : Bool := match ops[b]? with
  | some ob => ob.after.any (fun e => Region.binds md e && (e.on == i))
  | none => false
/-- what a taken operation leans on: S, or T while b is not listed and waits for it -/
def Leans (S T R : World → Prop) (md : Region.Mode) (ops : Array Oper) (b i : Nat) (l : Array Bool) : Prop :=
  (∀ w, S w → R w) ∨ ((∀ w, T w → R w) ∧ l.getD b false = false ∧ waitsB md ops b i = true)
theorem Leans.at {R : World → Prop} {i : Nat} {l : Array Bool} {w : World} (h : Leans S T R md ops b i l) (hb : Both S T b l w) : R w := by
  rcases h with h | ⟨h, hl, _⟩
  · exact h w hb.1
  · rcases hb.2 with k | k
    · rw [hl] at k; cases k
    · exact h w k
theorem unlisted {l : Array Bool} {i : Nat} (h : l.getD i true = false) : l.getD i false = false := by
  rcases Nat.lt_or_ge i l.size with q | q
  · simp [q] at h ⊢; exact h
  · simp [Array.getElem?_eq_none q]
theorem Leans.next {R : World → Prop} {i j : Nat} {l : Array Bool} (h : Leans S T R md ops b i l) (hi : i ∈ Region.ready md ops l) (hj : j ∈ Region.ready md ops l) : Leans S T R md ops b i (l.setIfInBounds j true) := by
  rcases h with h | ⟨h, hl, hw⟩
  · exact .inl h
  · refine .inr ⟨h, ?_, hw⟩
    have hne : j ≠ b := fun e => by
      subst e
      obtain ⟨_, o, ho, hall⟩ := mem_ready.1 hj
      unfold waitsB at hw
      rw [ho] at hw
      obtain ⟨k, hk, h1, h2⟩ : ∃ e ∈ o.after, Region.binds md e = true ∧ e.on = i := by
        have := Array.any_eq_true.1 hw
        obtain ⟨x, hx, hb⟩ := this
        rw [Bool.and_eq_true, beq_iff_eq] at hb
        exact ⟨_, Array.getElem_mem hx, hb.1, hb.2⟩
      have q := hall k hk h1
      rw [h2, unlisted (mem_ready.1 hi).1] at q
      cases q
    rw [getD_set_ne false hne]
    exact hl
theorem AnyL.first {R : World → Prop} {i : Nat} {oi : Oper} {v : Value} (hi : ops[i]? = Option.some oi) (hsel : ∀ (j : Nat) (o : Oper) cs x, ops[j]? = some o → o.op ≠ .select cs x) (hib : i ≠ b)
    (hQ : ∀ c a w, Q (.panic c) (a.put oi.dst v) w → Q (.panic c) a w) : ∀ (f : Nat) (l : Array Bool) (a : Act) (w : World),
      (∀ j oj, ops[j]? = some oj → j ≠ i → l.getD j true = false → (∀ e ∈ oj.after, Region.binds md e = true → e.on ≠ i) → oi.apart ops oj = true) →
      i ∈ Region.ready md ops l → YieldsIf P ops R oi v a → Both S T b l w → Leans S T R md ops b i l →
      AnyL P md ops Q S T b f (l.setIfInBounds i true) (a.put oi.dst v) w → AnyL P md ops Q S T b (f + 1) l a w
  | f, l, a, w, hfree, hr, hy, hB, hL, H => by
    refine ⟨fun e => absurd hr (by rw [e]; exact List.not_mem_nil), fun j hj => ?_⟩
    by_cases hji : j = i
    · rw [hji]
      refine hy.wpOp hi (hL.at hB) ⟨⟨hB.1, hB.2.imp (fun q => getD_set_true q) id⟩, H⟩
    · match f, H with
      | 0, H => exact absurd (ready_mono hj hji) (by rw [H.1]; exact List.not_mem_nil)
      | f + 1, H =>
        obtain ⟨hu, oj, hoj, hall⟩ := mem_ready.1 hj
        have hno : ∀ e ∈ oj.after, Region.binds md e = true → e.on ≠ i := fun e he hb q => by
          have k := hall e he hb
          rw [q, unlisted (mem_ready.1 hr).1] at k
          cases k
        have h2 := wpOp_putIf hoj (hfree j oj hoj hji hu hno) (fun cs x => hsel i oi cs x hi) (fun cs x => hsel j oj cs x hoj) hQ hy (H.2 j (ready_mono hj hji))
        refine wpOp_mono (fun a' w' k => ?_) h2
        obtain ⟨k1, ⟨k2, k3⟩, k4⟩ := k
        rw [Array.setIfInBounds_comm _ _ (Ne.symm hji)] at k3 k4
        rw [getD_set_ne false hib] at k3
        refine ⟨⟨k2, k3⟩, AnyL.first hi hsel hib hQ f _ a' w' (fun p op hp hpi hun hn => ?_) (ready_mono hr (Ne.symm hji)) k1 ⟨k2, k3⟩ (hL.next hr hj) k4⟩
        refine hfree p op hp hpi ?_ hn
        by_cases hjp : j = p
        · rw [← hjp]; exact hu
        · rw [getD_set_ne true hjp] at hun; exact hun
/-- taken first, under S -/
theorem AnyL.takeS {i d : Nat} {oi : Oper} {v : Value} {f : Nat} {l : Array Bool} {a : Act} {w : World} (hi : ops[i]? = Option.some oi) (hd : oi.dst = Option.some d) (hs : Region.noSelect ops = true) (hf : Region.free md ops l i = true) (hr : (Region.ready md ops l).contains i = true) (hib : i ≠ b)
    (hQ : ∀ c a w, Q (.panic c) (a.put oi.dst v) w → Q (.panic c) a w) (hw : Region.wanted oi (yielded ops a.tmps) = true) (hB : Both S T b l w) (hv : ∀ w, S w → (execOp a.eval oi).run P w = .ok (.value v) w)
    (h : AnyL P md ops Q S T b f (l.setIfInBounds i true) (a.put (Option.some d) v) w) : AnyL P md ops Q S T b (f + 1) l a w :=
  AnyL.first (R := S) hi (Region.noSelect_spec hs) hib hQ f l a w (Region.free_spec hi hf) (by simpa using hr) (.inl ⟨hw, hv⟩) hB (.inl fun _ q => q) (by rw [hd]; exact h)
/-- taken first, under T, by an operation for which b waits -/
theorem AnyL.takeT {i d : Nat} {oi : Oper} {v : Value} {f : Nat} {l : Array Bool} {a : Act} {w : World} (hi : ops[i]? = Option.some oi) (hd : oi.dst = Option.some d) (hs : Region.noSelect ops = true) (hf : Region.free md ops l i = true) (hr : (Region.ready md ops l).contains i = true) (hib : i ≠ b)
    (hlb : l.getD b false = false) (hwb : waitsB md ops b i = true)
    (hQ : ∀ c a w, Q (.panic c) (a.put oi.dst v) w → Q (.panic c) a w) (hw : Region.wanted oi (yielded ops a.tmps) = true) (hB : Both S T b l w) (hv : ∀ w, T w → (execOp a.eval oi).run P w = .ok (.value v) w)
    (h : AnyL P md ops Q S T b f (l.setIfInBounds i true) (a.put (Option.some d) v) w) : AnyL P md ops Q S T b (f + 1) l a w :=
  AnyL.first (R := T) hi (Region.noSelect_spec hs) hib hQ f l a w (Region.free_spec hi hf) (by simpa using hr) (.inl ⟨hw, hv⟩) hB (.inr ⟨fun _ q => q, hlb, hwb⟩) (by rw [hd]; exact h)
def AllL (P : Program) (md : Region.Mode) (ops : Array Oper) (Q : Exit → Act → World → Prop) (S T : World → Prop) (b f : Nat) (l : Array Bool) (a : Act) (w : World) (rs : List Nat) : Prop :=
  ∀ i ∈ rs, wpOp P ops Q i (fun a' w' => Both S T b (l.setIfInBounds i true) w' ∧ AnyL P md ops Q S T b f (l.setIfInBounds i true) a' w') a w
theorem AllL.nil {f : Nat} {l : Array Bool} {a : Act} {w : World} : AllL P md ops Q S T b f l a w [] := fun _ h => by cases h
theorem AllL.cons {f : Nat} {l : Array Bool} {a : Act} {w : World} {i : Nat} {o : Oper} {rs : List Nat} (ho : ops[i]? = Option.some o)
    (h : ∀ K' : Act → World → Prop, Shut (∀ a w, Both S T b (l.setIfInBounds i true) w → AnyL P md ops Q S T b f (l.setIfInBounds i true) a w → K' a w) → if Region.wanted o (yielded ops a.tmps) = true then Oper.wp P o a w K' Q else K' (a.put o.dst undef) w)
    (hs : AllL P md ops Q S T b f l a w rs) : AllL P md ops Q S T b f l a w (i :: rs) := fun j hj => by
  rcases List.mem_cons.1 hj with e | hj
  · rw [e]
    exact wpOp_step ho (fun K' hK => h K' (fun a w hS hW => hK a w ⟨hS, hW⟩))
  · exact hs j hj
theorem AnyL.ready {rs : List Nat} {f : Nat} {l : Array Bool} {a : Act} {w : World} (hr : Region.ready md ops l = rs) (hne : rs ≠ []) (h : AllL P md ops Q S T b f l a w rs) : AnyL P md ops Q S T b (f + 1) l a w :=
  ⟨fun h0 => absurd (hr ▸ h0) hne, hr ▸ h⟩
/-! The moves, with the two conditions apart. -/
theorem both_of {l : Array Bool} {w : World} (h : S w ∧ T w) : Both S T b l w := ⟨h.1, .inr h.2⟩
theorem AnyL.tS {i d : Nat} {oi : Oper} {v : Value} {f : Nat} {l : Array Bool} {a : Act} {w : World} (hi : ops[i]? = Option.some oi) (hd : oi.dst = Option.some d) (hs : Region.noSelect ops = true) (hf : Region.free md ops l i = true) (hr : (Region.ready md ops l).contains i = true) (hib : i ≠ b)
    (hQ : ∀ c a w, Q (.panic c) (a.put oi.dst v) w → Q (.panic c) a w) (hw : Region.wanted oi (yielded ops a.tmps) = true) (hv : ∀ w, S w → (execOp a.eval oi).run P w = .ok (.value v) w) (hB : S w ∧ T w)
    (h : AnyL P md ops Q S T b f (l.setIfInBounds i true) (a.put (Option.some d) v) w) : AnyL P md ops Q S T b (f + 1) l a w :=
  AnyL.takeS hi hd hs hf hr hib hQ hw (both_of hB) hv h
theorem AnyL.tT {i d : Nat} {oi : Oper} {v : Value} {f : Nat} {l : Array Bool} {a : Act} {w : World} (hi : ops[i]? = Option.some oi) (hd : oi.dst = Option.some d) (hs : Region.noSelect ops = true) (hf : Region.free md ops l i = true) (hr : (Region.ready md ops l).contains i = true) (hib : i ≠ b)
    (hlb : l.getD b false = false) (hwb : waitsB md ops b i = true)
    (hQ : ∀ c a w, Q (.panic c) (a.put oi.dst v) w → Q (.panic c) a w) (hw : Region.wanted oi (yielded ops a.tmps) = true) (hv : ∀ w, T w → (execOp a.eval oi).run P w = .ok (.value v) w) (hB : S w ∧ T w)
    (h : AnyL P md ops Q S T b f (l.setIfInBounds i true) (a.put (Option.some d) v) w) : AnyL P md ops Q S T b (f + 1) l a w :=
  AnyL.takeT hi hd hs hf hr hib hlb hwb hQ hw (both_of hB) hv h
/-- an operation other than b, ahead of it -/
theorem AllL.consN {f : Nat} {l : Array Bool} {a : Act} {w : World} {i : Nat} {o : Oper} {rs : List Nat} (ho : ops[i]? = Option.some o)
    (h : ∀ K' : Act → World → Prop, Shut (∀ a w, (S w ∧ T w) → (S w ∧ T w → AnyL P md ops Q S T b f (l.setIfInBounds i true) a w) → K' a w) → if Region.wanted o (yielded ops a.tmps) = true then Oper.wp P o a w K' Q else K' (a.put o.dst undef) w)
    (hs : AllL P md ops Q S T b f l a w rs) : AllL P md ops Q S T b f l a w (i :: rs) :=
  AllL.cons ho (fun K' hK => h K' (fun a w hST hW => hK.out a w (both_of hST) (hW hST))) hs
/-- operation b, and what comes behind it -/
theorem AllL.consB {f : Nat} {l : Array Bool} {a : Act} {w : World} {i : Nat} {o : Oper} {rs : List Nat} (ho : ops[i]? = Option.some o) (hl : (l.setIfInBounds i true).getD b false = true)
    (h : ∀ K' : Act → World → Prop, Shut (∀ a w, S w → AnyL P md ops Q S T b f (l.setIfInBounds i true) a w → K' a w) → if Region.wanted o (yielded ops a.tmps) = true then Oper.wp P o a w K' Q else K' (a.put o.dst undef) w)
    (hs : AllL P md ops Q S T b f l a w rs) : AllL P md ops Q S T b f l a w (i :: rs) :=
  AllL.cons ho (fun K' hK => h K' (fun a w hS hW => hK.out a w ⟨hS, .inl hl⟩ hW)) hs
/-- taken behind b, in whatever world -/
theorem AnyL.tE {i d : Nat} {oi : Oper} {v : Value} {f : Nat} {l : Array Bool} {a : Act} {w : World} (hi : ops[i]? = Option.some oi) (hd : oi.dst = Option.some d) (hs : Region.noSelect ops = true) (hf : Region.free md ops l i = true) (hr : (Region.ready md ops l).contains i = true) (hib : i ≠ b) (hl : l.getD b false = true)
    (hQ : ∀ c a w, Q (.panic c) (a.put oi.dst v) w → Q (.panic c) a w) (hw : Region.wanted oi (yielded ops a.tmps) = true) (hv : ∀ w, S w → (execOp a.eval oi).run P w = .ok (.value v) w) (hB : S w)
    (h : AnyL P md ops Q S T b f (l.setIfInBounds i true) (a.put (Option.some d) v) w) : AnyL P md ops Q S T b (f + 1) l a w :=
  AnyL.takeS hi hd hs hf hr hib hQ hw ⟨hB, .inl hl⟩ hv h
end
end Go.Proofs.YthgbhnedfdnfpaaDoor

/- Chapter 4's functions that return lists of indices: children, leaves. -/
namespace Go.Proofs.YthgbhnedfdnfpaaDoor
set_option maxRecDepth 100000
open Go.RowKit
set_option linter.unusedVariables false

def SaysTS (w : World) (K : List Nat) (b : Bool) (e : Ending) (w' : World) : Prop := ∃ v, e = .returned (.tuple #[v, .bool b]) ∧ w'.ownsRow w.heap.size 3 1 v K.length (nv K) ∧ Below w.heap.size w w'
theorem ret_vb {v : Value} {p q : Bool} (h' : p = q) : Ending.returned (.tuple #[v, .bool p]) = .returned (.tuple #[v, .bool q]) := by rw [h']
def resChildClasses1 (c : Cfg) (a : Int) : List Nat := if hasI c a then kids c.cs (c.cs.getD a.toNat cls0).i else []
def resChildClasses2 (c : Cfg) (a : Int) : Bool := hasI c a
theorem cc_bad {c : Cfg} {a : Int} (h : hasI c a = false) : resChildClasses1 c a = [] ∧ resChildClasses2 c a = false := by unfold resChildClasses1 resChildClasses2; rw [h]; exact ⟨rfl, rfl⟩
theorem cc_good {c : Cfg} {q : Nat} (h : hasI c (q : Int) = true) : resChildClasses1 c q = kids c.cs (c.cs.getD q cls0).i ∧ resChildClasses2 c q = true := by unfold resChildClasses1 resChildClasses2; rw [h]; exact ⟨rfl, rfl⟩
theorem lenChildClasses (c : Cfg) (a : Int) : (resChildClasses1 c a).length ≤ 24 := by
  unfold resChildClasses1
  by_cases h : hasI c a = true
  · rw [if_pos h]
    have h1 := kidsF_len (c.cs.getD a.toNat cls0).i c.cs 0
    have h2 := (good_of (has_iff h).1).n24
    unfold kids
    omega
  · rw [if_neg h]; simp
set_option maxHeartbeats 3200000 in
theorem specChildClasses_any (v : Value) (c : Cfg) (a : Int) (w : World) (HV : Hid (CfgV w v c)) (HM : Hid (CfgM c)) :
    Calls Tryd.prog 8 #[v, .int .i64 a] w (SaysTS w (resChildClasses1 c a) (resChildClasses2 c a)) := by
  obtain ⟨ac, cc, af, cf, rfl, ic, if_⟩ := HV.out
  obtain ⟨s, cs, fs, d⟩ := c
  have hM := HM.out
  unfold CfgM at hM
  simp only at ic if_ hM HV ⊢
  obtain ⟨q0, q1, q2⟩ := hM
  have HI := Lib.hid ic
  have HJ := Lib.hid if_
  have HVB := Lib.hid (fun w' (b : Below w.heap.size w w') => Lib.hid (HV.out.below b))
  have A0 := Lib.hid (Aft.refl w (Obj.cells #[.string s, .slice ac cs.length cc, .slice af fs.length cf, .int .i64 d] 26))
  clear ic if_
  have HH := Lib.hid (fun w' (b : Below w.heap.size w w') => cfHas_any (.agg #[.string s, .slice ac cs.length cc, .slice af fs.length cf, .int .i64 d]) ⟨s, cs, fs, d⟩ a w' (HVB.out w' b) HM)
  cases hh : hasI ⟨s, cs, fs, d⟩ a
  · obtain ⟨x1, x2⟩ := cc_bad hh
    rw [x1, x2]
    rw [hh] at HH
    clear x1 x2 hh
    go_enter Tryd.func8, Tryd.ntmps8
    go_wp2_with (go_at_call 24; refine (HH.out _ A0.out.all.2).mono ?_; rintro e w1 ⟨rfl, b1⟩; have A1 := Lib.hid (A0.out.on b1); clear b1)
    go_ret2
    exact ⟨_, rfl, World.ownsRow_nil _ _ _ _, A1.out.all.2⟩
  · rw [hh] at HH
    obtain ⟨hg, q, rfl, hq⟩ := has_iff hh
    obtain ⟨x1, x2⟩ := cc_good hh
    have HKD := Lib.hid (fun w' HI => cfKids_any s ac af cs.length cc fs.length cf d cs q w' HI (Lib.hid rfl) q1 hq)
    rw [x1, x2]
    simp only
    generalize kids cs (cs.getD q cls0).i = K at HKD ⊢
    clear x1 x2 hh hg
    go_enter Tryd.func8, Tryd.ntmps8
    go_wp2_with (go_at_call 24; refine (HH.out _ A0.out.all.2).mono ?_; rintro e w1 ⟨rfl, b1⟩; have A1 := Lib.hid (A0.out.on b1); obtain ⟨c0, c1, c2, c3, _⟩ := A1.out.all.1; clear b1)
    go_wp2_with (go_at_call 26; refine (HKD.out _ (Lib.hid (HI.out.below A1.out.all.2))).mono ?_; rintro e w2 ⟨v2, rfl, o2, b2⟩; have A2 := Lib.hid (A1.out.on b2); have O2 := Lib.hid (own_base o2 A1.out.all.2.size); clear b2 o2)
    go_ret2
    exact ⟨_, rfl, O2.out, A2.out.all.2⟩
set_option maxHeartbeats 6400000 in
theorem implChildClasses_any (v : Value) (c : Cfg) (a : Int) (w : World) (HK : Hid (Kwt w)) (HV : Hid (CfgV w v c)) (HM : Hid (CfgM c)) :
    Calls Tryd.prog 7 #[v, .int .i64 a] w (SaysTS w (resChildClasses1 c a) (resChildClasses2 c a)) := by
  obtain ⟨ac, cc, af, cf, rfl, ic, if_⟩ := HV.out
  obtain ⟨s, cs, fs, d⟩ := c
  have hM := HM.out
  unfold CfgM at hM
  simp only at ic if_ hM HV ⊢
  obtain ⟨q0, q1, q2⟩ := hM
  have HI := Lib.hid ic
  have HJ := Lib.hid if_
  have HVB := Lib.hid (fun w' (b : Below w.heap.size w w') => Lib.hid (HV.out.below b))
  have A0 := Lib.hid (Aft.refl w (Obj.cells #[.string s, .slice ac cs.length cc, .slice af fs.length cf, .int .i64 d] 26))
  clear ic if_
  have HH := Lib.hid (fun w' (b : Below w.heap.size w w') => hasIndex_any (.agg #[.string s, .slice ac cs.length cc, .slice af fs.length cf, .int .i64 d]) ⟨s, cs, fs, d⟩ a w' (Lib.hid (HK.out.below b)) (HVB.out w' b) HM)
  cases hh : hasI ⟨s, cs, fs, d⟩ a
  · obtain ⟨x1, x2⟩ := cc_bad hh
    rw [x1, x2]
    rw [hh] at HH
    clear x1 x2 hh
    go_enter Tryd.func7, Tryd.ntmps7
    go_wp2_with (go_at_call 21; refine (HH.out _ A0.out.all.2).mono ?_; rintro e w1 ⟨rfl, b1⟩; have A1 := Lib.hid (A0.out.on b1); clear b1)
    go_ret2
    exact ⟨_, rfl, World.ownsRow_nil _ _ _ _, A1.out.all.2⟩
  · rw [hh] at HH
    obtain ⟨hg, q, rfl, hq⟩ := has_iff hh
    obtain ⟨x1, x2⟩ := cc_good hh
    rw [x1, x2]
    simp only at hq ⊢
    obtain ⟨i0, hi, hz0, hz1, hz2⟩ := info_parts infoI
    obtain ⟨y, hy⟩ : ∃ y, cs.getD q cls0 = y := ⟨_, rfl⟩
    rw [hy]
    obtain ⟨K, hK⟩ : ∃ K, kids cs y.i = K := ⟨_, rfl⟩
    have H0 : Hid ([] ++ kidsF y.i 0 (cs.drop 0) = K) := Lib.hid hK
    rw [hK]
    have HY := Lib.hid hy
    obtain ⟨n, hn⟩ : ∃ n, cs.length = n := ⟨_, rfl⟩
    have HN := Lib.hid hn
    simp only [hn] at hq HH HI A0 HV HVB q1 ⊢
    clear x1 x2 hh hg hK hy hn
    go_enter Tryd.func7, Tryd.ntmps7
    go_wp2_with (go_at_call 21; refine (HH.out _ A0.out.all.2).mono ?_; rintro e w1 ⟨rfl, b1⟩; have A1 := Lib.hid (A0.out.on b1); obtain ⟨c0, c1, c2, c3, _⟩ := A1.out.all.1; clear b1)
    go_loopw [6, 16] (fun out i wr => KRel w (Obj.cells #[.string s, .slice ac n cc, .slice af fs.length cf, .int .i64 d] 26) n cs y.i K out i wr) (fun _ i _ => n - (intOf i).toNat)
    case atStart => exact ⟨0, [], Nat.zero_le _, Nat.le_refl _, rfl, A1.out, World.ownsRow_nil _ _ _ _, H0⟩
    case round =>
      obtain ⟨k, ks, hk, hkl, rfl, hb, ho, HP⟩ := hrel
      have HB := Lib.hid hb
      have HO := Lib.hid ho
      clear c0 c1 c2 c3
      by_cases hlt : k < n
      · obtain ⟨g, rfl, ht, hg⟩ := HI.out (by omega)
        obtain ⟨x, hx⟩ : ∃ x, cs.getD k cls0 = x := ⟨_, rfl⟩
        have hl1 : k < cs.length := by rw [HN.out]; exact hlt
        have ht2 := ht.below hb.all.2 hg
        obtain ⟨a0, a1, a2, a3, a4, a5, a6, a7⟩ := ht2.cls k hl1 x hx
        have hgr : g < wr.heap.size := Nat.lt_of_lt_of_le hg hb.all.2.size
        have b0 := ((ht2.cls q (by rw [HN.out]; exact hq) y HY.out).later hgr).1
        obtain ⟨_, e1, _, _, hgw⟩ := hb.all.1
        have e1' := fun o => ((bcell (one_new2 wr o)).1 _ 1 hgw).trans e1
        have HE := Lib.hid (kidsF_at y.i cs k hl1 x hx)
        obtain ⟨yi, yp, yr, ye, yb, yu, yo, yl⟩ := y
        obtain ⟨xi, xp, xr, xe, xb, xu, xo, xl⟩ := x
        simp only at a0 a1 a2 a3 a4 a5 a6 a7 b0 HE
        clear hb hx hl1 ht ht2 e1
        by_cases he : xp = yi
        · have dq : (xp == yi) = true := by simpa using he
          have HX : Hid ((ks ++ [k]) ++ kidsF yi (k + 1) (cs.drop (k + 1)) = K) := Lib.hid (by rw [← HP.out, HE.out, if_pos he]; simp)
          clear he
          go_wp2_with fail
          go_quiet (fail)
          go_wp2_with (at_builtin; refine wpList_append_own _ rfl _ _ 29 rfl (w.heap.size + 1) 3 i0 (.int .i64 0) 1 8 Tryd.underlying29 hi hz0 hz1 hz2 rfl (by decide) _ _ _ rfl (World.ownsRow.alloc (w := (wr.alloc (Obj.cells #[.int .i64 xi, .int .i64 xp, .int .i64 xr, .int .i64 xe, .int .i64 xb, .int .i64 xu, .int .i64 xo, .int .i64 xl] 43)).drewN nq) (World.ownsRow.alloc HO.out _) _) ⟨wr.heap.size + 1, 0, none⟩ 1 1 [.int .i64 (k : Int)] rfl rfl (by have := one_int ((wr.alloc (Obj.cells #[.int .i64 xi, .int .i64 xp, .int .i64 xr, .int .i64 xe, .int .i64 xb, .int .i64 xu, .int .i64 xo, .int .i64 xl] 43)).drewN nq) (.int .i64 (k : Int)) 3; simpa using this) (by intro u hu; simp at hu; subst hu; rfl) (by unfold maxLen; omega) (by omega) (by have := (HB.out.all).1.2.2.2.2; simp; omega) ?_; intro v' w3 hown1 hgrow1 _)
          have F := Lib.hid (own_snoc rfl ((((Below.refl (w.heap.size + 1) wr).alloc (HB.out.all).1.2.2.2.2 (Obj.cells #[.int .i64 xi, .int .i64 xp, .int .i64 xr, .int .i64 xe, .int .i64 xb, .int .i64 xu, .int .i64 xo, .int .i64 xl] 43)).trans (below_drewN (Below.refl _ _) nq)).alloc (by have := (HB.out.all).1.2.2.2.2; simp; omega) _) hown1 (by have := (HB.out.all).1.2.2.2.2; simp; omega) hgrow1 (fun g h => (World.ownsRow.lt HO.out g h).1))
          clear hown1 hgrow1
          go_roundw
          case rel => exact ⟨k + 1, ks ++ [k], by omega, by simp; omega, by go_num, HB.out.up F.out.2, F.out.1, HX⟩
          case measure => simp [intOf]; omega
        · have dq : (xp == yi) = false := by simpa using he
          have HX : Hid (ks ++ kidsF yi (k + 1) (cs.drop (k + 1)) = K) := Lib.hid (by rw [← HP.out, HE.out, if_neg he])
          clear he
          go_wp2_with fail
          go_quiet (fail)
          go_wp2_with fail
          go_roundw
          case rel => exact ⟨k + 1, ks, by omega, by omega, by go_num, (HB.out.alloc _).on (below_drewN (Below.refl _ _) _), World.ownsRow.alloc HO.out _, HX⟩
          case measure => simp [intOf]; omega
      · have HX : Hid (ks = K) := Lib.hid (by rw [← HP.out, kidsF_end _ cs k (by rw [HN.out]; omega), List.append_nil])
        clear hb ho
        go_wp2_with fail
        go_ret2
        exact ⟨_, rfl, by rw [← HX.out]; exact own_base HO.out (Nat.le_succ _), HB.out.all.2⟩
end Go.Proofs.YthgbhnedfdnfpaaDoor
