import Derived.Test.YthgbhnedfdnfpaaGreatDoorPki
import Derived.Test.YthgbhnedfdnfpaaGreatDoorPkt
import Derived.Test.YthgbhnedfdnfpaaGreatDoorPkj
import Derived.Test.YthgbhnedfdnfpaaGreatDoorPkx
/- A region that draws its order and, last of all, writes a cell that it has read: loads are taken first under two conditions on the world, of which the second falls once a marked operation is listed (the append that waits for the load). -/
namespace Go.Proofs.YthgbhnedfdnfpaaGreatDoor
set_option maxRecDepth 100000
open Go.RowKit
set_option linter.unusedVariables false

section
variable {P : Program} {ops : Array Oper} {Q : Exit → Act → World → Prop} {md : Region.Mode} {S T : World → Prop} {b : Nat}
def Both (S T : World → Prop) (b : Nat) (l : Array Bool) (w : World) : Prop := S w ∧ (l.getD b false = true ∨ T w)
def AnyL (P : Program) (md : Region.Mode) (ops : Array Oper) (Q : Exit → Act → World → Prop) (S T : World → Prop) (b : Nat) : Nat → Array Bool → Act → World → Prop
  | 0, l, a, w => Region.ready md ops l = [] ∧ Q .normal a w
  | f + 1, l, a, w => (Region.ready md ops l = [] → Q .normal a w) ∧
    ∀ i ∈ Region.ready md ops l, wpOp P ops Q i (fun a' w' => Both S T b (l.setIfInBounds i true) w' ∧ AnyL P md ops Q S T b f (l.setIfInBounds i true) a' w') a w
theorem AnyL.any : ∀ (f : Nat) (l : Array Bool) (a : Act) (w : World), AnyL P md ops Q S T b f l a w → wpAny P md ops Q f l a w
  | 0, _, _, _, h => h
  | f + 1, _, _, _, h => ⟨h.1, fun i hi => wpOp_mono (fun _ _ k => AnyL.any f _ _ _ k.2) (h.2 i hi)⟩
theorem AnyL.begin {id : Nat} {a : Act} {w : World} (hm : P.follows .mixedOrders = true) (h : AnyL P .any ops Q S T b ops.size (Array.replicate ops.size false) a w.drew) : (Code.region id ops true).wp P Q a w :=
  wp_region_any hm (AnyL.any _ _ _ _ h)
theorem AnyL.done {l : Array Bool} {a : Act} {w : World} (hr : Region.ready md ops l = []) (h : Q .normal a w) : ∀ f, AnyL P md ops Q S T b f l a w
  | 0 => ⟨hr, h⟩
  | _ + 1 => ⟨fun _ => h, fun i hi => by rw [hr] at hi; cases hi⟩
def waitsB (md : Region.Mode) (ops : Array Oper) (b i : Nat) : Bool := match ops[b]? with
  | some ob => ob.after.any (fun e => Region.binds md e && (e.on == i))
  | none => false
def Leans (S T R : World → Prop) (md : Region.Mode) (ops : Array Oper) (b i : Nat) (l : Array Bool) : Prop :=
  (∀ w, S w → R w) ∨ ((∀ w, T w → R w) ∧ l.getD b false = false ∧ waitsB md ops b i = true)
theorem Leans.at {R : World → Prop} {i : Nat} {l : Array Bool} {w : World} (h : Leans S T R md ops b i l) (hb : Both S T b l w) : R w := by
  rcases h with h | ⟨h, hl, _⟩
  · exact h w hb.1
  · rcases hb.2 with k | k
    · rw [hl] at k; cases k
    · exact h w k
theorem unlisted {l : Array Bool} {i : Nat} (h : l.getD i true = false) : l.getD i false = false := by
  rcases Nat.lt_or_ge i l.size with q | q
  · simp [q] at h ⊢; exact h
  · simp [Array.getElem?_eq_none q]
theorem Leans.next {R : World → Prop} {i j : Nat} {l : Array Bool} (h : Leans S T R md ops b i l) (hi : i ∈ Region.ready md ops l) (hj : j ∈ Region.ready md ops l) : Leans S T R md ops b i (l.setIfInBounds j true) := by
  rcases h with h | ⟨h, hl, hw⟩
  · exact .inl h
  · refine .inr ⟨h, ?_, hw⟩
    have hne : j ≠ b := fun e => by
      subst e
      obtain ⟨_, o, ho, hall⟩ := mem_ready.1 hj
      unfold waitsB at hw
      rw [ho] at hw
      obtain ⟨k, hk, h1, h2⟩ : ∃ e ∈ o.after, Region.binds md e = true ∧ e.on = i := by
        have := Array.any_eq_true.1 hw
        obtain ⟨x, hx, hb⟩ := this
        rw [Bool.and_eq_true, beq_iff_eq] at hb
        exact ⟨_, Array.getElem_mem hx, hb.1, hb.2⟩
      have q := hall k hk h1
      rw [h2, unlisted (mem_ready.1 hi).1] at q
      cases q
    rw [getD_set_ne false hne]
    exact hl
theorem AnyL.first {R : World → Prop} {i : Nat} {oi : Oper} {v : Value} (hi : ops[i]? = Option.some oi) (hsel : ∀ (j : Nat) (o : Oper) cs x, ops[j]? = some o → o.op ≠ .select cs x) (hib : i ≠ b)
    (hQ : ∀ c a w, Q (.panic c) (a.put oi.dst v) w → Q (.panic c) a w) : ∀ (f : Nat) (l : Array Bool) (a : Act) (w : World),
      (∀ j oj, ops[j]? = some oj → j ≠ i → l.getD j true = false → (∀ e ∈ oj.after, Region.binds md e = true → e.on ≠ i) → oi.apart ops oj = true) →
      i ∈ Region.ready md ops l → YieldsIf P ops R oi v a → Both S T b l w → Leans S T R md ops b i l →
      AnyL P md ops Q S T b f (l.setIfInBounds i true) (a.put oi.dst v) w → AnyL P md ops Q S T b (f + 1) l a w
  | f, l, a, w, hfree, hr, hy, hB, hL, H => by
    refine ⟨fun e => absurd hr (by rw [e]; exact List.not_mem_nil), fun j hj => ?_⟩
    by_cases hji : j = i
    · rw [hji]
      refine hy.wpOp hi (hL.at hB) ⟨⟨hB.1, hB.2.imp (fun q => getD_set_true q) id⟩, H⟩
    · match f, H with
      | 0, H => exact absurd (ready_mono hj hji) (by rw [H.1]; exact List.not_mem_nil)
      | f + 1, H =>
        obtain ⟨hu, oj, hoj, hall⟩ := mem_ready.1 hj
        have hno : ∀ e ∈ oj.after, Region.binds md e = true → e.on ≠ i := fun e he hb q => by
          have k := hall e he hb
          rw [q, unlisted (mem_ready.1 hr).1] at k
          cases k
        have h2 := wpOp_putIf hoj (hfree j oj hoj hji hu hno) (fun cs x => hsel i oi cs x hi) (fun cs x => hsel j oj cs x hoj) hQ hy (H.2 j (ready_mono hj hji))
        refine wpOp_mono (fun a' w' k => ?_) h2
        obtain ⟨k1, ⟨k2, k3⟩, k4⟩ := k
        rw [Array.setIfInBounds_comm _ _ (Ne.symm hji)] at k3 k4
        rw [getD_set_ne false hib] at k3
        refine ⟨⟨k2, k3⟩, AnyL.first hi hsel hib hQ f _ a' w' (fun p op hp hpi hun hn => ?_) (ready_mono hr (Ne.symm hji)) k1 ⟨k2, k3⟩ (hL.next hr hj) k4⟩
        refine hfree p op hp hpi ?_ hn
        by_cases hjp : j = p
        · rw [← hjp]; exact hu
        · rw [getD_set_ne true hjp] at hun; exact hun
theorem AnyL.takeS {i d : Nat} {oi : Oper} {v : Value} {f : Nat} {l : Array Bool} {a : Act} {w : World} (hi : ops[i]? = Option.some oi) (hd : oi.dst = Option.some d) (hs : Region.noSelect ops = true) (hf : Region.free md ops l i = true) (hr : (Region.ready md ops l).contains i = true) (hib : i ≠ b)
    (hQ : ∀ c a w, Q (.panic c) (a.put oi.dst v) w → Q (.panic c) a w) (hw : Region.wanted oi (yielded ops a.tmps) = true) (hB : Both S T b l w) (hv : ∀ w, S w → (execOp a.eval oi).run P w = .ok (.value v) w)
    (h : AnyL P md ops Q S T b f (l.setIfInBounds i true) (a.put (Option.some d) v) w) : AnyL P md ops Q S T b (f + 1) l a w :=
  AnyL.first (R := S) hi (Region.noSelect_spec hs) hib hQ f l a w (Region.free_spec hi hf) (by simpa using hr) (.inl ⟨hw, hv⟩) hB (.inl fun _ q => q) (by rw [hd]; exact h)
theorem AnyL.takeT {i d : Nat} {oi : Oper} {v : Value} {f : Nat} {l : Array Bool} {a : Act} {w : World} (hi : ops[i]? = Option.some oi) (hd : oi.dst = Option.some d) (hs : Region.noSelect ops = true) (hf : Region.free md ops l i = true) (hr : (Region.ready md ops l).contains i = true) (hib : i ≠ b)
    (hlb : l.getD b false = false) (hwb : waitsB md ops b i = true)
    (hQ : ∀ c a w, Q (.panic c) (a.put oi.dst v) w → Q (.panic c) a w) (hw : Region.wanted oi (yielded ops a.tmps) = true) (hB : Both S T b l w) (hv : ∀ w, T w → (execOp a.eval oi).run P w = .ok (.value v) w)
    (h : AnyL P md ops Q S T b f (l.setIfInBounds i true) (a.put (Option.some d) v) w) : AnyL P md ops Q S T b (f + 1) l a w :=
  AnyL.first (R := T) hi (Region.noSelect_spec hs) hib hQ f l a w (Region.free_spec hi hf) (by simpa using hr) (.inl ⟨hw, hv⟩) hB (.inr ⟨fun _ q => q, hlb, hwb⟩) (by rw [hd]; exact h)
def AllL (P : Program) (md : Region.Mode) (ops : Array Oper) (Q : Exit → Act → World → Prop) (S T : World → Prop) (b f : Nat) (l : Array Bool) (a : Act) (w : World) (rs : List Nat) : Prop :=
  ∀ i ∈ rs, wpOp P ops Q i (fun a' w' => Both S T b (l.setIfInBounds i true) w' ∧ AnyL P md ops Q S T b f (l.setIfInBounds i true) a' w') a w
theorem AllL.nil {f : Nat} {l : Array Bool} {a : Act} {w : World} : AllL P md ops Q S T b f l a w [] := fun _ h => by cases h
theorem AllL.cons {f : Nat} {l : Array Bool} {a : Act} {w : World} {i : Nat} {o : Oper} {rs : List Nat} (ho : ops[i]? = Option.some o)
    (h : ∀ K' : Act → World → Prop, Shut (∀ a w, Both S T b (l.setIfInBounds i true) w → AnyL P md ops Q S T b f (l.setIfInBounds i true) a w → K' a w) → if Region.wanted o (yielded ops a.tmps) = true then Oper.wp P o a w K' Q else K' (a.put o.dst undef) w)
    (hs : AllL P md ops Q S T b f l a w rs) : AllL P md ops Q S T b f l a w (i :: rs) := fun j hj => by
  rcases List.mem_cons.1 hj with e | hj
  · rw [e]
    exact wpOp_step ho (fun K' hK => h K' (fun a w hS hW => hK a w ⟨hS, hW⟩))
  · exact hs j hj
theorem AnyL.ready {rs : List Nat} {f : Nat} {l : Array Bool} {a : Act} {w : World} (hr : Region.ready md ops l = rs) (hne : rs ≠ []) (h : AllL P md ops Q S T b f l a w rs) : AnyL P md ops Q S T b (f + 1) l a w :=
  ⟨fun h0 => absurd (hr ▸ h0) hne, hr ▸ h⟩
theorem both_of {l : Array Bool} {w : World} (h : S w ∧ T w) : Both S T b l w := ⟨h.1, .inr h.2⟩
theorem AnyL.tS {i d : Nat} {oi : Oper} {v : Value} {f : Nat} {l : Array Bool} {a : Act} {w : World} (hi : ops[i]? = Option.some oi) (hd : oi.dst = Option.some d) (hs : Region.noSelect ops = true) (hf : Region.free md ops l i = true) (hr : (Region.ready md ops l).contains i = true) (hib : i ≠ b)
    (hQ : ∀ c a w, Q (.panic c) (a.put oi.dst v) w → Q (.panic c) a w) (hw : Region.wanted oi (yielded ops a.tmps) = true) (hv : ∀ w, S w → (execOp a.eval oi).run P w = .ok (.value v) w) (hB : S w ∧ T w)
    (h : AnyL P md ops Q S T b f (l.setIfInBounds i true) (a.put (Option.some d) v) w) : AnyL P md ops Q S T b (f + 1) l a w :=
  AnyL.takeS hi hd hs hf hr hib hQ hw (both_of hB) hv h
theorem AnyL.tT {i d : Nat} {oi : Oper} {v : Value} {f : Nat} {l : Array Bool} {a : Act} {w : World} (hi : ops[i]? = Option.some oi) (hd : oi.dst = Option.some d) (hs : Region.noSelect ops = true) (hf : Region.free md ops l i = true) (hr : (Region.ready md ops l).contains i = true) (hib : i ≠ b)
    (hlb : l.getD b false = false) (hwb : waitsB md ops b i = true)
    (hQ : ∀ c a w, Q (.panic c) (a.put oi.dst v) w → Q (.panic c) a w) (hw : Region.wanted oi (yielded ops a.tmps) = true) (hv : ∀ w, T w → (execOp a.eval oi).run P w = .ok (.value v) w) (hB : S w ∧ T w)
    (h : AnyL P md ops Q S T b f (l.setIfInBounds i true) (a.put (Option.some d) v) w) : AnyL P md ops Q S T b (f + 1) l a w :=
  AnyL.takeT hi hd hs hf hr hib hlb hwb hQ hw (both_of hB) hv h
theorem AllL.consN {f : Nat} {l : Array Bool} {a : Act} {w : World} {i : Nat} {o : Oper} {rs : List Nat} (ho : ops[i]? = Option.some o)
    (h : ∀ K' : Act → World → Prop, Shut (∀ a w, (S w ∧ T w) → (S w ∧ T w → AnyL P md ops Q S T b f (l.setIfInBounds i true) a w) → K' a w) → if Region.wanted o (yielded ops a.tmps) = true then Oper.wp P o a w K' Q else K' (a.put o.dst undef) w)
    (hs : AllL P md ops Q S T b f l a w rs) : AllL P md ops Q S T b f l a w (i :: rs) :=
  AllL.cons ho (fun K' hK => h K' (fun a w hST hW => hK.out a w (both_of hST) (hW hST))) hs
theorem AllL.consB {f : Nat} {l : Array Bool} {a : Act} {w : World} {i : Nat} {o : Oper} {rs : List Nat} (ho : ops[i]? = Option.some o) (hl : (l.setIfInBounds i true).getD b false = true)
    (h : ∀ K' : Act → World → Prop, Shut (∀ a w, S w → AnyL P md ops Q S T b f (l.setIfInBounds i true) a w → K' a w) → if Region.wanted o (yielded ops a.tmps) = true then Oper.wp P o a w K' Q else K' (a.put o.dst undef) w)
    (hs : AllL P md ops Q S T b f l a w rs) : AllL P md ops Q S T b f l a w (i :: rs) :=
  AllL.cons ho (fun K' hK => h K' (fun a w hS hW => hK.out a w ⟨hS, .inl hl⟩ hW)) hs
theorem AnyL.tE {i d : Nat} {oi : Oper} {v : Value} {f : Nat} {l : Array Bool} {a : Act} {w : World} (hi : ops[i]? = Option.some oi) (hd : oi.dst = Option.some d) (hs : Region.noSelect ops = true) (hf : Region.free md ops l i = true) (hr : (Region.ready md ops l).contains i = true) (hib : i ≠ b) (hl : l.getD b false = true)
    (hQ : ∀ c a w, Q (.panic c) (a.put oi.dst v) w → Q (.panic c) a w) (hw : Region.wanted oi (yielded ops a.tmps) = true) (hv : ∀ w, S w → (execOp a.eval oi).run P w = .ok (.value v) w) (hB : S w)
    (h : AnyL P md ops Q S T b f (l.setIfInBounds i true) (a.put (Option.some d) v) w) : AnyL P md ops Q S T b (f + 1) l a w :=
  AnyL.takeS hi hd hs hf hr hib hQ hw ⟨hB, .inl hl⟩ hv h
end
end Go.Proofs.YthgbhnedfdnfpaaGreatDoor

/- Chapter 4's functions that return lists of indices: children, leaves. -/
namespace Go.Proofs.YthgbhnedfdnfpaaGreatDoor
set_option maxRecDepth 100000
open Go.RowKit
set_option linter.unusedVariables false

def SaysTS (w : World) (K : List Nat) (b : Bool) (e : Ending) (w' : World) : Prop := ∃ v, e = .returned (.tuple #[v, .bool b]) ∧ w'.ownsRow w.heap.size 3 1 v K.length (nv K) ∧ Below w.heap.size w w'
end Go.Proofs.YthgbhnedfdnfpaaGreatDoor

/- Chapter 4's functions that return lists of indices: all leaves, ways up. -/
namespace Go.Proofs.YthgbhnedfdnfpaaGreatDoor
set_option maxRecDepth 100000
open Go.RowKit
set_option linter.unusedVariables false

def lvsF (cs : List Cls) : Nat → List Cls → List Nat
  | _, [] => []
  | k, x :: r => if hasK cs x.i then lvsF cs (k + 1) r else k :: lvsF cs (k + 1) r
theorem lvsF_at (cs : List Cls) (k : Nat) (h : k < cs.length) (x : Cls) (hx : cs.getD k cls0 = x) : lvsF cs k (cs.drop k) = if hasK cs x.i then lvsF cs (k + 1) (cs.drop (k + 1)) else k :: lvsF cs (k + 1) (cs.drop (k + 1)) := by
  rw [drop_cls cs k h x hx, lvsF]
theorem lvsF_end (cs : List Cls) (k : Nat) (h : cs.length ≤ k) : lvsF cs k (cs.drop k) = [] := by
  rw [List.drop_eq_nil_of_le h]; rfl
theorem lvsF_len (cs : List Cls) : ∀ (l : List Cls) (k : Nat), (lvsF cs k l).length ≤ l.length
  | [], _ => Nat.le_refl _
  | y :: r, k => by
    have := lvsF_len cs r (k + 1)
    unfold lvsF
    split <;> simp <;> omega
def leaves (cs : List Cls) : List Nat := lvsF cs 0 cs
def LvRel (w : World) (o : Obj) (B n : Nat) (cs : List Cls) (K : List Nat) (out i : Value) (wr : World) : Prop :=
  ∃ (k : Nat) (ks : List Nat), k ≤ n ∧ ks.length ≤ k ∧ i = .int .i64 k ∧ Aft w o wr ∧ wr.ownsRow B 3 1 out ks.length (nv ks) ∧ Hid (ks ++ lvsF cs k (cs.drop k) = K)
set_option maxHeartbeats 6400000 in
theorem cfLeaves_any (s : ByteArray) (ac af : Option Addr) (n cc m cf : Nat) (d : Int) (cs : List Cls) (w : World) (HI : Hid (InX w ac n (clsCs cs))) (hn : Hid (cs.length = n)) (hm : n ≤ 1048576) :
    Calls Tryz.prog 76 #[(.agg #[.string s, .slice ac n cc, .slice af m cf, .int .i64 d])] w (SaysNs w (leaves cs)) := by
  obtain ⟨i0, hi, hz0, hz1, hz2⟩ := info_parts infoI
  obtain ⟨K, hK⟩ : ∃ K, leaves cs = K := ⟨_, rfl⟩
  have H0 : Hid ([] ++ lvsF cs 0 (cs.drop 0) = K) := Lib.hid hK
  have HLF := Lib.hid (fun q w HI hq => cfLeaf_any s ac af n cc m cf d cs q w HI hn hm hq)
  rw [hK]
  clear hK
  go_enter Tryz.func76, Tryz.ntmps76
  go_wp2_with fail
  go_loopw [3, 8] (fun out i wr => LvRel w (Obj.cells #[.string s, .slice ac n cc, .slice af m cf, .int .i64 d] 26) (w.heap.size + 1) n cs K out i wr) (fun _ i _ => n - (intOf i).toNat)
  case atStart => exact ⟨0, [], Nat.zero_le _, Nat.le_refl _, rfl, Aft.refl _ _, World.ownsRow_nil _ _ _ _, H0⟩
  case round =>
    obtain ⟨k, ks, hk, hkl, rfl, hb, ho, HP⟩ := hrel
    have HB := Lib.hid hb
    have HO := Lib.hid ho
    obtain ⟨e0, e1, e2, e3, hgw⟩ := hb.all.1
    by_cases hlt : k < n
    · obtain ⟨x, hx⟩ : ∃ x, cs.getD k cls0 = x := ⟨_, rfl⟩
      have hl1 : k < cs.length := by rw [hn.out]; exact hlt
      have HE := Lib.hid (lvsF_at cs k hl1 x hx)
      have HL := Lib.hid (fun w HI => HLF.out k w HI hlt)
      rw [hx] at HL
      clear hb ho hx hl1
      rcases Bool.eq_false_or_eq_true (hasK cs x.i) with hh | hh
      · have HX : Hid (ks ++ lvsF cs (k + 1) (cs.drop (k + 1)) = K) := Lib.hid (by rw [← HP.out, HE.out, hh]; rfl)
        rw [hh] at HL
        clear hh
        go_wp2_with (go_at_call 51; refine (HL.out _ (Lib.hid (HI.out.below HB.out.all.2))).mono ?_; rintro e w1 ⟨rfl, b1⟩; have A1 := Lib.hid (HB.out.on b1); have O1 := Lib.hid (own_low HO.out b1 (Nat.le_refl _)); clear b1)
        go_roundw
        case rel => exact ⟨k + 1, ks, by omega, by omega, by go_num, A1.out, O1.out, HX⟩
        case measure => simp [intOf]; omega
      · have HX : Hid ((ks ++ [k]) ++ lvsF cs (k + 1) (cs.drop (k + 1)) = K) := Lib.hid (by rw [← HP.out, HE.out, hh]; simp)
        rw [hh] at HL
        clear hh
        go_wp2_with (go_at_call 51; refine (HL.out _ (Lib.hid (HI.out.below HB.out.all.2))).mono ?_; rintro e w1 ⟨rfl, b1⟩; have A1 := Lib.hid (HB.out.on b1); have O1 := Lib.hid (own_low HO.out b1 (Nat.le_refl _)); have hz9 : w.heap.size + 1 ≤ w1.heap.size := Nat.le_trans hgw b1.size; clear b1; refine Hid.out ?_)
        refine Lib.hid ?_
        go_wp2_with (at_builtin; refine wpList_append_own _ rfl _ _ 33 rfl (w.heap.size + 1) 3 i0 (.int .i64 0) 1 8 Tryz.underlying33 hi hz0 hz1 hz2 rfl (by decide) _ _ _ rfl (World.ownsRow.alloc O1.out _) ⟨w1.heap.size, 0, none⟩ 1 1 [.int .i64 (k : Int)] rfl rfl (by have := one_int w1 (.int .i64 (k : Int)) 3; simpa using this) (by intro u hu; simp at hu; subst hu; rfl) (by unfold maxLen; omega) (by omega) (by simp; omega) ?_; intro v' w3 hown1 hgrow1 _; have F := Lib.hid (own_snoc rfl ((Below.refl (w.heap.size + 1) w1).alloc hz9 (.cells #[.int .i64 (k : Int)] 3)) hown1 (by simp; omega) hgrow1 (fun g h => (World.ownsRow.lt O1.out g h).1)); clear hown1 hgrow1)
        go_roundw
        case rel => exact ⟨k + 1, ks ++ [k], by omega, by simp; omega, by go_num, A1.out.up F.out.2, F.out.1, HX⟩
        case measure => simp [intOf]; omega
    · have HX : Hid (ks = K) := Lib.hid (by rw [← HP.out, lvsF_end cs k (by rw [hn.out]; omega), List.append_nil])
      clear hb ho
      go_wp2_with fail
      go_ret
      exact ⟨_, rfl, by rw [← HX.out]; exact own_base HO.out (Nat.le_succ _), HB.out.all.2⟩
end Go.Proofs.YthgbhnedfdnfpaaGreatDoor

/- What a law draws of configurations: strings of a list; a tree put in order has a leaf; two boxes at the start. -/
namespace Go.Proofs.YthgbhnedfdnfpaaGreatDoor
set_option maxRecDepth 100000
open Go.RowKit
set_option linter.unusedVariables false
set_option linter.unusedSimpArgs false

def StrL (w : World) (gl m M : Nat) : Prop := ∀ i, i < m → ∃ x : ByteArray, x.size ≤ M ∧ w.cell? ⟨gl, i, none⟩ = some (.string x)
def strAt (M : Nat) : Option Value → Bool
  | some (.string x) => decide (x.size ≤ M)
  | _ => false
theorem strL_of (w : World) (cs : Array Value) (ty : TypeId) (m M : Nat) (h : (List.range m).all (fun i => strAt M cs[i]?) = true) : StrL (w.alloc (.cells cs ty)) w.heap.size m M := fun i hi => by
  have hq := List.all_eq_true.1 h i (List.mem_range.2 hi)
  rw [World.cell?_alloc_at _ _ _ _ rfl]
  cases hc : cs[i]? with
  | none => rw [hc] at hq; simp [strAt] at hq
  | some v =>
    rw [hc] at hq
    cases v with
    | string x => exact ⟨x, by simpa [strAt] using hq, rfl⟩
    | _ => simp [strAt] at hq
theorem strL_two (w : World) (o : Obj) (cs : Array Value) (ty : TypeId) (m M : Nat) (h : (List.range m).all (fun i => strAt M cs[i]?) = true) : StrL ((w.alloc o).alloc (.cells cs ty)) (w.heap.size + 1) m M := by
  have := strL_of (w.alloc o) cs ty m M h
  rw [World.size_alloc] at this
  exact this
theorem dr_ofL {w wr : World} {a : Option Addr} {n cap t m cl gl M : Nat} {zs : List Int} (HX : Hid (StrL wr gl m M)) (hg : gl ≠ w.heap.size) (hm : 1 < m) (hm2 : m ≤ 100) (HD : Hid (Dr w wr a n cap zs t)) (HL : Hid (zs.length = n)) (hn : n ≤ 9223372036854775807) (ht : t ≤ 1000000) :
    Calls Tryz.prog 74 #[.pointer (some ⟨w.heap.size, 0, none⟩), .slice (some ⟨gl, 0, none⟩) m cl] wr fun e w' => ∃ (x : ByteArray) (t' : Nat), e = .returned (.string x) ∧ x.size ≤ M ∧ t' ≤ t + 2 ∧ Dr w w' a n cap zs t' ∧ OnlyBlock w.heap.size wr w' := by
  go_enter Tryz.func74, Tryz.ntmps74
  go_wp2_with (go_at_call 73; refine (dr_pick (m : Int) (by omega) (by omega) HD HL hn ht).mono ?_; rintro e v1 ⟨r, t1, rfl, ⟨r0, r1⟩, ht1, d, o1⟩; obtain ⟨x, hxl, hx0⟩ := HX.out r.toNat (by omega); have hx := hx0; rw [← World.cell?_of_block (a := ⟨gl, r.toNat, none⟩) (o1.2.2 gl hg)] at hx; have D1 := Lib.hid d; have OO := Lib.hid o1; clear d o1 hx0)
  go_ret
  exact ⟨x, t1, rfl, hxl, ht1, D1.out, OO.out⟩
theorem hasLf_mem {cs : List Cls} (h : HasLf cs) : ∃ x ∈ cs, ∀ y ∈ cs, y.p ≠ x.i := by
  obtain ⟨k, hk, hn⟩ := h
  refine ⟨cs.getD k cls0, ?_, fun y hy => ?_⟩
  · rw [List.getD_eq_getElem?_getD, List.getElem?_eq_getElem hk]; exact List.getElem_mem hk
  · obtain ⟨q, hq, rfl⟩ := List.getElem_of_mem hy
    have := hn q hq
    rw [List.getD_eq_getElem?_getD, List.getElem?_eq_getElem hq] at this
    exact this
theorem putC_perm (L : List Cls) (x : Cls) : (putC L x).Perm (x :: L) := by
  unfold putC
  refine List.perm_middle.trans ?_
  rw [List.take_append_drop]
theorem foldC_perm : ∀ (l acc : List Cls), (l.foldl putC acc).Perm (acc ++ l)
  | [], acc => by simp
  | x :: r, acc => by
    rw [List.foldl_cons]
    refine (foldC_perm r (putC acc x)).trans ?_
    refine ((putC_perm acc x).append_right r).trans ?_
    simpa using (List.perm_middle (l₁ := acc) (l₂ := r) (a := x)).symm
theorem ordC_perm (l : List Cls) : (ordC l).Perm l := by simpa [ordC] using foldC_perm l []
theorem leaf_at {cs : List Cls} (h : ∃ x ∈ cs, ∀ y ∈ cs, y.p ≠ x.i) : 0 < (leaves cs).length := by
  obtain ⟨x, hx, hn⟩ := h
  have hk : hasK cs x.i = false := by
    unfold hasK
    rw [List.any_eq_false]
    intro y hy
    simpa using hn y hy
  have key : ∀ (l : List Cls) (k : Nat), x ∈ l → 0 < (lvsF cs k l).length := by
    intro l
    induction l with
    | nil => intro k h; cases h
    | cons y r ih =>
      intro k h
      unfold lvsF
      by_cases hy : hasK cs y.i = true
      · rw [if_pos hy]
        rcases List.mem_cons.1 h with e | e
        · rw [← e, hk] at hy; cases hy
        · exact ih (k + 1) e
      · rw [if_neg hy]; simp
  exact key cs 0 hx
theorem leaf_lt (cs : List Cls) : ∀ j, j < (leaves cs).length → (leaves cs).getD j 0 < cs.length := by
  have key : ∀ (l : List Cls) (k : Nat), ∀ q ∈ lvsF cs k l, q < k + l.length := by
    intro l
    induction l with
    | nil => intro k q h; simp [lvsF] at h
    | cons y r ih =>
      intro k q h
      unfold lvsF at h
      split at h
      · have := ih (k + 1) q h; simp; omega
      · rcases List.mem_cons.1 h with e | e
        · simp; omega
        · have := ih (k + 1) q e; simp; omega
  intro j hj
  have := key cs 0 ((leaves cs).getD j 0) (by rw [List.getD_eq_getElem?_getD, List.getElem?_eq_getElem hj]; exact List.getElem_mem hj)
  omega
theorem ord_leaf {cs : List Cls} (h : HasLf cs) : 0 < (leaves (ordC cs)).length := by
  obtain ⟨x, hx, hn⟩ := hasLf_mem h
  have hp := ordC_perm cs
  exact leaf_at ⟨x, hp.symm.subset hx, fun y hy => hn y (hp.subset hy)⟩
def lvsM (ps : List Int) : Nat → List Int → List Nat
  | _, [] => []
  | k, x :: r => if ps.any (fun y => y == x) then lvsM ps (k + 1) r else k :: lvsM ps (k + 1) r
theorem lvsF_M (cs : List Cls) : ∀ (l : List Cls) (k : Nat), lvsF cs k l = lvsM (cs.map Cls.p) k (l.map Cls.i)
  | [], _ => rfl
  | x :: r, k => by
    unfold lvsF
    rw [List.map_cons, lvsM, lvsF_M cs r (k + 1)]
    have : hasK cs x.i = (cs.map Cls.p).any (fun y => y == x.i) := by unfold hasK; rw [List.any_map]; rfl
    rw [this]
theorem map_set_same {α β : Type} (f : α → β) (d : α) (l : List α) (k : Nat) (y : α) (h : f y = f (l.getD k d)) : (l.set k y).map f = l.map f := by
  rw [List.map_set, h]
  apply List.ext_getElem?
  intro m
  by_cases hm : m = k
  · subst hm
    by_cases hl : m < (l.map f).length
    · rw [List.getElem?_set_self hl]
      have hl' : m < l.length := by simpa using hl
      rw [List.getElem?_map, List.getD_eq_getElem?_getD, List.getElem?_eq_getElem hl']
      rfl
    · rw [List.getElem?_eq_none (by simpa using hl), List.getElem?_eq_none (by omega)]
  · rw [List.getElem?_set_ne (by omega)]
theorem leaves_lim (cs : List Cls) (k j : Nat) (z : Int) (hj : 2 ≤ j) : leaves (cs.set k (updC (cs.getD k cls0) j z)) = leaves cs := by
  unfold leaves
  rw [lvsF_M, lvsF_M]
  have hp : (updC (cs.getD k cls0) j z).p = (cs.getD k cls0).p := by
    unfold updC; split <;> first | rfl | omega
  have hi : (updC (cs.getD k cls0) j z).i = (cs.getD k cls0).i := by
    unfold updC; split <;> first | rfl | omega
  rw [map_set_same Cls.p cls0 cs k _ hp, map_set_same Cls.i cls0 cs k _ hi]
theorem kc_new {w W v1 : World} {a : Option Addr} {n cap t : Nat} {x : ByteArray} {os : Obj} (hw : w.heap.size < W.heap.size) (hc : CurAt v1 w.heap.size a n cap t)
    (o : OnlyBlock w.heap.size ((W.alloc (.cells #[.string ⟨#[]⟩, .slice none 0 0, .slice none 0 0, .int .i64 0] 26)).alloc os) v1) :
    KC w W a n cap t v1.heap.size x (.slice none 0 0) (.slice none 0 0) (.slice none 0 0) 0 [] [] [] (v1.alloc (.cells #[.string x, .slice none 0 0, .slice none 0 0, .int .i64 0] 26)) := by
  have hz1 : (W.alloc (.cells #[.string ⟨#[]⟩, .slice none 0 0, .slice none 0 0, .int .i64 0] 26)).heap.size = W.heap.size + 1 := by simp
  have z0 : Zer (W.alloc (.cells #[.string ⟨#[]⟩, .slice none 0 0, .slice none 0 0, .int .i64 0] 26)) W.heap.size := ⟨(box_four (Below.refl _ _)).1, fun o => by simp⟩
  have z1 := z0.on (one_new2 _ os)
  have hsz := o.2.1
  have z2 := z1.same (o.2.2 W.heap.size (by omega)) (by rw [hsz]; exact Nat.le_refl _)
  have z3 := z2.on (one_new2 v1 (.cells #[.string x, .slice none 0 0, .slice none 0 0, .int .i64 0] 26))
  have hb0 : Bar w.heap.size W.heap.size W v1 := (Bar.of_below (one_new2 W _)).trans (((Bar.of_below (one_new2 _ os)).mono (by simp)).trans (Bar.of_only o _))
  have hv1 : W.heap.size < v1.heap.size := by rw [hsz]; simp; omega
  refine ⟨hc.alloc _, hb0.trans ((Bar.of_below (one_new2 v1 _)).mono hb0.size), z3, (box_four (Below.refl _ _)).1, FroB.new v1 _ _, hv1, World.ownsRow_nil _ _ _ _, World.ownsRow_nil _ _ _ _, World.ownsRow_nil _ _ _ _, ?_, ?_, ?_, ?_, ?_, ?_⟩
  all_goals (intro g e; cases e)
end Go.Proofs.YthgbhnedfdnfpaaGreatDoor
