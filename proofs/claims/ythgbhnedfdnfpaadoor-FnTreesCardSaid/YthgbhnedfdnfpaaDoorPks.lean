import Derived.Test.YthgbhnedfdnfpaaDoorPkr
import Derived.Deep.AppendLies
import Derived.Deep.RegionHeld3
import Derived.Laws.AppendOwnNone
import Derived.Deep.RegionLaw
import Derived.Laws.OwnMore
/- SetLimit, the program's: a copy with one limit changed. -/
namespace Go.Proofs.YthgbhnedfdnfpaaDoor
set_option maxRecDepth 100000
open Go.RowKit
set_option linter.unusedVariables false

def cfg0 : Cfg := ⟨⟨#[]⟩, [], [], 0⟩
def setL (c : Cfg) (k : Nat) (lim : Int) : Cfg := ⟨c.s, c.cs.set k { c.cs.getD k cls0 with l := lim }, c.fs, c.d⟩
def slK (c : Cfg) (id : Int) : Nat := match fnd c.cs id with | .none => 0 | .some k => k
theorem slK_some {c : Cfg} {id : Int} {k : Nat} (h : fnd c.cs id = Option.some k) : slK c id = k := by unfold slK; rw [h]
def resSetLimit2 (c : Cfg) (id lim : Int) : Bool := (goodC c && leafB c.cs id) && goodC (setL c (slK c id) lim)
def resSetLimit1 (c : Cfg) (id lim : Int) : Cfg := if resSetLimit2 c id lim then setL c (slK c id) lim else cfg0
theorem sl_no {c : Cfg} {id : Int} (lim : Int) (h : (goodC c && leafB c.cs id) = false) : resSetLimit1 c id lim = cfg0 ∧ resSetLimit2 c id lim = false := by
  have : resSetLimit2 c id lim = false := by unfold resSetLimit2; rw [h]; rfl
  unfold resSetLimit1; rw [this]; exact ⟨rfl, rfl⟩
theorem sl_yes {c : Cfg} {id lim : Int} {k : Nat} (h : (goodC c && leafB c.cs id) = true) (hf : fnd c.cs id = Option.some k) : resSetLimit1 c id lim = (if goodC (setL c k lim) then setL c k lim else cfg0) ∧ resSetLimit2 c id lim = goodC (setL c k lim) := by
  have : resSetLimit2 c id lim = goodC (setL c k lim) := by unfold resSetLimit2; rw [h, slK_some hf]; rfl
  unfold resSetLimit1; rw [this, slK_some hf]; exact ⟨rfl, rfl⟩
def SaysCB (w : World) (c : Cfg) (b : Bool) (e : Ending) (w' : World) : Prop := ∃ v, e = .returned (.tuple #[v, .bool b]) ∧ OwnCfg w' w.heap.size v c ∧ Below w.heap.size w w'
theorem own_zV (w : World) (B : Nat) : OwnCfg w B zV cfg0 := ⟨.slice none 0 0, .slice none 0 0, rfl, World.ownsRow_nil _ _ _ _, World.ownsRow_nil _ _ _ _, fun g h => by cases h⟩
theorem OwnCfg.st {w : World} {B : Nat} {v : Value} {c : Cfg} (h : OwnCfg w B v c) {p : Addr} (hp : p.block < B) (u : Value) : OwnCfg (w.setCell p u) B v c := by
  obtain ⟨vc, vf, hv, a, b, d⟩ := h
  exact ⟨vc, vf, hv, own_set a hp u, own_set b hp u, d⟩
theorem OwnCfg.base {w : World} {B B' : Nat} {v : Value} {c : Cfg} (h : OwnCfg w B v c) (hB : B' ≤ B) : OwnCfg w B' v c := by
  obtain ⟨vc, vf, hv, a, b, d⟩ := h
  exact ⟨vc, vf, hv, own_base a hB, own_base b hB, d⟩
theorem OwnCfg.on {w w' : World} {B : Nat} {v : Value} {c : Cfg} (h : OwnCfg w B v c) (hb : Below w.heap.size w w') : OwnCfg w' B v c := by
  obtain ⟨vc, vf, hv, a, b, d⟩ := h
  exact ⟨vc, vf, hv, own_low a hb (Nat.le_refl _), own_low b hb (Nat.le_refl _), d⟩
theorem OwnCfg.set4 {w : World} {B g : Nat} {v : Value} {c : Cfg} (h : OwnCfg w B v c) (hg : g < B) (v0 v1 v2 v3 : Value) : OwnCfg ((((w.setCell ⟨g, 0, none⟩ v0).setCell ⟨g, 1, none⟩ v1).setCell ⟨g, 2, none⟩ v2).setCell ⟨g, 3, none⟩ v3) B v c :=
  (((h.st (p := ⟨g, 0, none⟩) hg v0).st (p := ⟨g, 1, none⟩) hg v1).st (p := ⟨g, 2, none⟩) hg v2).st (p := ⟨g, 3, none⟩) hg v3
theorem clsCs_set : ∀ (cs : List Cls) (k : Nat) (lim : Int), k < cs.length → (clsCs cs).set (k * 8 + 7) (.int .i64 lim) = clsCs (cs.set k { cs.getD k cls0 with l := lim })
  | [], k, lim, h => absurd h (by simp)
  | x :: r, 0, lim, _ => by simp [clsCs_cons, clsC]
  | x :: r, k + 1, lim, h => by
    have ih := clsCs_set r k lim (by simpa using h)
    rw [show (k + 1) * 8 + 7 = (k * 8 + 7) + 8 by omega]
    simp only [List.getD_cons_succ, List.set_cons_succ, clsCs_cons, clsC, List.cons_append, List.nil_append]
    rw [ih]
theorem setL_M {c : Cfg} (h : CfgM c) (k : Nat) (lim : Int) : CfgM (setL c k lim) := by
  obtain ⟨a, b, d⟩ := h
  exact ⟨a, by show (c.cs.set k _).length ≤ _; rw [List.length_set]; exact b, d⟩
theorem OwnCfg.lim {w : World} {B g cc : Nat} {s : ByteArray} {cs : List Cls} {fs : List Flt} {vf : Value} {d : Int} (h : OwnCfg w B (.agg #[.string s, .slice (some ⟨g, 0, none⟩) cs.length cc, vf, .int .i64 d]) ⟨s, cs, fs, d⟩) (k : Nat) (hk : k < cs.length) (lim : Int) :
    OwnCfg (w.setCell ⟨g, k * 8 + 7, none⟩ (.int .i64 lim)) B (.agg #[.string s, .slice (some ⟨g, 0, none⟩) cs.length cc, vf, .int .i64 d]) (setL ⟨s, cs, fs, d⟩ k lim) := by
  obtain ⟨vc', vf', hv, a, b, dd⟩ := h
  simp only [Value.agg.injEq, Array.mk.injEq, List.cons.injEq, and_true, true_and] at hv
  obtain ⟨rfl, rfl⟩ := hv
  simp only at a b
  refine ⟨_, _, rfl, ?_, ?_, dd⟩
  · show World.ownsRow _ _ _ _ _ (cs.set k { cs.getD k cls0 with l := lim }).length (clsCs (cs.set k { cs.getD k cls0 with l := lim }))
    rw [List.length_set, ← clsCs_set cs k lim hk]
    exact own_store a _ _
  · exact own_onl b (onl_set (fun _ _ => rfl) _ _) (fun g' h' q => dd g' (by rw [← q]; rfl) h')
theorem Four.on {w w1 : World} {b : Nat} (h : Four w b) (hb : b < w.heap.size) (bb : Below w.heap.size w w1) : Four w1 b := by
  obtain ⟨h0, h1, h2, h3⟩ := h
  refine ⟨?_, ?_, ?_, ?_⟩ <;> rw [(bcell bb).1 _ _ hb] <;> assumption
/-- the box of a result, still empty -/
def Zer (w : World) (b : Nat) : Prop := FourIs w b (.string ⟨#[]⟩) (.slice none 0 0) (.slice none 0 0) (.int .i64 0) ∧ FroB w b
theorem Zer.on {w w1 : World} {b : Nat} (h : Zer w b) (bb : Below w.heap.size w w1) : Zer w1 b := ⟨h.1.on bb, h.2.on bb h.1.2.2.2.2⟩
theorem Zer.set {w : World} {b : Nat} (h : Zer w b) {g j : Nat} (hg : b ≠ g) (v : Value) : Zer (w.setCell ⟨g, j, none⟩ v) b := by
  obtain ⟨⟨h0, h1, h2, h3, hb⟩, hf⟩ := h
  refine ⟨⟨?_, ?_, ?_, ?_, by rw [Go.Deep.nblk_setCell]; exact hb⟩, hf.set _ _⟩ <;> rw [World.cell?_setCell_other _ _ _ _ (by simp)] <;> assumption
theorem Zer.four {w : World} {b : Nat} (h : Zer w b) : Four w b := by
  obtain ⟨⟨h0, h1, h2, h3, hb⟩, hf⟩ := h
  refine ⟨?_, ?_, ?_, ?_⟩ <;> simp only [h0, h1, h2, h3, Option.isSome]
theorem zer_new {w w1 : World} {o : Obj} {t : TypeId} (b : Below ((w.alloc o).alloc (.cells #[.string ⟨#[]⟩, .slice none 0 0, .slice none 0 0, .int .i64 0] t)).heap.size ((w.alloc o).alloc (.cells #[.string ⟨#[]⟩, .slice none 0 0, .slice none 0 0, .int .i64 0] t)) w1) : Zer w1 (w.heap.size + 1) := by
  have h : Zer ((w.alloc o).alloc (.cells #[.string ⟨#[]⟩, .slice none 0 0, .slice none 0 0, .int .i64 0] t)) (w.heap.size + 1) := by
    have := (box_four (Below.refl _ ((w.alloc o).alloc (.cells #[.string ⟨#[]⟩, .slice none 0 0, .slice none 0 0, .int .i64 0] t)))).1
    rw [show (w.alloc o).heap.size = w.heap.size + 1 by simp] at this
    exact ⟨this, by have q := FroB.new (w.alloc o) #[.string ⟨#[]⟩, .slice none 0 0, .slice none 0 0, .int .i64 0] t; rw [show (w.alloc o).heap.size = w.heap.size + 1 by simp] at q; exact q⟩
  exact h.on b
end Go.Proofs.YthgbhnedfdnfpaaDoor

/- SetLimit, the model's. -/
namespace Go.Proofs.YthgbhnedfdnfpaaDoor
set_option maxRecDepth 100000
open Go.RowKit
set_option linter.unusedVariables false

theorem own_empty (w : World) (B : Nat) (T : TypeId) (z : Nat) (hB : B ≤ w.heap.size) : (w.alloc (Obj.cells #[] T)).ownsRow B T z (.slice (some ⟨w.heap.size, 0, none⟩) 0 0) 0 [] :=
  ⟨by simp, .inr ⟨w.heap.size, 0, #[], rfl, hB, heap_alloc_new w _, Nat.le_refl _, Nat.zero_le _, by simp, by simp⟩⟩
theorem dis_new {w : World} {B n z : Nat} {T : TypeId} {v : Value} {xs : List Value} (h : w.ownsRow B T z v n xs) : ∀ k, v.ownBlock = some k → (Value.slice (some ⟨w.heap.size, 0, none⟩) 0 0).ownBlock ≠ some k := fun k hk q => by
  have h1 := (World.ownsRow.lt h k hk).2
  have h2 : w.heap.size = k := by simpa [Value.ownBlock] using q
  omega
theorem dis_symm {u v : Value} (h : ∀ k, v.ownBlock = some k → u.ownBlock ≠ some k) : ∀ k, u.ownBlock = some k → v.ownBlock ≠ some k := fun k hk q => h k q hk
theorem dis_app {w : World} {B n z : Nat} {T : TypeId} {u u' v : Value} {xs : List Value} (D : ∀ k, v.ownBlock = some k → u.ownBlock ≠ some k) (hat : u'.ownBlock = u.ownBlock ∨ u'.ownBlock = some w.heap.size) (h : w.ownsRow B T z v n xs) : ∀ k, v.ownBlock = some k → u'.ownBlock ≠ some k := fun k hk q => by
  rcases hat with e | e
  · exact D k hk (by rw [← e]; exact q)
  · have h1 := (World.ownsRow.lt h k hk).2
    rw [e] at q
    have h2 : w.heap.size = k := by simpa using q
    omega
theorem own_kept {w w1 : World} {B n z : Nat} {T : TypeId} {u v : Value} {xs : List Value} (h : w.ownsRow B T z v n xs) (hg : w.grownBy w1 u.ownBlock) (D : ∀ k, v.ownBlock = some k → u.ownBlock ≠ some k) : w1.ownsRow B T z v n xs :=
  h.kept hg (by
    cases hv : v.ownBlock with
    | none => exact .inl rfl
    | some k => exact .inr (fun e => D k hv e.symm))
theorem step_append_src {P : Program} (w : World) {ops : Array Oper} {o : Oper} {a : Act} {K : Act → World → Prop} {Q : Exit → Act → World → Prop} {E : Prop} (hgd : o.guard = none) (s x : Operand) (t : TypeId)
    (ho : o.op = .call { callee := .builtin .append, args := #[s, x], argTypes := #[t, t] })
    (base : Nat) (e : TypeId) (i : TypeInfo) (z : Value) (size bytes : Nat) (ht : P.underlying t = some (.slice e)) (hi : P.info? e = some i) (hz : i.zero = some z)
    (hsize : i.size = size) (hby : i.bytes = bytes) (hzs : z.cells.size = size) (hsz : 0 < size)
    (v : Value) (n : Nat) (xs : List Value) (hs : a.eval s = v) (hown : w.ownsRow base e size v n xs)
    (B2 : Nat) (src : Value) (m : Nat) (news : List Value) (hx : a.eval x = src) (hsrc : w.ownsRow B2 e size src m news) (h1 : ∀ u ∈ news, u.oneCell' = true)
    (h63 : n + m ≤ maxLen) (hbytes : (n + m) * bytes ≤ 140737488355328) (hbase : base ≤ w.heap.size)
    (h : ∀ v' w', w'.ownsRow base e size v' (n + m) (xs ++ news) → w.grownBy w' v.ownBlock → (v'.ownBlock = v.ownBlock ∨ v'.ownBlock = some w.heap.size) → K (a.put o.dst v') w') :
    if Region.wanted o (yielded ops a.tmps) = true then Oper.wp P o a w K Q else E := by
  have hw : Region.wanted o (yielded ops a.tmps) = true := by simp [Region.wanted, hgd]
  rw [if_pos hw]
  obtain ⟨v', w', hr, h2, h3, h5⟩ : ∃ v' w', (Builtin.append_ #[t, t] o.type #[v, src]).run P w = .ok v' w' ∧ w'.ownsRow base e size v' (n + m) (xs ++ news) ∧ w.grownBy w' v.ownBlock ∧ (v'.ownBlock = v.ownBlock ∨ v'.ownBlock = some w.heap.size) := by
    rcases hsrc.2 with ⟨rfl, rfl⟩ | ⟨g, cap, cur, rfl, _⟩
    · obtain rfl : news = [] := List.eq_nil_of_length_eq_zero (by have := hsrc.1; omega)
      exact ⟨v, w, run_append_owned_none w base t o.type e i size ht hi v n xs hown, by simpa using hown, ⟨rfl, rfl, rfl, Nat.le_refl _, fun _ _ _ => rfl⟩, .inl rfl⟩
    · obtain ⟨v', w', hr, h2, h3, _, h5⟩ := run_append_own_at (P := P) w base t o.type e i z size bytes ht hi hz hsize hby hzs hsz v n xs hown ⟨g, 0, none⟩ m cap news hsrc.1 (own_news hsrc) h1 h63 hbytes hbase
      exact ⟨v', w', hr, h2, h3, h5⟩
  unfold Oper.wp execOp
  simp only [ho, resolve, invoke, builtin, Sem.run_bind, Sem.run_pure, Result.andThen_ok, List.map_toArray, List.map_cons, List.map_nil, hs, hx, hr]
  exact h v' w' h2 h3 h5
end Go.Proofs.YthgbhnedfdnfpaaDoor

/- SetLimit, the model's. -/
namespace Go.Proofs.YthgbhnedfdnfpaaDoor
set_option maxRecDepth 100000
open Go.RowKit
set_option linter.unusedVariables false

theorem FourIs.far {w : World} {b g j : Nat} {a0 a1 a2 a3 : Value} (h : FourIs w b a0 a1 a2 a3) (hg : b ≠ g) (v : Value) : FourIs (w.setCell ⟨g, j, none⟩ v) b a0 a1 a2 a3 := by
  obtain ⟨h0, h1, h2, h3, hb⟩ := h
  refine ⟨?_, ?_, ?_, ?_, by rw [Go.Deep.nblk_setCell]; exact hb⟩ <;> rw [World.cell?_setCell_other _ _ _ _ (by simp)] <;> assumption
theorem lenSetLimit (c : Cfg) (id lim : Int) (h : CfgM c) : CfgM (resSetLimit1 c id lim) := by
  unfold resSetLimit1
  split
  · exact setL_M h _ _
  · exact ⟨Nat.zero_le _, Nat.zero_le _, Nat.zero_le _⟩
end Go.Proofs.YthgbhnedfdnfpaaDoor

/- slices.Delete of one class, from a row of the call's own. -/
namespace Go.Proofs.YthgbhnedfdnfpaaDoor
set_option maxRecDepth 100000
open Go.RowKit
set_option linter.unusedVariables false

theorem own_take {w : World} {B n z g cap : Nat} {T : TypeId} {xs : List Value} (h : w.ownsRow B T z (.slice (some ⟨g, 0, none⟩) n cap) n xs) (i : Nat) (hi : i ≤ n) : w.ownsRow B T z (.slice (some ⟨g, 0, none⟩) i cap) i (xs.take (i * z)) := by
  have hm : i * z ≤ n * z := Nat.mul_le_mul_right _ hi
  obtain ⟨h1, h2⟩ := h
  rcases h2 with ⟨h2, _⟩ | ⟨g', cap', cur, hv, hb, hg, hn, hc, hs, ht⟩
  · cases h2
  · simp only [Value.slice.injEq, Option.some.injEq, Addr.mk.injEq, and_true, true_and] at hv
    obtain ⟨rfl, rfl⟩ := hv
    refine ⟨by rw [List.length_take]; omega, .inr ⟨g, cap, cur, rfl, hb, hg, by omega, hc, hs, ?_⟩⟩
    rw [← ht, List.take_take, Nat.min_eq_left hm]
theorem own_some {w : World} {B n z g cap : Nat} {T : TypeId} {xs : List Value} (h : w.ownsRow B T z (.slice (some ⟨g, 0, none⟩) n cap) n xs) (j : Nat) (hj : j < cap * z) : ∃ u, w.cell? ⟨g, j, none⟩ = some u := by
  obtain ⟨h1, h2⟩ := h
  rcases h2 with ⟨h2, _⟩ | ⟨g', cap', cur, hv, hb, hg, hn, hc, hs, ht⟩
  · cases h2
  · simp only [Value.slice.injEq, Option.some.injEq, Addr.mk.injEq, and_true, true_and] at hv
    obtain ⟨rfl, rfl⟩ := hv
    rw [cell_of_row w g j cur T (0, 0) hg]
    exact ⟨_, Array.getElem?_eq_getElem (by rw [hs]; exact hj)⟩
theorem own_cap {w : World} {B n z g cap : Nat} {T : TypeId} {xs : List Value} (h : w.ownsRow B T z (.slice (some ⟨g, 0, none⟩) n cap) n xs) : n ≤ cap ∧ cap ≤ maxLen := by
  rcases h.2 with ⟨h2, _⟩ | ⟨g', cap', cur, hv, hb, hg, hn, hc, hs, ht⟩
  · cases h2
  · simp only [Value.slice.injEq, Option.some.injEq, Addr.mk.injEq, and_true, true_and] at hv
    obtain ⟨rfl, rfl⟩ := hv
    exact ⟨hn, hc⟩
/-- a store behind the elements of a row -/
theorem own_behind {w : World} {B n z g cap : Nat} {T : TypeId} {xs : List Value} (h : w.ownsRow B T z (.slice (some ⟨g, 0, none⟩) n cap) n xs) (j : Nat) (hj : n * z ≤ j) (v : Value) : (w.setCell ⟨g, j, none⟩ v).ownsRow B T z (.slice (some ⟨g, 0, none⟩) n cap) n xs := by
  have q := own_store h j v
  rw [List.set_eq_of_length_le (by rw [h.1]; exact hj)] at q
  exact q
theorem step_append_fit {P : Program} (w : World) {ops : Array Oper} {o : Oper} {a : Act} {K : Act → World → Prop} {Q : Exit → Act → World → Prop} {E : Prop} (hgd : o.guard = none) (s x : Operand) (t : TypeId)
    (ho : o.op = .call { callee := .builtin .append, args := #[s, x], argTypes := #[t, t] })
    (base : Nat) (e : TypeId) (i : TypeInfo) (size : Nat) (ht : P.underlying t = some (.slice e)) (hi : P.info? e = some i) (hsize : i.size = size)
    (g n cap : Nat) (xs : List Value) (hs : a.eval s = .slice (some ⟨g, 0, none⟩) n cap) (hown : w.ownsRow base e size (.slice (some ⟨g, 0, none⟩) n cap) n xs)
    (ad : Addr) (m c : Nat) (news : List Value) (hx : a.eval x = .slice (some ad) m c) (hl : news.length = m * size) (hnews : ∀ j u, news[j]? = some u → w.cell? (ad.add j) = some u) (h1 : ∀ u ∈ news, u.oneCell' = true)
    (hroom : n + m ≤ cap)
    (h : ∀ w', w'.ownsRow base e size (.slice (some ⟨g, 0, none⟩) (n + m) cap) (n + m) (xs ++ news) → w.grownBy w' (some g) → K (a.put o.dst (.slice (some ⟨g, 0, none⟩) (n + m) cap)) w') :
    if Region.wanted o (yielded ops a.tmps) = true then Oper.wp P o a w K Q else E := by
  have hw : Region.wanted o (yielded ops a.tmps) = true := by simp [Region.wanted, hgd]
  rw [if_pos hw]
  obtain ⟨w', hr, h2, h3⟩ := run_append_fits (P := P) w base t o.type e i size ht hi hsize g n cap xs hown ad m c news hl hnews h1 hroom
  unfold Oper.wp execOp
  simp only [ho, resolve, invoke, builtin, Sem.run_bind, Sem.run_pure, Result.andThen_ok, List.map_toArray, List.map_cons, List.map_nil, hs, hx, hr]
  exact h w' h2 h3
def zer8 : List Value := [.int .i64 0, .int .i64 0, .int .i64 0, .int .i64 0, .int .i64 0, .int .i64 0, .int .i64 0, .int .i64 0]
theorem own_behinds {B n z g cap : Nat} {T : TypeId} {xs : List Value} : ∀ (vs : List Value) (o : Nat) (w : World), w.ownsRow B T z (.slice (some ⟨g, 0, none⟩) n cap) n xs → n * z ≤ o → (w.setCells g o vs).ownsRow B T z (.slice (some ⟨g, 0, none⟩) n cap) n xs
  | [], o, w, h, _ => h
  | v :: vs, o, w, h, ho => own_behinds vs (o + 1) _ (own_behind h o ho v) (by omega)
theorem below_behinds {B g : Nat} {wb : World} (hg : B ≤ g) : ∀ (vs : List Value) (o : Nat) (w : World), Below B wb w → Below B wb (w.setCells g o vs)
  | [], o, w, h => h
  | v :: vs, o, w, h => below_behinds hg vs (o + 1) _ (h.setCell hg v)
theorem onl_behinds {g : Nat} {wb : World} : ∀ (vs : List Value) (o : Nat) (w : World), Onl wb w (some g) → Onl wb (w.setCells g o vs) (some g)
  | [], o, w, h => h
  | v :: vs, o, w, h => onl_behinds vs (o + 1) _ (onl_set h o v)
theorem run_clear_cls (w : World) (ty : TypeId) (b o c : Nat) (hc : ∀ j, j < 8 → (w.cell? ⟨b, o + j, none⟩).isSome = true) (hf : ∀ j, j < 8 → w.frozen? ⟨b, o + j, none⟩ = false) :
    (Builtin.clear_ #[23] ty #[.slice (some ⟨b, o, none⟩) 1 c]).run Tryd.prog w = .ok (.tuple #[]) (w.setCells b o zer8) := by
  obtain ⟨i0, hi0, hz0, hz1, hz2⟩ := info_parts infoCls
  have hst := run_storeCells_cells (P := Tryd.prog) b o zer8 0 w (by simpa [zer8] using hc) (by simpa [zer8] using hf) (by intro v hv'; simp [zer8] at hv'; subst hv'; rfl)
  simp only [Nat.add_zero] at hst
  have hv : ∀ w, (zeroValue 43).run Tryd.prog w = .ok (.agg #[.int .i64 0, .int .i64 0, .int .i64 0, .int .i64 0, .int .i64 0, .int .i64 0, .int .i64 0, .int .i64 0]) w := by
    intro w
    simp [zeroValue, typeInfo, hi0, hz0]
  have hzc : (Builtin.zeroCells (Value.agg #[.int .i64 0, .int .i64 0, .int .i64 0, .int .i64 0, .int .i64 0, .int .i64 0, .int .i64 0, .int .i64 0]).cells 1).toList = zer8 := by
    apply List.ext_getElem
    · simp [Builtin.zeroCells, zer8, Value.cells]
    · intro j h1 h2
      have h8 : j < 8 := h2
      obtain rfl | rfl | rfl | rfl | rfl | rfl | rfl | rfl : j = 0 ∨ j = 1 ∨ j = 2 ∨ j = 3 ∨ j = 4 ∨ j = 5 ∨ j = 6 ∨ j = 7 := by omega
      all_goals simp [Builtin.zeroCells, zer8, Value.cells]
  simp [Builtin.clear_, run_underlying Tryd.underlying23, hv, hzc, hst]
end Go.Proofs.YthgbhnedfdnfpaaDoor

/- DropClass, the program's. -/
namespace Go.Proofs.YthgbhnedfdnfpaaDoor
set_option maxRecDepth 100000
open Go.RowKit
set_option linter.unusedVariables false

theorem FourIs.same {w w' : World} {b : Nat} {a0 a1 a2 a3 : Value} (h : FourIs w b a0 a1 a2 a3) (e : w'.heap[b]? = w.heap[b]?) (hs : w.heap.size ≤ w'.heap.size) : FourIs w' b a0 a1 a2 a3 := by
  obtain ⟨h0, h1, h2, h3, hb⟩ := h
  exact ⟨(cell_heap e 0).trans h0, (cell_heap e 1).trans h1, (cell_heap e 2).trans h2, (cell_heap e 3).trans h3, Nat.lt_of_lt_of_le hb hs⟩
theorem FroB.same {w w' : World} {b : Nat} (h : FroB w b) (e : w'.heap[b]? = w.heap[b]?) : FroB w' b := fun o => (World.frozen?_of_block (a := ⟨b, o, none⟩) e).trans (h o)
theorem Zer.same {w w' : World} {b : Nat} (h : Zer w b) (e : w'.heap[b]? = w.heap[b]?) (hs : w.heap.size ≤ w'.heap.size) : Zer w' b := ⟨h.1.same e hs, h.2.same e⟩
/-! A class taken out of a list. -/
def cut (cs : List Cls) (k : Nat) : List Cls := cs.take k ++ cs.drop (k + 1)
def cutC (c : Cfg) (k : Nat) : Cfg := ⟨c.s, cut c.cs k, c.fs, c.d⟩
theorem cut_length {cs : List Cls} {k : Nat} (h : k < cs.length) : (cut cs k).length = cs.length - 1 := by unfold cut; rw [List.length_append, List.length_take, List.length_drop]; omega
theorem clsCs_take : ∀ (cs : List Cls) (k : Nat), (clsCs cs).take (k * 8) = clsCs (cs.take k)
  | [], k => by simp [clsCs]
  | x :: r, 0 => by simp [clsCs]
  | x :: r, k + 1 => by
    rw [show (k + 1) * 8 = k * 8 + 8 by omega]
    simp only [List.take_succ_cons, clsCs_cons, clsC, List.cons_append, List.nil_append]
    rw [clsCs_take r k]
theorem clsCs_drop : ∀ (cs : List Cls) (k : Nat), (clsCs cs).drop (k * 8) = clsCs (cs.drop k)
  | [], k => by simp [clsCs]
  | x :: r, 0 => by simp
  | x :: r, k + 1 => by
    rw [show (k + 1) * 8 = k * 8 + 8 by omega]
    simp only [List.drop_succ_cons, clsCs_cons, clsC, List.cons_append, List.nil_append]
    exact clsCs_drop r k
theorem clsCs_cut (cs : List Cls) (k : Nat) : (clsCs cs).take (k * 8) ++ (clsCs cs).drop ((k + 1) * 8) = clsCs (cut cs k) := by
  unfold cut; rw [clsCs_append, clsCs_take, clsCs_drop]
theorem cut_get {cs : List Cls} {k : Nat} (h : k < cs.length) (j : Nat) : (cut cs k).getD j cls0 = cs.getD (if j < k then j else j + 1) cls0 := by
  unfold cut
  simp only [List.getD_eq_getElem?_getD]
  congr 1
  by_cases hj : j < k
  · rw [if_pos hj, List.getElem?_append_left (by rw [List.length_take]; omega), List.getElem?_take_of_lt hj]
  · rw [if_neg hj, List.getElem?_append_right (by rw [List.length_take]; omega), List.getElem?_drop, List.length_take]
    congr 1; omega
theorem cut_inc {cs : List Cls} {k : Nat} (h : k < cs.length) (hi : IncC cs) : IncC (cut cs k) := fun a b hab hb => by
  rw [cut_get h, cut_get h]
  rw [cut_length h] at hb
  refine hi _ _ ?_ ?_ <;> split <;> (try split) <;> omega
def dropL (c : Cfg) (k : Nat) : Cfg := match fnd (cut c.cs k) (c.cs.getD k cls0).p with
  | .none => cutC c k
  | .some i => if hasK (cut c.cs k) (c.cs.getD k cls0).p then cutC c k else setL (cutC c k) i (c.cs.getD k cls0).l
theorem dropL_none {c : Cfg} {k : Nat} {x : Cls} (hx : c.cs.getD k cls0 = x) (h : fnd (cut c.cs k) x.p = Option.none) : dropL c k = cutC c k := by unfold dropL; rw [hx, h]
theorem dropL_kids {c : Cfg} {k i : Nat} {x : Cls} (hx : c.cs.getD k cls0 = x) (h : fnd (cut c.cs k) x.p = Option.some i) (hk : hasK (cut c.cs k) x.p = true) : dropL c k = cutC c k := by unfold dropL; rw [hx, h]; simp [hk]
theorem dropL_leaf {c : Cfg} {k i : Nat} {x : Cls} (hx : c.cs.getD k cls0 = x) (h : fnd (cut c.cs k) x.p = Option.some i) (hk : hasK (cut c.cs k) x.p = false) : dropL c k = setL (cutC c k) i x.l := by unfold dropL; rw [hx, h]; simp [hk]
theorem cutC_M {c : Cfg} {k : Nat} (hk : k < c.cs.length) (h : CfgM c) : CfgM (cutC c k) := ⟨h.1, by show (cut c.cs k).length ≤ _; rw [cut_length hk]; have := h.2.1; omega, h.2.2⟩
theorem dropL_M {c : Cfg} {k : Nat} (hk : k < c.cs.length) (h : CfgM c) : CfgM (dropL c k) := by
  unfold dropL
  split
  · exact cutC_M hk h
  · split
    · exact cutC_M hk h
    · exact setL_M (cutC_M hk h) _ _
def resDropClass2 (c : Cfg) (id : Int) : Bool := (goodC c && leafB c.cs id) && goodC (dropL c (slK c id))
def resDropClass1 (c : Cfg) (id : Int) : Cfg := if resDropClass2 c id then dropL c (slK c id) else cfg0
theorem dp_no {c : Cfg} {id : Int} (h : (goodC c && leafB c.cs id) = false) : resDropClass1 c id = cfg0 ∧ resDropClass2 c id = false := by
  have : resDropClass2 c id = false := by unfold resDropClass2; rw [h]; rfl
  unfold resDropClass1; rw [this]; exact ⟨rfl, rfl⟩
theorem dp_yes {c : Cfg} {id : Int} {k : Nat} (h : (goodC c && leafB c.cs id) = true) (hf : fnd c.cs id = Option.some k) : resDropClass1 c id = (if goodC (dropL c k) then dropL c k else cfg0) ∧ resDropClass2 c id = goodC (dropL c k) := by
  have : resDropClass2 c id = goodC (dropL c k) := by unfold resDropClass2; rw [h, slK_some hf]; rfl
  unfold resDropClass1; rw [this, slK_some hf]; exact ⟨rfl, rfl⟩
end Go.Proofs.YthgbhnedfdnfpaaDoor
