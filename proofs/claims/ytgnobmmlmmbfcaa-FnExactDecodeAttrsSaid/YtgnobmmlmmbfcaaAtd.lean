/- Attributes moved, dropped and wrapped: lists made of others; contracts of both sides. -/
import Derived.Test.YtgnobmmlmmbfcaaAtc
import Derived.Test.YtgnobmmlmmbfcaaApk
import Derived.Deep.AppendLies
import Derived.Deep.RegionHeld3
import Derived.Laws.AppendOwnNone
namespace Go.Proofs.Ytgnobmmlmmbfcaa
open Go.RowKit
set_option linter.unusedVariables false
set_option maxRecDepth 100000

def mvA (by_ : Int) (l : List At) : List At := l.map (fun a => ⟨a.d + by_, a.t, a.n, a.s⟩)
theorem mvA_length (b : Int) (l : List At) : (mvA b l).length = l.length := by simp [mvA]
theorem mvA_zero (l : List At) : mvA 0 l = l := by
  unfold mvA
  conv => rhs; rw [← List.map_id l]
  congr 1
  funext a
  simp
theorem gA_take {l : List At} {k i : Nat} (h : k < i) : gA (l.take i) k = gA l k := by unfold gA; simp [h]
theorem take_at {l : List At} {k : Nat} (h : k < l.length) : l.take (k + 1) = l.take k ++ [gA l k] := by
  rw [List.take_succ_eq_append_getElem h, gA_eq h]
theorem mvA_take {l : List At} {k : Nat} (b : Int) (h : k < l.length) : mvA b (l.take (k + 1)) = mvA b (l.take k) ++ [⟨(gA l k).d + b, (gA l k).t, (gA l k).n, (gA l k).s⟩] := by
  rw [take_at h]; simp [mvA]
theorem four_cells (w : World) (x : At) (t : TypeId) : ∀ j u, (atC x)[j]? = some u → (w.alloc (.cells #[.int .i64 x.d, .int .i64 x.t, .bool x.n, .string x.s] t)).cell? ((⟨w.heap.size, 0, none⟩ : Addr).add j) = some u := by
  intro j u hj
  unfold atC at hj
  match j, hj with
  | 0, hj | 1, hj | 2, hj | 3, hj => simp at hj; subst hj; simp [Addr.add]
  | j + 4, hj => simp at hj
theorem atC_one (x : At) : ∀ u ∈ atC x, u.oneCell' = true := by
  intro u hu
  simp only [atC, List.mem_cons, List.not_mem_nil, or_false] at hu
  rcases hu with rfl | rfl | rfl | rfl <;> rfl
theorem atCs_one (l : List At) : ∀ u ∈ atCs l, u.oneCell' = true := by
  intro u hu
  obtain ⟨x, _, hx⟩ := List.mem_flatMap.1 hu
  exact atC_one x u hx
/-- a row of attributes of the call's own -/
def OwnA (w : World) (B : Nat) (v : Value) (l : List At) : Prop := w.ownsRow B 35 4 v l.length (atCs l)
theorem OwnA.nil (w : World) (B : Nat) : OwnA w B (.slice none 0 0) [] := World.ownsRow_nil _ _ _ _
def SaysA (w : World) (K : List At) (e : Ending) (w' : World) : Prop := ∃ v, e = .returned v ∧ OwnA w' w.heap.size v K ∧ Below w.heap.size w w'
def SaysAB (w : World) (K : List At) (q : Bool) (e : Ending) (w' : World) : Prop := ∃ v, e = .returned (.tuple #[v, .bool q]) ∧ OwnA w' w.heap.size v K ∧ Below w.heap.size w w'
theorem snocA {w wx w1 : World} {B : Nat} {v v' : Value} {K : List At} {x : At} {n : Nat} (hn : K.length = n) (hb : Below B w wx) (h' : w1.ownsRow B 35 4 v' (n + 1) (atCs K ++ atC x)) (hB : B ≤ wx.heap.size) (hg : wx.grownBy w1 v.ownBlock) (hl : ∀ g, v.ownBlock = some g → B ≤ g) :
    OwnA w1 B v' (K ++ [x]) ∧ Below B w w1 := by
  refine ⟨?_, hb.grown hg hB hl⟩
  unfold OwnA
  rw [List.length_append, hn, atCs_append, show atCs [x] = atC x by simp [atCs]]
  exact h'
/-- small attributes -/
def Sm (l : List At) : Prop := ∀ k, k < l.length → 0 ≤ (gA l k).d ∧ (gA l k).d ≤ 9 ∧ (gA l k).s.size ≤ 1000
def MvRel (w : World) (b : Int) (l : List At) (n : Nat) (out i : Value) (wr : World) : Prop :=
  ∃ k : Nat, k ≤ n ∧ i = .int .i64 k ∧ BX w wr ∧ OwnA wr w.heap.size out (mvA b (l.take k))
theorem info4 : (Try.prog.info? 35).map (fun i => (i.zero, i.size, i.bytes)) = some (some (.agg #[.int .i64 0, .int .i64 0, .bool false, .string ⟨#[]⟩]), 4, 40) := infoAt
/-! Copies. -/
theorem eqAttrS_own (v v' : Value) (B B' : Nat) (K : List At) (w : World) (HA : Hid (w.ownsRow B 35 4 v K.length (atCs K))) (HB : Hid (w.ownsRow B' 35 4 v' K.length (atCs K))) (hm : K.length ≤ 1048576) :
    Calls Try.prog 6 #[v, v'] w (SaysB w true) := by
  obtain ⟨a, ca, rfl, ia⟩ := own_in HA.out
  obtain ⟨b, cb, rfl, ib⟩ := own_in HB.out
  exact eqAttrS_any a b K.length ca cb K w (Lib.hid ia) (Lib.hid ib) (Lib.hid rfl) hm
theorem appA {w wx w1 : World} {B : Nat} {v v' : Value} {K M : List At} (hb : Below B w wx) (h' : w1.ownsRow B 35 4 v' (K.length + M.length) (atCs K ++ atCs M)) (hB : B ≤ wx.heap.size) (hg : wx.grownBy w1 v.ownBlock) (hl : ∀ g, v.ownBlock = some g → B ≤ g) :
    OwnA w1 B v' (K ++ M) ∧ Below B w w1 := by
  refine ⟨?_, hb.grown hg hB hl⟩
  unfold OwnA
  rw [List.length_append, atCs_append]
  exact h'
theorem off_take {w : World} {g : Nat} {l : List At} (h : AtC w g (atCs l)) (i : Nat) : OffC w g 0 (atCs (l.take i)) := fun j hj => by
  have e : atCs l = atCs (l.take i) ++ atCs (l.drop i) := by rw [← atCs_append, List.take_append_drop]
  have q := h j (by rw [e, List.length_append]; omega)
  rw [e, List.getElem?_append_left hj] at q
  rw [Nat.zero_add]
  exact q
theorem off_drop {w : World} {g : Nat} {l : List At} (h : AtC w g (atCs l)) (i : Nat) (hi : i ≤ l.length) : OffC w g (i * 4) (atCs (l.drop i)) := fun j hj => by
  have e : atCs l = atCs (l.take i) ++ atCs (l.drop i) := by rw [← atCs_append, List.take_append_drop]
  have el : (atCs (l.take i)).length = i * 4 := by rw [atCs_length, List.length_take, Nat.min_eq_left hi]
  have q := h (i * 4 + j) (by rw [e, List.length_append, el]; omega)
  rw [e, List.getElem?_append_right (by omega), el, show i * 4 + j - i * 4 = j by omega] at q
  exact q
theorem off_news {w w1 : World} {g off : Nat} {xs : List Value} (h : OffC w g off xs) (b : Below w.heap.size w w1) : ∀ j u, xs[j]? = some u → w1.cell? ((⟨g, off, none⟩ : Addr).add j) = some u := by
  intro j u hu
  have c := h.at j hu
  have hg : g < w.heap.size := World.block_lt_of_cell? w _ c
  rw [Go.WideShapes.add_plain]
  exact (b.cell (p := ⟨g, off + j, none⟩) hg).trans c
theorem sm_va {l : List At} (V : Va l) : Sm l := fun k hk => ⟨by have := V.pos k hk; omega, by have := V.top k hk; omega, V.sz k hk⟩
theorem sm_take {l : List At} (h : Sm l) (i : Nat) : Sm (l.take i) := fun k hk => by
  rw [List.length_take] at hk
  rw [gA_take (by omega)]
  exact h k (by omega)
theorem gA_drop (l : List At) (i k : Nat) : gA (l.drop i) k = gA l (i + k) := by unfold gA; simp [List.getD_eq_getElem?_getD]
theorem sm_drop {l : List At} (h : Sm l) (i : Nat) : Sm (l.drop i) := fun k hk => by
  rw [List.length_drop] at hk
  rw [gA_drop]
  exact h _ (by omega)
def resD (l : List At) (i : Int) : List At := if hasA l i then l.take i.toNat ++ l.drop (enA l i.toNat) else []
theorem resD_len (l : List At) (i : Int) : (resD l i).length ≤ 800 := by
  unfold resD
  split
  · rename_i h
    have := (va (hasA_of h).1).len
    rw [List.length_append, List.length_take, List.length_drop]
    omega
  · simp
theorem own_news {w : World} {B n z : Nat} {T : TypeId} {g c : Nat} {xs : List Value} (h : w.ownsRow B T z (.slice (some ⟨g, 0, none⟩) n c) n xs) : ∀ j u, xs[j]? = some u → w.cell? ((⟨g, 0, none⟩ : Addr).add j) = some u := by
  intro j u hu
  have hj : j < n * z := by have := (List.getElem?_eq_some_iff.1 hu).1; rw [h.1] at this; exact this
  have hadd : (⟨g, 0, none⟩ : Addr).add j = ⟨g, j, none⟩ := by unfold Addr.add; split <;> simp_all
  rw [hadd, World.ownsRow.cellAt h j hj, hu]
theorem step_append_src {P : Program} (w : World) {ops : Array Oper} {o : Oper} {a : Act} {K : Act → World → Prop} {Q : Exit → Act → World → Prop} {E : Prop} (hgd : o.guard = none) (s x : Operand) (t : TypeId)
    (ho : o.op = .call { callee := .builtin .append, args := #[s, x], argTypes := #[t, t] })
    (base : Nat) (e : TypeId) (i : TypeInfo) (z : Value) (size bytes : Nat) (ht : P.underlying t = some (.slice e)) (hi : P.info? e = some i) (hz : i.zero = some z)
    (hsize : i.size = size) (hby : i.bytes = bytes) (hzs : z.cells.size = size) (hsz : 0 < size)
    (v : Value) (n : Nat) (xs : List Value) (hs : a.eval s = v) (hown : w.ownsRow base e size v n xs)
    (B2 : Nat) (src : Value) (m : Nat) (news : List Value) (hx : a.eval x = src) (hsrc : w.ownsRow B2 e size src m news) (h1 : ∀ u ∈ news, u.oneCell' = true)
    (h63 : n + m ≤ maxLen) (hbytes : (n + m) * bytes ≤ 140737488355328) (hbase : base ≤ w.heap.size)
    (h : ∀ v' w', w'.ownsRow base e size v' (n + m) (xs ++ news) → w.grownBy w' v.ownBlock → (v'.ownBlock = v.ownBlock ∨ v'.ownBlock = some w.heap.size) → K (a.put o.dst v') w') :
    if Region.wanted o (yielded ops a.tmps) = true then Oper.wp P o a w K Q else E := by
  have hw : Region.wanted o (yielded ops a.tmps) = true := by simp [Region.wanted, hgd]
  rw [if_pos hw]
  obtain ⟨v', w', hr, h2, h3, h5⟩ : ∃ v' w', (Builtin.append_ #[t, t] o.type #[v, src]).run P w = .ok v' w' ∧ w'.ownsRow base e size v' (n + m) (xs ++ news) ∧ w.grownBy w' v.ownBlock ∧ (v'.ownBlock = v.ownBlock ∨ v'.ownBlock = some w.heap.size) := by
    rcases hsrc.2 with ⟨rfl, rfl⟩ | ⟨g, cap, cur, rfl, _⟩
    · obtain rfl : news = [] := List.eq_nil_of_length_eq_zero (by have := hsrc.1; omega)
      exact ⟨v, w, run_append_owned_none w base t o.type e i size ht hi v n xs hown, by simpa using hown, ⟨rfl, rfl, rfl, Nat.le_refl _, fun _ _ _ => rfl⟩, .inl rfl⟩
    · obtain ⟨v', w', hr, h2, h3, _, h5⟩ := run_append_own_at (P := P) w base t o.type e i z size bytes ht hi hz hsize hby hzs hsz v n xs hown ⟨g, 0, none⟩ m cap news hsrc.1 (own_news hsrc) h1 h63 hbytes hbase
      exact ⟨v', w', hr, h2, h3, h5⟩
  unfold Oper.wp execOp
  simp only [ho, resolve, invoke, builtin, Sem.run_bind, Sem.run_pure, Result.andThen_ok, List.map_toArray, List.map_cons, List.map_nil, hs, hx, hr]
  exact h v' w' h2 h3 h5
end Go.Proofs.Ytgnobmmlmmbfcaa
