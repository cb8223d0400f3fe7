import Derived.Test.YthgbhnedfdnfpaaGreatDoorPkt
import Derived.Deep.RegionLaw
import Derived.Laws.OwnMore
import Derived.Deep.CutRange
import Derived.Deep.RegionHeld3
import Derived.Test.YthgbhnedfdnfpaaGreatDoorPkn
import Derived.Test.YthgbhnedfdnfpaaGreatDoorPki
import Derived.Maps.AppendAt
/- slices.Delete of one class, from a row of the call's own. -/
namespace Go.Proofs.YthgbhnedfdnfpaaGreatDoor
set_option maxRecDepth 100000
open Go.RowKit
set_option linter.unusedVariables false

theorem own_take {w : World} {B n z g cap : Nat} {T : TypeId} {xs : List Value} (h : w.ownsRow B T z (.slice (some ⟨g, 0, none⟩) n cap) n xs) (i : Nat) (hi : i ≤ n) : w.ownsRow B T z (.slice (some ⟨g, 0, none⟩) i cap) i (xs.take (i * z)) := by
  have hm : i * z ≤ n * z := Nat.mul_le_mul_right _ hi
  obtain ⟨h1, h2⟩ := h
  rcases h2 with ⟨h2, _⟩ | ⟨g', cap', cur, hv, hb, hg, hn, hc, hs, ht⟩
  · cases h2
  · simp only [Value.slice.injEq, Option.some.injEq, Addr.mk.injEq, and_true, true_and] at hv
    obtain ⟨rfl, rfl⟩ := hv
    refine ⟨by rw [List.length_take]; omega, .inr ⟨g, cap, cur, rfl, hb, hg, by omega, hc, hs, ?_⟩⟩
    rw [← ht, List.take_take, Nat.min_eq_left hm]
theorem own_cap {w : World} {B n z g cap : Nat} {T : TypeId} {xs : List Value} (h : w.ownsRow B T z (.slice (some ⟨g, 0, none⟩) n cap) n xs) : n ≤ cap ∧ cap ≤ maxLen := by
  rcases h.2 with ⟨h2, _⟩ | ⟨g', cap', cur, hv, hb, hg, hn, hc, hs, ht⟩
  · cases h2
  · simp only [Value.slice.injEq, Option.some.injEq, Addr.mk.injEq, and_true, true_and] at hv
    obtain ⟨rfl, rfl⟩ := hv
    exact ⟨hn, hc⟩
end Go.Proofs.YthgbhnedfdnfpaaGreatDoor

/- DropClass, the program's. -/
namespace Go.Proofs.YthgbhnedfdnfpaaGreatDoor
set_option maxRecDepth 100000
open Go.RowKit
set_option linter.unusedVariables false

theorem FourIs.same {w w' : World} {b : Nat} {a0 a1 a2 a3 : Value} (h : FourIs w b a0 a1 a2 a3) (e : w'.heap[b]? = w.heap[b]?) (hs : w.heap.size ≤ w'.heap.size) : FourIs w' b a0 a1 a2 a3 := by
  obtain ⟨h0, h1, h2, h3, hb⟩ := h
  exact ⟨(cell_heap e 0).trans h0, (cell_heap e 1).trans h1, (cell_heap e 2).trans h2, (cell_heap e 3).trans h3, Nat.lt_of_lt_of_le hb hs⟩
theorem FroB.same {w w' : World} {b : Nat} (h : FroB w b) (e : w'.heap[b]? = w.heap[b]?) : FroB w' b := fun o => (World.frozen?_of_block (a := ⟨b, o, none⟩) e).trans (h o)
theorem Zer.same {w w' : World} {b : Nat} (h : Zer w b) (e : w'.heap[b]? = w.heap[b]?) (hs : w.heap.size ≤ w'.heap.size) : Zer w' b := ⟨h.1.same e hs, h.2.same e⟩
theorem clsCs_take : ∀ (cs : List Cls) (k : Nat), (clsCs cs).take (k * 8) = clsCs (cs.take k)
  | [], k => by simp [clsCs]
  | x :: r, 0 => by simp [clsCs]
  | x :: r, k + 1 => by
    rw [show (k + 1) * 8 = k * 8 + 8 by omega]
    simp only [List.take_succ_cons, clsCs_cons, clsC, List.cons_append, List.nil_append]
    rw [clsCs_take r k]
theorem clsCs_drop : ∀ (cs : List Cls) (k : Nat), (clsCs cs).drop (k * 8) = clsCs (cs.drop k)
  | [], k => by simp [clsCs]
  | x :: r, 0 => by simp
  | x :: r, k + 1 => by
    rw [show (k + 1) * 8 = k * 8 + 8 by omega]
    simp only [List.drop_succ_cons, clsCs_cons, clsC, List.cons_append, List.nil_append]
    exact clsCs_drop r k
end Go.Proofs.YthgbhnedfdnfpaaGreatDoor

/- DropClass, the model's: the classes that are kept. -/
namespace Go.Proofs.YthgbhnedfdnfpaaGreatDoor
set_option maxRecDepth 100000
open Go.RowKit
set_option linter.unusedVariables false

end Go.Proofs.YthgbhnedfdnfpaaGreatDoor

/- DropClass, the model's (written by tools/gen_cgo.py). -/
namespace Go.Proofs.YthgbhnedfdnfpaaGreatDoor
set_option maxRecDepth 100000
open Go.RowKit
set_option linter.unusedVariables false
set_option linter.unusedSimpArgs false

theorem own_far {w : World} {B n z b j : Nat} {T : TypeId} {v : Value} {xs : List Value} (h : w.ownsRow B T z v n xs) (hd : ∀ g, v.ownBlock = some g → g ≠ b) (u : Value) : (w.setCell ⟨b, j, none⟩ u).ownsRow B T z v n xs :=
  own_onl h (onl_set (fun _ _ => rfl) _ _) (fun g hg e => hd g hg (by simpa using e.symm))
theorem eight_new (w : World) (x : Cls) (t : TypeId) : EightB (w.alloc (.cells #[.int .i64 x.i, .int .i64 x.p, .int .i64 x.r, .int .i64 x.e, .int .i64 x.b, .int .i64 x.u, .int .i64 x.o, .int .i64 x.l] t)) w.heap.size x := (box_eight (Below.refl _ _)).1
def DlAt (w2 : World) (B3 bo : Nat) (s : ByteArray) (fs : List Flt) (d : Int) (vF v : Value) (L : List Cls) (wr : World) : Prop :=
  Below w2.heap.size w2 wr ∧ B3 ≤ wr.heap.size ∧ FourIs wr bo (.string s) v vF (.int .i64 d) ∧ FroB wr bo ∧ wr.ownsRow w2.heap.size 82 5 vF fs.length (fltCs fs) ∧ wr.ownsRow B3 41 8 v L.length (clsCs L)
theorem DlAt.on {w2 wr w' : World} {B3 bo : Nat} {s : ByteArray} {fs : List Flt} {d : Int} {vF v : Value} {L : List Cls} (h : DlAt w2 B3 bo s fs d vF v L wr) (hb : Below wr.heap.size wr w') : DlAt w2 B3 bo s fs d vF v L w' := by
  obtain ⟨h1, h2, h3, h4, h5, h6⟩ := h
  exact ⟨h1.trans (hb.mono h1.size), Nat.le_trans h2 hb.size, h3.on hb, h4.on hb h3.2.2.2.2, own_low h5 hb (Nat.le_refl _), own_low h6 hb (Nat.le_refl _)⟩
theorem DlAt.snoc {w2 wr w' : World} {B3 bo : Nat} {s : ByteArray} {fs : List Flt} {d : Int} {vF v v' : Value} {L : List Cls} {y : Cls} (h : DlAt w2 B3 bo s fs d vF v L wr) (hg : wr.grownBy w' v.ownBlock)
    (ho : w'.ownsRow B3 41 8 v' (L.length + 1) (clsCs L ++ clsC y)) (h1 : w2.heap.size ≤ bo) (h2 : bo < B3) (h3 : w2.heap.size ≤ B3) (h4 : ∀ g, vF.ownBlock = some g → g < B3 ∧ g ≠ bo) :
    DlAt w2 B3 bo s fs d vF v' (L ++ [y]) (w'.setCell ⟨bo, 1, none⟩ v') := by
  obtain ⟨a1, a2, a3, a4, a5, a6⟩ := h
  have hl := fun g hv => (World.ownsRow.lt a6 g hv).1
  have hbk := hg.block bo a3.2.2.2.2 (fun q => by have := hl bo q.symm; omega)
  refine ⟨(a1.grown hg a1.size (fun g hv => by have := hl g hv; omega)).setCell h1 _, ?_, (a3.same hbk hg.size).set1 _, (a4.same hbk).set _ _, ?_, ?_⟩
  · rw [Go.Deep.nblk_setCell]; exact Nat.le_trans a2 hg.size
  · exact own_far (own_heap a5 (fun g hv => hg.block g (World.ownsRow.lt a5 g hv).2 (fun q => by have := hl g q.symm; have := (h4 g hv).1; omega))) (fun g hv => (h4 g hv).2) _
  · rw [List.length_append, clsCs_append]
    have : clsCs [y] = clsC y := by simp [clsCs]
    rw [this]
    exact own_far ho (fun g hv => by have := (World.ownsRow.lt ho g hv).1; omega) _
theorem eight_cells (w : World) (y : Cls) (t : TypeId) : ∀ j u, (clsC y)[j]? = some u → (w.alloc (.cells #[.int .i64 y.i, .int .i64 y.p, .int .i64 y.r, .int .i64 y.e, .int .i64 y.b, .int .i64 y.u, .int .i64 y.o, .int .i64 y.l] t)).cell? ((⟨w.heap.size, 0, none⟩ : Addr).add j) = some u := by
  intro j u hj
  unfold clsC at hj
  match j, hj with
  | 0, hj | 1, hj | 2, hj | 3, hj | 4, hj | 5, hj | 6, hj | 7, hj => simp at hj; subst hj; simp [Addr.add]
  | j + 8, hj => simp at hj
theorem clsC_one (y : Cls) : ∀ u ∈ clsC y, u.oneCell' = true := by
  intro u hu
  simp only [clsC, List.mem_cons, List.not_mem_nil, or_false] at hu
  rcases hu with rfl | rfl | rfl | rfl | rfl | rfl | rfl | rfl <;> rfl
end Go.Proofs.YthgbhnedfdnfpaaGreatDoor

/- What a law draws of configurations: rows of the call's own beside the cursor; the cursor's pick below any number. -/
namespace Go.Proofs.YthgbhnedfdnfpaaGreatDoor
set_option maxRecDepth 100000
open Go.RowKit
set_option linter.unusedVariables false
set_option linter.unusedSimpArgs false

theorem own_only {w w' : World} {B g n z : Nat} {T : TypeId} {v : Value} {xs : List Value} (h : w.ownsRow B T z v n xs) (ho : OnlyBlock g w w') (hg : g < B) : w'.ownsRow B T z v n xs :=
  own_heap h (fun k hk => ho.2.2 k (by have := (World.ownsRow.lt h k hk).1; omega))
theorem own_bar {w w' : World} {B B' g n z : Nat} {T : TypeId} {v : Value} {xs : List Value} (h : w.ownsRow B T z v n xs) (ho : Bar g B' w w') (hg : g < B) (hB : w.heap.size ≤ B') : w'.ownsRow B T z v n xs :=
  own_heap h (fun k hk => ho.block k (by have := (World.ownsRow.lt h k hk).2; omega) (by have := (World.ownsRow.lt h k hk).1; omega))
theorem dr_pick1 {w wr : World} {a : Option Addr} {n cap t : Nat} {zs : List Int} (m : Int) (hm : 1 ≤ m) (hm2 : m ≤ 1000000) (HD : Hid (Dr w wr a n cap zs t)) (HL : Hid (zs.length = n)) (hn : n ≤ 9223372036854775807) (ht : t ≤ 1000000) :
    Calls Tryz.prog 73 #[.pointer (some ⟨w.heap.size, 0, none⟩), .int .i64 m] wr (DrInt w wr a n cap zs t fun r => 0 ≤ r ∧ r < m) := by
  rcases Int.lt_or_le 1 m with h | h
  · exact dr_pick m h hm2 HD HL hn ht
  · have d1 := is_le h
    go_enter Tryz.func73, Tryz.ntmps73
    go_wp2_with fail
    go_ret
    exact ⟨0, t, rfl, ⟨Int.le_refl _, by omega⟩, by omega, HD.out, OnlyBlock.refl _ _⟩
theorem dr_amongA {w wr : World} {a : Option Addr} {n cap t m cl gl : Nat} {zs : List Int} (HX : Hid (Ints wr gl m)) (hg : gl ≠ w.heap.size) (hm : 1 < m) (hm2 : m ≤ 100) (HD : Hid (Dr w wr a n cap zs t)) (HL : Hid (zs.length = n)) (hn : n ≤ 9223372036854775807) (ht : t ≤ 1000000) :
    Calls Tryz.prog 75 #[.pointer (some ⟨w.heap.size, 0, none⟩), .slice (some ⟨gl, 0, none⟩) m cl] wr (DrInt w wr a n cap zs t fun _ => True) :=
  (among_any wr _ n cap t gl m cl a zs HX hg hm hm2 HD.out.cur HD.out.ahead HL HD.out.src hn ht).mono fun _ _ ⟨r, t', he, h2, h3, h4⟩ => ⟨r, t', he, trivial, h2, HD.out.only h3 h4, h4⟩
def intAt : Option Value → Bool
  | some (.int .i64 _) => true
  | _ => false
theorem ints_of (w : World) (cs : Array Value) (ty : TypeId) (m : Nat) (h : (List.range m).all (fun i => intAt cs[i]?) = true) : Ints (w.alloc (.cells cs ty)) w.heap.size m := fun i hi => by
  have hq := List.all_eq_true.1 h i (List.mem_range.2 hi)
  rw [World.cell?_alloc_at _ _ _ _ rfl]
  cases hc : cs[i]? with
  | none => rw [hc] at hq; simp [intAt] at hq
  | some v =>
    rw [hc] at hq
    cases v with
    | int k x =>
      cases k with
      | i64 => exact ⟨x, rfl⟩
      | _ => simp [intAt] at hq
    | _ => simp [intAt] at hq
theorem ints_drew {w : World} {cs : Array Value} {ty : TypeId} {m : Nat} (h : (List.range m).all (fun i => intAt cs[i]?) = true) : Ints (w.alloc (.cells cs ty)).drew w.heap.size m := ints_of w cs ty m h
theorem least_any (a b : Int) (w : World) : Calls Tryz.prog 104 #[.int .i64 a, .int .i64 b] w fun e w' => e = .returned (.int .i64 (if a < b then a else b)) ∧ w' = w := by
  rcases Int.lt_or_le a b with h | h
  · have d1 := is_lt h
    rw [if_pos h]
    go_enter Tryz.func104, Tryz.ntmps104
    go_wp2_with fail
    go_ret
    exact ⟨rfl, rfl⟩
  · have d1 := not_lt h
    rw [if_neg (by omega)]
    go_enter Tryz.func104, Tryz.ntmps104
    go_wp2_with fail
    go_ret
    exact ⟨rfl, rfl⟩
theorem most_any (a b : Int) (w : World) : Calls Tryz.prog 122 #[.int .i64 a, .int .i64 b] w fun e w' => e = .returned (.int .i64 (if b < a then a else b)) ∧ w' = w := by
  rcases Int.lt_or_le b a with h | h
  · have d1 := is_lt h
    rw [if_pos h]
    go_enter Tryz.func122, Tryz.ntmps122
    go_wp2_with fail
    go_ret
    exact ⟨rfl, rfl⟩
  · have d1 := not_lt h
    rw [if_neg (by omega)]
    go_enter Tryz.func122, Tryz.ntmps122
    go_wp2_with fail
    go_ret
    exact ⟨rfl, rfl⟩
end Go.Proofs.YthgbhnedfdnfpaaGreatDoor

/- What a law draws of configurations: the classes of a tree: rows with one number changed, three rows at once, a class that no class has as its parent. -/
namespace Go.Proofs.YthgbhnedfdnfpaaGreatDoor
set_option maxRecDepth 100000
open Go.RowKit
set_option linter.unusedVariables false
set_option linter.unusedSimpArgs false

def updC (x : Cls) (j : Nat) (z : Int) : Cls := match j with
  | 0 => { x with i := z }
  | 1 => { x with p := z }
  | 2 => { x with r := z }
  | 3 => { x with e := z }
  | 4 => { x with b := z }
  | 5 => { x with u := z }
  | 6 => { x with o := z }
  | _ => { x with l := z }
theorem clsC_upd (x : Cls) (j : Nat) (z : Int) (hj : j < 8) : (clsC x).set j (.int .i64 z) = clsC (updC x j z) := by
  match j, hj with
  | 0, _ | 1, _ | 2, _ | 3, _ | 4, _ | 5, _ | 6, _ | 7, _ => rfl
theorem clsCs_upd : ∀ (cs : List Cls) (k j : Nat) (z : Int), k < cs.length → j < 8 → (clsCs cs).set (k * 8 + j) (.int .i64 z) = clsCs (cs.set k (updC (cs.getD k cls0) j z))
  | [], k, j, z, h, _ => absurd h (by simp)
  | x :: r, 0, j, z, _, hj => by
    rw [clsCs_cons, Nat.zero_mul, Nat.zero_add, List.set_append_left _ _ (by simp [clsC]; omega), clsC_upd x j z hj]
    simp [clsCs_cons]
  | x :: r, k + 1, j, z, h, hj => by
    have ih := clsCs_upd r k j z (by simpa using h) hj
    have e : (k + 1) * 8 + j - (clsC x).length = k * 8 + j := by simp [clsC]; omega
    rw [clsCs_cons, List.set_append_right _ _ (by simp [clsC]; omega), e, ih]
    simp [clsCs_cons]
theorem own_updC {w : World} {B g c n : Nat} {cs : List Cls} (h : w.ownsRow B 41 8 (.slice (some ⟨g, 0, none⟩) n c) n (clsCs cs)) (k j : Nat) (z : Int) (hk : k < cs.length) (hj : j < 8) :
    (w.setCell ⟨g, k * 8 + j, none⟩ (.int .i64 z)).ownsRow B 41 8 (.slice (some ⟨g, 0, none⟩) n c) n (clsCs (cs.set k (updC (cs.getD k cls0) j z))) := by
  rw [← clsCs_upd cs k j z hk hj]
  exact own_store h _ _
theorem set_getD (cs : List Cls) (k q : Nat) (y : Cls) (hk : k < cs.length) : (cs.set k y).getD q cls0 = if q = k then y else cs.getD q cls0 := by
  rw [List.getD_eq_getElem?_getD, List.getD_eq_getElem?_getD]
  by_cases h : q = k
  · subst h; rw [if_pos rfl, List.getElem?_set_self hk]; rfl
  · rw [if_neg h, List.getElem?_set_ne (by omega)]
def NoP (cs : List Cls) (x : Int) : Prop := ∀ q, q < cs.length → (cs.getD q cls0).p ≠ x
def HasLf (cs : List Cls) : Prop := ∃ k, k < cs.length ∧ NoP cs (cs.getD k cls0).i
def PsOk (ps : List Int) : Prop := ∀ q, q < ps.length → -1 ≤ ps.getD q 0 ∧ ps.getD q 0 < q
theorem PsOk.snoc {ps : List Int} (h : PsOk ps) (k : Int) (h0 : -1 ≤ k) (h1 : k < ps.length) : PsOk (ps ++ [k]) := fun q hq => by
  rw [List.length_append, List.length_singleton] at hq
  rw [List.getD_eq_getElem?_getD]
  by_cases h : q < ps.length
  · rw [List.getElem?_append_left h, ← List.getD_eq_getElem?_getD]; exact ‹PsOk ps› q h
  · rw [List.getElem?_append_right (by omega), show q - ps.length = 0 by omega]
    simp
    omega
def IdAt (m step turn : Int) (q : Nat) (x : Int) : Prop := ∃ e : Int, 0 ≤ e ∧ e < step ∧ x = 1 + step * (((q : Int) + turn) % m) + e
theorem id_pos {m step turn x : Int} {q : Nat} (h : IdAt m step turn q x) (hm : 1 ≤ m) (hs : 1 ≤ step) : 1 ≤ x := by
  obtain ⟨e, h0, h1, rfl⟩ := h
  have h2 : 0 ≤ ((q : Int) + turn) % m := Int.emod_nonneg _ (by omega)
  have h3 : 0 ≤ step * (((q : Int) + turn) % m) := Int.mul_nonneg (by omega) h2
  omega
theorem id_apart {m step turn x y : Int} {q r : Nat} (h : IdAt m step turn q x) (h' : IdAt m step turn r y) (hs : 1 ≤ step) (ht : 0 ≤ turn) (ht' : turn < m) (hq : (q : Int) < m) (hr : (r : Int) < m) (hqr : q ≠ r) : x ≠ y := by
  obtain ⟨e, h0, h1, rfl⟩ := h
  obtain ⟨f, g0, g1, rfl⟩ := h'
  have key : ∀ u : Int, 0 ≤ u → u < m → (u + turn) % m = if u + turn < m then u + turn else u + turn - m := fun u u0 u1 => by
    by_cases hu : u + turn < m
    · rw [if_pos hu, Int.emod_eq_of_lt (by omega) hu]
    · rw [if_neg hu, ← Int.sub_emod_right, Int.emod_eq_of_lt (by omega) (by omega)]
  have hne : ((q : Int) + turn) % m ≠ ((r : Int) + turn) % m := by
    rw [key q (by omega) hq, key r (by omega) hr]
    split <;> split <;> omega
  generalize ((q : Int) + turn) % m = u at hne ⊢
  generalize ((r : Int) + turn) % m = v at hne ⊢
  intro he
  rcases Int.lt_or_gt_of_ne hne with h | h
  · have := Int.mul_le_mul_of_nonneg_left (show u + 1 ≤ v by omega) (show 0 ≤ step by omega)
    rw [Int.mul_add, Int.mul_one] at this
    omega
  · have := Int.mul_le_mul_of_nonneg_left (show v + 1 ≤ u by omega) (show 0 ≤ step by omega)
    rw [Int.mul_add, Int.mul_one] at this
    omega
theorem own_eight {w : World} {B g n c : Nat} {L : List Cls} (h : w.ownsRow B 41 8 (.slice (some ⟨g, 0, none⟩) n c) n (clsCs L)) (k : Nat) (hk : k < L.length) : Eight w g k (L.getD k cls0) := by
  obtain ⟨ad, c', e, hi⟩ := own_in h
  cases e
  have hn : L.length = n := by have := h.1; rw [clsCs_length] at this; omega
  obtain ⟨g', e, ht, _⟩ := hi (by omega)
  cases e
  exact ht.cls k hk _ rfl
theorem own_intAt {w : World} {B g n c : Nat} {zs : List Int} (h : w.ownsRow B 3 1 (.slice (some ⟨g, 0, none⟩) n c) n (iv zs)) (k : Nat) (hk : k < zs.length) : w.cell? ⟨g, k, none⟩ = some (.int .i64 (zs.getD k 0)) := by
  obtain ⟨ad, c', e, hi⟩ := own_in h
  cases e
  have hn : zs.length = n := by have := h.1; rw [iv_length] at this; omega
  obtain ⟨g', e, ht, _⟩ := hi (by omega)
  cases e
  exact ht.at k (iv_get zs k hk)
theorem own_pos {w : World} {B n z : Nat} {T : TypeId} {v : Value} {xs : List Value} (h : w.ownsRow B T z v n xs) (hn : 0 < n) : ∃ g c, v = .slice (some ⟨g, 0, none⟩) n c ∧ B ≤ g ∧ g < w.heap.size := by
  obtain ⟨ad, c, rfl, hi⟩ := own_in h
  obtain ⟨g, rfl, _, _⟩ := hi hn
  exact ⟨g, c, rfl, World.ownsRow.lt h g rfl⟩
def sLen : Value → Nat
  | .slice _ n _ => n
  | _ => 0
structure K3 (w wr : World) (a : Option Addr) (n cap t : Nat) (vl vp vd : Value) (L : List Cls) (ps ds : List Int) (wx : World) : Prop where
  cur : CurAt wx w.heap.size a n cap t
  bar : Bar w.heap.size wr.heap.size wr wx
  l : wx.ownsRow wr.heap.size 41 8 vl L.length (clsCs L)
  p : wx.ownsRow wr.heap.size 3 1 vp ps.length (iv ps)
  d : wx.ownsRow wr.heap.size 3 1 vd ds.length (iv ds)
  lp : ∀ k, vp.ownBlock = some k → vl.ownBlock ≠ some k
  ld : ∀ k, vd.ownBlock = some k → vl.ownBlock ≠ some k
  pd : ∀ k, vd.ownBlock = some k → vp.ownBlock ≠ some k
section
variable {w wr wx w' : World} {a : Option Addr} {n cap t t' t0 : Nat} {zs : List Int} {vl vp vd v' : Value} {L : List Cls} {ps ds : List Int}
theorem K3.dr (h : K3 w wr a n cap t vl vp vd L ps ds wx) (HD : Dr w wr a n cap zs t0) : Dr w wx a n cap zs t := HD.bar h.cur h.bar
theorem K3.only (h : K3 w wr a n cap t vl vp vd L ps ds wx) (hw : w.heap.size < wr.heap.size) (hc : CurAt w' w.heap.size a n cap t') (ho : OnlyBlock w.heap.size wx w') : K3 w wr a n cap t' vl vp vd L ps ds w' :=
  ⟨hc, h.bar.trans (Bar.of_only ho _), own_only h.l ho hw, own_only h.p ho hw, own_only h.d ho hw, h.lp, h.ld, h.pd⟩
theorem K3.on (h : K3 w wr a n cap t vl vp vd L ps ds wx) (hb : Below wx.heap.size wx w') : K3 w wr a n cap t vl vp vd L ps ds w' :=
  ⟨h.cur.kept (hb.block _ h.cur.lt), h.bar.trans ((Bar.of_below hb).mono h.bar.size), own_low h.l hb (Nat.le_refl _), own_low h.p hb (Nat.le_refl _), own_low h.d hb (Nat.le_refl _), h.lp, h.ld, h.pd⟩
theorem bar_grown {c B : Nat} {w wx w' : World} {o : Option Nat} (h : Bar c B w wx) (hg : wx.grownBy w' o) (hB : B ≤ wx.heap.size) (hr : ∀ k, o = some k → B ≤ k) : Bar c B w w' :=
  h.trans ⟨hg.os, hg.tape, hg.output, hg.size, fun k hk _ => hg.block k (by omega) (fun q => by have := hr k q.symm; omega)⟩
theorem cur_grown {c n cap t : Nat} {a : Option Addr} {wx w' : World} {o : Option Nat} (h : CurAt wx c a n cap t) (hg : wx.grownBy w' o) (hr : o ≠ some c) : CurAt w' c a n cap t :=
  h.kept (hg.block c h.lt (fun q => hr q.symm))
theorem K3.appL (h : K3 w wr a n cap t vl vp vd L ps ds wx) (hw : w.heap.size < wr.heap.size) (y : Cls) (hg : wx.grownBy w' vl.ownBlock) (ho : w'.ownsRow wr.heap.size 41 8 v' (L.length + 1) (clsCs L ++ clsC y)) (hat : v'.ownBlock = vl.ownBlock ∨ v'.ownBlock = some wx.heap.size) :
    K3 w wr a n cap t v' vp vd (L ++ [y]) ps ds w' := by
  have hr := fun k (q : vl.ownBlock = some k) => (World.ownsRow.lt h.l k q).1
  refine ⟨cur_grown h.cur hg (fun q => by have := hr _ q; omega), bar_grown h.bar hg h.bar.size hr, ?_, own_kept h.p hg h.lp, own_kept h.d hg h.ld, dis_app h.lp hat h.p, dis_app h.ld hat h.d, h.pd⟩
  rw [List.length_append, clsCs_append, show clsCs [y] = clsC y by simp [clsCs]]
  exact ho
theorem iv_snoc (ps : List Int) (z : Int) : iv (ps ++ [z]) = iv ps ++ [.int .i64 z] := by simp [iv]
theorem K3.appP (h : K3 w wr a n cap t vl vp vd L ps ds wx) (hw : w.heap.size < wr.heap.size) (z : Int) (hg : wx.grownBy w' vp.ownBlock) (ho : w'.ownsRow wr.heap.size 3 1 v' (ps.length + 1) (iv ps ++ [.int .i64 z])) (hat : v'.ownBlock = vp.ownBlock ∨ v'.ownBlock = some wx.heap.size) :
    K3 w wr a n cap t vl v' vd L (ps ++ [z]) ds w' := by
  have hr := fun k (q : vp.ownBlock = some k) => (World.ownsRow.lt h.p k q).1
  refine ⟨cur_grown h.cur hg (fun q => by have := hr _ q; omega), bar_grown h.bar hg h.bar.size hr, own_kept h.l hg (dis_symm h.lp), ?_, own_kept h.d hg h.pd, dis_symm (dis_app (dis_symm h.lp) hat h.l), h.ld, dis_app h.pd hat h.d⟩
  rw [List.length_append, iv_snoc]
  exact ho
theorem K3.appD (h : K3 w wr a n cap t vl vp vd L ps ds wx) (hw : w.heap.size < wr.heap.size) (z : Int) (hg : wx.grownBy w' vd.ownBlock) (ho : w'.ownsRow wr.heap.size 3 1 v' (ds.length + 1) (iv ds ++ [.int .i64 z])) (hat : v'.ownBlock = vd.ownBlock ∨ v'.ownBlock = some wx.heap.size) :
    K3 w wr a n cap t vl vp v' L ps (ds ++ [z]) w' := by
  have hr := fun k (q : vd.ownBlock = some k) => (World.ownsRow.lt h.d k q).1
  refine ⟨cur_grown h.cur hg (fun q => by have := hr _ q; omega), bar_grown h.bar hg h.bar.size hr, own_kept h.l hg (dis_symm h.ld), own_kept h.p hg (dis_symm h.pd), ?_, h.lp, dis_symm (dis_app (dis_symm h.ld) hat h.l), dis_symm (dis_app (dis_symm h.pd) hat h.p)⟩
  rw [List.length_append, iv_snoc]
  exact ho
theorem K3.upd {g c m : Nat} (h : K3 w wr a n cap t (.slice (some ⟨g, 0, none⟩) m c) vp vd L ps ds wx) (hm : L.length = m) (hw : w.heap.size < wr.heap.size) (k j : Nat) (z : Int) (hk : k < L.length) (hj : j < 8) :
    K3 w wr a n cap t (.slice (some ⟨g, 0, none⟩) m c) vp vd (L.set k (updC (L.getD k cls0) j z)) ps ds (wx.setCell ⟨g, k * 8 + j, none⟩ (.int .i64 z)) := by
  have hg := (World.ownsRow.lt h.l g rfl).1
  refine ⟨h.cur.kept (Below.heap_setCell wx ⟨g, k * 8 + j, none⟩ _ _ (by show w.heap.size ≠ g; omega)), h.bar.trans (Bar.of_below ((Below.refl wr.heap.size wx).setCell (p := ⟨g, k * 8 + j, none⟩) hg _)), ?_, own_far h.p (fun g' e q => h.lp g' e (by rw [q]; rfl)) _, own_far h.d (fun g' e q => h.ld g' e (by rw [q]; rfl)) _, h.lp, h.ld, h.pd⟩
  subst hm
  rw [List.length_set]
  exact own_updC h.l k j z hk hj
theorem K3.drewN (h : K3 w wr a n cap t vl vp vd L ps ds wx) (q : Nat) : K3 w wr a n cap t vl vp vd L ps ds (wx.drewN q) := h.on (below_drewN (Below.refl _ _) q)
end
end Go.Proofs.YthgbhnedfdnfpaaGreatDoor
