/- Curves in memory: rows of curves, arguments opened, lists made of arguments and compared. -/
import Derived.Test.YteogadbjnmcblaaDoorCva
import Derived.Test.YteogadbjnmcblaaDoorOpn
import Derived.Test.YteogadbjnmcblaaDoorBxw
import Derived.LoopTactic
namespace Go.Proofs.YteogadbjnmcblaaDoor
set_option maxRecDepth 100000
open Go.RowKit
set_option linter.unusedVariables false

def cvC (x : Cv) : List Value := [.int .i64 x.f, .int .i64 x.l, .int .i64 x.s]
def cvV (x : Cv) : Value := .agg #[.int .i64 x.f, .int .i64 x.l, .int .i64 x.s]
def cvCs (l : List Cv) : List Value := l.flatMap cvC
theorem cvCs_cons (x : Cv) (r : List Cv) : cvCs (x :: r) = cvC x ++ cvCs r := by simp [cvCs]
theorem cvCs_append (l m : List Cv) : cvCs (l ++ m) = cvCs l ++ cvCs m := by simp [cvCs]
theorem cvCs_length (l : List Cv) : (cvCs l).length = l.length * 3 := by
  unfold cvCs
  induction l with
  | nil => rfl
  | cons x r ih => simp [cvC] at *; omega
theorem cvCs_get : ∀ (l : List Cv) (i j : Nat), j < 3 → i < l.length → (cvCs l)[i * 3 + j]? = (cvC (l.getD i cv0))[j]?
  | [], i, j, _, h => absurd h (by simp)
  | x :: r, 0, j, hj, _ => by
    rw [cvCs_cons, List.getElem?_append_left (by simp [cvC]; omega)]
    simp
  | x :: r, i + 1, j, hj, h => by
    have e : (i + 1) * 3 + j - (cvC x).length = i * 3 + j := by simp [cvC]; omega
    rw [cvCs_cons, List.getElem?_append_right (by simp [cvC]; omega), e, cvCs_get r i j hj (by simpa using h)]
    simp
/-- the cells of a curve of a row -/
def Thr3 (w : World) (g k : Nat) (x : Cv) : Prop := w.cell? ⟨g, k * 3, none⟩ = some (.int .i64 x.f) ∧ w.cell? ⟨g, k * 3 + 1, none⟩ = some (.int .i64 x.l) ∧ w.cell? ⟨g, k * 3 + 2, none⟩ = some (.int .i64 x.s)
theorem AtC.cv {w : World} {g : Nat} {l : List Cv} (h : AtC w g (cvCs l)) (k : Nat) (hk : k < l.length) (x : Cv) (hx : l.getD k cv0 = x) : Thr3 w g k x := by
  subst hx
  have q := fun j (hj : j < 3) => cvCs_get l k j hj hk
  exact ⟨h.at _ ((q 0 (by decide)).trans rfl), h.at _ ((q 1 (by decide)).trans rfl), h.at _ ((q 2 (by decide)).trans rfl)⟩
def Thr3O (w : World) (b off k : Nat) (x : Cv) : Prop := w.cell? ⟨b, off + k * 3, none⟩ = some (.int .i64 x.f) ∧ w.cell? ⟨b, off + k * 3 + 1, none⟩ = some (.int .i64 x.l) ∧ w.cell? ⟨b, off + k * 3 + 2, none⟩ = some (.int .i64 x.s)
theorem OffC.cv {w : World} {b off : Nat} {l : List Cv} (h : OffC w b off (cvCs l)) (k : Nat) (hk : k < l.length) (x : Cv) (hx : l.getD k cv0 = x) : Thr3O w b off k x := by
  subst hx
  have q := fun j (hj : j < 3) => cvCs_get l k j hj hk
  exact ⟨h.at _ ((q 0 (by decide)).trans rfl), h.at _ ((q 1 (by decide)).trans rfl), h.at _ ((q 2 (by decide)).trans rfl)⟩
/-- a boxed curve keeps its cells -/
def ThreeIs (w : World) (g : Nat) (a0 a1 a2 : Value) : Prop := w.cell? ⟨g, 0, none⟩ = some a0 ∧ w.cell? ⟨g, 1, none⟩ = some a1 ∧ w.cell? ⟨g, 2, none⟩ = some a2 ∧ g < w.heap.size
theorem ThreeIs.on {w w1 : World} {g : Nat} {a0 a1 a2 : Value} (h : ThreeIs w g a0 a1 a2) (b : Below w.heap.size w w1) : ThreeIs w1 g a0 a1 a2 := by
  obtain ⟨h0, h1, h2, hg⟩ := h
  have hc := (bcell b).1
  exact ⟨(hc _ _ hg).trans h0, (hc _ _ hg).trans h1, (hc _ _ hg).trans h2, Nat.lt_of_lt_of_le hg b.size⟩
theorem three_is (w : World) (a0 a1 a2 : Value) (t : TypeId) : ThreeIs (w.alloc (.cells #[a0, a1, a2] t)) w.heap.size a0 a1 a2 := by
  refine ⟨?_, ?_, ?_, ?_⟩ <;> simp [go_sem]
theorem box_three {w w1 : World} {a0 a1 a2 : Value} {t : TypeId} (b : Below (w.alloc (.cells #[a0, a1, a2] t)).heap.size (w.alloc (.cells #[a0, a1, a2] t)) w1) : ThreeIs w1 w.heap.size a0 a1 a2 ∧ Below w.heap.size w w1 :=
  ⟨(three_is w a0 a1 a2 t).on b, (one_new2 w _).trans (b.mono (by simp))⟩
section
open Go.Joins Go.ChangeShapes Go.WideShapes Go.Deep
variable {H : Type} {enc : TypeId × Value → H} {w : World} {base : Nat} {spare : Nat → Bool} {held : Bool}
theorem array3 {α : Type} {cs : Array α} (h : cs.size = 3) : ∃ c0 c1 c2, cs = #[c0, c1, c2] := by
  obtain ⟨l⟩ := cs
  match l, h with
  | [c0, c1, c2], _ => exact ⟨c0, c1, c2, rfl⟩
theorem open_cv {r : Reach} {b0 : Nat} {v : Value} {d : DataW H} {p : List MemPlace} (hv : Value.okWide Tryd.prog w r b0 23 v) (h : DataW.Trod enc Tryd.prog w base spare held 23 v d p) : ∃ x : Cv, v = cvV x := by
  obtain ⟨cs, rfl, hsz⟩ := okWide_struct Tryd.underlying23 hv
  obtain ⟨c0, c1, c2, rfl⟩ := array3 (hsz.trans (show Tryd.prog.cellsOf 23 = 3 by kernel_rfl))
  obtain ⟨fuel, hf⟩ := h
  obtain ⟨f, hfj⟩ := open_ints_struct Tryd.underlying23 (by
    intro i hi
    rcases (show i = 0 ∨ i = 1 ∨ i = 2 by simp at hi; omega) with rfl | rfl | rfl <;> exact ⟨_, rfl, rfl, rfl⟩) hf
  have q := fun j (hj : j < 3) => hfj j hj
  refine ⟨⟨f 0, f 1, f 2⟩, ?_⟩
  have q0 := Option.some.inj (q 0 (by decide))
  have q1 := Option.some.inj (q 1 (by decide))
  have q2 := Option.some.inj (q 2 (by decide))
  rw [q0, q1, q2]
  rfl
end
theorem infoCv : (Tryd.prog.info? 26).map (fun i => (i.zero, i.size, i.bytes)) = some (some (.agg #[.int .i64 0, .int .i64 0, .int .i64 0]), 3, 24) := by kernel_rfl
theorem set_cv {n : Nat} {w w1 : World} (h : Below n w w1) (b : Nat) (hb : n ≤ b) (j0 j1 j2 : Nat) (v0 v1 v2 : Value) : Below n w (((w1.setCell ⟨b, j0, none⟩ v0).setCell ⟨b, j1, none⟩ v1).setCell ⟨b, j2, none⟩ v2) := ((h.setCell hb _).setCell hb _).setCell hb _
theorem got_cv {l : List Cv} {xs : List Value} {k n : Nat} (h : GotX (cvCs l) xs (k * 3)) (hl : xs.length = n * 3) (hk : k < n) (hn : l.length = n) (x : Cv) (hx : l.getD k cv0 = x) :
    GotX (cvCs l) (((xs.set (k * 3) (.int .i64 x.f)).set (k * 3 + 1) (.int .i64 x.l)).set (k * 3 + 2) (.int .i64 x.s)) ((k + 1) * 3) := by
  intro m hm
  by_cases hmk : m < k * 3
  · rw [List.getElem?_set_ne (by omega), List.getElem?_set_ne (by omega), List.getElem?_set_ne (by omega)]
    exact h m hmk
  · obtain ⟨j, hj, hm2⟩ : ∃ j, j < 3 ∧ m = k * 3 + j := ⟨m - k * 3, by omega, by omega⟩
    have q := cvCs_get l k j hj (by omega)
    rw [← hm2, hx] at q
    rw [q]
    match j, hj with
    | 0, _ => rw [hm2]; simp [List.getElem?_set, cvC]; omega
    | 1, _ => rw [hm2]; simp [List.getElem?_set, cvC]; omega
    | 2, _ => rw [hm2]; simp [List.getElem?_set, cvC]; omega
set_option maxHeartbeats 1600000 in
theorem toCurve_any (x : Cv) (w : World) :
    Calls Tryd.prog 6 #[cvV x] w (SaysV w (cvV x)) := by
  obtain ⟨xf, xl, xs⟩ := x
  unfold cvV
  simp only
  go_enter Tryd.func6, Tryd.ntmps6
  go_wp2
  exact bodyPost_ret (v := .agg #[.int .i64 xf, .int .i64 xl, .int .i64 xs]) (by simp [results, Tryd.results6, go_sem]) rfl ⟨rfl, (two_new _ _ _).alloc (by simp; omega) _⟩
set_option maxHeartbeats 1600000 in
theorem eqCurve_same (x : Cv) (w : World) :
    Calls Tryd.prog 10 #[cvV x, cvV x] w (SaysB w true) := by
  obtain ⟨xf, xl, xs⟩ := x
  unfold cvV
  simp only
  go_enter Tryd.func10, Tryd.ntmps10
  go_wp2
  go_ret
  exact ⟨rfl, two_new _ _ _⟩
def cvRel (w : World) (l : List Cv) (n : Nat) (i : Value) (wr : World) : Prop :=
  ∃ (k : Nat) (xs : List Value), k ≤ n ∧ i = .int .i64 k ∧ wr.ownsRow w.heap.size 26 3 (.slice (some ⟨w.heap.size, 0, none⟩) n n) n xs ∧ Below w.heap.size w wr ∧ GotX (cvCs l) xs (k * 3)
def SaysCvS (w : World) (l : List Cv) (e : Ending) (w' : World) : Prop := e = .returned (.slice (some ⟨w.heap.size, 0, none⟩) l.length l.length) ∧ Below w.heap.size w w' ∧ w'.ownsRow w.heap.size 26 3 (.slice (some ⟨w.heap.size, 0, none⟩) l.length l.length) l.length (cvCs l)
def EqCvRel (w : World) (n : Nat) (i : Value) (wr : World) : Prop := ∃ k : Nat, k ≤ n ∧ i = .int .i64 k ∧ Below w.heap.size w wr
end Go.Proofs.YteogadbjnmcblaaDoor
