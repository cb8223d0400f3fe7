/- Faults: plain functions; faults in memory: rows of faults, arguments opened, lists made of arguments and compared. -/
import Derived.Test.YtdfkehgkonadhaaDoorOpn
import Derived.Test.YtdfkehgkonadhaaDoorBxw
import Derived.LoopTactic
namespace Go.Proofs.YtdfkehgkonadhaaDoor
set_option maxRecDepth 100000
open Go.RowKit
set_option linter.unusedVariables false

structure Fa where
  k : Int
  a : Int
def fa0 : Fa := ⟨0, 0⟩
def goodF (x : Fa) : Bool := inB x.k 1 7 && inB x.a 0 6000
structure FaOk (x : Fa) : Prop where
  k1 : 1 ≤ x.k
  k7 : x.k ≤ 7
  a0 : 0 ≤ x.a
  a6 : x.a ≤ 6000
theorem faok {x : Fa} (h : goodF x = true) : FaOk x := by
  unfold goodF inB at h
  simp only [Bool.and_eq_true, decide_eq_true_eq] at h
  exact ⟨h.1.1, h.1.2, h.2.1, h.2.2⟩
def faC (x : Fa) : List Value := [.int .i64 x.k, .int .i64 x.a]
def faV (x : Fa) : Value := .agg #[.int .i64 x.k, .int .i64 x.a]
def faCs (l : List Fa) : List Value := l.flatMap faC
theorem faCs_cons (x : Fa) (r : List Fa) : faCs (x :: r) = faC x ++ faCs r := by simp [faCs]
theorem faCs_append (l m : List Fa) : faCs (l ++ m) = faCs l ++ faCs m := by simp [faCs]
theorem faCs_length (l : List Fa) : (faCs l).length = l.length * 2 := by
  unfold faCs
  induction l with
  | nil => rfl
  | cons x r ih => simp [faC] at *; omega
theorem faCs_get : ∀ (l : List Fa) (i j : Nat), j < 2 → i < l.length → (faCs l)[i * 2 + j]? = (faC (l.getD i fa0))[j]?
  | [], i, j, _, h => absurd h (by simp)
  | x :: r, 0, j, hj, _ => by
    rw [faCs_cons, List.getElem?_append_left (by simp [faC]; omega)]
    simp
  | x :: r, i + 1, j, hj, h => by
    have e : (i + 1) * 2 + j - (faC x).length = i * 2 + j := by simp [faC]; omega
    rw [faCs_cons, List.getElem?_append_right (by simp [faC]; omega), e, faCs_get r i j hj (by simpa using h)]
    simp
/-- the cells of a curve of a row -/
def Two2 (w : World) (g k : Nat) (x : Fa) : Prop := w.cell? ⟨g, k * 2, none⟩ = some (.int .i64 x.k) ∧ w.cell? ⟨g, k * 2 + 1, none⟩ = some (.int .i64 x.a)
theorem AtC.fa {w : World} {g : Nat} {l : List Fa} (h : AtC w g (faCs l)) (k : Nat) (hk : k < l.length) (x : Fa) (hx : l.getD k fa0 = x) : Two2 w g k x := by
  subst hx
  have q := fun j (hj : j < 2) => faCs_get l k j hj hk
  exact ⟨h.at _ ((q 0 (by decide)).trans rfl), h.at _ ((q 1 (by decide)).trans rfl)⟩
def Two2O (w : World) (b off k : Nat) (x : Fa) : Prop := w.cell? ⟨b, off + k * 2, none⟩ = some (.int .i64 x.k) ∧ w.cell? ⟨b, off + k * 2 + 1, none⟩ = some (.int .i64 x.a)
theorem OffC.fa {w : World} {b off : Nat} {l : List Fa} (h : OffC w b off (faCs l)) (k : Nat) (hk : k < l.length) (x : Fa) (hx : l.getD k fa0 = x) : Two2O w b off k x := by
  subst hx
  have q := fun j (hj : j < 2) => faCs_get l k j hj hk
  exact ⟨h.at _ ((q 0 (by decide)).trans rfl), h.at _ ((q 1 (by decide)).trans rfl)⟩
/-- a boxed curve keeps its cells -/
def TwoIs (w : World) (g : Nat) (a0 a1 : Value) : Prop := w.cell? ⟨g, 0, none⟩ = some a0 ∧ w.cell? ⟨g, 1, none⟩ = some a1 ∧ g < w.heap.size
theorem TwoIs.on {w w1 : World} {g : Nat} {a0 a1 : Value} (h : TwoIs w g a0 a1) (b : Below w.heap.size w w1) : TwoIs w1 g a0 a1 := by
  obtain ⟨h0, h1, hg⟩ := h
  have hc := (bcell b).1
  exact ⟨(hc _ _ hg).trans h0, (hc _ _ hg).trans h1, Nat.lt_of_lt_of_le hg b.size⟩
theorem two_is (w : World) (a0 a1 : Value) (t : TypeId) : TwoIs (w.alloc (.cells #[a0, a1] t)) w.heap.size a0 a1 := by
  refine ⟨?_, ?_, ?_⟩ <;> simp [go_sem]
theorem box_two {w w1 : World} {a0 a1 : Value} {t : TypeId} (b : Below (w.alloc (.cells #[a0, a1] t)).heap.size (w.alloc (.cells #[a0, a1] t)) w1) : TwoIs w1 w.heap.size a0 a1 ∧ Below w.heap.size w w1 :=
  ⟨(two_is w a0 a1 t).on b, (one_new2 w _).trans (b.mono (by simp))⟩
section
open Go.Joins Go.ChangeShapes Go.WideShapes Go.Deep
variable {H : Type} {enc : TypeId × Value → H} {w : World} {base : Nat} {spare : Nat → Bool} {held : Bool}
theorem array2 {α : Type} {cs : Array α} (h : cs.size = 2) : ∃ c0 c1, cs = #[c0, c1] := by
  obtain ⟨l⟩ := cs
  match l, h with
  | [c0, c1], _ => exact ⟨c0, c1, rfl⟩
theorem open_fa {r : Reach} {b0 : Nat} {v : Value} {d : DataW H} {p : List MemPlace} (hv : Value.okWide Tryd.prog w r b0 35 v) (h : DataW.Trod enc Tryd.prog w base spare held 35 v d p) : ∃ x : Fa, v = faV x := by
  obtain ⟨cs, rfl, hsz⟩ := okWide_struct Tryd.underlying35 hv
  obtain ⟨c0, c1, rfl⟩ := array2 (hsz.trans (show Tryd.prog.cellsOf 35 = 2 by kernel_rfl))
  obtain ⟨fuel, hf⟩ := h
  obtain ⟨f, hfj⟩ := open_ints_struct Tryd.underlying35 (by
    intro i hi
    rcases (show i = 0 ∨ i = 1 by simp at hi; omega) with rfl | rfl <;> exact ⟨_, rfl, rfl, rfl⟩) hf
  have q := fun j (hj : j < 2) => hfj j hj
  refine ⟨⟨f 0, f 1⟩, ?_⟩
  have q0 := Option.some.inj (q 0 (by decide))
  have q1 := Option.some.inj (q 1 (by decide))
  rw [q0, q1]
  rfl
end
theorem infoFa : (Tryd.prog.info? 37).map (fun i => (i.zero, i.size, i.bytes)) = some (some (.agg #[.int .i64 0, .int .i64 0]), 2, 16) := by kernel_rfl
theorem set_fa {n : Nat} {w w1 : World} (h : Below n w w1) (b : Nat) (hb : n ≤ b) (j0 j1 : Nat) (v0 v1 : Value) : Below n w ((w1.setCell ⟨b, j0, none⟩ v0).setCell ⟨b, j1, none⟩ v1) := (h.setCell hb _).setCell hb _
theorem got_fa {l : List Fa} {xs : List Value} {k n : Nat} (h : GotX (faCs l) xs (k * 2)) (hl : xs.length = n * 2) (hk : k < n) (hn : l.length = n) (x : Fa) (hx : l.getD k fa0 = x) :
    GotX (faCs l) ((xs.set (k * 2) (.int .i64 x.k)).set (k * 2 + 1) (.int .i64 x.a)) ((k + 1) * 2) := by
  intro m hm
  by_cases hmk : m < k * 2
  · rw [List.getElem?_set_ne (by omega), List.getElem?_set_ne (by omega)]
    exact h m hmk
  · obtain ⟨j, hj, hm2⟩ : ∃ j, j < 2 ∧ m = k * 2 + j := ⟨m - k * 2, by omega, by omega⟩
    have q := faCs_get l k j hj (by omega)
    rw [← hm2, hx] at q
    rw [q]
    match j, hj with
    | 0, _ => rw [hm2]; simp [List.getElem?_set, faC]; omega
    | 1, _ => rw [hm2]; simp [List.getElem?_set, faC]; omega
set_option maxHeartbeats 1600000 in
theorem toFault_any (x : Fa) (w : World) :
    Calls Tryd.prog 22 #[faV x] w (SaysV w (faV x)) := by
  obtain ⟨xk, xa⟩ := x
  unfold faV
  simp only
  go_enter Tryd.func22, Tryd.ntmps22
  go_wp2
  exact bodyPost_ret (v := .agg #[.int .i64 xk, .int .i64 xa]) (by simp [results, Tryd.results22, go_sem]) rfl ⟨rfl, (two_new _ _ _).alloc (by simp; omega) _⟩
set_option maxHeartbeats 1600000 in
theorem eqFault_same (x : Fa) (w : World) :
    Calls Tryd.prog 28 #[faV x, faV x] w (SaysB w true) := by
  obtain ⟨xk, xa⟩ := x
  unfold faV
  simp only
  go_enter Tryd.func28, Tryd.ntmps28
  go_wp2
  go_ret
  exact ⟨rfl, two_new _ _ _⟩
def faRel (w : World) (l : List Fa) (n : Nat) (i : Value) (wr : World) : Prop :=
  ∃ (k : Nat) (xs : List Value), k ≤ n ∧ i = .int .i64 k ∧ wr.ownsRow w.heap.size 37 2 (.slice (some ⟨w.heap.size, 0, none⟩) n n) n xs ∧ Below w.heap.size w wr ∧ GotX (faCs l) xs (k * 2)
def SaysFaS (w : World) (l : List Fa) (e : Ending) (w' : World) : Prop := e = .returned (.slice (some ⟨w.heap.size, 0, none⟩) l.length l.length) ∧ Below w.heap.size w w' ∧ w'.ownsRow w.heap.size 37 2 (.slice (some ⟨w.heap.size, 0, none⟩) l.length l.length) l.length (faCs l)
def EqFaRel (w : World) (n : Nat) (i : Value) (wr : World) : Prop := ∃ k : Nat, k ≤ n ∧ i = .int .i64 k ∧ Below w.heap.size w wr
end Go.Proofs.YtdfkehgkonadhaaDoor
