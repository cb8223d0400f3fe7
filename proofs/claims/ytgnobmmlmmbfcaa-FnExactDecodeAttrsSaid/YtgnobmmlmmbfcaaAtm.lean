/- Attributes in memory: rows of attributes, arguments opened, measured, lists made of arguments and compared. -/
import Derived.Test.YtgnobmmlmmbfcaaOpn
import Derived.Test.YtgnobmmlmmbfcaaBxw
import Derived.Test.YtgnobmmlmmbfcaaAtp
import Derived.LoopTactic
import Derived.ChangeArms
namespace Go.Proofs.Ytgnobmmlmmbfcaa
open Go.RowKit
set_option linter.unusedVariables false
set_option maxRecDepth 100000

def atC (x : At) : List Value := [.int .i64 x.d, .int .i64 x.t, .bool x.n, .string x.s]
def atV (x : At) : Value := .agg #[.int .i64 x.d, .int .i64 x.t, .bool x.n, .string x.s]
def atCs (l : List At) : List Value := l.flatMap atC
theorem atCs_cons (x : At) (r : List At) : atCs (x :: r) = atC x ++ atCs r := by simp [atCs]
theorem atCs_append (l m : List At) : atCs (l ++ m) = atCs l ++ atCs m := by simp [atCs]
theorem atCs_length (l : List At) : (atCs l).length = l.length * 4 := by
  unfold atCs
  induction l with
  | nil => rfl
  | cons x r ih => simp [atC] at *; omega
theorem atCs_get : ∀ (l : List At) (i j : Nat), j < 4 → i < l.length → (atCs l)[i * 4 + j]? = (atC (gA l i))[j]?
  | [], i, j, _, h => absurd h (by simp)
  | x :: r, 0, j, hj, _ => by
    rw [atCs_cons, List.getElem?_append_left (by simp [atC]; omega)]
    simp [gA]
  | x :: r, i + 1, j, hj, h => by
    have e : (i + 1) * 4 + j - (atC x).length = i * 4 + j := by simp [atC]; omega
    have g : gA (x :: r) (i + 1) = gA r i := by simp [gA]
    rw [atCs_cons, List.getElem?_append_right (by simp [atC]; omega), e, g, atCs_get r i j hj (by simpa using h)]
/-- the cells of an attribute of a row -/
def Atr4 (w : World) (g o : Nat) (x : At) : Prop := w.cell? ⟨g, o, none⟩ = some (.int .i64 x.d) ∧ w.cell? ⟨g, o + 1, none⟩ = some (.int .i64 x.t) ∧ w.cell? ⟨g, o + 2, none⟩ = some (.bool x.n) ∧ w.cell? ⟨g, o + 3, none⟩ = some (.string x.s)
theorem AtC.atr {w : World} {g : Nat} {l : List At} (h : AtC w g (atCs l)) (k : Nat) (hk : k < l.length) (x : At) (hx : gA l k = x) : Atr4 w g (k * 4) x := by
  subst hx
  have q := fun j (hj : j < 4) => atCs_get l k j hj hk
  exact ⟨h.at _ ((q 0 (by decide)).trans rfl), h.at _ ((q 1 (by decide)).trans rfl), h.at _ ((q 2 (by decide)).trans rfl), h.at _ ((q 3 (by decide)).trans rfl)⟩
theorem OffC.atr {w : World} {b off : Nat} {l : List At} (h : OffC w b off (atCs l)) (k : Nat) (hk : k < l.length) (x : At) (hx : gA l k = x) : Atr4 w b (off + k * 4) x := by
  subst hx
  have q := fun j (hj : j < 4) => atCs_get l k j hj hk
  exact ⟨h.at _ ((q 0 (by decide)).trans rfl), h.at _ ((q 1 (by decide)).trans rfl), h.at _ ((q 2 (by decide)).trans rfl), h.at _ ((q 3 (by decide)).trans rfl)⟩
def SzM (l : List At) : Prop := ∀ k, k < l.length → (gA l k).s.size ≤ 9223372036854775807
section
open Go.Joins Go.ChangeShapes Go.WideShapes Go.Deep
variable {H : Type} {enc : TypeId × Value → H} {w : World} {base : Nat} {spare : Nat → Bool} {held : Bool}
end
theorem infoAt : (Try.prog.info? 35).map (fun i => (i.zero, i.size, i.bytes)) = some (some (.agg #[.int .i64 0, .int .i64 0, .bool false, .string ⟨#[]⟩]), 4, 40) := by kernel_rfl
theorem set_at {n : Nat} {w w1 : World} (h : Below n w w1) (b : Nat) (hb : n ≤ b) (j0 j1 j2 j3 : Nat) (v0 v1 v2 v3 : Value) : Below n w ((((w1.setCell ⟨b, j0, none⟩ v0).setCell ⟨b, j1, none⟩ v1).setCell ⟨b, j2, none⟩ v2).setCell ⟨b, j3, none⟩ v3) := (((h.setCell hb _).setCell hb _).setCell hb _).setCell hb _
theorem got_at {l : List At} {xs : List Value} {k n : Nat} (h : GotX (atCs l) xs (k * 4)) (hl : xs.length = n * 4) (hk : k < n) (hn : l.length = n) (x : At) (hx : gA l k = x) :
    GotX (atCs l) ((((xs.set (k * 4) (.int .i64 x.d)).set (k * 4 + 1) (.int .i64 x.t)).set (k * 4 + 2) (.bool x.n)).set (k * 4 + 3) (.string x.s)) ((k + 1) * 4) := by
  intro m hm
  by_cases hmk : m < k * 4
  · rw [List.getElem?_set_ne (by omega), List.getElem?_set_ne (by omega), List.getElem?_set_ne (by omega), List.getElem?_set_ne (by omega)]
    exact h m hmk
  · obtain ⟨j, hj, hm2⟩ : ∃ j, j < 4 ∧ m = k * 4 + j := ⟨m - k * 4, by omega, by omega⟩
    have q := atCs_get l k j hj (by omega)
    rw [← hm2, hx] at q
    rw [q]
    match j, hj with
    | 0, _ => rw [hm2]; simp [List.getElem?_set, atC]; omega
    | 1, _ => rw [hm2]; simp [List.getElem?_set, atC]; omega
    | 2, _ => rw [hm2]; simp [List.getElem?_set, atC]; omega
    | 3, _ => rw [hm2]; simp [List.getElem?_set, atC]; omega
/-- a boxed attribute keeps its cells -/
def AtrIs (w : World) (g : Nat) (x : At) : Prop := Atr4 w g 0 x ∧ g < w.heap.size
theorem AtrIs.on {w w1 : World} {g : Nat} {x : At} (h : AtrIs w g x) (b : Below w.heap.size w w1) : AtrIs w1 g x := by
  obtain ⟨⟨h0, h1, h2, h3⟩, hg⟩ := h
  have hc := (bcell b).1
  exact ⟨⟨(hc _ _ hg).trans h0, (hc _ _ hg).trans h1, (hc _ _ hg).trans h2, (hc _ _ hg).trans h3⟩, Nat.lt_of_lt_of_le hg b.size⟩
set_option maxHeartbeats 1600000 in
theorem eqAttr_same (x : At) (w : World) :
    Calls Try.prog 12 #[atV x, atV x] w (SaysB w true) := by
  obtain ⟨xd, xt, xn, xs⟩ := x
  unfold atV
  simp only
  cases xn
  all_goals
    go_enter Try.func12, Try.ntmps12
    go_wp2
    go_ret
    exact ⟨rfl, two_new _ _ _⟩
def atRel (w : World) (l : List At) (n : Nat) (i : Value) (wr : World) : Prop :=
  ∃ (k : Nat) (xs : List Value), k ≤ n ∧ i = .int .i64 k ∧ wr.ownsRow w.heap.size 35 4 (.slice (some ⟨w.heap.size, 0, none⟩) n n) n xs ∧ Below w.heap.size w wr ∧ GotX (atCs l) xs (k * 4)
def SaysAtS (w : World) (l : List At) (e : Ending) (w' : World) : Prop := e = .returned (.slice (some ⟨w.heap.size, 0, none⟩) l.length l.length) ∧ Below w.heap.size w w' ∧ w'.ownsRow w.heap.size 35 4 (.slice (some ⟨w.heap.size, 0, none⟩) l.length l.length) l.length (atCs l)
def EqAtRel (w : World) (n : Nat) (i : Value) (wr : World) : Prop := ∃ k : Nat, k ≤ n ∧ i = .int .i64 k ∧ Below w.heap.size w wr
theorem eqAttrS_none (a b : Option Addr) (ca cb : Nat) (w : World) :
    Calls Try.prog 6 #[.slice a 0 ca, .slice b 0 cb] w (SaysB w true) := by
  go_enter Try.func6, Try.ntmps6
  go_wp2
  refine wp_loop_rounds 1 ?_
  rw [rounds_succ]
  go_wp2
  go_ret
  exact ⟨rfl, Below.refl _ _⟩
set_option maxHeartbeats 3200000 in
theorem eqAttrS_go (ga gb n ca cb : Nat) (l : List At) (w : World) (HA : Hid (AtC w ga (atCs l))) (HB : Hid (AtC w gb (atCs l))) (hn : Hid (l.length = n)) (hga : ga < w.heap.size) (hgb : gb < w.heap.size) (hm : n ≤ 1048576) :
    Calls Try.prog 6 #[.slice (some ⟨ga, 0, none⟩) n ca, .slice (some ⟨gb, 0, none⟩) n cb] w (SaysB w true) := by
  go_enter Try.func6, Try.ntmps6
  go_wp2_with fail
  go_loopw [5] (fun i wr => EqAtRel w n i wr) (fun i _ => n - (intOf i).toNat)
  case atStart => exact ⟨0, Nat.zero_le _, rfl, Below.refl _ _⟩
  case round =>
    obtain ⟨k, hk, rfl, hb⟩ := hrel
    have HR := Lib.hid hb
    by_cases hlt : k < n
    · obtain ⟨x, hx⟩ : ∃ x, gA l k = x := ⟨_, rfl⟩
      obtain ⟨a0, a1, a2, a3⟩ := (HA.out.below hb hga).atr k (by rw [hn.out]; exact hlt) x hx
      obtain ⟨b0, b1, b2, b3⟩ := (HB.out.below hb hgb).atr k (by rw [hn.out]; exact hlt) x hx
      have HS := Lib.hid (fun w => eqAttr_same x w)
      obtain ⟨xd, xt, xn, xs⟩ := x
      unfold atV at HS
      simp only at HS a0 a1 a2 a3 b0 b1 b2 b3
      clear hb hx
      go_wp2_with fail
      go_region_with (go_at_call 12; refine (HS.out _).mono ?_; rintro e w1 ⟨rfl, b1⟩; have B1 := Lib.hid b1; clear b1)
      all_goals
        go_wp2
        go_roundw
        case rel => exact ⟨k + 1, by omega, by go_num, (show Below w.heap.size w wr.drew from below_drewN HR.out 1).trans (B1.out.mono (show w.heap.size ≤ wr.heap.size from HR.out.size))⟩
        case measure => simp [intOf]; omega
    · go_wp2_with fail
      go_ret
      exact ⟨rfl, HR.out⟩
theorem eqAttrS_any (a b : Option Addr) (n ca cb : Nat) (l : List At) (w : World) (HA : Hid (InX w a n (atCs l))) (HB : Hid (InX w b n (atCs l))) (hn : Hid (l.length = n)) (hm : n ≤ 1048576) :
    Calls Try.prog 6 #[.slice a n ca, .slice b n cb] w (SaysB w true) := by
  rcases Nat.eq_zero_or_pos n with h0 | h0
  · subst h0; exact eqAttrS_none a b ca cb w
  · obtain ⟨ga, rfl, ha, hga⟩ := HA.out h0
    obtain ⟨gb, rfl, hb, hgb⟩ := HB.out h0
    exact eqAttrS_go ga gb n ca cb l w ha hb hn hga hgb hm
def lessA (n : Int) (s : ByteArray) : Int := if n - s.size < 0 then -1 else n - s.size
/-- a measure of a list -/
def SaysZ (w : World) (n : Nat) (e : Ending) (w' : World) : Prop := ∃ r : Int, e = .returned (.int .i64 r) ∧ Below w.heap.size w w' ∧ (0 ≤ r → n ≤ 1048576)
def ZRel (w : World) (n : Nat) (i m : Value) (wr : World) : Prop := ∃ (k : Nat) (r : Int), k ≤ n ∧ i = .int .i64 k ∧ m = .int .i64 r ∧ 0 ≤ r ∧ r ≤ 1048576 ∧ Below w.heap.size w wr
end Go.Proofs.Ytgnobmmlmmbfcaa
