/- Arguments that are tokens: opened, shut, measured and made tokens of the program. -/
import Derived.Test.YtnenfpbiobmlcaaDoorTki
import Derived.Lib.SmallJoins
namespace Go.Proofs.YtnenfpbiobmlcaaDoor
set_option maxRecDepth 100000
open Go.RowKit Go.Joins Go.ChangeShapes Go.WideShapes Go.Deep
set_option linter.unusedVariables false

section
variable {H : Type} {enc : TypeId × Value → H} {w : World} {base : Nat} {spare : Nat → Bool} {held : Bool}
/-- an argument that is a token, opened; it reads so in every world -/
theorem open_tok {r : Reach} {b0 : Nat} {v : Value} {d : DataW H} {p : List MemPlace} (hv : Value.okWide Tryd.prog w r b0 37 v) (h : DataW.Trod enc Tryd.prog w base spare held 37 v d p) :
    ∃ (k a x : Int) (s : ByteArray), v = .agg #[.int .i64 k, .int .i64 a, .string s, .int .i64 x] ∧ p = [] ∧ s.size ≤ maxLen ∧
      (∀ (w' : World) (base' : Nat) (spare' : Nat → Bool) (held' : Bool), DataW.Trod enc Tryd.prog w' base' spare' held' 37 v d []) := by
  obtain ⟨v0, v1, v2, v3, y0, y1, y2, y3, n, rfl, rfl, rfl, h0, h1, h2, h3⟩ := open_agg4 Tryd.underlying37 (by kernel_rfl) (by kernel_rfl) hv h
  obtain ⟨k, e0, rfl, w0⟩ := DataW.trod_int Tryd.underlying3 h0
  obtain ⟨a, e1, rfl, w1⟩ := DataW.trod_int Tryd.underlying3 h1
  obtain ⟨s, e2, rfl, w2⟩ := DataW.trod_string Tryd.underlying9 h2
  obtain ⟨x, e3, rfl, w3⟩ := DataW.trod_int Tryd.underlying3 h3
  obtain rfl := (List.cons.inj e0).1
  obtain rfl := (List.cons.inj e1).1
  obtain rfl := (List.cons.inj e2).1
  obtain rfl := (List.cons.inj e3).1
  refine ⟨k, a, x, s, rfl, rfl, w2, fun w' base' spare' held' => ?_⟩
  exact shut_agg4 Tryd.underlying37 (by kernel_rfl) (by kernel_rfl) (field_of_Trod (shut_int Tryd.underlying3 w0) rfl) (field_of_Trod (shut_int Tryd.underlying3 w1) rfl)
    (shut_string_cell Tryd.underlying9 w2) (field_of_Trod (shut_int Tryd.underlying3 w3) rfl)
end
/-- a boxed token keeps its cells -/
def FourIs (w : World) (g : Nat) (a0 a1 a2 a3 : Value) : Prop := w.cell? ⟨g, 0, none⟩ = some a0 ∧ w.cell? ⟨g, 1, none⟩ = some a1 ∧ w.cell? ⟨g, 2, none⟩ = some a2 ∧ w.cell? ⟨g, 3, none⟩ = some a3 ∧ g < w.heap.size
theorem FourIs.on {w w1 : World} {g : Nat} {a0 a1 a2 a3 : Value} (h : FourIs w g a0 a1 a2 a3) (b : Below w.heap.size w w1) : FourIs w1 g a0 a1 a2 a3 := by
  obtain ⟨h0, h1, h2, h3, hg⟩ := h
  have hc := (bcell b).1
  exact ⟨(hc _ _ hg).trans h0, (hc _ _ hg).trans h1, (hc _ _ hg).trans h2, (hc _ _ hg).trans h3, Nat.lt_of_lt_of_le hg b.size⟩
theorem box_four {w w1 : World} {a0 a1 a2 a3 : Value} {t : TypeId} (b : Below (w.alloc (.cells #[a0, a1, a2, a3] t)).heap.size (w.alloc (.cells #[a0, a1, a2, a3] t)) w1) : FourIs w1 w.heap.size a0 a1 a2 a3 ∧ Below w.heap.size w w1 := by
  have h : FourIs (w.alloc (.cells #[a0, a1, a2, a3] t)) w.heap.size a0 a1 a2 a3 := by
    refine ⟨?_, ?_, ?_, ?_, ?_⟩ <;> simp [go_sem]
  exact ⟨h.on b, (one_new2 w _).trans (b.mono (by simp))⟩
/-- what is left of a measure -/
def lessT (n : Int) (s : ByteArray) : Int := if n - s.size < 0 then -1 else n - s.size
def SaysI (w : World) (n : Int) (e : Ending) (w' : World) : Prop := e = .returned (.int .i64 n) ∧ Below w.heap.size w w'
set_option maxHeartbeats 800000 in
theorem szToken_any (k a v n : Int) (s : ByteArray) (w : World) (hs : s.size ≤ 9223372036854775807) (h0 : 0 ≤ n) (h1 : n ≤ 1048576) :
    Calls Tryd.prog 23 #[.agg #[.int .i64 k, .int .i64 a, .string s, .int .i64 v], .int .i64 n] w (SaysI w (lessT n s)) := by
  by_cases h : n - s.size < 0
  · have d := is_lt h
    have e : lessT n s = -1 := if_pos h
    rw [e]
    clear e h
    go_enter Tryd.func23, Tryd.ntmps23
    go_wp2
    go_ret
    exact ⟨rfl, one_new2 _ _⟩
  · have d := not_lt (Int.not_lt.1 h)
    have e : lessT n s = n - s.size := if_neg h
    rw [e]
    clear e h
    go_enter Tryd.func23, Tryd.ntmps23
    go_wp2
    go_ret
    exact ⟨rfl, one_new2 _ _⟩
set_option maxHeartbeats 1600000 in
theorem toToken_any (k a v : Int) (s : ByteArray) (w : World) :
    Calls Tryd.prog 25 #[.agg #[.int .i64 k, .int .i64 a, .string s, .int .i64 v]] w (SaysV w (tokV k a s v)) := by
  go_enter Tryd.func25, Tryd.ntmps25
  go_wp2
  exact bodyPost_ret (v := .agg #[.int .i64 k, .int .i64 a, .string s, .int .i64 v]) (by simp [results, Tryd.results25, go_sem]) rfl ⟨rfl, (two_new _ _ _).alloc (by simp; omega) _⟩
end Go.Proofs.YtnenfpbiobmlcaaDoor
