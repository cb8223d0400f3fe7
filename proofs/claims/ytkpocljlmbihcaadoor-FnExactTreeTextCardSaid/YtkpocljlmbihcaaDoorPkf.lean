import Derived.Test.YtkpocljlmbihcaaDoorPke
import Derived.ChangeSame
import Derived.Stop.LaidErr
import Derived.Deep.QuietTactic
import Derived.BigQuiet
import Derived.Test.YtkpocljlmbihcaaDoorPkd
import Derived.Deep.RegionWith
/- The numbers that digits stand for: contracts of digitsValue, scDigit and scNumber. -/
namespace Go.Proofs.YtkpocljlmbihcaaDoor
set_option maxRecDepth 100000
open Go.RowKit

/-- the number of a list of digits -/
def dval (b : Int) (l : List UInt8) : Int := l.foldl (fun a c => a * b + dg b (c.toNat : Int)) 0
theorem dval_snoc (b : Int) (l : List UInt8) (c : UInt8) : dval b (l ++ [c]) = dval b l * b + dg b (c.toNat : Int) := by simp [dval]
theorem dval_dvN (b : Int) (l : List UInt8) (h : ∀ c ∈ l, 0 ≤ dg b (c.toNat : Int)) : dval b l = dvN b l 0 := by
  have gen : ∀ (l : List UInt8) (n : Int), (∀ c ∈ l, 0 ≤ dg b (c.toNat : Int)) → l.foldl (fun a c => a * b + dg b (c.toNat : Int)) n = dvN b l n := by
    intro l
    induction l with
    | nil => intro n _; rfl
    | cons c r ih =>
      intro n hl
      simp only [List.foldl_cons, dvN, if_pos (hl c (by simp))]
      exact ih _ (fun x hx => hl x (by simp [hx]))
  exact gen l 0 h
theorem digits_of (b : Int) (l : List UInt8) : ∀ c ∈ l.take (dlen b l), 0 ≤ dg b (c.toNat : Int) := by
  induction l with
  | nil => intro c hc; simp at hc
  | cons x r ih =>
    intro c hc
    by_cases hd : 0 ≤ dg b (x.toNat : Int)
    · simp only [dlen, if_pos hd, List.take_succ_cons, List.mem_cons] at hc
      rcases hc with rfl | hc
      · exact hd
      · exact ih c hc
    · simp [dlen, if_neg hd] at hc
theorem take_byte (s : ByteArray) (k : Nat) (h : k < s.size) : s.data.toList.take (k + 1) = s.data.toList.take k ++ [s[k]] := by
  rw [List.take_succ_eq_append_getElem (by simpa using h)]; rfl
theorem mem_byte (s : ByteArray) (k : Nat) (h : k < s.size) : s[k] ∈ s.data.toList := by
  have : s[k] = s.data.toList[k]'(by simpa using h) := rfl
  rw [this]
  exact List.getElem_mem _

def ValRel (w : World) (b : Int) (s : ByteArray) (n i : Value) (wr : World) : Prop :=
  ∃ (k q : Nat) (t : Int), k ≤ s.size ∧ i = .int .i64 k ∧ n = .int .i64 t ∧ wr = w.drewN q ∧ 0 ≤ t ∧ t < b ^ k ∧ t = dval b (s.data.toList.take k)
theorem pow_dec (k : Nat) (h : k < 10) : (10 : Int) ^ k ≤ 68719476736 := by
  rcases (show k = 0 ∨ k = 1 ∨ k = 2 ∨ k = 3 ∨ k = 4 ∨ k = 5 ∨ k = 6 ∨ k = 7 ∨ k = 8 ∨ k = 9 by omega) with rfl | rfl | rfl | rfl | rfl | rfl | rfl | rfl | rfl | rfl <;> decide
theorem pow_hex (k : Nat) (h : k < 10) : (16 : Int) ^ k ≤ 68719476736 := by
  rcases (show k = 0 ∨ k = 1 ∨ k = 2 ∨ k = 3 ∨ k = 4 ∨ k = 5 ∨ k = 6 ∨ k = 7 ∨ k = 8 ∨ k = 9 by omega) with rfl | rfl | rfl | rfl | rfl | rfl | rfl | rfl | rfl | rfl <;> decide
theorem dv_cases (c : Int) : (c < 48 ∧ dv c = -1) ∨ (48 ≤ c ∧ c ≤ 57 ∧ dv c = c - 48) ∨ (57 < c ∧ c < 97 ∧ dv c = -1) ∨ (97 ≤ c ∧ c ≤ 102 ∧ dv c = c - 87) ∨ (102 < c ∧ dv c = -1) := by
  unfold dv
  split
  · omega
  · split <;> omega
end Go.Proofs.YtkpocljlmbihcaaDoor

/- Digits of a row: what they stand for, and facts for the walks of readDigits and of the model's nuDigits. -/
namespace Go.Proofs.YtkpocljlmbihcaaDoor
set_option maxRecDepth 100000
open Go.RowKit

/-- the number of a list of digits to a base, none if it becomes greater than a limit -/
def rdN (b lim : Int) : List UInt8 → Int → Option Int
  | [], n => Option.some n
  | c :: r, n => if 0 ≤ dg b (c.toNat : Int) ∧ n * b + dg b (c.toNat : Int) ≤ lim then rdN b lim r (n * b + dg b (c.toNat : Int)) else none
/-- the same, without needless zeros -/
def rdT (b lim : Int) (l : List UInt8) : Option Int := if l = [] ∨ (1 < l.length ∧ l.head? = Option.some 48) then none else rdN b lim l 0
def optR (o : Option Int) : Int := o.getD 0
def optK (o : Option Int) : Bool := o.isSome
theorem opt_none {o : Option Int} (h : o = none) : optR o = 0 ∧ optK o = false := by subst h; exact ⟨rfl, rfl⟩
theorem opt_some {o : Option Int} {s : Int} (h : o = Option.some s) : optR o = s ∧ optK o = true := by subst h; exact ⟨rfl, rfl⟩
theorem rdN_yes (b lim : Int) (s : ByteArray) (k : Nat) (t d : Int) (h : k < s.size) (hd : dg b ((s[k]'h).toNat : Int) = d) (g : 0 ≤ d ∧ t * b + d ≤ lim) : rdN b lim (s.data.toList.drop k) t = rdN b lim (s.data.toList.drop (k + 1)) (t * b + d) := by
  rw [drop_at s k h, rdN, hd, if_pos g]
theorem rdN_no (b lim : Int) (s : ByteArray) (k : Nat) (t d : Int) (h : k < s.size) (hd : dg b ((s[k]'h).toNat : Int) = d) (g : ¬ (0 ≤ d ∧ t * b + d ≤ lim)) : rdN b lim (s.data.toList.drop k) t = none := by
  rw [drop_at s k h, rdN, hd, if_neg g]
theorem rdN_end (b lim : Int) (s : ByteArray) (k : Nat) (t : Int) (h : s.size ≤ k) : rdN b lim (s.data.toList.drop k) t = Option.some t := by
  rw [List.drop_eq_nil_of_le (by simpa using h)]; rfl
theorem dg_high (b c : Int) (h : 128 ≤ c) : dg b c = -1 := by
  have e : dv c = -1 := by
    unfold dv
    rw [if_neg (by omega), if_neg (by omega)]
  unfold dg
  rw [e]
  split <;> rfl

/-- what begins a text of digits -/
inductive DigHead (s : ByteArray) : Prop
  | none (h : s.size = 0)
  | zero (h : 1 < s.size) (e : (s[0]'(by omega)).toNat = 48)
  | one (h : s.size = 1)
  | more (h : 1 < s.size) (e : (s[0]'(by omega)).toNat ≠ 48)
theorem dig_head (s : ByteArray) : DigHead s := by
  rcases Nat.eq_zero_or_pos s.size with h | h
  · exact .none h
  · rcases Nat.lt_or_ge 1 s.size with h1 | h1
    · by_cases e : (s[0]'(by omega)).toNat = 48
      · exact .zero h1 e
      · exact .more h1 e
    · exact .one (by omega)
theorem size_data (s : ByteArray) : s.size = s.data.toList.length := Lib.size_eq s
theorem head_at (s : ByteArray) (h : 0 < s.size) : s.data.toList.head? = Option.some (s[0]'h) := by
  have := drop_at s 0 h
  rw [List.drop_zero] at this
  rw [this]; rfl
theorem rdT_nil (b lim : Int) (s : ByteArray) (h : s.size = 0) : rdT b lim s.data.toList = none := by
  unfold rdT
  rw [if_pos (.inl (List.eq_nil_of_length_eq_zero (by rw [← size_data]; exact h)))]
theorem rdT_zero (b lim : Int) (s : ByteArray) (h : 1 < s.size) (e : (s[0]'(by omega)).toNat = 48) : rdT b lim s.data.toList = none := by
  unfold rdT
  refine if_pos (.inr ⟨by rw [← size_data]; exact h, ?_⟩)
  rw [head_at s (by omega)]
  congr 1
  exact UInt8.toNat_inj.1 e
theorem rdT_go (b lim : Int) (s : ByteArray) (h : 0 < s.size) (e : 1 < s.size → (s[0]'h).toNat ≠ 48) : rdT b lim s.data.toList = rdN b lim (s.data.toList.drop 0) 0 := by
  unfold rdT
  rw [if_neg, List.drop_zero]
  rintro (h1 | ⟨h1, h2⟩)
  · have q : s.size = 0 := by rw [size_data, h1]; rfl
    omega
  · rw [head_at s h] at h2
    refine e (by rw [size_data]; exact h1) ?_
    rw [Option.some.inj h2]
    rfl
theorem empty_tests {s : ByteArray} (h : s.size = 0) : (s.toList == []) = true ∧ s.toList.isEmpty = true := by
  have e : s.toList = [] := by rw [ByteArray.toList_eq]; exact List.eq_nil_of_length_eq_zero (by rw [← size_data]; exact h)
  rw [e]; exact ⟨rfl, rfl⟩
theorem full_tests {s : ByteArray} (h : 0 < s.size) : (s.toList == []) = false ∧ s.toList.isEmpty = false := by
  have e : s.toList ≠ [] := by
    rw [ByteArray.toList_eq]
    intro e
    have q : s.size = 0 := by rw [size_data, e]; rfl
    omega
  cases hl : s.toList with
  | nil => exact absurd hl e
  | cons a r => exact ⟨rfl, rfl⟩
theorem first_byte (s : ByteArray) (h : 0 < s.size) (w : World) : (Instr.index 9 (.string s) (.int .i64 0)).run Tryd.prog w = .ok (.int .u8 (s[0]'h).toNat) w := by
  rw [run_index_string w 9 s .i64 0 Tryd.underlying9, dif_pos (by omega)]
  rfl

def SaysRd (w : World) (o : Option Int) (e : Ending) (w' : World) : Prop := e = .returned (.tuple #[.int .i64 (optR o), .bool (optK o)]) ∧ Below w.heap.size w w'
def RdRel (w : World) (b lim : Int) (s : ByteArray) (o : Option Int) (n : Value) (wr : World) : Prop :=
  ∃ (k : Nat) (t : Int), k ≤ s.size ∧ n = .int .i64 t ∧ wr = w.iter s k ∧ 0 ≤ t ∧ t ≤ lim ∧ Hid (rdN b lim (s.data.toList.drop k) t = o)
theorem Dig.iter {w : World} (h : Dig w) (s : ByteArray) (k : Nat) : Dig (w.iter s k) := h.below ((Below.refl _ _).alloc (Nat.le_refl _) _)
theorem iter_below (w : World) (s : ByteArray) (k : Nat) : Below w.heap.size w (w.iter s k) := (Below.refl _ _).alloc (Nat.le_refl _) _

end Go.Proofs.YtkpocljlmbihcaaDoor

/- The table of units: what its cells hold; facts out of the rows' conditions; a world for the witness with the tables in place. Units: contracts of splitUnit. -/
namespace Go.Proofs.YtkpocljlmbihcaaDoor
set_option maxRecDepth 100000
open Go.RowKit

/-- the table of units is in its place -/
def Units (w : World) : Prop := w.cell? ⟨1, 0, none⟩ = some (.string ⟨#[109]⟩) ∧ w.cell? ⟨1, 1, none⟩ = some (.int .i64 1000000) ∧
  w.cell? ⟨1, 2, none⟩ = some (.string ⟨#[107]⟩) ∧ w.cell? ⟨1, 3, none⟩ = some (.int .i64 1000)
theorem Units.below {w w' : World} (h : Units w) (hb : Below w.heap.size w w') : Units w' :=
  ⟨(hb.cell (p := ⟨1, 0, none⟩) (World.block_lt_of_cell? w _ h.1)).trans h.1, (hb.cell (p := ⟨1, 1, none⟩) (World.block_lt_of_cell? w _ h.2.1)).trans h.2.1,
   (hb.cell (p := ⟨1, 2, none⟩) (World.block_lt_of_cell? w _ h.2.2.1)).trans h.2.2.1, (hb.cell (p := ⟨1, 3, none⟩) (World.block_lt_of_cell? w _ h.2.2.2)).trans h.2.2.2⟩
theorem Units.drewN {w : World} (h : Units w) (q : Nat) : Units (w.drewN q) := h
theorem Units.pos {w : World} (h : Units w) : 1 < w.heap.size := World.block_lt_of_cell? w _ h.1

theorem gUni : Tryd.prog.globalNamed "loop.example/g00838/impl.units" = some 1 := by kernel_rfl
theorem tUni : (Tryd.prog.globals[1]?).map (·.type) = some 104 := by kernel_rfl
theorem cUnis : Tryd.prog.cellsOf 104 = 4 := by kernel_rfl
theorem cUni : Tryd.prog.cellsOf 103 = 2 := by kernel_rfl
theorem cInt : Tryd.prog.cellsOf 3 = 1 := by kernel_rfl
theorem list_four {α : Type} {l : List α} (h : l.length = 4) : ∃ a b c d, l = [a, b, c, d] := by
  match l, h with
  | [a, b, c, d], _ => exact ⟨a, b, c, d, rfl⟩
theorem cells_unit {H : Type} {enc : TypeId × Value → H} {w : World} {base : Nat} {sp : Nat → Bool} {held : Bool} {fuel : Nat} {c0 c1 : Value} {s0 : List UInt8} {n0 : Int} {p : List MemPlace}
    (h : DataW.trod enc Tryd.prog w base sp held fuel 103 [c0, c1] = some (.agg [.lit (.string s0), .lit (.int .i64 n0)], p)) : c0 = .string ⟨s0.toArray⟩ ∧ c1 = .int .i64 n0 := by
  obtain ⟨y0, y1, n, e0, _, g0, g1⟩ := Go.ChangeShapes.trod_struct2 Tryd.underlying103 h
  have g0' : DataW.trod enc Tryd.prog w base sp held n 9 [c0] = some y0 := by simpa [cStr] using g0
  have g1' : DataW.trod enc Tryd.prog w base sp held n 3 [c1] = some y1 := by simpa [cInt] using g1
  obtain ⟨b0, q0, f0, _⟩ := DataW.trod_string Tryd.underlying9 g0'
  obtain ⟨b1, q1, f1, _⟩ := DataW.trod_int Tryd.underlying3 g1'
  simp at q0 q1
  subst q0 q1
  rw [f0, f1] at e0
  simp at e0
  obtain ⟨⟨r0, r1⟩, _⟩ := e0
  rw [r0, r1]
  exact ⟨rfl, rfl⟩
theorem cells_units {H : Type} {enc : TypeId × Value → H} {w : World} {base : Nat} {sp : Nat → Bool} {held : Bool} {fuel : Nat} {cs : List Value} {s0 s1 : List UInt8} {n0 n1 : Int} {p : List MemPlace}
    (h : DataW.trod enc Tryd.prog w base sp held fuel 104 cs = some (.agg [.agg [.lit (.string s0), .lit (.int .i64 n0)], .agg [.lit (.string s1), .lit (.int .i64 n1)]], p)) :
    cs = [.string ⟨s0.toArray⟩, .int .i64 n0, .string ⟨s1.toArray⟩, .int .i64 n1] := by
  obtain ⟨xs, m1, rfl, hx1, hlen, hn3, hel⟩ := DataW.trod_array Tryd.underlying104 h
  simp only [Prod.mk.injEq, DataW.agg.injEq] at hx1
  rw [cUni] at hel
  rw [cUnis] at hlen
  have h0 := hel 0 (by decide)
  have h1 := hel 1 (by decide)
  obtain ⟨c0, c1, c2, c3, rfl⟩ := list_four hlen
  match xs, hn3, hx1, h0, h1 with
  | [x0, x1], _, hx1, h0, h1 =>
    simp only [List.map_cons, List.map_nil, List.cons.injEq, and_true] at hx1
    obtain ⟨⟨r0, r1⟩, _⟩ := hx1
    obtain ⟨u0, v0⟩ := x0
    obtain ⟨u1, v1⟩ := x1
    simp only at r0 r1
    subst r0 r1
    have h0' : DataW.trod enc Tryd.prog w base sp held m1 103 [c0, c1] = some (.agg [.lit (.string s0), .lit (.int .i64 n0)], v0) := by simpa using h0
    have h1' : DataW.trod enc Tryd.prog w base sp held m1 103 [c2, c3] = some (.agg [.lit (.string s1), .lit (.int .i64 n1)], v1) := by simpa using h1
    obtain ⟨rfl, rfl⟩ := cells_unit h0'
    obtain ⟨rfl, rfl⟩ := cells_unit h1'
    rfl
theorem units_of_head {W : World} {r : List (String × DataW Unit)} (h : laidMet Tryd.prog (("loop.example/g00838/impl.units", Rows.laid_loop_example_g00838_impl_units) :: r) W) : Units W := by
  obtain ⟨ps, ⟨g', t', cs, fuel, p, q, hg', ht', hvar, hd, _, _⟩, _⟩ := h
  obtain rfl := Option.some.inj (gUni.symm.trans hg')
  obtain rfl := Option.some.inj (tUni.symm.trans ht')
  have hcs := cells_units hd
  have hc : ∀ i, W.cell? ⟨1, i, none⟩ = cs.toList[i]? := fun i => by rw [World.var?_cell gUni hvar i]; simp
  rw [hcs] at hc
  exact ⟨by rw [hc 0]; rfl, by rw [hc 1]; rfl, by rw [hc 2]; rfl, by rw [hc 3]; rfl⟩
theorem dig_of_head {W : World} {r : List (String × DataW Unit)} (h : laidMet Tryd.prog (("loop.example/g00838/impl.digits", Rows.laid_loop_example_g00838_impl_digits) :: r) W) : Dig W := by
  obtain ⟨ps, ⟨g', t', cs, fuel, p, q, hg', ht', hvar, hd, _, _⟩, _⟩ := h
  obtain rfl := Option.some.inj (gDig.symm.trans hg')
  obtain rfl := Option.some.inj (tDig.symm.trans ht')
  have hcs := cells_two hd
  have hc : ∀ i, W.cell? ⟨2, i, none⟩ = cs.toList[i]? := fun i => by rw [World.var?_cell gDig hvar i]; simp
  rw [hcs] at hc
  exact ⟨by rw [hc 0]; rfl, by rw [hc 1]; rfl⟩

/-- a world for the witness: the settled one, the tables in their places -/
noncomputable def laidWorld2 (os : Os) : World :=
  { laidWorld os with heap := ((((laidWorld os).heap.modify 1 fun
      | .cells _ t frozen => .cells #[.string ⟨#[109]⟩, .int .i64 1000000, .string ⟨#[107]⟩, .int .i64 1000] t frozen
      | o => o).modify 4 fun
      | .cells _ t frozen => .cells #[.int .u64 1, .int .u64 10, .int .u64 100, .int .u64 1000, .int .u64 10000, .int .u64 100000, .int .u64 1000000, .int .u64 10000000, .int .u64 100000000, .int .u64 1000000000, .int .u64 10000000000, .int .u64 100000000000, .int .u64 1000000000000, .int .u64 10000000000000, .int .u64 100000000000000, .int .u64 1000000000000000, .int .u64 10000000000000000, .int .u64 100000000000000000, .int .u64 1000000000000000000, .int .u64 10000000000000000000] t frozen
      | o => o).modify 6 fun
      | .cells _ t frozen => .cells #[.int .u8 0, .int .u8 1, .int .u8 28, .int .u8 2, .int .u8 29, .int .u8 14, .int .u8 24, .int .u8 3, .int .u8 30, .int .u8 22, .int .u8 20, .int .u8 15, .int .u8 25, .int .u8 17, .int .u8 4, .int .u8 8, .int .u8 31, .int .u8 27, .int .u8 13, .int .u8 23, .int .u8 21, .int .u8 19, .int .u8 16, .int .u8 7, .int .u8 26, .int .u8 12, .int .u8 18, .int .u8 6, .int .u8 11, .int .u8 5, .int .u8 10, .int .u8 9] t frozen
      | o => o).modify 7 fun
      | .cells _ t frozen => .cells #[.int .u8 0, .int .u8 1, .int .u8 56, .int .u8 2, .int .u8 57, .int .u8 49, .int .u8 28, .int .u8 3, .int .u8 61, .int .u8 58, .int .u8 42, .int .u8 50, .int .u8 38, .int .u8 29, .int .u8 17, .int .u8 4, .int .u8 62, .int .u8 47, .int .u8 59, .int .u8 36, .int .u8 45, .int .u8 43, .int .u8 51, .int .u8 22, .int .u8 53, .int .u8 39, .int .u8 33, .int .u8 30, .int .u8 24, .int .u8 18, .int .u8 12, .int .u8 5, .int .u8 63, .int .u8 55, .int .u8 48, .int .u8 27, .int .u8 60, .int .u8 41, .int .u8 37, .int .u8 16, .int .u8 46, .int .u8 35, .int .u8 44, .int .u8 21, .int .u8 52, .int .u8 32, .int .u8 23, .int .u8 11, .int .u8 54, .int .u8 26, .int .u8 40, .int .u8 15, .int .u8 34, .int .u8 20, .int .u8 31, .int .u8 10, .int .u8 25, .int .u8 14, .int .u8 19, .int .u8 9, .int .u8 13, .int .u8 8, .int .u8 7, .int .u8 6] t frozen
      | o => o }
end Go.Proofs.YtkpocljlmbihcaaDoor

namespace Go.Proofs.YtkpocljlmbihcaaDoor
open Go.RowKit

/-- what stands before the last byte -/
def initL (l : List UInt8) : List UInt8 := l.take (l.length - 1)
theorem trim_yes {l : List UInt8} {c : UInt8} (h : Lib.hasSuffix l [c] = true) : Lib.trimSuffix l [c] = initL l := by unfold Lib.trimSuffix initL; rw [if_pos h]; rfl
/-- a text and a number -/
def SaysUnit (w : World) (u : ByteArray) (f : Int) (e : Ending) (w' : World) : Prop := e = .returned (.tuple #[.string u, .int .i64 f]) ∧ Below w.heap.size w w'
theorem unit_cells (w w1 : World) (b : ByteArray) (n : Int) (ty : TypeId) (h : w1 = w.alloc (.cells #[.string b, .int .i64 n] ty)) :
    w1.cell? ⟨w.heap.size, 0, none⟩ = some (.string b) ∧ w1.cell? ⟨w.heap.size, 1, none⟩ = some (.int .i64 n) := by
  subst h
  constructor <;> rw [World.cell?_alloc_at _ _ _ _ rfl] <;> rfl

theorem unit_below (w w1 : World) (b : ByteArray) (n : Int) (ty : TypeId) (h : w1 = w.alloc (.cells #[.string b, .int .i64 n] ty)) : Below w.heap.size w w1 := by
  subst h
  exact (Below.refl _ _).alloc (Nat.le_refl _) _
theorem unit_at0 (w : World) : (Instr.index 104 (.agg #[.string ⟨#[109]⟩, .int .i64 1000000, .string ⟨#[107]⟩, .int .i64 1000]) (.int .i64 0)).run Tryd.prog w = .ok (.agg #[.string ⟨#[109]⟩, .int .i64 1000000]) w := by kernel_rfl
theorem unit_at1 (w : World) : (Instr.index 104 (.agg #[.string ⟨#[109]⟩, .int .i64 1000000, .string ⟨#[107]⟩, .int .i64 1000]) (.int .i64 1)).run Tryd.prog w = .ok (.agg #[.string ⟨#[107]⟩, .int .i64 1000]) w := by kernel_rfl

end Go.Proofs.YtkpocljlmbihcaaDoor

/- Digits of a row: contracts of the model's nuDigits. -/
namespace Go.Proofs.YtkpocljlmbihcaaDoor
set_option maxRecDepth 100000
open Go.RowKit

/-- the number, or -1 -/
def optM (o : Option Int) : Int := o.getD (-1)
def SaysInt (w : World) (n : Int) (e : Ending) (w' : World) : Prop := e = .returned (.int .i64 n) ∧ w = w'
/-- how far the model is: the number is within the limit, or beyond it -/
def NdSt (b lim : Int) (s : ByteArray) (o : Option Int) (k : Nat) (t : Int) : Prop := (t ≤ lim ∧ Hid (rdN b lim (s.data.toList.drop k) t = o)) ∨ (lim < t ∧ Hid (o = none))
def NdRel (b lim : Int) (s : ByteArray) (o : Option Int) (n i : Value) : Prop :=
  ∃ (k : Nat) (t : Int), k ≤ s.size ∧ i = .int .i64 k ∧ n = .int .i64 t ∧ 0 ≤ t ∧ t ≤ 20000000000 ∧ NdSt b lim s o k t
theorem nd_big {b lim : Int} {s : ByteArray} {o : Option Int} {k : Nat} {t : Int} (h : NdSt b lim s o k t) (c : lim < t) : optM o = -1 := by
  rcases h with ⟨h, _⟩ | ⟨_, h⟩
  · omega
  · rw [h.out]; rfl
theorem nd_good {b lim : Int} {s : ByteArray} {o : Option Int} {k : Nat} {t : Int} (h : NdSt b lim s o k t) (c : t ≤ lim) : rdN b lim (s.data.toList.drop k) t = o := by
  rcases h with ⟨_, h⟩ | ⟨h, _⟩
  · exact h.out
  · omega
theorem nd_none {b lim : Int} {s : ByteArray} {o : Option Int} {k : Nat} {t : Int} (h : NdSt b lim s o k t) (e : rdN b lim (s.data.toList.drop k) t = none) : optM o = -1 := by
  rcases h with ⟨_, h⟩ | ⟨_, h⟩
  · rw [← h.out, e]; rfl
  · rw [h.out]; rfl
theorem nd_step (b lim : Int) (s : ByteArray) (k : Nat) (t d : Int) (o : Option Int) (hlt : k < s.size) (hd : dg b ((s[k]'hlt).toNat : Int) = d) (d0 : 0 ≤ d) (h : rdN b lim (s.data.toList.drop k) t = o) : NdSt b lim s o (k + 1) (t * b + d) := by
  by_cases c : t * b + d ≤ lim
  · exact .inl ⟨c, by unfold Hid; rw [← rdN_yes b lim s k t d hlt hd ⟨d0, c⟩]; exact h⟩
  · exact .inr ⟨by omega, by unfold Hid; rw [← h]; exact rdN_no b lim s k t d hlt hd (by omega)⟩
theorem byte_ways (y : Int) : y < 48 ∨ (48 ≤ y ∧ y ≤ 57) ∨ (57 < y ∧ y < 97) ∨ (97 ≤ y ∧ y ≤ 102) ∨ 102 < y := by omega
theorem dg_10_bad {y : Int} (h : y < 48 ∨ 57 < y) : dg 10 y = -1 := by
  unfold dg dv
  rw [if_neg (show ¬ (48 ≤ y ∧ y ≤ 57) by omega)]
  split <;> split <;> omega
theorem dg_16_bad {y : Int} (h : y < 48 ∨ (57 < y ∧ y < 97) ∨ 102 < y) : dg 16 y = -1 := by
  unfold dg dv
  rw [if_neg (show ¬ (48 ≤ y ∧ y ≤ 57) by omega), if_neg (show ¬ (97 ≤ y ∧ y ≤ 102) by omega)]
  rfl
theorem dg_10_low {y : Int} (h : 48 ≤ y) (h2 : y ≤ 57) : dg 10 y = y - 48 := by
  unfold dg dv
  rw [if_pos (show 48 ≤ y ∧ y ≤ 57 by omega), if_pos (by omega)]
theorem dg_16_low {y : Int} (h : 48 ≤ y) (h2 : y ≤ 57) : dg 16 y = y - 48 := by
  unfold dg dv
  rw [if_pos (show 48 ≤ y ∧ y ≤ 57 by omega), if_pos (by omega)]
theorem dg_16_high {y : Int} (h : 97 ≤ y) (h2 : y ≤ 102) : dg 16 y = y - 97 + 10 := by
  unfold dg dv
  rw [if_neg (show ¬ (48 ≤ y ∧ y ≤ 57) by omega), if_pos (show 97 ≤ y ∧ y ≤ 102 by omega), if_pos (by omega)]
  omega
theorem nth_byte (s : ByteArray) (k : Nat) (h : k < s.size) (w : World) : (Instr.index 9 (.string s) (.int .i64 (k : Int))).run Tryd.prog w = .ok (.int .u8 (s[k]'h).toNat) w := by
  rw [run_index_string w 9 s .i64 (k : Int) Tryd.underlying9, dif_pos (by omega)]
  rfl

end Go.Proofs.YtkpocljlmbihcaaDoor

/- Digits of a row: contracts of readDigits. -/
namespace Go.Proofs.YtkpocljlmbihcaaDoor
set_option maxRecDepth 100000
open Go.RowKit

end Go.Proofs.YtkpocljlmbihcaaDoor

/- The model's numbers: contracts of scNumber, scDecimal, and DecimalAt of program and model. DecimalAt: contracts of program and model. DecimalAt: the model's side, and both together. -/
namespace Go.Proofs.YtkpocljlmbihcaaDoor
set_option maxRecDepth 100000
open Go.RowKit

def SaysTwo (w : World) (n : Int) (k : Nat) (e : Ending) (w' : World) : Prop := e = .returned (.tuple #[.int .i64 n, .int .i64 (k : Int)]) ∧ w = w'
def NumRel (b bound : Int) (s : ByteArray) (k0 : Nat) (x n : Value) : Prop :=
  ∃ (k : Nat) (t : Int), k ≤ s.size ∧ x = .int .i64 k ∧ n = .int .i64 t ∧ 0 ≤ t ∧ t ≤ 68719476735 ∧ satN b bound (s.data.toList.drop k) t = satN b bound (s.data.toList.drop k0) 0 ∧ k + dlen b (s.data.toList.drop k) = k0 + dlen b (s.data.toList.drop k0)
theorem sat_small (b bound : Int) (s : ByteArray) (k : Nat) (t : Int) (h : k < s.size) (hp : 0 ≤ dg b (s[k].toNat : Int)) (ht : t ≤ bound) : satN b bound (s.data.toList.drop k) t = satN b bound (s.data.toList.drop (k + 1)) (b * t + dg b (s[k].toNat : Int)) := by
  rw [drop_at s k h, satN, if_pos hp, if_pos ht]
theorem sat_big (b bound : Int) (s : ByteArray) (k : Nat) (t : Int) (h : k < s.size) (hp : 0 ≤ dg b (s[k].toNat : Int)) (ht : bound < t) : satN b bound (s.data.toList.drop k) t = satN b bound (s.data.toList.drop (k + 1)) t := by
  rw [drop_at s k h, satN, if_pos hp, if_neg (by omega)]
theorem sat_stop (b bound : Int) (s : ByteArray) (k : Nat) (t : Int) (h : k < s.size) (hp : ¬ 0 ≤ dg b (s[k].toNat : Int)) : satN b bound (s.data.toList.drop k) t = t := by
  rw [drop_at s k h, satN, if_neg hp]
theorem sat_end (b bound : Int) (s : ByteArray) (k : Nat) (t : Int) (h : s.size ≤ k) : satN b bound (s.data.toList.drop k) t = t := by
  rw [List.drop_eq_nil_of_le (by simpa using h)]; rfl
end Go.Proofs.YtkpocljlmbihcaaDoor

namespace Go.Proofs.YtkpocljlmbihcaaDoor
open Go.RowKit

theorem ret_three {a a' b b' c c' : Value} (h : a = a') (h' : b = b') (h'' : c = c') : Ending.returned (.tuple #[a, b, c]) = .returned (.tuple #[a', b', c']) := by rw [h, h', h'']
theorem sub_run (s : ByteArray) (k0 c : Nat) (hc : k0 + c ≤ s.size) : ∃ u : ByteArray, u.size = c ∧ u.data.toList = (s.data.toList.drop k0).take c ∧
    ∀ w, (Instr.slice 9 (.string s) (some (.int .i64 (k0 : Int))) (some (.int .i64 ((k0 : Int) + (c : Int)))) none).run Tryd.prog w = .ok (.string u) w := by
  have hd := Lib.extract_data s k0 (k0 + c)
  rw [Nat.add_sub_cancel_left] at hd
  refine ⟨s.extract k0 (k0 + c), ?_, hd, fun w => ?_⟩
  · have := congrArg List.length hd
    simp at this
    simp
    omega
  · rw [run_slice_string w 9 s .i64 .i64 (k0 : Int) ((k0 : Int) + (c : Int)) Tryd.underlying9 (by omega) (by omega) (by omega)]
    rfl
theorem Drawn.dig {w w' : World} (h : Drawn w w') (hd : Dig w) : Dig w' := by obtain ⟨q, rfl⟩ := h; exact hd
theorem Drawn.trans {a b c : World} (h : Drawn a b) (k : Drawn b c) : Drawn a c := by
  obtain ⟨q, rfl⟩ := h
  obtain ⟨r, rfl⟩ := k
  exact ⟨q + r, by simp⟩
def SaysThree (w : World) (a b : Int) (ok : Bool) (e : Ending) (w' : World) : Prop := e = .returned (.tuple #[.int .i64 a, .int .i64 b, .bool ok]) ∧ Drawn w w'

/-! The program. -/
end Go.Proofs.YtkpocljlmbihcaaDoor

namespace Go.Proofs.YtkpocljlmbihcaaDoor
open Go.RowKit

def AtBad (n a : Int) : Prop := 4000 < n ∨ (n ≤ 4000 ∧ a < 0) ∨ (n ≤ 4000 ∧ 0 ≤ a ∧ n < a)
def SaysTwoI (w : World) (n k : Int) (e : Ending) (w' : World) : Prop := e = .returned (.tuple #[.int .i64 n, .int .i64 k]) ∧ w = w'
def SaysThreeS (w : World) (a b : Int) (ok : Bool) (e : Ending) (w' : World) : Prop := e = .returned (.tuple #[.int .i64 a, .int .i64 b, .bool ok]) ∧ w = w'
/-- the first digit is not 0: as many digits, so great a number -/
theorem first_ge (s : ByteArray) (k0 c : Nat) (hk0 : k0 < s.size) (HC : dlen 10 (s.data.toList.drop k0) = c) (h0 : 10 < c) (b3 : (s[k0].toNat : Int) ≠ 48) : 1000000000 < dvN 10 (s.data.toList.drop k0) 0 := by
  rw [drop_at s k0 hk0] at HC ⊢
  unfold dlen at HC
  unfold dvN
  by_cases hd : 0 ≤ dg 10 (s[k0].toNat : Int)
  · rw [if_pos hd] at HC ⊢
    have h1 := (dvN_ge 10 (by omega) (s.data.toList.drop (k0 + 1)) (0 * 10 + dg 10 (s[k0].toNat : Int)) (by omega)).1
    have hne : 1 ≤ dg 10 (s[k0].toNat : Int) := by
      unfold dg at hd ⊢
      have := dv_cases (s[k0].toNat : Int)
      split at hd
      · rename_i h
        rw [if_pos h]
        omega
      · omega
    have hp : ((10 ^ 10 : Nat) : Int) ≤ ((10 ^ (dlen 10 (s.data.toList.drop (k0 + 1))) : Nat) : Int) := Int.ofNat_le.2 (Nat.pow_le_pow_right (by omega) (by omega))
    rw [Int.natCast_pow, Int.natCast_pow] at hp
    have e10 : ((10 : Nat) : Int) ^ 10 = 10000000000 := rfl
    rw [e10] at hp
    have hc10 : ((10 : Nat) : Int) = 10 := rfl
    rw [hc10] at hp
    have hm : 1 * (10 : Int) ^ (dlen 10 (s.data.toList.drop (k0 + 1))) ≤ dg 10 (s[k0].toNat : Int) * 10 ^ (dlen 10 (s.data.toList.drop (k0 + 1))) := Int.mul_le_mul_of_nonneg_right hne (by omega)
    rw [Int.zero_mul, Int.zero_add] at h1 ⊢
    omega
  · rw [if_neg hd] at HC
    omega

theorem dlen_room (b : Int) (s : ByteArray) (k : Nat) (h : k ≤ s.size) : k + dlen b (s.data.toList.drop k) ≤ s.size := by
  have := dlen_le b (s.data.toList.drop k)
  simp at this
  omega
end Go.Proofs.YtkpocljlmbihcaaDoor

/- HexAt: contracts of program and model, and both together. -/
namespace Go.Proofs.YtkpocljlmbihcaaDoor
set_option maxRecDepth 100000
open Go.RowKit

theorem from_run (s : ByteArray) (k0 : Nat) (hk : k0 ≤ s.size) : ∃ u : ByteArray, Hid (u.data.toList = s.data.toList.drop k0) ∧
    ∀ w, (Instr.slice 9 (.string s) (some (.int .i64 (k0 : Int))) none none).run Tryd.prog w = .ok (.string u) w := by
  have hd := Lib.extract_data s k0 s.size
  refine ⟨s.extract k0 s.size, ?_, fun w => ?_⟩
  · unfold Hid
    rw [hd, List.take_of_length_le]
    simp
  · rw [run_slice_string_l w 9 s Tryd.underlying9 .i64 (k0 : Int) (by omega) (by omega)]
    rfl
/-- the prefix is there -/
def Pfx (s : ByteArray) (k0 : Nat) : Prop := Lib.hasPrefix (s.data.toList.drop k0) [48, 120] = true

theorem sub_run2 (s : ByteArray) (k0 c : Nat) (hc : k0 + 2 + c ≤ s.size) : ∃ u : ByteArray, u.size = c ∧ u.data.toList = (s.data.toList.drop (k0 + 2)).take c ∧
    ∀ w, (Instr.slice 9 (.string s) (some (.int .i64 ((k0 : Int) + 2))) (some (.int .i64 ((k0 : Int) + 2 + (c : Int)))) none).run Tryd.prog w = .ok (.string u) w := by
  obtain ⟨u, a, b, h⟩ := sub_run s (k0 + 2) c hc
  have e1 : ((k0 + 2 : Nat) : Int) = (k0 : Int) + 2 := by omega
  rw [e1] at h
  exact ⟨u, a, b, h⟩
theorem pfx_two (s : ByteArray) (k0 : Nat) (u : ByteArray) (hu : u.data.toList = (s.data.toList.drop k0).take 2) : (u.toList == [48, 120]) = Lib.hasPrefix (s.data.toList.drop k0) [48, 120] := by
  rw [ByteArray.toList_eq, hu]
  unfold Lib.hasPrefix
  generalize s.data.toList.drop k0 = l
  match l with
  | [] => rfl
  | [a] => simp [List.isPrefixOf]
  | a :: b :: r =>
    simp only [List.take_succ_cons, List.take_zero, List.isPrefixOf]
    rw [Bool.eq_iff_iff]
    simp
    constructor
    · rintro ⟨rfl, rfl⟩; exact ⟨rfl, rfl⟩
    · rintro ⟨rfl, rfl⟩; exact ⟨rfl, rfl⟩
theorem pfx_size (s : ByteArray) (k0 : Nat) (h : Pfx s k0) : k0 + 2 ≤ s.size := by
  unfold Pfx Lib.hasPrefix at h
  have := (List.isPrefixOf_iff_prefix.1 h).length_le
  simp at this
  omega

/-! The program. -/
/-! The model. -/
end Go.Proofs.YtkpocljlmbihcaaDoor

/- Hexadecimal texts read: contracts of ReadHex, program and model. -/
namespace Go.Proofs.YtkpocljlmbihcaaDoor
set_option maxRecDepth 100000
open Go.RowKit

/-- the value of a hexadecimal text -/
def rhx (l : List UInt8) : Option Int := if Lib.hasPrefix l [48, 120] then rdT 16 65535 (l.drop 2) else none
theorem rhx_no {l : List UInt8} (h : Lib.hasPrefix l [48, 120] = false) : rhx l = none := by unfold rhx; rw [h]; rfl
theorem rhx_yes {l : List UInt8} (h : Lib.hasPrefix l [48, 120] = true) : rhx l = rdT 16 65535 (l.drop 2) := by unfold rhx; rw [if_pos h]
theorem rdN_nonneg (b lim : Int) (hb : 0 ≤ b) : ∀ (l : List UInt8) (n v : Int), 0 ≤ n → rdN b lim l n = Option.some v → 0 ≤ v
  | [], n, v, h, e => by
    have := Option.some.inj e
    omega
  | c :: r, n, v, h, e => by
    rw [rdN] at e
    split at e
    · rename_i g
      refine rdN_nonneg b lim hb r _ v ?_ e
      have := Int.mul_nonneg h hb
      omega
    · cases e
theorem rdT_nonneg (b lim : Int) (hb : 0 ≤ b) (l : List UInt8) (v : Int) (e : rdT b lim l = Option.some v) : 0 ≤ v := by
  unfold rdT at e
  split at e
  · cases e
  · exact rdN_nonneg b lim hb l 0 v (by omega) e
theorem rdN_le (b lim : Int) : ∀ (l : List UInt8) (n v : Int), n ≤ lim → rdN b lim l n = Option.some v → v ≤ lim
  | [], n, v, h, e => by
    have := Option.some.inj e
    omega
  | c :: r, n, v, h, e => by
    rw [rdN] at e
    split at e
    · rename_i g
      exact rdN_le b lim r _ v g.2 e
    · cases e
theorem rdT_le (b lim : Int) (hl : 0 ≤ lim) (l : List UInt8) (v : Int) (e : rdT b lim l = Option.some v) : v ≤ lim := by
  unfold rdT at e
  split at e
  · cases e
  · exact rdN_le b lim l 0 v hl e
theorem rhx_nonneg (l : List UInt8) (v : Int) (e : rhx l = Option.some v) : 0 ≤ v := by
  unfold rhx at e
  split at e
  · exact rdT_nonneg 16 65535 (by omega) _ v e
  · cases e
theorem rhx_le (l : List UInt8) (v : Int) (e : rhx l = Option.some v) : v ≤ 65535 := by
  unfold rhx at e
  split at e
  · exact rdT_le 16 65535 (by omega) _ v e
  · cases e
theorem pfx_len {l : List UInt8} (h : Lib.hasPrefix l [48, 120] = true) : 2 ≤ l.length := by
  unfold Lib.hasPrefix at h
  simpa using (List.isPrefixOf_iff_prefix.1 h).length_le
theorem two_run (s : ByteArray) (hk : 2 ≤ s.size) : ∃ u t : ByteArray, u.data.toList = s.data.toList.drop 2 ∧ t.data.toList = s.data.toList.take 2 ∧
    (∀ w, (Instr.slice 9 (.string s) (some (.int .i64 2)) none none).run Tryd.prog w = .ok (.string u) w) ∧
    (∀ w, (Instr.slice 9 (.string s) none (some (.int .i64 2)) none).run Tryd.prog w = .ok (.string t) w) := by
  refine ⟨s.extract 2 s.size, s.extract 0 2, ?_, ?_, fun w => ?_, fun w => ?_⟩
  · rw [Lib.extract_data, List.take_of_length_le]
    simp
  · rw [Lib.extract_data]
    simp
  · rw [run_slice_string_l w 9 s Tryd.underlying9 .i64 2 (by omega) (by omega)]
    rfl
  · rw [run_slice_string_h w 9 s Tryd.underlying9 .i64 2 (by omega) (by omega)]
    rfl

/-- a pair of a number and a truth value -/
def SaysPair (w : World) (r : Int) (ok : Bool) (e : Ending) (w' : World) : Prop := e = .returned (.tuple #[.int .i64 r, .bool ok]) ∧ Below w.heap.size w w'
theorem opt_ways (o : Option Int) (h : ∀ v, o = Option.some v → 0 ≤ v) : (o = none) ∨ ∃ v, o = Option.some v ∧ 0 ≤ v := by
  cases o with
  | none => exact .inl rfl
  | some v => exact .inr ⟨v, rfl, h v rfl⟩
end Go.Proofs.YtkpocljlmbihcaaDoor

/- The units in the model: contracts of nuUnits and nuSize. Decimal texts in the model: what they stand for, and facts for the walk of nuRead. -/
namespace Go.Proofs.YtkpocljlmbihcaaDoor
set_option maxRecDepth 100000
open Go.RowKit

def UnitsAt (w : World) (g : Nat) : Prop := w.cell? ⟨g, 0, none⟩ = some (.string ⟨#[109]⟩) ∧ w.cell? ⟨g, 1, none⟩ = some (.string ⟨#[107]⟩) ∧ w.cell? ⟨g, 2, none⟩ = some (.string ⟨#[]⟩)
theorem units_new (w : World) (ty : TypeId) : UnitsAt (w.alloc (.cells #[.string ⟨#[109]⟩, .string ⟨#[107]⟩, .string ⟨#[]⟩] ty)) w.heap.size := by
  refine ⟨?_, ?_, ?_⟩ <;> rw [World.cell?_alloc_at _ _ _ _ rfl] <;> rfl
theorem nuUnits_any (w : World) :
    Calls Tryd.prog 88 #[] w fun e w' => e = .returned (.slice (some ⟨w.heap.size, 0, none⟩) 3 3) ∧ UnitsAt w' w.heap.size ∧ Below w.heap.size w w' := by
  go_enter Tryd.func88, Tryd.ntmps88
  go_wp2
  go_ret
  exact ⟨rfl, units_new _ _, (Below.refl _ _).alloc (Nat.le_refl _) _⟩
def SaysSz (w : World) (n : Int) (e : Ending) (w' : World) : Prop := e = .returned (.int .i64 n) ∧ Below w.heap.size w w'
theorem sz_cells (w : World) (ty : TypeId) (j : Nat) (h : j < 3) : (w.alloc (.cells #[.int .i64 1000000, .int .i64 1000, .int .i64 1] ty)).cell? ⟨w.heap.size, j, none⟩ = some ([Value.int .i64 1000000, .int .i64 1000, .int .i64 1].getD j .nilIface) := by
  rw [World.cell?_alloc_at _ _ _ _ rfl]
  rcases (show j = 0 ∨ j = 1 ∨ j = 2 by omega) with rfl | rfl | rfl <;> rfl
theorem nuSize_0 (w : World) : Calls Tryd.prog 89 #[.int .i64 0] w (SaysSz w 1000000) := by
  go_enter Tryd.func89, Tryd.ntmps89
  go_wp2
  go_ret
  exact ⟨rfl, (Below.refl _ _).alloc (Nat.le_refl _) _⟩
theorem nuSize_1 (w : World) : Calls Tryd.prog 89 #[.int .i64 1] w (SaysSz w 1000) := by
  go_enter Tryd.func89, Tryd.ntmps89
  go_wp2
  go_ret
  exact ⟨rfl, (Below.refl _ _).alloc (Nat.le_refl _) _⟩
theorem nuSize_2 (w : World) : Calls Tryd.prog 89 #[.int .i64 2] w (SaysSz w 1) := by
  go_enter Tryd.func89, Tryd.ntmps89
  go_wp2
  go_ret
  exact ⟨rfl, (Below.refl _ _).alloc (Nat.le_refl _) _⟩

end Go.Proofs.YtkpocljlmbihcaaDoor

namespace Go.Proofs.YtkpocljlmbihcaaDoor
open Go.RowKit

/-- a number with a unit: none stands for 0 -/
def unitN (o : Option Int) (f : Int) : Option Int := match o with | Option.some n => if n = 0 then none else Option.some (n * f) | Option.none => none
/-- the value of a decimal text -/
def rnr (l : List UInt8) : Option Int :=
  if Lib.hasSuffix l [109] then unitN (rdT 10 1000 (initL l)) 1000000
  else if Lib.hasSuffix l [107] then unitN (rdT 10 1000000 (initL l)) 1000
  else rdT 10 1000000000 l
theorem rnr_m {l : List UInt8} (h : Lib.hasSuffix l [109] = true) : rnr l = unitN (rdT 10 1000 (initL l)) 1000000 := by unfold rnr; rw [if_pos h]
theorem rnr_k {l : List UInt8} (h : Lib.hasSuffix l [109] = false) (h2 : Lib.hasSuffix l [107] = true) : rnr l = unitN (rdT 10 1000000 (initL l)) 1000 := by
  unfold rnr; rw [if_neg (by simp [h]), if_pos h2]
theorem rnr_n {l : List UInt8} (h : Lib.hasSuffix l [109] = false) (h2 : Lib.hasSuffix l [107] = false) : rnr l = rdT 10 1000000000 l := by
  unfold rnr; rw [if_neg (by simp [h]), if_neg (by simp [h2])]
theorem suf_one (p : List UInt8) (x c : UInt8) : Lib.hasSuffix (p ++ [x]) [c] = ([x] == [c]) := by
  unfold Lib.hasSuffix List.isSuffixOf
  simp [List.isPrefixOf]
  exact Bool.eq_iff_iff.2 (by simp; exact eq_comm)
theorem suf_nil (c : UInt8) : Lib.hasSuffix [] [c] = false := rfl
/-- the last byte of a text, and what stands before it -/
theorem last_run (s : ByteArray) (h : 0 < s.size) : ∃ t u : ByteArray, (∀ c, (t.toList == [c]) = Lib.hasSuffix s.data.toList [c]) ∧ u.data.toList = initL s.data.toList ∧ u.size + 1 = s.size ∧ s.extract 0 ((s.size : Int) - 1).toNat = u ∧
    (∀ w, (Instr.slice 9 (.string s) (some (.int .i64 ((s.size : Int) - 1))) none none).run Tryd.prog w = .ok (.string t) w) ∧
    (∀ w, (Instr.slice 9 (.string s) none (some (.int .i64 ((s.size : Int) - 1))) none).run Tryd.prog w = .ok (.string u) w) := by
  have hl : 0 < s.data.toList.length := by rw [← size_data]; exact h
  have e1 : ((s.size : Int) - 1).toNat = s.size - 1 := by omega
  refine ⟨s.extract (s.size - 1) s.size, s.extract 0 (s.size - 1), fun c => ?_, ?_, ?_, by rw [e1], fun w => ?_, fun w => ?_⟩
  · rw [ByteArray.toList_eq, Lib.extract_data, List.take_of_length_le (by simp), size_data]
    generalize s.data.toList = l at hl
    have hsplit : l = l.take (l.length - 1) ++ l.drop (l.length - 1) := (List.take_append_drop _ _).symm
    have hd : (l.drop (l.length - 1)).length = 1 := by simp; omega
    obtain ⟨x, hx⟩ : ∃ x, l.drop (l.length - 1) = [x] := List.length_eq_one_iff.1 hd
    conv => rhs; rw [hsplit, hx, suf_one]
    rw [hx]
  · rw [Lib.extract_data]
    unfold initL
    rw [← size_data]
    simp
  · simp; omega
  · rw [run_slice_string_l w 9 s Tryd.underlying9 .i64 ((s.size : Int) - 1) (by omega) (by omega), e1]
  · rw [run_slice_string_h w 9 s Tryd.underlying9 .i64 ((s.size : Int) - 1) (by omega) (by omega), e1]
theorem unitN_none (f : Int) : unitN none f = none := rfl
theorem unitN_zero (f : Int) : unitN (Option.some 0) f = none := rfl
theorem unitN_some {n : Int} (f : Int) (h : 0 < n) : unitN (Option.some n) f = Option.some (n * f) := by
  show (if n = 0 then none else Option.some (n * f)) = _
  exact if_neg (by omega)
theorem opt_three (o : Option Int) (h : ∀ v, o = Option.some v → 0 ≤ v) : (o = none ∨ o = Option.some 0) ∨ ∃ v, o = Option.some v ∧ 0 < v := by
  cases o with
  | none => exact .inl (.inl rfl)
  | some v =>
    rcases Int.lt_or_eq_of_le (h v rfl) with q | q
    · exact .inr ⟨v, rfl, q⟩
    · exact .inl (.inr (by rw [q]))
theorem sizes_init {s : ByteArray} {u : ByteArray} (h : u.size + 1 = s.size) (hs : s.size ≤ 1048576) : u.size ≤ 1048576 := by omega
end Go.Proofs.YtkpocljlmbihcaaDoor
