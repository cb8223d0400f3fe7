import Derived.Test.YtkpocljlmbihcaaGreatDoorPkd
import Derived.ChangeSame
import Derived.Stop.LaidErr
import Derived.Deep.QuietTactic
import Derived.BigQuiet
import Derived.Deep.RegionWith
import Derived.Lib.ItoaMem
import Derived.Lib.AppendIntMem
import Derived.Test.YtkpocljlmbihcaaGreatDoorPka
/- The table of units: what its cells hold; facts out of the rows' conditions; a world for the witness with the tables in place. Units: contracts of splitUnit. -/
namespace Go.Proofs.YtkpocljlmbihcaaGreatDoor
set_option maxRecDepth 100000
open Go.RowKit

/-- the table of units is in its place -/
def Units (w : World) : Prop := w.cell? ⟨2, 0, none⟩ = some (.string ⟨#[109]⟩) ∧ w.cell? ⟨2, 1, none⟩ = some (.int .i64 1000000) ∧
  w.cell? ⟨2, 2, none⟩ = some (.string ⟨#[107]⟩) ∧ w.cell? ⟨2, 3, none⟩ = some (.int .i64 1000)
theorem Units.below {w w' : World} (h : Units w) (hb : Below w.heap.size w w') : Units w' :=
  ⟨(hb.cell (p := ⟨2, 0, none⟩) (World.block_lt_of_cell? w _ h.1)).trans h.1, (hb.cell (p := ⟨2, 1, none⟩) (World.block_lt_of_cell? w _ h.2.1)).trans h.2.1,
   (hb.cell (p := ⟨2, 2, none⟩) (World.block_lt_of_cell? w _ h.2.2.1)).trans h.2.2.1, (hb.cell (p := ⟨2, 3, none⟩) (World.block_lt_of_cell? w _ h.2.2.2)).trans h.2.2.2⟩
theorem Units.drewN {w : World} (h : Units w) (q : Nat) : Units (w.drewN q) := h
theorem Units.pos {w : World} (h : Units w) : 2 < w.heap.size := World.block_lt_of_cell? w _ h.1

theorem gUni : Tryz.prog.globalNamed "loop.example/g00838/impl.units" = some 2 := by kernel_rfl
theorem tUni : (Tryz.prog.globals[2]?).map (·.type) = some 153 := by kernel_rfl
theorem cUnis : Tryz.prog.cellsOf 153 = 4 := by kernel_rfl
theorem cUni : Tryz.prog.cellsOf 152 = 2 := by kernel_rfl
theorem cInt : Tryz.prog.cellsOf 3 = 1 := by kernel_rfl
theorem list_four {α : Type} {l : List α} (h : l.length = 4) : ∃ a b c d, l = [a, b, c, d] := by
  match l, h with
  | [a, b, c, d], _ => exact ⟨a, b, c, d, rfl⟩
theorem cells_unit {H : Type} {enc : TypeId × Value → H} {w : World} {base : Nat} {sp : Nat → Bool} {held : Bool} {fuel : Nat} {c0 c1 : Value} {s0 : List UInt8} {n0 : Int} {p : List MemPlace}
    (h : DataW.trod enc Tryz.prog w base sp held fuel 152 [c0, c1] = some (.agg [.lit (.string s0), .lit (.int .i64 n0)], p)) : c0 = .string ⟨s0.toArray⟩ ∧ c1 = .int .i64 n0 := by
  obtain ⟨y0, y1, n, e0, _, g0, g1⟩ := Go.ChangeShapes.trod_struct2 Tryz.underlying152 h
  have g0' : DataW.trod enc Tryz.prog w base sp held n 9 [c0] = some y0 := by simpa [cStr] using g0
  have g1' : DataW.trod enc Tryz.prog w base sp held n 3 [c1] = some y1 := by simpa [cInt] using g1
  obtain ⟨b0, q0, f0, _⟩ := DataW.trod_string Tryz.underlying9 g0'
  obtain ⟨b1, q1, f1, _⟩ := DataW.trod_int Tryz.underlying3 g1'
  simp at q0 q1
  subst q0 q1
  rw [f0, f1] at e0
  simp at e0
  obtain ⟨⟨r0, r1⟩, _⟩ := e0
  rw [r0, r1]
  exact ⟨rfl, rfl⟩
theorem cells_units {H : Type} {enc : TypeId × Value → H} {w : World} {base : Nat} {sp : Nat → Bool} {held : Bool} {fuel : Nat} {cs : List Value} {s0 s1 : List UInt8} {n0 n1 : Int} {p : List MemPlace}
    (h : DataW.trod enc Tryz.prog w base sp held fuel 153 cs = some (.agg [.agg [.lit (.string s0), .lit (.int .i64 n0)], .agg [.lit (.string s1), .lit (.int .i64 n1)]], p)) :
    cs = [.string ⟨s0.toArray⟩, .int .i64 n0, .string ⟨s1.toArray⟩, .int .i64 n1] := by
  obtain ⟨xs, m1, rfl, hx1, hlen, hn3, hel⟩ := DataW.trod_array Tryz.underlying153 h
  simp only [Prod.mk.injEq, DataW.agg.injEq] at hx1
  rw [cUni] at hel
  rw [cUnis] at hlen
  have h0 := hel 0 (by decide)
  have h1 := hel 1 (by decide)
  obtain ⟨c0, c1, c2, c3, rfl⟩ := list_four hlen
  match xs, hn3, hx1, h0, h1 with
  | [x0, x1], _, hx1, h0, h1 =>
    simp only [List.map_cons, List.map_nil, List.cons.injEq, and_true] at hx1
    obtain ⟨⟨r0, r1⟩, _⟩ := hx1
    obtain ⟨u0, v0⟩ := x0
    obtain ⟨u1, v1⟩ := x1
    simp only at r0 r1
    subst r0 r1
    have h0' : DataW.trod enc Tryz.prog w base sp held m1 152 [c0, c1] = some (.agg [.lit (.string s0), .lit (.int .i64 n0)], v0) := by simpa using h0
    have h1' : DataW.trod enc Tryz.prog w base sp held m1 152 [c2, c3] = some (.agg [.lit (.string s1), .lit (.int .i64 n1)], v1) := by simpa using h1
    obtain ⟨rfl, rfl⟩ := cells_unit h0'
    obtain ⟨rfl, rfl⟩ := cells_unit h1'
    rfl
theorem units_of_head {W : World} {r : List (String × DataW Unit)} (h : laidMet Tryz.prog (("loop.example/g00838/impl.units", Rows.laid_loop_example_g00838_impl_units) :: r) W) : Units W := by
  obtain ⟨ps, ⟨g', t', cs, fuel, p, q, hg', ht', hvar, hd, _, _⟩, _⟩ := h
  obtain rfl := Option.some.inj (gUni.symm.trans hg')
  obtain rfl := Option.some.inj (tUni.symm.trans ht')
  have hcs := cells_units hd
  have hc : ∀ i, W.cell? ⟨2, i, none⟩ = cs.toList[i]? := fun i => by rw [World.var?_cell gUni hvar i]; simp
  rw [hcs] at hc
  exact ⟨by rw [hc 0]; rfl, by rw [hc 1]; rfl, by rw [hc 2]; rfl, by rw [hc 3]; rfl⟩
theorem dig_of_head {W : World} {r : List (String × DataW Unit)} (h : laidMet Tryz.prog (("loop.example/g00838/impl.digits", Rows.laid_loop_example_g00838_impl_digits) :: r) W) : Dig W := by
  obtain ⟨ps, ⟨g', t', cs, fuel, p, q, hg', ht', hvar, hd, _, _⟩, _⟩ := h
  obtain rfl := Option.some.inj (gDig.symm.trans hg')
  obtain rfl := Option.some.inj (tDig.symm.trans ht')
  have hcs := cells_two hd
  have hc : ∀ i, W.cell? ⟨5, i, none⟩ = cs.toList[i]? := fun i => by rw [World.var?_cell gDig hvar i]; simp
  rw [hcs] at hc
  exact ⟨by rw [hc 0]; rfl, by rw [hc 1]; rfl⟩

/-- a world for the witness: the settled one, the tables in their places -/
noncomputable def laidWorld2 (os : Os) : World :=
  { laidWorld os with heap := ((((laidWorld os).heap.modify 2 fun
      | .cells _ t frozen => .cells #[.string ⟨#[109]⟩, .int .i64 1000000, .string ⟨#[107]⟩, .int .i64 1000] t frozen
      | o => o).modify 4 fun
      | .cells _ t frozen => .cells #[.int .u64 1, .int .u64 10, .int .u64 100, .int .u64 1000, .int .u64 10000, .int .u64 100000, .int .u64 1000000, .int .u64 10000000, .int .u64 100000000, .int .u64 1000000000, .int .u64 10000000000, .int .u64 100000000000, .int .u64 1000000000000, .int .u64 10000000000000, .int .u64 100000000000000, .int .u64 1000000000000000, .int .u64 10000000000000000, .int .u64 100000000000000000, .int .u64 1000000000000000000, .int .u64 10000000000000000000] t frozen
      | o => o).modify 6 fun
      | .cells _ t frozen => .cells #[.int .u8 0, .int .u8 1, .int .u8 28, .int .u8 2, .int .u8 29, .int .u8 14, .int .u8 24, .int .u8 3, .int .u8 30, .int .u8 22, .int .u8 20, .int .u8 15, .int .u8 25, .int .u8 17, .int .u8 4, .int .u8 8, .int .u8 31, .int .u8 27, .int .u8 13, .int .u8 23, .int .u8 21, .int .u8 19, .int .u8 16, .int .u8 7, .int .u8 26, .int .u8 12, .int .u8 18, .int .u8 6, .int .u8 11, .int .u8 5, .int .u8 10, .int .u8 9] t frozen
      | o => o).modify 7 fun
      | .cells _ t frozen => .cells #[.int .u8 0, .int .u8 1, .int .u8 56, .int .u8 2, .int .u8 57, .int .u8 49, .int .u8 28, .int .u8 3, .int .u8 61, .int .u8 58, .int .u8 42, .int .u8 50, .int .u8 38, .int .u8 29, .int .u8 17, .int .u8 4, .int .u8 62, .int .u8 47, .int .u8 59, .int .u8 36, .int .u8 45, .int .u8 43, .int .u8 51, .int .u8 22, .int .u8 53, .int .u8 39, .int .u8 33, .int .u8 30, .int .u8 24, .int .u8 18, .int .u8 12, .int .u8 5, .int .u8 63, .int .u8 55, .int .u8 48, .int .u8 27, .int .u8 60, .int .u8 41, .int .u8 37, .int .u8 16, .int .u8 46, .int .u8 35, .int .u8 44, .int .u8 21, .int .u8 52, .int .u8 32, .int .u8 23, .int .u8 11, .int .u8 54, .int .u8 26, .int .u8 40, .int .u8 15, .int .u8 34, .int .u8 20, .int .u8 31, .int .u8 10, .int .u8 25, .int .u8 14, .int .u8 19, .int .u8 9, .int .u8 13, .int .u8 8, .int .u8 7, .int .u8 6] t frozen
      | o => o }
end Go.Proofs.YtkpocljlmbihcaaGreatDoor

namespace Go.Proofs.YtkpocljlmbihcaaGreatDoor
open Go.RowKit

/-- what stands before the last byte -/
def initL (l : List UInt8) : List UInt8 := l.take (l.length - 1)
theorem trim_yes {l : List UInt8} {c : UInt8} (h : Lib.hasSuffix l [c] = true) : Lib.trimSuffix l [c] = initL l := by unfold Lib.trimSuffix initL; rw [if_pos h]; rfl
/-- a text and a number -/
def SaysUnit (w : World) (u : ByteArray) (f : Int) (e : Ending) (w' : World) : Prop := e = .returned (.tuple #[.string u, .int .i64 f]) ∧ Below w.heap.size w w'
theorem unit_cells (w w1 : World) (b : ByteArray) (n : Int) (ty : TypeId) (h : w1 = w.alloc (.cells #[.string b, .int .i64 n] ty)) :
    w1.cell? ⟨w.heap.size, 0, none⟩ = some (.string b) ∧ w1.cell? ⟨w.heap.size, 1, none⟩ = some (.int .i64 n) := by
  subst h
  constructor <;> rw [World.cell?_alloc_at _ _ _ _ rfl] <;> rfl

theorem unit_below (w w1 : World) (b : ByteArray) (n : Int) (ty : TypeId) (h : w1 = w.alloc (.cells #[.string b, .int .i64 n] ty)) : Below w.heap.size w w1 := by
  subst h
  exact (Below.refl _ _).alloc (Nat.le_refl _) _
theorem unit_at0 (w : World) : (Instr.index 153 (.agg #[.string ⟨#[109]⟩, .int .i64 1000000, .string ⟨#[107]⟩, .int .i64 1000]) (.int .i64 0)).run Tryz.prog w = .ok (.agg #[.string ⟨#[109]⟩, .int .i64 1000000]) w := by kernel_rfl
theorem unit_at1 (w : World) : (Instr.index 153 (.agg #[.string ⟨#[109]⟩, .int .i64 1000000, .string ⟨#[107]⟩, .int .i64 1000]) (.int .i64 1)).run Tryz.prog w = .ok (.agg #[.string ⟨#[107]⟩, .int .i64 1000]) w := by kernel_rfl

end Go.Proofs.YtkpocljlmbihcaaGreatDoor

/- Digits of a row: contracts of the model's nuDigits. -/
namespace Go.Proofs.YtkpocljlmbihcaaGreatDoor
set_option maxRecDepth 100000
open Go.RowKit

/-- the number, or -1 -/
def optM (o : Option Int) : Int := o.getD (-1)
def SaysInt (w : World) (n : Int) (e : Ending) (w' : World) : Prop := e = .returned (.int .i64 n) ∧ w = w'
/-- how far the model is: the number is within the limit, or beyond it -/
def NdSt (b lim : Int) (s : ByteArray) (o : Option Int) (k : Nat) (t : Int) : Prop := (t ≤ lim ∧ Hid (rdN b lim (s.data.toList.drop k) t = o)) ∨ (lim < t ∧ Hid (o = none))
def NdRel (b lim : Int) (s : ByteArray) (o : Option Int) (n i : Value) : Prop :=
  ∃ (k : Nat) (t : Int), k ≤ s.size ∧ i = .int .i64 k ∧ n = .int .i64 t ∧ 0 ≤ t ∧ t ≤ 20000000000 ∧ NdSt b lim s o k t
theorem nd_big {b lim : Int} {s : ByteArray} {o : Option Int} {k : Nat} {t : Int} (h : NdSt b lim s o k t) (c : lim < t) : optM o = -1 := by
  rcases h with ⟨h, _⟩ | ⟨_, h⟩
  · omega
  · rw [h.out]; rfl
theorem nd_good {b lim : Int} {s : ByteArray} {o : Option Int} {k : Nat} {t : Int} (h : NdSt b lim s o k t) (c : t ≤ lim) : rdN b lim (s.data.toList.drop k) t = o := by
  rcases h with ⟨_, h⟩ | ⟨h, _⟩
  · exact h.out
  · omega
theorem nd_none {b lim : Int} {s : ByteArray} {o : Option Int} {k : Nat} {t : Int} (h : NdSt b lim s o k t) (e : rdN b lim (s.data.toList.drop k) t = none) : optM o = -1 := by
  rcases h with ⟨_, h⟩ | ⟨_, h⟩
  · rw [← h.out, e]; rfl
  · rw [h.out]; rfl
theorem nd_step (b lim : Int) (s : ByteArray) (k : Nat) (t d : Int) (o : Option Int) (hlt : k < s.size) (hd : dg b ((s[k]'hlt).toNat : Int) = d) (d0 : 0 ≤ d) (h : rdN b lim (s.data.toList.drop k) t = o) : NdSt b lim s o (k + 1) (t * b + d) := by
  by_cases c : t * b + d ≤ lim
  · exact .inl ⟨c, by unfold Hid; rw [← rdN_yes b lim s k t d hlt hd ⟨d0, c⟩]; exact h⟩
  · exact .inr ⟨by omega, by unfold Hid; rw [← h]; exact rdN_no b lim s k t d hlt hd (by omega)⟩
theorem byte_ways (y : Int) : y < 48 ∨ (48 ≤ y ∧ y ≤ 57) ∨ (57 < y ∧ y < 97) ∨ (97 ≤ y ∧ y ≤ 102) ∨ 102 < y := by omega
theorem dg_10_bad {y : Int} (h : y < 48 ∨ 57 < y) : dg 10 y = -1 := by
  unfold dg dv
  rw [if_neg (show ¬ (48 ≤ y ∧ y ≤ 57) by omega)]
  split <;> split <;> omega
theorem dg_16_bad {y : Int} (h : y < 48 ∨ (57 < y ∧ y < 97) ∨ 102 < y) : dg 16 y = -1 := by
  unfold dg dv
  rw [if_neg (show ¬ (48 ≤ y ∧ y ≤ 57) by omega), if_neg (show ¬ (97 ≤ y ∧ y ≤ 102) by omega)]
  rfl
theorem dg_10_low {y : Int} (h : 48 ≤ y) (h2 : y ≤ 57) : dg 10 y = y - 48 := by
  unfold dg dv
  rw [if_pos (show 48 ≤ y ∧ y ≤ 57 by omega), if_pos (by omega)]
theorem dg_16_low {y : Int} (h : 48 ≤ y) (h2 : y ≤ 57) : dg 16 y = y - 48 := by
  unfold dg dv
  rw [if_pos (show 48 ≤ y ∧ y ≤ 57 by omega), if_pos (by omega)]
theorem dg_16_high {y : Int} (h : 97 ≤ y) (h2 : y ≤ 102) : dg 16 y = y - 97 + 10 := by
  unfold dg dv
  rw [if_neg (show ¬ (48 ≤ y ∧ y ≤ 57) by omega), if_pos (show 97 ≤ y ∧ y ≤ 102 by omega), if_pos (by omega)]
  omega
theorem nth_byte (s : ByteArray) (k : Nat) (h : k < s.size) (w : World) : (Instr.index 9 (.string s) (.int .i64 (k : Int))).run Tryz.prog w = .ok (.int .u8 (s[k]'h).toNat) w := by
  rw [run_index_string w 9 s .i64 (k : Int) Tryz.underlying9, dif_pos (by omega)]
  rfl

end Go.Proofs.YtkpocljlmbihcaaGreatDoor

/- Digits of a row: contracts of readDigits. -/
namespace Go.Proofs.YtkpocljlmbihcaaGreatDoor
set_option maxRecDepth 100000
open Go.RowKit

end Go.Proofs.YtkpocljlmbihcaaGreatDoor

/- The model's numbers: contracts of scNumber, scDecimal, and DecimalAt of program and model. DecimalAt: contracts of program and model. DecimalAt: the model's side, and both together. -/
namespace Go.Proofs.YtkpocljlmbihcaaGreatDoor
set_option maxRecDepth 100000
open Go.RowKit

def SaysTwo (w : World) (n : Int) (k : Nat) (e : Ending) (w' : World) : Prop := e = .returned (.tuple #[.int .i64 n, .int .i64 (k : Int)]) ∧ w = w'
def NumRel (b bound : Int) (s : ByteArray) (k0 : Nat) (x n : Value) : Prop :=
  ∃ (k : Nat) (t : Int), k ≤ s.size ∧ x = .int .i64 k ∧ n = .int .i64 t ∧ 0 ≤ t ∧ t ≤ 68719476735 ∧ satN b bound (s.data.toList.drop k) t = satN b bound (s.data.toList.drop k0) 0 ∧ k + dlen b (s.data.toList.drop k) = k0 + dlen b (s.data.toList.drop k0)
theorem sat_small (b bound : Int) (s : ByteArray) (k : Nat) (t : Int) (h : k < s.size) (hp : 0 ≤ dg b (s[k].toNat : Int)) (ht : t ≤ bound) : satN b bound (s.data.toList.drop k) t = satN b bound (s.data.toList.drop (k + 1)) (b * t + dg b (s[k].toNat : Int)) := by
  rw [drop_at s k h, satN, if_pos hp, if_pos ht]
theorem sat_big (b bound : Int) (s : ByteArray) (k : Nat) (t : Int) (h : k < s.size) (hp : 0 ≤ dg b (s[k].toNat : Int)) (ht : bound < t) : satN b bound (s.data.toList.drop k) t = satN b bound (s.data.toList.drop (k + 1)) t := by
  rw [drop_at s k h, satN, if_pos hp, if_neg (by omega)]
theorem sat_stop (b bound : Int) (s : ByteArray) (k : Nat) (t : Int) (h : k < s.size) (hp : ¬ 0 ≤ dg b (s[k].toNat : Int)) : satN b bound (s.data.toList.drop k) t = t := by
  rw [drop_at s k h, satN, if_neg hp]
theorem sat_end (b bound : Int) (s : ByteArray) (k : Nat) (t : Int) (h : s.size ≤ k) : satN b bound (s.data.toList.drop k) t = t := by
  rw [List.drop_eq_nil_of_le (by simpa using h)]; rfl
end Go.Proofs.YtkpocljlmbihcaaGreatDoor

namespace Go.Proofs.YtkpocljlmbihcaaGreatDoor
open Go.RowKit

theorem ret_three {a a' b b' c c' : Value} (h : a = a') (h' : b = b') (h'' : c = c') : Ending.returned (.tuple #[a, b, c]) = .returned (.tuple #[a', b', c']) := by rw [h, h', h'']
theorem sub_run (s : ByteArray) (k0 c : Nat) (hc : k0 + c ≤ s.size) : ∃ u : ByteArray, u.size = c ∧ u.data.toList = (s.data.toList.drop k0).take c ∧
    ∀ w, (Instr.slice 9 (.string s) (some (.int .i64 (k0 : Int))) (some (.int .i64 ((k0 : Int) + (c : Int)))) none).run Tryz.prog w = .ok (.string u) w := by
  have hd := Lib.extract_data s k0 (k0 + c)
  rw [Nat.add_sub_cancel_left] at hd
  refine ⟨s.extract k0 (k0 + c), ?_, hd, fun w => ?_⟩
  · have := congrArg List.length hd
    simp at this
    simp
    omega
  · rw [run_slice_string w 9 s .i64 .i64 (k0 : Int) ((k0 : Int) + (c : Int)) Tryz.underlying9 (by omega) (by omega) (by omega)]
    rfl
theorem Drawn.dig {w w' : World} (h : Drawn w w') (hd : Dig w) : Dig w' := by obtain ⟨q, rfl⟩ := h; exact hd
theorem Drawn.trans {a b c : World} (h : Drawn a b) (k : Drawn b c) : Drawn a c := by
  obtain ⟨q, rfl⟩ := h
  obtain ⟨r, rfl⟩ := k
  exact ⟨q + r, by simp⟩
def SaysThree (w : World) (a b : Int) (ok : Bool) (e : Ending) (w' : World) : Prop := e = .returned (.tuple #[.int .i64 a, .int .i64 b, .bool ok]) ∧ Drawn w w'

/-! The program. -/
end Go.Proofs.YtkpocljlmbihcaaGreatDoor

namespace Go.Proofs.YtkpocljlmbihcaaGreatDoor
open Go.RowKit

def AtBad (n a : Int) : Prop := 4000 < n ∨ (n ≤ 4000 ∧ a < 0) ∨ (n ≤ 4000 ∧ 0 ≤ a ∧ n < a)
def SaysTwoI (w : World) (n k : Int) (e : Ending) (w' : World) : Prop := e = .returned (.tuple #[.int .i64 n, .int .i64 k]) ∧ w = w'
def SaysThreeS (w : World) (a b : Int) (ok : Bool) (e : Ending) (w' : World) : Prop := e = .returned (.tuple #[.int .i64 a, .int .i64 b, .bool ok]) ∧ w = w'
/-- the first digit is not 0: as many digits, so great a number -/
theorem first_ge (s : ByteArray) (k0 c : Nat) (hk0 : k0 < s.size) (HC : dlen 10 (s.data.toList.drop k0) = c) (h0 : 10 < c) (b3 : (s[k0].toNat : Int) ≠ 48) : 1000000000 < dvN 10 (s.data.toList.drop k0) 0 := by
  rw [drop_at s k0 hk0] at HC ⊢
  unfold dlen at HC
  unfold dvN
  by_cases hd : 0 ≤ dg 10 (s[k0].toNat : Int)
  · rw [if_pos hd] at HC ⊢
    have h1 := (dvN_ge 10 (by omega) (s.data.toList.drop (k0 + 1)) (0 * 10 + dg 10 (s[k0].toNat : Int)) (by omega)).1
    have hne : 1 ≤ dg 10 (s[k0].toNat : Int) := by
      unfold dg at hd ⊢
      have := dv_cases (s[k0].toNat : Int)
      split at hd
      · rename_i h
        rw [if_pos h]
        omega
      · omega
    have hp : ((10 ^ 10 : Nat) : Int) ≤ ((10 ^ (dlen 10 (s.data.toList.drop (k0 + 1))) : Nat) : Int) := Int.ofNat_le.2 (Nat.pow_le_pow_right (by omega) (by omega))
    rw [Int.natCast_pow, Int.natCast_pow] at hp
    have e10 : ((10 : Nat) : Int) ^ 10 = 10000000000 := rfl
    rw [e10] at hp
    have hc10 : ((10 : Nat) : Int) = 10 := rfl
    rw [hc10] at hp
    have hm : 1 * (10 : Int) ^ (dlen 10 (s.data.toList.drop (k0 + 1))) ≤ dg 10 (s[k0].toNat : Int) * 10 ^ (dlen 10 (s.data.toList.drop (k0 + 1))) := Int.mul_le_mul_of_nonneg_right hne (by omega)
    rw [Int.zero_mul, Int.zero_add] at h1 ⊢
    omega
  · rw [if_neg hd] at HC
    omega

theorem dlen_room (b : Int) (s : ByteArray) (k : Nat) (h : k ≤ s.size) : k + dlen b (s.data.toList.drop k) ≤ s.size := by
  have := dlen_le b (s.data.toList.drop k)
  simp at this
  omega
end Go.Proofs.YtkpocljlmbihcaaGreatDoor

/- HexAt: contracts of program and model, and both together. -/
namespace Go.Proofs.YtkpocljlmbihcaaGreatDoor
set_option maxRecDepth 100000
open Go.RowKit

theorem from_run (s : ByteArray) (k0 : Nat) (hk : k0 ≤ s.size) : ∃ u : ByteArray, Hid (u.data.toList = s.data.toList.drop k0) ∧
    ∀ w, (Instr.slice 9 (.string s) (some (.int .i64 (k0 : Int))) none none).run Tryz.prog w = .ok (.string u) w := by
  have hd := Lib.extract_data s k0 s.size
  refine ⟨s.extract k0 s.size, ?_, fun w => ?_⟩
  · unfold Hid
    rw [hd, List.take_of_length_le]
    simp
  · rw [run_slice_string_l w 9 s Tryz.underlying9 .i64 (k0 : Int) (by omega) (by omega)]
    rfl
/-- the prefix is there -/
def Pfx (s : ByteArray) (k0 : Nat) : Prop := Lib.hasPrefix (s.data.toList.drop k0) [48, 120] = true

theorem sub_run2 (s : ByteArray) (k0 c : Nat) (hc : k0 + 2 + c ≤ s.size) : ∃ u : ByteArray, u.size = c ∧ u.data.toList = (s.data.toList.drop (k0 + 2)).take c ∧
    ∀ w, (Instr.slice 9 (.string s) (some (.int .i64 ((k0 : Int) + 2))) (some (.int .i64 ((k0 : Int) + 2 + (c : Int)))) none).run Tryz.prog w = .ok (.string u) w := by
  obtain ⟨u, a, b, h⟩ := sub_run s (k0 + 2) c hc
  have e1 : ((k0 + 2 : Nat) : Int) = (k0 : Int) + 2 := by omega
  rw [e1] at h
  exact ⟨u, a, b, h⟩
theorem pfx_two (s : ByteArray) (k0 : Nat) (u : ByteArray) (hu : u.data.toList = (s.data.toList.drop k0).take 2) : (u.toList == [48, 120]) = Lib.hasPrefix (s.data.toList.drop k0) [48, 120] := by
  rw [ByteArray.toList_eq, hu]
  unfold Lib.hasPrefix
  generalize s.data.toList.drop k0 = l
  match l with
  | [] => rfl
  | [a] => simp [List.isPrefixOf]
  | a :: b :: r =>
    simp only [List.take_succ_cons, List.take_zero, List.isPrefixOf]
    rw [Bool.eq_iff_iff]
    simp
    constructor
    · rintro ⟨rfl, rfl⟩; exact ⟨rfl, rfl⟩
    · rintro ⟨rfl, rfl⟩; exact ⟨rfl, rfl⟩
theorem pfx_size (s : ByteArray) (k0 : Nat) (h : Pfx s k0) : k0 + 2 ≤ s.size := by
  unfold Pfx Lib.hasPrefix at h
  have := (List.isPrefixOf_iff_prefix.1 h).length_le
  simp at this
  omega

/-! The program. -/
/-! The model. -/
end Go.Proofs.YtkpocljlmbihcaaGreatDoor

/- Hexadecimal texts read: contracts of ReadHex, program and model. -/
namespace Go.Proofs.YtkpocljlmbihcaaGreatDoor
set_option maxRecDepth 100000
open Go.RowKit

/-- the value of a hexadecimal text -/
def rhx (l : List UInt8) : Option Int := if Lib.hasPrefix l [48, 120] then rdT 16 65535 (l.drop 2) else none
theorem rhx_no {l : List UInt8} (h : Lib.hasPrefix l [48, 120] = false) : rhx l = none := by unfold rhx; rw [h]; rfl
theorem rhx_yes {l : List UInt8} (h : Lib.hasPrefix l [48, 120] = true) : rhx l = rdT 16 65535 (l.drop 2) := by unfold rhx; rw [if_pos h]
theorem rdN_nonneg (b lim : Int) (hb : 0 ≤ b) : ∀ (l : List UInt8) (n v : Int), 0 ≤ n → rdN b lim l n = Option.some v → 0 ≤ v
  | [], n, v, h, e => by
    have := Option.some.inj e
    omega
  | c :: r, n, v, h, e => by
    rw [rdN] at e
    split at e
    · rename_i g
      refine rdN_nonneg b lim hb r _ v ?_ e
      have := Int.mul_nonneg h hb
      omega
    · cases e
theorem rdT_nonneg (b lim : Int) (hb : 0 ≤ b) (l : List UInt8) (v : Int) (e : rdT b lim l = Option.some v) : 0 ≤ v := by
  unfold rdT at e
  split at e
  · cases e
  · exact rdN_nonneg b lim hb l 0 v (by omega) e
theorem rdN_le (b lim : Int) : ∀ (l : List UInt8) (n v : Int), n ≤ lim → rdN b lim l n = Option.some v → v ≤ lim
  | [], n, v, h, e => by
    have := Option.some.inj e
    omega
  | c :: r, n, v, h, e => by
    rw [rdN] at e
    split at e
    · rename_i g
      exact rdN_le b lim r _ v g.2 e
    · cases e
theorem rdT_le (b lim : Int) (hl : 0 ≤ lim) (l : List UInt8) (v : Int) (e : rdT b lim l = Option.some v) : v ≤ lim := by
  unfold rdT at e
  split at e
  · cases e
  · exact rdN_le b lim l 0 v hl e
theorem rhx_nonneg (l : List UInt8) (v : Int) (e : rhx l = Option.some v) : 0 ≤ v := by
  unfold rhx at e
  split at e
  · exact rdT_nonneg 16 65535 (by omega) _ v e
  · cases e
theorem rhx_le (l : List UInt8) (v : Int) (e : rhx l = Option.some v) : v ≤ 65535 := by
  unfold rhx at e
  split at e
  · exact rdT_le 16 65535 (by omega) _ v e
  · cases e
theorem pfx_len {l : List UInt8} (h : Lib.hasPrefix l [48, 120] = true) : 2 ≤ l.length := by
  unfold Lib.hasPrefix at h
  simpa using (List.isPrefixOf_iff_prefix.1 h).length_le
theorem two_run (s : ByteArray) (hk : 2 ≤ s.size) : ∃ u t : ByteArray, u.data.toList = s.data.toList.drop 2 ∧ t.data.toList = s.data.toList.take 2 ∧
    (∀ w, (Instr.slice 9 (.string s) (some (.int .i64 2)) none none).run Tryz.prog w = .ok (.string u) w) ∧
    (∀ w, (Instr.slice 9 (.string s) none (some (.int .i64 2)) none).run Tryz.prog w = .ok (.string t) w) := by
  refine ⟨s.extract 2 s.size, s.extract 0 2, ?_, ?_, fun w => ?_, fun w => ?_⟩
  · rw [Lib.extract_data, List.take_of_length_le]
    simp
  · rw [Lib.extract_data]
    simp
  · rw [run_slice_string_l w 9 s Tryz.underlying9 .i64 2 (by omega) (by omega)]
    rfl
  · rw [run_slice_string_h w 9 s Tryz.underlying9 .i64 2 (by omega) (by omega)]
    rfl

/-- a pair of a number and a truth value -/
def SaysPair (w : World) (r : Int) (ok : Bool) (e : Ending) (w' : World) : Prop := e = .returned (.tuple #[.int .i64 r, .bool ok]) ∧ Below w.heap.size w w'
theorem opt_ways (o : Option Int) (h : ∀ v, o = Option.some v → 0 ≤ v) : (o = none) ∨ ∃ v, o = Option.some v ∧ 0 ≤ v := by
  cases o with
  | none => exact .inl rfl
  | some v => exact .inr ⟨v, rfl, h v rfl⟩
end Go.Proofs.YtkpocljlmbihcaaGreatDoor

/- The units in the model: contracts of nuUnits and nuSize. Decimal texts in the model: what they stand for, and facts for the walk of nuRead. -/
namespace Go.Proofs.YtkpocljlmbihcaaGreatDoor
set_option maxRecDepth 100000
open Go.RowKit

def UnitsAt (w : World) (g : Nat) : Prop := w.cell? ⟨g, 0, none⟩ = some (.string ⟨#[109]⟩) ∧ w.cell? ⟨g, 1, none⟩ = some (.string ⟨#[107]⟩) ∧ w.cell? ⟨g, 2, none⟩ = some (.string ⟨#[]⟩)
theorem units_new (w : World) (ty : TypeId) : UnitsAt (w.alloc (.cells #[.string ⟨#[109]⟩, .string ⟨#[107]⟩, .string ⟨#[]⟩] ty)) w.heap.size := by
  refine ⟨?_, ?_, ?_⟩ <;> rw [World.cell?_alloc_at _ _ _ _ rfl] <;> rfl
theorem nuUnits_any (w : World) :
    Calls Tryz.prog 109 #[] w fun e w' => e = .returned (.slice (some ⟨w.heap.size, 0, none⟩) 3 3) ∧ UnitsAt w' w.heap.size ∧ Below w.heap.size w w' := by
  go_enter Tryz.func109, Tryz.ntmps109
  go_wp2
  go_ret
  exact ⟨rfl, units_new _ _, (Below.refl _ _).alloc (Nat.le_refl _) _⟩
def SaysSz (w : World) (n : Int) (e : Ending) (w' : World) : Prop := e = .returned (.int .i64 n) ∧ Below w.heap.size w w'
theorem sz_cells (w : World) (ty : TypeId) (j : Nat) (h : j < 3) : (w.alloc (.cells #[.int .i64 1000000, .int .i64 1000, .int .i64 1] ty)).cell? ⟨w.heap.size, j, none⟩ = some ([Value.int .i64 1000000, .int .i64 1000, .int .i64 1].getD j .nilIface) := by
  rw [World.cell?_alloc_at _ _ _ _ rfl]
  rcases (show j = 0 ∨ j = 1 ∨ j = 2 by omega) with rfl | rfl | rfl <;> rfl
theorem nuSize_0 (w : World) : Calls Tryz.prog 110 #[.int .i64 0] w (SaysSz w 1000000) := by
  go_enter Tryz.func110, Tryz.ntmps110
  go_wp2
  go_ret
  exact ⟨rfl, (Below.refl _ _).alloc (Nat.le_refl _) _⟩
theorem nuSize_1 (w : World) : Calls Tryz.prog 110 #[.int .i64 1] w (SaysSz w 1000) := by
  go_enter Tryz.func110, Tryz.ntmps110
  go_wp2
  go_ret
  exact ⟨rfl, (Below.refl _ _).alloc (Nat.le_refl _) _⟩
theorem nuSize_2 (w : World) : Calls Tryz.prog 110 #[.int .i64 2] w (SaysSz w 1) := by
  go_enter Tryz.func110, Tryz.ntmps110
  go_wp2
  go_ret
  exact ⟨rfl, (Below.refl _ _).alloc (Nat.le_refl _) _⟩

end Go.Proofs.YtkpocljlmbihcaaGreatDoor

namespace Go.Proofs.YtkpocljlmbihcaaGreatDoor
open Go.RowKit

/-- a number with a unit: none stands for 0 -/
def unitN (o : Option Int) (f : Int) : Option Int := match o with | Option.some n => if n = 0 then none else Option.some (n * f) | Option.none => none
/-- the value of a decimal text -/
def rnr (l : List UInt8) : Option Int :=
  if Lib.hasSuffix l [109] then unitN (rdT 10 1000 (initL l)) 1000000
  else if Lib.hasSuffix l [107] then unitN (rdT 10 1000000 (initL l)) 1000
  else rdT 10 1000000000 l
theorem rnr_m {l : List UInt8} (h : Lib.hasSuffix l [109] = true) : rnr l = unitN (rdT 10 1000 (initL l)) 1000000 := by unfold rnr; rw [if_pos h]
theorem rnr_k {l : List UInt8} (h : Lib.hasSuffix l [109] = false) (h2 : Lib.hasSuffix l [107] = true) : rnr l = unitN (rdT 10 1000000 (initL l)) 1000 := by
  unfold rnr; rw [if_neg (by simp [h]), if_pos h2]
theorem rnr_n {l : List UInt8} (h : Lib.hasSuffix l [109] = false) (h2 : Lib.hasSuffix l [107] = false) : rnr l = rdT 10 1000000000 l := by
  unfold rnr; rw [if_neg (by simp [h]), if_neg (by simp [h2])]
theorem suf_one (p : List UInt8) (x c : UInt8) : Lib.hasSuffix (p ++ [x]) [c] = ([x] == [c]) := by
  unfold Lib.hasSuffix List.isSuffixOf
  simp [List.isPrefixOf]
  exact Bool.eq_iff_iff.2 (by simp; exact eq_comm)
theorem suf_nil (c : UInt8) : Lib.hasSuffix [] [c] = false := rfl
/-- the last byte of a text, and what stands before it -/
theorem last_run (s : ByteArray) (h : 0 < s.size) : ∃ t u : ByteArray, (∀ c, (t.toList == [c]) = Lib.hasSuffix s.data.toList [c]) ∧ u.data.toList = initL s.data.toList ∧ u.size + 1 = s.size ∧ s.extract 0 ((s.size : Int) - 1).toNat = u ∧
    (∀ w, (Instr.slice 9 (.string s) (some (.int .i64 ((s.size : Int) - 1))) none none).run Tryz.prog w = .ok (.string t) w) ∧
    (∀ w, (Instr.slice 9 (.string s) none (some (.int .i64 ((s.size : Int) - 1))) none).run Tryz.prog w = .ok (.string u) w) := by
  have hl : 0 < s.data.toList.length := by rw [← size_data]; exact h
  have e1 : ((s.size : Int) - 1).toNat = s.size - 1 := by omega
  refine ⟨s.extract (s.size - 1) s.size, s.extract 0 (s.size - 1), fun c => ?_, ?_, ?_, by rw [e1], fun w => ?_, fun w => ?_⟩
  · rw [ByteArray.toList_eq, Lib.extract_data, List.take_of_length_le (by simp), size_data]
    generalize s.data.toList = l at hl
    have hsplit : l = l.take (l.length - 1) ++ l.drop (l.length - 1) := (List.take_append_drop _ _).symm
    have hd : (l.drop (l.length - 1)).length = 1 := by simp; omega
    obtain ⟨x, hx⟩ : ∃ x, l.drop (l.length - 1) = [x] := List.length_eq_one_iff.1 hd
    conv => rhs; rw [hsplit, hx, suf_one]
    rw [hx]
  · rw [Lib.extract_data]
    unfold initL
    rw [← size_data]
    simp
  · simp; omega
  · rw [run_slice_string_l w 9 s Tryz.underlying9 .i64 ((s.size : Int) - 1) (by omega) (by omega), e1]
  · rw [run_slice_string_h w 9 s Tryz.underlying9 .i64 ((s.size : Int) - 1) (by omega) (by omega), e1]
theorem unitN_none (f : Int) : unitN none f = none := rfl
theorem unitN_zero (f : Int) : unitN (Option.some 0) f = none := rfl
theorem unitN_some {n : Int} (f : Int) (h : 0 < n) : unitN (Option.some n) f = Option.some (n * f) := by
  show (if n = 0 then none else Option.some (n * f)) = _
  exact if_neg (by omega)
theorem opt_three (o : Option Int) (h : ∀ v, o = Option.some v → 0 ≤ v) : (o = none ∨ o = Option.some 0) ∨ ∃ v, o = Option.some v ∧ 0 < v := by
  cases o with
  | none => exact .inl (.inl rfl)
  | some v =>
    rcases Int.lt_or_eq_of_le (h v rfl) with q | q
    · exact .inr ⟨v, rfl, q⟩
    · exact .inl (.inr (by rw [q]))
theorem sizes_init {s : ByteArray} {u : ByteArray} (h : u.size + 1 = s.size) (hs : s.size ≤ 1048576) : u.size ≤ 1048576 := by omega
end Go.Proofs.YtkpocljlmbihcaaGreatDoor

/- The texts of a value in the model: contracts of nuForms. -/
namespace Go.Proofs.YtkpocljlmbihcaaGreatDoor
set_option maxRecDepth 100000
open Go.RowKit

def mF (n : Nat) : ByteArray := numS (n / 1000000) ++ ⟨#[109]⟩
def kF (n : Nat) : ByteArray := numS (n / 1000) ++ ⟨#[107]⟩
/-- has a text with the unit m, with the unit k -/
def isM (n : Nat) : Bool := decide (n % 1000000 = 0) && decide (0 < n)
def isK (n : Nat) : Bool := decide (n % 1000 = 0) && decide (0 < n)
/-- the texts of a value with the first k units -/
def preL (n : Nat) : Nat → List ByteArray
  | 0 => []
  | 1 => if isM n then [mF n] else []
  | 2 => (if isM n then [mF n] else []) ++ (if isK n then [kF n] else [])
  | _ => (if isM n then [mF n] else []) ++ (if isK n then [kF n] else []) ++ [numS n]
/-- all texts of a value -/
def formsL (n : Nat) : List ByteArray := preL n 3
theorem preL_le (n k : Nat) : (preL n k).length ≤ 3 := by
  unfold preL
  split <;> (repeat' split) <;> simp
theorem UnitsAt.below {w w' : World} {g B : Nat} (h : UnitsAt w g) (hb : Below B w w') (hg : g < B) : UnitsAt w' g :=
  ⟨(hb.cell (p := ⟨g, 0, none⟩) hg).trans h.1, (hb.cell (p := ⟨g, 1, none⟩) hg).trans h.2.1, (hb.cell (p := ⟨g, 2, none⟩) hg).trans h.2.2⟩
theorem OwnZ.base {w : World} {B B' n : Nat} {v : Value} {l : List ByteArray} (h : OwnZ w B v n l) (hB : B' ≤ B) : OwnZ w B' v n l := by
  obtain ⟨h1, h2⟩ := h
  refine ⟨h1, ?_⟩
  rcases h2 with h2 | ⟨g', cap', cur, a, b, c, d⟩
  · exact .inl h2
  · exact .inr ⟨g', cap', cur, a, Nat.le_trans hB b, c, d⟩
def FormRel (w1 : World) (n : Nat) (v i : Value) (wr : World) : Prop :=
  ∃ k : Nat, k ≤ 3 ∧ i = .int .i64 k ∧ OwnZ wr w1.heap.size v (preL n k).length (preL n k) ∧ Below w1.heap.size w1 wr
theorem OwnZ.to {w : World} {B n m : Nat} {v : Value} {l l' : List ByteArray} (h : OwnZ w B v n l) (hl : l = l') (hn : n = m) : OwnZ w B v m l' := by subst hl hn; exact h
theorem size_lit (c : UInt8) : (⟨#[c]⟩ : ByteArray).size = 1 := rfl
theorem pm1 {n : Nat} (e : isM n = true) : preL n 0 ++ [mF n] = preL n 1 := by simp [preL, e]
theorem pm0 {n : Nat} (e : isM n = false) : preL n 0 = preL n 1 := by simp [preL, e]
theorem pk1 {n : Nat} (e : isK n = true) : preL n 1 ++ [kF n] = preL n 2 := by simp [preL, e]
theorem pk0 {n : Nat} (e : isK n = false) : preL n 1 = preL n 2 := by simp [preL, e]
theorem pn1 (n : Nat) : preL n 2 ++ [numS n] = preL n 3 := by simp [preL]
theorem str_nil (a : ByteArray) : a ++ (⟨#[]⟩ : ByteArray) = a := by apply ByteArray.ext; simp [ByteArray.data_append]
theorem snoc_len {l l' : List ByteArray} {c : ByteArray} (h : l ++ [c] = l') : l.length + 1 = l'.length := by rw [← h]; simp
theorem isM_zero : isM 0 = false := rfl
theorem isK_zero : isK 0 = false := rfl
theorem pn2 (n : Nat) : preL n 2 ++ [numS n ++ ⟨#[]⟩] = preL n 3 := by rw [str_nil]; exact pn1 n
theorem formsL_zero : formsL 0 = preL 0 3 := rfl
set_option maxHeartbeats 6400000 in
theorem nuForms_pos (n : Nat) (hn : (n : Int) ≤ 1000000000) (hp : 0 < (n : Int)) (w : World) :
    Calls Tryz.prog 90 #[.int .i64 n] w fun e w' => ∃ v, e = .returned v ∧ OwnZ w' w.heap.size v (formsL n).length (formsL n) ∧ Below w.heap.size w w' := by
  obtain ⟨i0, hi, hz0, hz1, hz2⟩ := info_parts infoStr
  have N1 : Hid (∀ w, Calls Tryz.prog 45 #[.int .i64 ((n : Int) / 1000000)] w fun e w' => e = .returned (.string (numS (n / 1000000))) ∧ Below w.heap.size w w') := Lib.hid (l1Num_any (n / 1000000) (by omega))
  have N2 : Hid (∀ w, Calls Tryz.prog 45 #[.int .i64 ((n : Int) / 1000)] w fun e w' => e = .returned (.string (numS (n / 1000))) ∧ Below w.heap.size w w') := Lib.hid (l1Num_any (n / 1000) (by omega))
  have N3 := Lib.hid (l1Num_any n hn)
  have S1 : (numS (n / 1000000)).size ≤ 1000000001 := by have := numS_size (n / 1000000); omega
  have S2 : (numS (n / 1000)).size ≤ 1000000001 := by have := numS_size (n / 1000); omega
  have S3 : (numS n).size ≤ 1000000001 := by have := numS_size n; omega
  have dp := is_lt hp
  go_enter Tryz.func90, Tryz.ntmps90
  go_wp2_with (go_at_call 109; refine (nuUnits_any _).mono ?_; rintro e w1 ⟨rfl, hu, b1⟩; have HU := Lib.hid hu; have HS : Hid (w.heap.size < w1.heap.size) := Lib.hid (World.block_lt_of_cell? _ _ hu.1); have B1 := Lib.hid b1; clear b1 hu)
  go_loopw [3, 8] (fun v i wr => FormRel w1 n v i wr) (fun _ i _ => 3 - (intOf i).toNat)
  case atStart => exact ⟨0, by omega, rfl, World.ownsRow_nil _ _ _ _, Below.refl _ _⟩
  case round =>
    obtain ⟨k, hk, rfl, ho, hb⟩ := hrel
    have HO1 := Lib.hid ho
    have HB1 := Lib.hid hb
    have HUr := Lib.hid (HU.out.below hb HS.out)
    clear ho hb
    obtain ⟨u0, u1, u2⟩ := HUr.out
    rcases (show k = 0 ∨ k = 1 ∨ k = 2 ∨ k = 3 by omega) with rfl | rfl | rfl | rfl
    · by_cases hm : (n : Int) % 1000000 = 0
      · have dm : ((n : Int) % 1000000 == 0) = true := by simp [hm]
        have e : isM n = true := by unfold isM; simp; omega
        clear hm
        go_wp2_with (first | (go_at_call 110; (with_reducible refine (nuSize_0 _).mono ?_); rintro e w2 ⟨rfl, b2⟩; have HO1 := Lib.hid (HO1.out.below b2 (Nat.le_refl _)); have HB1 := Lib.hid (HB1.out.trans (b2.mono HB1.out.size)); clear b2) | (go_at_call 45; (with_reducible refine (N1.out _).mono ?_); rintro e w2 ⟨rfl, b2⟩; have HO1 := Lib.hid (HO1.out.below b2 (Nat.le_refl _)); have HB1 := Lib.hid (HB1.out.trans (b2.mono HB1.out.size)); clear b2) | (at_builtin; refine wpList_append_own _ rfl _ _ 53 rfl w1.heap.size 9 i0 (.string ⟨#[]⟩) 1 16 Tryz.underlying53 hi hz0 hz1 hz2 rfl (by decide) _ _ _ rfl (World.ownsRow.alloc (w := w2) HO1.out _) ⟨w2.heap.size, 0, none⟩ 1 1 [.string (numS (n / 1000000) ++ ⟨#[109]⟩)] rfl rfl (one_new w2 _ _) (by intro u hu; simp at hu; subst hu; rfl) (by have := preL_le n 0; unfold maxLen; omega) (by have := preL_le n 0; omega) (by have := HB1.out.size; simp; omega) ?_; intro v' w3 hown1 hgrow1 _; have R := Lib.hid (OwnZ.snoc (wr := w2) HO1.out HB1.out.size HB1.out hown1 hgrow1); clear hown1 hgrow1))
        go_roundw
        case rel => exact ⟨1, by omega, by go_num, R.out.1.to (pm1 e) (snoc_len (pm1 e)), R.out.2⟩
        case measure => simp [intOf]
      · have dm : ((n : Int) % 1000000 == 0) = false := by simp [hm]
        have e : isM n = false := by unfold isM; simp; omega
        clear hm
        go_wp2_with (go_at_call 110; (with_reducible refine (nuSize_0 _).mono ?_); rintro e w2 ⟨rfl, b2⟩; have HO1 := Lib.hid (HO1.out.below b2 (Nat.le_refl _)); have HB1 := Lib.hid (HB1.out.trans (b2.mono HB1.out.size)); clear b2)
        go_roundw
        case rel => exact ⟨1, by omega, by go_num, HO1.out.to (pm0 e) (by rw [pm0 e]), HB1.out⟩
        case measure => simp [intOf]
    · by_cases hm : (n : Int) % 1000 = 0
      · have dm : ((n : Int) % 1000 == 0) = true := by simp [hm]
        have e : isK n = true := by unfold isK; simp; omega
        clear hm
        go_wp2_with (first | (go_at_call 110; (with_reducible refine (nuSize_1 _).mono ?_); rintro e w2 ⟨rfl, b2⟩; have HO1 := Lib.hid (HO1.out.below b2 (Nat.le_refl _)); have HB1 := Lib.hid (HB1.out.trans (b2.mono HB1.out.size)); clear b2) | (go_at_call 45; (with_reducible refine (N2.out _).mono ?_); rintro e w2 ⟨rfl, b2⟩; have HO1 := Lib.hid (HO1.out.below b2 (Nat.le_refl _)); have HB1 := Lib.hid (HB1.out.trans (b2.mono HB1.out.size)); clear b2) | (at_builtin; refine wpList_append_own _ rfl _ _ 53 rfl w1.heap.size 9 i0 (.string ⟨#[]⟩) 1 16 Tryz.underlying53 hi hz0 hz1 hz2 rfl (by decide) _ _ _ rfl (World.ownsRow.alloc (w := w2) HO1.out _) ⟨w2.heap.size, 0, none⟩ 1 1 [.string (numS (n / 1000) ++ ⟨#[107]⟩)] rfl rfl (one_new w2 _ _) (by intro u hu; simp at hu; subst hu; rfl) (by have := preL_le n 1; unfold maxLen; omega) (by have := preL_le n 1; omega) (by have := HB1.out.size; simp; omega) ?_; intro v' w3 hown1 hgrow1 _; have R := Lib.hid (OwnZ.snoc (wr := w2) HO1.out HB1.out.size HB1.out hown1 hgrow1); clear hown1 hgrow1))
        go_roundw
        case rel => exact ⟨2, by omega, by go_num, R.out.1.to (pk1 e) (snoc_len (pk1 e)), R.out.2⟩
        case measure => simp [intOf]
      · have dm : ((n : Int) % 1000 == 0) = false := by simp [hm]
        have e : isK n = false := by unfold isK; simp; omega
        clear hm
        go_wp2_with (go_at_call 110; (with_reducible refine (nuSize_1 _).mono ?_); rintro e w2 ⟨rfl, b2⟩; have HO1 := Lib.hid (HO1.out.below b2 (Nat.le_refl _)); have HB1 := Lib.hid (HB1.out.trans (b2.mono HB1.out.size)); clear b2)
        go_roundw
        case rel => exact ⟨2, by omega, by go_num, HO1.out.to (pk0 e) (by rw [pk0 e]), HB1.out⟩
        case measure => simp [intOf]
    · go_wp2_with (first | (go_at_call 110; (with_reducible refine (nuSize_2 _).mono ?_); rintro e w2 ⟨rfl, b2⟩; have HO1 := Lib.hid (HO1.out.below b2 (Nat.le_refl _)); have HB1 := Lib.hid (HB1.out.trans (b2.mono HB1.out.size)); clear b2) | (go_at_call 45; (with_reducible refine (N3.out _).mono ?_); rintro e w2 ⟨rfl, b2⟩; have HO1 := Lib.hid (HO1.out.below b2 (Nat.le_refl _)); have HB1 := Lib.hid (HB1.out.trans (b2.mono HB1.out.size)); clear b2) | (at_builtin; refine wpList_append_own _ rfl _ _ 53 rfl w1.heap.size 9 i0 (.string ⟨#[]⟩) 1 16 Tryz.underlying53 hi hz0 hz1 hz2 rfl (by decide) _ _ _ rfl (World.ownsRow.alloc (w := w2) HO1.out _) ⟨w2.heap.size, 0, none⟩ 1 1 [.string (numS n ++ ⟨#[]⟩)] rfl rfl (one_new w2 _ _) (by intro u hu; simp at hu; subst hu; rfl) (by have := preL_le n 2; unfold maxLen; omega) (by have := preL_le n 2; omega) (by have := HB1.out.size; simp; omega) ?_; intro v' w3 hown1 hgrow1 _; have R := Lib.hid (OwnZ.snoc (wr := w2) HO1.out HB1.out.size HB1.out hown1 hgrow1); clear hown1 hgrow1))
      go_roundw
      case rel => exact ⟨3, by omega, by go_num, R.out.1.to (pn2 n) (snoc_len (pn2 n)), R.out.2⟩
      case measure => simp [intOf]
    · go_wp2
      go_ret
      exact ⟨_, rfl, HO1.out.base B1.out.size, B1.out.trans (HB1.out.mono B1.out.size)⟩
set_option maxHeartbeats 6400000 in
theorem nuForms_zero (w : World) :
    Calls Tryz.prog 90 #[.int .i64 0] w fun e w' => ∃ v, e = .returned v ∧ OwnZ w' w.heap.size v (formsL 0).length (formsL 0) ∧ Below w.heap.size w w' := by
  obtain ⟨i0, hi, hz0, hz1, hz2⟩ := info_parts infoStr
  have N3 : Hid (∀ w, Calls Tryz.prog 45 #[.int .i64 0] w fun e w' => e = .returned (.string (numS 0)) ∧ Below w.heap.size w w') := Lib.hid (l1Num_any 0 (by omega))
  have S3 : (numS 0).size ≤ 1000000001 := by have := numS_size 0; omega
  go_enter Tryz.func90, Tryz.ntmps90
  go_wp2_with (go_at_call 109; refine (nuUnits_any _).mono ?_; rintro e w1 ⟨rfl, hu, b1⟩; have HU := Lib.hid hu; have HS : Hid (w.heap.size < w1.heap.size) := Lib.hid (World.block_lt_of_cell? _ _ hu.1); have B1 := Lib.hid b1; clear b1 hu)
  go_loopw [3, 8] (fun v i wr => FormRel w1 0 v i wr) (fun _ i _ => 3 - (intOf i).toNat)
  case atStart => exact ⟨0, by omega, rfl, World.ownsRow_nil _ _ _ _, Below.refl _ _⟩
  case round =>
    obtain ⟨k, hk, rfl, ho, hb⟩ := hrel
    have HO1 := Lib.hid ho
    have HB1 := Lib.hid hb
    have HUr := Lib.hid (HU.out.below hb HS.out)
    clear ho hb
    obtain ⟨u0, u1, u2⟩ := HUr.out
    rcases (show k = 0 ∨ k = 1 ∨ k = 2 ∨ k = 3 by omega) with rfl | rfl | rfl | rfl
    · go_wp2_with (go_at_call 110; (with_reducible refine (nuSize_0 _).mono ?_); rintro e w2 ⟨rfl, b2⟩; have HO1 := Lib.hid (HO1.out.below b2 (Nat.le_refl _)); have HB1 := Lib.hid (HB1.out.trans (b2.mono HB1.out.size)); clear b2)
      go_roundw
      case rel => exact ⟨1, by omega, by go_num, HO1.out.to (pm0 isM_zero) (by rw [pm0 isM_zero]), HB1.out⟩
      case measure => simp [intOf]
    · go_wp2_with (go_at_call 110; (with_reducible refine (nuSize_1 _).mono ?_); rintro e w2 ⟨rfl, b2⟩; have HO1 := Lib.hid (HO1.out.below b2 (Nat.le_refl _)); have HB1 := Lib.hid (HB1.out.trans (b2.mono HB1.out.size)); clear b2)
      go_roundw
      case rel => exact ⟨2, by omega, by go_num, HO1.out.to (pk0 isK_zero) (by rw [pk0 isK_zero]), HB1.out⟩
      case measure => simp [intOf]
    · go_wp2_with (first | (go_at_call 110; (with_reducible refine (nuSize_2 _).mono ?_); rintro e w2 ⟨rfl, b2⟩; have HO1 := Lib.hid (HO1.out.below b2 (Nat.le_refl _)); have HB1 := Lib.hid (HB1.out.trans (b2.mono HB1.out.size)); clear b2) | (go_at_call 45; (with_reducible refine (N3.out _).mono ?_); rintro e w2 ⟨rfl, b2⟩; have HO1 := Lib.hid (HO1.out.below b2 (Nat.le_refl _)); have HB1 := Lib.hid (HB1.out.trans (b2.mono HB1.out.size)); clear b2) | (at_builtin; refine wpList_append_own _ rfl _ _ 53 rfl w1.heap.size 9 i0 (.string ⟨#[]⟩) 1 16 Tryz.underlying53 hi hz0 hz1 hz2 rfl (by decide) _ _ _ rfl (World.ownsRow.alloc (w := w2) HO1.out _) ⟨w2.heap.size, 0, none⟩ 1 1 [.string (numS 0 ++ ⟨#[]⟩)] rfl rfl (one_new w2 _ _) (by intro u hu; simp at hu; subst hu; rfl) (by have := preL_le 0 2; unfold maxLen; omega) (by have := preL_le 0 2; omega) (by have := HB1.out.size; simp; omega) ?_; intro v' w3 hown1 hgrow1 _; have R := Lib.hid (OwnZ.snoc (wr := w2) HO1.out HB1.out.size HB1.out hown1 hgrow1); clear hown1 hgrow1))
      go_roundw
      case rel => exact ⟨3, by omega, by go_num, R.out.1.to (pn2 0) (snoc_len (pn2 0)), R.out.2⟩
      case measure => simp [intOf]
    · go_wp2
      go_ret
      exact ⟨_, rfl, HO1.out.base B1.out.size, B1.out.trans (HB1.out.mono B1.out.size)⟩
theorem nuForms_any (n : Nat) (hn : (n : Int) ≤ 1000000000) (w : World) :
    Calls Tryz.prog 90 #[.int .i64 n] w fun e w' => ∃ v, e = .returned v ∧ OwnZ w' w.heap.size v (formsL n).length (formsL n) ∧ Below w.heap.size w w' := by
  rcases Nat.eq_zero_or_pos n with rfl | h
  · exact nuForms_zero w
  · exact nuForms_pos n hn (by omega) w
end Go.Proofs.YtkpocljlmbihcaaGreatDoor

/- Decimal numerals: strconv.Itoa as the program calls it. -/
namespace Go.Proofs.YtkpocljlmbihcaaGreatDoor
set_option maxRecDepth 100000
open Go.RowKit

/-- the table of powers of ten is in its place -/
def Pow (w : World) : Prop := Lib.TabIs Tryz.prog w "internal/strconv.uint64pow10" .u64 Lib.pow10Tab
theorem Pow.below {w w' : World} (h : Pow w) (hb : Below w.heap.size w w') : Pow w' := Lib.tabBelow_of_tabIs h w' hb
theorem gPow : Tryz.prog.globalNamed "internal/strconv.uint64pow10" = some 4 := by kernel_rfl
theorem tPow : (Tryz.prog.globals[4]?).map (·.type) = some 156 := by kernel_rfl
theorem cPow : Tryz.prog.cellsOf 156 = 20 := by kernel_rfl
theorem cU64 : Tryz.prog.cellsOf 141 = 1 := by kernel_rfl
theorem pow10_of_head {W : World} {r : List (String × DataW Unit)} (h : laidMet Tryz.prog (("internal/strconv.uint64pow10", Rows.laid_internal_strconv_uint64pow10) :: r) W) : Pow W :=
  Lib.tabIs_of_head gPow tPow Tryz.underlying156 Tryz.underlying141 cU64 cPow h
theorem itoa_any (n : Nat) (hn : (n : Int) ≤ 1000000000) (w : World) (hP : Hid (Pow w)) :
    Calls Tryz.prog 78 #[.int .i64 n] w fun e w' => e = .returned (.string (numS n)) ∧ Below w.heap.size w w' :=
  (Tryz.strconv_Itoa (n : Int) (by omega) (by omega) w hP.out).mono fun e w' ⟨he, k, os, hw⟩ => by
    refine ⟨by rw [he, Lib.itoa_nonneg]; rfl, ?_⟩
    subst hw
    exact Lib.below_grow _ w (Nat.le_refl _) k os
end Go.Proofs.YtkpocljlmbihcaaGreatDoor

/- Values: contracts of the functions of chapter 2 that only compute with numbers: isValue, MultiplyValues, ScaleValue, programs and models. -/
namespace Go.Proofs.YtkpocljlmbihcaaGreatDoor
set_option maxRecDepth 100000
open Go.RowKit

theorem isValue_true (n : Int) (w : World) (h0 : 0 ≤ n) (h1 : n ≤ 1000000000) :
    Calls Tryz.prog 132 #[.int .i64 n] w fun e w' => e = .returned (.bool true) ∧ w = w' := by
  go_enter Tryz.func132, Tryz.ntmps132
  go_wp2
  go_ret
  exact ⟨rfl, rfl⟩
theorem isValue_false (n : Int) (w : World) (h : n < 0 ∨ 1000000000 < n) :
    Calls Tryz.prog 132 #[.int .i64 n] w fun e w' => e = .returned (.bool false) ∧ w = w' := by
  rcases Int.lt_or_le n 0 with c | c
  · have d : decide ((0 : Int) ≤ n) = false := not_le c
    clear h
    go_enter Tryz.func132, Tryz.ntmps132
    go_wp2
    go_ret
    exact ⟨rfl, rfl⟩
  · have h' : 1000000000 < n := by omega
    have d := not_le h'
    clear h
    go_enter Tryz.func132, Tryz.ntmps132
    go_wp2
    go_ret
    exact ⟨rfl, rfl⟩
/-- both functions say the same -/
def SaysNum (f : FuncId) (args : Array Value) (r : Int) (ok : Bool) : Prop :=
  ∀ w, Calls Tryz.prog f args w fun e w' => e = .returned (.tuple #[.int .i64 r, .bool ok]) ∧ w = w'


end Go.Proofs.YtkpocljlmbihcaaGreatDoor
