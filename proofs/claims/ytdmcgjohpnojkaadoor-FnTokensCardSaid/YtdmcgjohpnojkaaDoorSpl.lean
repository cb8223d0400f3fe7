/- The table of units: what its cells hold; facts out of the rows' conditions; a world for the witness with the tables in place. Units: contracts of splitUnit. -/
import Derived.Test.YtdmcgjohpnojkaaDoorDig
import Derived.ChangeSame
import Derived.Stop.LaidErr
import Derived.Test.YtdmcgjohpnojkaaDoorRdl
import Derived.Deep.QuietTactic
import Derived.BigQuiet
namespace Go.Proofs.YtdmcgjohpnojkaaDoor
set_option maxRecDepth 100000
open Go.RowKit

/-- the table of units is in its place -/
def Units (w : World) : Prop := w.cell? ⟨3, 0, none⟩ = some (.string ⟨#[109]⟩) ∧ w.cell? ⟨3, 1, none⟩ = some (.int .i64 1000000) ∧
  w.cell? ⟨3, 2, none⟩ = some (.string ⟨#[107]⟩) ∧ w.cell? ⟨3, 3, none⟩ = some (.int .i64 1000)
theorem Units.below {w w' : World} (h : Units w) (hb : Below w.heap.size w w') : Units w' :=
  ⟨(hb.cell (p := ⟨3, 0, none⟩) (World.block_lt_of_cell? w _ h.1)).trans h.1, (hb.cell (p := ⟨3, 1, none⟩) (World.block_lt_of_cell? w _ h.2.1)).trans h.2.1,
   (hb.cell (p := ⟨3, 2, none⟩) (World.block_lt_of_cell? w _ h.2.2.1)).trans h.2.2.1, (hb.cell (p := ⟨3, 3, none⟩) (World.block_lt_of_cell? w _ h.2.2.2)).trans h.2.2.2⟩
theorem Units.drewN {w : World} (h : Units w) (q : Nat) : Units (w.drewN q) := h
theorem Units.pos {w : World} (h : Units w) : 3 < w.heap.size := World.block_lt_of_cell? w _ h.1

theorem gUni : Tryd.prog.globalNamed "loop.example/g00838/impl.units" = some 3 := by kernel_rfl
theorem tUni : (Tryd.prog.globals[3]?).map (·.type) = some 149 := by kernel_rfl
theorem cUnis : Tryd.prog.cellsOf 149 = 4 := by kernel_rfl
theorem cUni : Tryd.prog.cellsOf 148 = 2 := by kernel_rfl
theorem cInt : Tryd.prog.cellsOf 3 = 1 := by kernel_rfl
theorem list_four {α : Type} {l : List α} (h : l.length = 4) : ∃ a b c d, l = [a, b, c, d] := by
  match l, h with
  | [a, b, c, d], _ => exact ⟨a, b, c, d, rfl⟩
theorem cells_unit {H : Type} {enc : TypeId × Value → H} {w : World} {base : Nat} {sp : Nat → Bool} {held : Bool} {fuel : Nat} {c0 c1 : Value} {s0 : List UInt8} {n0 : Int} {p : List MemPlace}
    (h : DataW.trod enc Tryd.prog w base sp held fuel 148 [c0, c1] = some (.agg [.lit (.string s0), .lit (.int .i64 n0)], p)) : c0 = .string ⟨s0.toArray⟩ ∧ c1 = .int .i64 n0 := by
  obtain ⟨y0, y1, n, e0, _, g0, g1⟩ := Go.ChangeShapes.trod_struct2 Tryd.underlying148 h
  have g0' : DataW.trod enc Tryd.prog w base sp held n 9 [c0] = some y0 := by simpa [cStr] using g0
  have g1' : DataW.trod enc Tryd.prog w base sp held n 3 [c1] = some y1 := by simpa [cInt] using g1
  obtain ⟨b0, q0, f0, _⟩ := DataW.trod_string Tryd.underlying9 g0'
  obtain ⟨b1, q1, f1, _⟩ := DataW.trod_int Tryd.underlying3 g1'
  simp at q0 q1
  subst q0 q1
  rw [f0, f1] at e0
  simp at e0
  obtain ⟨⟨r0, r1⟩, _⟩ := e0
  rw [r0, r1]
  exact ⟨rfl, rfl⟩
theorem cells_units {H : Type} {enc : TypeId × Value → H} {w : World} {base : Nat} {sp : Nat → Bool} {held : Bool} {fuel : Nat} {cs : List Value} {s0 s1 : List UInt8} {n0 n1 : Int} {p : List MemPlace}
    (h : DataW.trod enc Tryd.prog w base sp held fuel 149 cs = some (.agg [.agg [.lit (.string s0), .lit (.int .i64 n0)], .agg [.lit (.string s1), .lit (.int .i64 n1)]], p)) :
    cs = [.string ⟨s0.toArray⟩, .int .i64 n0, .string ⟨s1.toArray⟩, .int .i64 n1] := by
  obtain ⟨xs, m1, rfl, hx1, hlen, hn3, hel⟩ := DataW.trod_array Tryd.underlying149 h
  simp only [Prod.mk.injEq, DataW.agg.injEq] at hx1
  rw [cUni] at hel
  rw [cUnis] at hlen
  have h0 := hel 0 (by decide)
  have h1 := hel 1 (by decide)
  obtain ⟨c0, c1, c2, c3, rfl⟩ := list_four hlen
  match xs, hn3, hx1, h0, h1 with
  | [x0, x1], _, hx1, h0, h1 =>
    simp only [List.map_cons, List.map_nil, List.cons.injEq, and_true] at hx1
    obtain ⟨⟨r0, r1⟩, _⟩ := hx1
    obtain ⟨u0, v0⟩ := x0
    obtain ⟨u1, v1⟩ := x1
    simp only at r0 r1
    subst r0 r1
    have h0' : DataW.trod enc Tryd.prog w base sp held m1 148 [c0, c1] = some (.agg [.lit (.string s0), .lit (.int .i64 n0)], v0) := by simpa using h0
    have h1' : DataW.trod enc Tryd.prog w base sp held m1 148 [c2, c3] = some (.agg [.lit (.string s1), .lit (.int .i64 n1)], v1) := by simpa using h1
    obtain ⟨rfl, rfl⟩ := cells_unit h0'
    obtain ⟨rfl, rfl⟩ := cells_unit h1'
    rfl
theorem units_of_head {W : World} {r : List (String × DataW Unit)} (h : laidMet Tryd.prog (("loop.example/g00838/impl.units", Rows.laid_loop_example_g00838_impl_units) :: r) W) : Units W := by
  obtain ⟨ps, ⟨g', t', cs, fuel, p, q, hg', ht', hvar, hd, _, _⟩, _⟩ := h
  obtain rfl := Option.some.inj (gUni.symm.trans hg')
  obtain rfl := Option.some.inj (tUni.symm.trans ht')
  have hcs := cells_units hd
  have hc : ∀ i, W.cell? ⟨3, i, none⟩ = cs.toList[i]? := fun i => by rw [World.var?_cell gUni hvar i]; simp
  rw [hcs] at hc
  exact ⟨by rw [hc 0]; rfl, by rw [hc 1]; rfl, by rw [hc 2]; rfl, by rw [hc 3]; rfl⟩
theorem dig_of_head {W : World} {r : List (String × DataW Unit)} (h : laidMet Tryd.prog (("loop.example/g00838/impl.digits", Rows.laid_loop_example_g00838_impl_digits) :: r) W) : Dig W := by
  obtain ⟨ps, ⟨g', t', cs, fuel, p, q, hg', ht', hvar, hd, _, _⟩, _⟩ := h
  obtain rfl := Option.some.inj (gDig.symm.trans hg')
  obtain rfl := Option.some.inj (tDig.symm.trans ht')
  have hcs := cells_two hd
  have hc : ∀ i, W.cell? ⟨2, i, none⟩ = cs.toList[i]? := fun i => by rw [World.var?_cell gDig hvar i]; simp
  rw [hcs] at hc
  exact ⟨by rw [hc 0]; rfl, by rw [hc 1]; rfl⟩

end Go.Proofs.YtdmcgjohpnojkaaDoor

namespace Go.Proofs.YtdmcgjohpnojkaaDoor
open Go.RowKit

/-- what stands before the last byte -/
def initL (l : List UInt8) : List UInt8 := l.take (l.length - 1)
theorem trim_yes {l : List UInt8} {c : UInt8} (h : Lib.hasSuffix l [c] = true) : Lib.trimSuffix l [c] = initL l := by unfold Lib.trimSuffix initL; rw [if_pos h]; rfl
/-- a text and a number -/
def SaysUnit (w : World) (u : ByteArray) (f : Int) (e : Ending) (w' : World) : Prop := e = .returned (.tuple #[.string u, .int .i64 f]) ∧ Below w.heap.size w w'
theorem unit_cells (w w1 : World) (b : ByteArray) (n : Int) (ty : TypeId) (h : w1 = w.alloc (.cells #[.string b, .int .i64 n] ty)) :
    w1.cell? ⟨w.heap.size, 0, none⟩ = some (.string b) ∧ w1.cell? ⟨w.heap.size, 1, none⟩ = some (.int .i64 n) := by
  subst h
  constructor <;> rw [World.cell?_alloc_at _ _ _ _ rfl] <;> rfl

theorem unit_below (w w1 : World) (b : ByteArray) (n : Int) (ty : TypeId) (h : w1 = w.alloc (.cells #[.string b, .int .i64 n] ty)) : Below w.heap.size w w1 := by
  subst h
  exact (Below.refl _ _).alloc (Nat.le_refl _) _
theorem unit_at0 (w : World) : (Instr.index 149 (.agg #[.string ⟨#[109]⟩, .int .i64 1000000, .string ⟨#[107]⟩, .int .i64 1000]) (.int .i64 0)).run Tryd.prog w = .ok (.agg #[.string ⟨#[109]⟩, .int .i64 1000000]) w := by kernel_rfl
theorem unit_at1 (w : World) : (Instr.index 149 (.agg #[.string ⟨#[109]⟩, .int .i64 1000000, .string ⟨#[107]⟩, .int .i64 1000]) (.int .i64 1)).run Tryd.prog w = .ok (.agg #[.string ⟨#[107]⟩, .int .i64 1000]) w := by kernel_rfl

set_option maxHeartbeats 1600000 in
theorem splitUnit_m (s u : ByteArray) (w : World) (hU : Hid (Units w)) (hs : s.size ≤ 1048576) (hm : Hid (Lib.hasSuffix s.data.toList [109] = true)) (hu : Hid ((⟨(Lib.trimSuffix s.data.toList [109]).toArray⟩ : ByteArray) = u)) :
    Calls Tryd.prog 135 #[.string s] w (SaysUnit w u 1000000) := by
  obtain ⟨c0, c1, c2, c3⟩ := hU.out
  have i0 := unit_at0
  have i1 := unit_at1
  go_enter Tryd.func135, Tryd.ntmps135
  go_wp2_with fail
  refine wp_loop_rounds 1 ?_
  rw [rounds_succ]
  go_wp2_with (go_at_call 143; refine (Tryd.strings_CutSuffix s _ _ (by omega)).mono ?_; rw [show (ByteArray.mk #[109]).data.toList = [109] from rfl, hm.out, hu.out]; rintro e w1 ⟨rfl, hw⟩; obtain ⟨k2, k3⟩ := unit_cells _ _ _ _ _ hw; have B1 := Lib.hid (unit_below _ _ _ _ _ hw); clear hw)
  go_quiet (fail)
  go_wp2
  go_ret2
  exact ⟨rfl, below_drewN B1.out _⟩
set_option maxHeartbeats 1600000 in
theorem splitUnit_k (s u : ByteArray) (w : World) (hU : Hid (Units w)) (hs : s.size ≤ 1048576) (hm : Hid (Lib.hasSuffix s.data.toList [109] = false)) (hk : Hid (Lib.hasSuffix s.data.toList [107] = true)) (hu : Hid ((⟨(Lib.trimSuffix s.data.toList [107]).toArray⟩ : ByteArray) = u)) :
    Calls Tryd.prog 135 #[.string s] w (SaysUnit w u 1000) := by
  obtain ⟨c0, c1, c2, c3⟩ := hU.out
  have i0 := unit_at0
  have i1 := unit_at1
  go_enter Tryd.func135, Tryd.ntmps135
  go_wp2_with fail
  refine wp_loop_rounds 2 ?_
  obtain ⟨x, hx⟩ : ∃ x : ByteArray, (⟨(Lib.trimSuffix s.data.toList [109]).toArray⟩ : ByteArray) = x := ⟨_, rfl⟩
  have HX := Lib.hid hx
  clear hx
  rw [rounds_succ]
  go_wp2_with (go_at_call 143; refine (Tryd.strings_CutSuffix s _ _ (by omega)).mono ?_; rw [show (ByteArray.mk #[109]).data.toList = [109] from rfl, hm.out, HX.out]; rintro e w1 ⟨rfl, hw⟩; obtain ⟨k2, k3⟩ := unit_cells _ _ _ _ _ hw; have B1 := Lib.hid (unit_below _ _ _ _ _ hw); clear hw)
  rw [rounds_succ]
  go_wp2_with (go_at_call 143; refine (Tryd.strings_CutSuffix s _ _ (by omega)).mono ?_; rw [show (ByteArray.mk #[107]).data.toList = [107] from rfl, hk.out, hu.out]; rintro e w2 ⟨rfl, hw⟩; obtain ⟨k4, k5⟩ := unit_cells _ _ _ _ _ hw; have B2 := Lib.hid (unit_below _ _ _ _ _ hw); clear hw)
  go_quiet (fail)
  go_wp2
  go_ret2
  exact ⟨rfl, below_drewN (B1.out.trans (B2.out.mono B1.out.size)) _⟩
set_option maxHeartbeats 1600000 in
theorem splitUnit_n (s : ByteArray) (w : World) (hU : Hid (Units w)) (hs : s.size ≤ 1048576) (hm : Hid (Lib.hasSuffix s.data.toList [109] = false)) (hk : Hid (Lib.hasSuffix s.data.toList [107] = false)) :
    Calls Tryd.prog 135 #[.string s] w (SaysUnit w s 1) := by
  obtain ⟨c0, c1, c2, c3⟩ := hU.out
  have i0 := unit_at0
  have i1 := unit_at1
  go_enter Tryd.func135, Tryd.ntmps135
  go_wp2_with fail
  refine wp_loop_rounds 3 ?_
  obtain ⟨x, hx⟩ : ∃ x : ByteArray, (⟨(Lib.trimSuffix s.data.toList [109]).toArray⟩ : ByteArray) = x := ⟨_, rfl⟩
  have HX := Lib.hid hx
  clear hx
  obtain ⟨y, hy⟩ : ∃ y : ByteArray, (⟨(Lib.trimSuffix s.data.toList [107]).toArray⟩ : ByteArray) = y := ⟨_, rfl⟩
  have HY := Lib.hid hy
  clear hy
  rw [rounds_succ]
  go_wp2_with (go_at_call 143; refine (Tryd.strings_CutSuffix s _ _ (by omega)).mono ?_; rw [show (ByteArray.mk #[109]).data.toList = [109] from rfl, hm.out, HX.out]; rintro e w1 ⟨rfl, hw⟩; obtain ⟨k2, k3⟩ := unit_cells _ _ _ _ _ hw; have B1 := Lib.hid (unit_below _ _ _ _ _ hw); clear hw)
  rw [rounds_succ]
  go_wp2_with (go_at_call 143; refine (Tryd.strings_CutSuffix s _ _ (by omega)).mono ?_; rw [show (ByteArray.mk #[107]).data.toList = [107] from rfl, hk.out, HY.out]; rintro e w2 ⟨rfl, hw⟩; obtain ⟨k4, k5⟩ := unit_cells _ _ _ _ _ hw; have B2 := Lib.hid (unit_below _ _ _ _ _ hw); clear hw)
  rw [rounds_succ]
  go_wp2
  go_ret2
  exact ⟨rfl, B1.out.trans (B2.out.mono B1.out.size)⟩
end Go.Proofs.YtdmcgjohpnojkaaDoor
