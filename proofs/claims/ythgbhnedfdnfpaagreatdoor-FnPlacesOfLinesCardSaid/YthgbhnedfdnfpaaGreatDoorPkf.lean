import Derived.Test.YthgbhnedfdnfpaaGreatDoorPke
import Derived.ChangeSame
import Derived.Stop.LaidErr
import Derived.Deep.QuietTactic
import Derived.BigQuiet
import Derived.Test.YthgbhnedfdnfpaaGreatDoorPkd
import Derived.Deep.RegionWith
import Derived.Lib.ItoaMem
import Derived.Lib.AppendIntMem
import Derived.Test.YthgbhnedfdnfpaaGreatDoorPka
/- The table of units: what its cells hold; facts out of the rows' conditions; a world for the witness with the tables in place. Units: contracts of splitUnit. -/
namespace Go.Proofs.YthgbhnedfdnfpaaGreatDoor
set_option maxRecDepth 100000
open Go.RowKit

def Units (w : World) : Prop := w.cell? ⟨0, 0, none⟩ = some (.string ⟨#[109]⟩) ∧ w.cell? ⟨0, 1, none⟩ = some (.int .i64 1000000) ∧
  w.cell? ⟨0, 2, none⟩ = some (.string ⟨#[107]⟩) ∧ w.cell? ⟨0, 3, none⟩ = some (.int .i64 1000)
theorem Units.below {w w' : World} (h : Units w) (hb : Below w.heap.size w w') : Units w' :=
  ⟨(hb.cell (p := ⟨0, 0, none⟩) (World.block_lt_of_cell? w _ h.1)).trans h.1, (hb.cell (p := ⟨0, 1, none⟩) (World.block_lt_of_cell? w _ h.2.1)).trans h.2.1,
   (hb.cell (p := ⟨0, 2, none⟩) (World.block_lt_of_cell? w _ h.2.2.1)).trans h.2.2.1, (hb.cell (p := ⟨0, 3, none⟩) (World.block_lt_of_cell? w _ h.2.2.2)).trans h.2.2.2⟩
theorem Units.drewN {w : World} (h : Units w) (q : Nat) : Units (w.drewN q) := h
theorem Units.pos {w : World} (h : Units w) : 0 < w.heap.size := World.block_lt_of_cell? w _ h.1

theorem gUni : Tryz.prog.globalNamed "loop.example/g00838/impl.units" = some 0 := by kernel_rfl
theorem tUni : (Tryz.prog.globals[0]?).map (·.type) = some 116 := by kernel_rfl
theorem cUnis : Tryz.prog.cellsOf 116 = 4 := by kernel_rfl
theorem cUni : Tryz.prog.cellsOf 115 = 2 := by kernel_rfl
theorem cInt : Tryz.prog.cellsOf 3 = 1 := by kernel_rfl
theorem list_four {α : Type} {l : List α} (h : l.length = 4) : ∃ a b c d, l = [a, b, c, d] := by
  match l, h with
  | [a, b, c, d], _ => exact ⟨a, b, c, d, rfl⟩
theorem cells_unit {H : Type} {enc : TypeId × Value → H} {w : World} {base : Nat} {sp : Nat → Bool} {held : Bool} {fuel : Nat} {c0 c1 : Value} {s0 : List UInt8} {n0 : Int} {p : List MemPlace}
    (h : DataW.trod enc Tryz.prog w base sp held fuel 115 [c0, c1] = some (.agg [.lit (.string s0), .lit (.int .i64 n0)], p)) : c0 = .string ⟨s0.toArray⟩ ∧ c1 = .int .i64 n0 := by
  obtain ⟨y0, y1, n, e0, _, g0, g1⟩ := Go.ChangeShapes.trod_struct2 Tryz.underlying115 h
  have g0' : DataW.trod enc Tryz.prog w base sp held n 9 [c0] = some y0 := by simpa [cStr] using g0
  have g1' : DataW.trod enc Tryz.prog w base sp held n 3 [c1] = some y1 := by simpa [cInt] using g1
  obtain ⟨b0, q0, f0, _⟩ := DataW.trod_string Tryz.underlying9 g0'
  obtain ⟨b1, q1, f1, _⟩ := DataW.trod_int Tryz.underlying3 g1'
  simp at q0 q1
  subst q0 q1
  rw [f0, f1] at e0
  simp at e0
  obtain ⟨⟨r0, r1⟩, _⟩ := e0
  rw [r0, r1]
  exact ⟨rfl, rfl⟩
theorem cells_units {H : Type} {enc : TypeId × Value → H} {w : World} {base : Nat} {sp : Nat → Bool} {held : Bool} {fuel : Nat} {cs : List Value} {s0 s1 : List UInt8} {n0 n1 : Int} {p : List MemPlace}
    (h : DataW.trod enc Tryz.prog w base sp held fuel 116 cs = some (.agg [.agg [.lit (.string s0), .lit (.int .i64 n0)], .agg [.lit (.string s1), .lit (.int .i64 n1)]], p)) :
    cs = [.string ⟨s0.toArray⟩, .int .i64 n0, .string ⟨s1.toArray⟩, .int .i64 n1] := by
  obtain ⟨xs, m1, rfl, hx1, hlen, hn3, hel⟩ := DataW.trod_array Tryz.underlying116 h
  simp only [Prod.mk.injEq, DataW.agg.injEq] at hx1
  rw [cUni] at hel
  rw [cUnis] at hlen
  have h0 := hel 0 (by decide)
  have h1 := hel 1 (by decide)
  obtain ⟨c0, c1, c2, c3, rfl⟩ := list_four hlen
  match xs, hn3, hx1, h0, h1 with
  | [x0, x1], _, hx1, h0, h1 =>
    simp only [List.map_cons, List.map_nil, List.cons.injEq, and_true] at hx1
    obtain ⟨⟨r0, r1⟩, _⟩ := hx1
    obtain ⟨u0, v0⟩ := x0
    obtain ⟨u1, v1⟩ := x1
    simp only at r0 r1
    subst r0 r1
    have h0' : DataW.trod enc Tryz.prog w base sp held m1 115 [c0, c1] = some (.agg [.lit (.string s0), .lit (.int .i64 n0)], v0) := by simpa using h0
    have h1' : DataW.trod enc Tryz.prog w base sp held m1 115 [c2, c3] = some (.agg [.lit (.string s1), .lit (.int .i64 n1)], v1) := by simpa using h1
    obtain ⟨rfl, rfl⟩ := cells_unit h0'
    obtain ⟨rfl, rfl⟩ := cells_unit h1'
    rfl
theorem units_of_head {W : World} {r : List (String × DataW Unit)} (h : laidMet Tryz.prog (("loop.example/g00838/impl.units", Rows.laid_loop_example_g00838_impl_units) :: r) W) : Units W := by
  obtain ⟨ps, ⟨g', t', cs, fuel, p, q, hg', ht', hvar, hd, _, _⟩, _⟩ := h
  obtain rfl := Option.some.inj (gUni.symm.trans hg')
  obtain rfl := Option.some.inj (tUni.symm.trans ht')
  have hcs := cells_units hd
  have hc : ∀ i, W.cell? ⟨0, i, none⟩ = cs.toList[i]? := fun i => by rw [World.var?_cell gUni hvar i]; simp
  rw [hcs] at hc
  exact ⟨by rw [hc 0]; rfl, by rw [hc 1]; rfl, by rw [hc 2]; rfl, by rw [hc 3]; rfl⟩
theorem dig_of_head {W : World} {r : List (String × DataW Unit)} (h : laidMet Tryz.prog (("loop.example/g00838/impl.digits", Rows.laid_loop_example_g00838_impl_digits) :: r) W) : Dig W := by
  obtain ⟨ps, ⟨g', t', cs, fuel, p, q, hg', ht', hvar, hd, _, _⟩, _⟩ := h
  obtain rfl := Option.some.inj (gDig.symm.trans hg')
  obtain rfl := Option.some.inj (tDig.symm.trans ht')
  have hcs := cells_two hd
  have hc : ∀ i, W.cell? ⟨5, i, none⟩ = cs.toList[i]? := fun i => by rw [World.var?_cell gDig hvar i]; simp
  rw [hcs] at hc
  exact ⟨by rw [hc 0]; rfl, by rw [hc 1]; rfl⟩

end Go.Proofs.YthgbhnedfdnfpaaGreatDoor

namespace Go.Proofs.YthgbhnedfdnfpaaGreatDoor
open Go.RowKit

theorem unit_cells (w w1 : World) (b : ByteArray) (n : Int) (ty : TypeId) (h : w1 = w.alloc (.cells #[.string b, .int .i64 n] ty)) :
    w1.cell? ⟨w.heap.size, 0, none⟩ = some (.string b) ∧ w1.cell? ⟨w.heap.size, 1, none⟩ = some (.int .i64 n) := by
  subst h
  constructor <;> rw [World.cell?_alloc_at _ _ _ _ rfl] <;> rfl

theorem unit_below (w w1 : World) (b : ByteArray) (n : Int) (ty : TypeId) (h : w1 = w.alloc (.cells #[.string b, .int .i64 n] ty)) : Below w.heap.size w w1 := by
  subst h
  exact (Below.refl _ _).alloc (Nat.le_refl _) _
theorem unit_at0 (w : World) : (Instr.index 116 (.agg #[.string ⟨#[109]⟩, .int .i64 1000000, .string ⟨#[107]⟩, .int .i64 1000]) (.int .i64 0)).run Tryz.prog w = .ok (.agg #[.string ⟨#[109]⟩, .int .i64 1000000]) w := by kernel_rfl
theorem unit_at1 (w : World) : (Instr.index 116 (.agg #[.string ⟨#[109]⟩, .int .i64 1000000, .string ⟨#[107]⟩, .int .i64 1000]) (.int .i64 1)).run Tryz.prog w = .ok (.agg #[.string ⟨#[107]⟩, .int .i64 1000]) w := by kernel_rfl

end Go.Proofs.YthgbhnedfdnfpaaGreatDoor

/- Digits of a row: contracts of the model's nuDigits. -/
namespace Go.Proofs.YthgbhnedfdnfpaaGreatDoor
set_option maxRecDepth 100000
open Go.RowKit

end Go.Proofs.YthgbhnedfdnfpaaGreatDoor

/- Digits of a row: contracts of readDigits. -/
namespace Go.Proofs.YthgbhnedfdnfpaaGreatDoor
set_option maxRecDepth 100000
open Go.RowKit

end Go.Proofs.YthgbhnedfdnfpaaGreatDoor

/- The model's numbers: contracts of scNumber, scDecimal, and DecimalAt of program and model. DecimalAt: contracts of program and model. DecimalAt: the model's side, and both together. -/
namespace Go.Proofs.YthgbhnedfdnfpaaGreatDoor
set_option maxRecDepth 100000
open Go.RowKit

end Go.Proofs.YthgbhnedfdnfpaaGreatDoor

namespace Go.Proofs.YthgbhnedfdnfpaaGreatDoor
open Go.RowKit

theorem Drawn.trans {a b c : World} (h : Drawn a b) (k : Drawn b c) : Drawn a c := by
  obtain ⟨q, rfl⟩ := h
  obtain ⟨r, rfl⟩ := k
  exact ⟨q + r, by simp⟩
end Go.Proofs.YthgbhnedfdnfpaaGreatDoor

namespace Go.Proofs.YthgbhnedfdnfpaaGreatDoor
open Go.RowKit

end Go.Proofs.YthgbhnedfdnfpaaGreatDoor

/- HexAt: contracts of program and model, and both together. -/
namespace Go.Proofs.YthgbhnedfdnfpaaGreatDoor
set_option maxRecDepth 100000
open Go.RowKit

end Go.Proofs.YthgbhnedfdnfpaaGreatDoor

/- Hexadecimal texts read: contracts of ReadHex, program and model. -/
namespace Go.Proofs.YthgbhnedfdnfpaaGreatDoor
set_option maxRecDepth 100000
open Go.RowKit

end Go.Proofs.YthgbhnedfdnfpaaGreatDoor

/- The units in the model: contracts of nuUnits and nuSize. Decimal texts in the model: what they stand for, and facts for the walk of nuRead. -/
namespace Go.Proofs.YthgbhnedfdnfpaaGreatDoor
set_option maxRecDepth 100000
open Go.RowKit

def UnitsAt (w : World) (g : Nat) : Prop := w.cell? ⟨g, 0, none⟩ = some (.string ⟨#[109]⟩) ∧ w.cell? ⟨g, 1, none⟩ = some (.string ⟨#[107]⟩) ∧ w.cell? ⟨g, 2, none⟩ = some (.string ⟨#[]⟩)
theorem units_new (w : World) (ty : TypeId) : UnitsAt (w.alloc (.cells #[.string ⟨#[109]⟩, .string ⟨#[107]⟩, .string ⟨#[]⟩] ty)) w.heap.size := by
  refine ⟨?_, ?_, ?_⟩ <;> rw [World.cell?_alloc_at _ _ _ _ rfl] <;> rfl
theorem nuUnits_any (w : World) :
    Calls Tryz.prog 129 #[] w fun e w' => e = .returned (.slice (some ⟨w.heap.size, 0, none⟩) 3 3) ∧ UnitsAt w' w.heap.size ∧ Below w.heap.size w w' := by
  go_enter Tryz.func129, Tryz.ntmps129
  go_wp2
  go_ret
  exact ⟨rfl, units_new _ _, (Below.refl _ _).alloc (Nat.le_refl _) _⟩
def SaysSz (w : World) (n : Int) (e : Ending) (w' : World) : Prop := e = .returned (.int .i64 n) ∧ Below w.heap.size w w'
theorem nuSize_0 (w : World) : Calls Tryz.prog 130 #[.int .i64 0] w (SaysSz w 1000000) := by
  go_enter Tryz.func130, Tryz.ntmps130
  go_wp2
  go_ret
  exact ⟨rfl, (Below.refl _ _).alloc (Nat.le_refl _) _⟩
theorem nuSize_1 (w : World) : Calls Tryz.prog 130 #[.int .i64 1] w (SaysSz w 1000) := by
  go_enter Tryz.func130, Tryz.ntmps130
  go_wp2
  go_ret
  exact ⟨rfl, (Below.refl _ _).alloc (Nat.le_refl _) _⟩
theorem nuSize_2 (w : World) : Calls Tryz.prog 130 #[.int .i64 2] w (SaysSz w 1) := by
  go_enter Tryz.func130, Tryz.ntmps130
  go_wp2
  go_ret
  exact ⟨rfl, (Below.refl _ _).alloc (Nat.le_refl _) _⟩

end Go.Proofs.YthgbhnedfdnfpaaGreatDoor

namespace Go.Proofs.YthgbhnedfdnfpaaGreatDoor
open Go.RowKit

end Go.Proofs.YthgbhnedfdnfpaaGreatDoor

/- The texts of a value in the model: contracts of nuForms. -/
namespace Go.Proofs.YthgbhnedfdnfpaaGreatDoor
set_option maxRecDepth 100000
open Go.RowKit

def mF (n : Nat) : ByteArray := numS (n / 1000000) ++ ⟨#[109]⟩
def kF (n : Nat) : ByteArray := numS (n / 1000) ++ ⟨#[107]⟩
def isM (n : Nat) : Bool := decide (n % 1000000 = 0) && decide (0 < n)
def isK (n : Nat) : Bool := decide (n % 1000 = 0) && decide (0 < n)
def preL (n : Nat) : Nat → List ByteArray
  | 0 => []
  | 1 => if isM n then [mF n] else []
  | 2 => (if isM n then [mF n] else []) ++ (if isK n then [kF n] else [])
  | _ => (if isM n then [mF n] else []) ++ (if isK n then [kF n] else []) ++ [numS n]
def formsL (n : Nat) : List ByteArray := preL n 3
theorem preL_le (n k : Nat) : (preL n k).length ≤ 3 := by
  unfold preL
  split <;> (repeat' split) <;> simp
theorem UnitsAt.below {w w' : World} {g B : Nat} (h : UnitsAt w g) (hb : Below B w w') (hg : g < B) : UnitsAt w' g :=
  ⟨(hb.cell (p := ⟨g, 0, none⟩) hg).trans h.1, (hb.cell (p := ⟨g, 1, none⟩) hg).trans h.2.1, (hb.cell (p := ⟨g, 2, none⟩) hg).trans h.2.2⟩
theorem OwnZ.base {w : World} {B B' n : Nat} {v : Value} {l : List ByteArray} (h : OwnZ w B v n l) (hB : B' ≤ B) : OwnZ w B' v n l := by
  obtain ⟨h1, h2⟩ := h
  refine ⟨h1, ?_⟩
  rcases h2 with h2 | ⟨g', cap', cur, a, b, c, d⟩
  · exact .inl h2
  · exact .inr ⟨g', cap', cur, a, Nat.le_trans hB b, c, d⟩
def FormRel (w1 : World) (n : Nat) (v i : Value) (wr : World) : Prop :=
  ∃ k : Nat, k ≤ 3 ∧ i = .int .i64 k ∧ OwnZ wr w1.heap.size v (preL n k).length (preL n k) ∧ Below w1.heap.size w1 wr
theorem OwnZ.to {w : World} {B n m : Nat} {v : Value} {l l' : List ByteArray} (h : OwnZ w B v n l) (hl : l = l') (hn : n = m) : OwnZ w B v m l' := by subst hl hn; exact h
theorem size_lit (c : UInt8) : (⟨#[c]⟩ : ByteArray).size = 1 := rfl
theorem pm1 {n : Nat} (e : isM n = true) : preL n 0 ++ [mF n] = preL n 1 := by simp [preL, e]
theorem pm0 {n : Nat} (e : isM n = false) : preL n 0 = preL n 1 := by simp [preL, e]
theorem pk1 {n : Nat} (e : isK n = true) : preL n 1 ++ [kF n] = preL n 2 := by simp [preL, e]
theorem pk0 {n : Nat} (e : isK n = false) : preL n 1 = preL n 2 := by simp [preL, e]
theorem pn1 (n : Nat) : preL n 2 ++ [numS n] = preL n 3 := by simp [preL]
theorem str_nil (a : ByteArray) : a ++ (⟨#[]⟩ : ByteArray) = a := by apply ByteArray.ext; simp [ByteArray.data_append]
theorem snoc_len {l l' : List ByteArray} {c : ByteArray} (h : l ++ [c] = l') : l.length + 1 = l'.length := by rw [← h]; simp
theorem isM_zero : isM 0 = false := rfl
theorem isK_zero : isK 0 = false := rfl
theorem pn2 (n : Nat) : preL n 2 ++ [numS n ++ ⟨#[]⟩] = preL n 3 := by rw [str_nil]; exact pn1 n
set_option maxHeartbeats 6400000 in
theorem nuForms_pos (n : Nat) (hn : (n : Int) ≤ 1000000000) (hp : 0 < (n : Int)) (w : World) :
    Calls Tryz.prog 117 #[.int .i64 n] w fun e w' => ∃ v, e = .returned v ∧ OwnZ w' w.heap.size v (formsL n).length (formsL n) ∧ Below w.heap.size w w' := by
  obtain ⟨i0, hi, hz0, hz1, hz2⟩ := info_parts infoStr
  have N1 : Hid (∀ w, Calls Tryz.prog 33 #[.int .i64 ((n : Int) / 1000000)] w fun e w' => e = .returned (.string (numS (n / 1000000))) ∧ Below w.heap.size w w') := Lib.hid (l1Num_any (n / 1000000) (by omega))
  have N2 : Hid (∀ w, Calls Tryz.prog 33 #[.int .i64 ((n : Int) / 1000)] w fun e w' => e = .returned (.string (numS (n / 1000))) ∧ Below w.heap.size w w') := Lib.hid (l1Num_any (n / 1000) (by omega))
  have N3 := Lib.hid (l1Num_any n hn)
  have S1 : (numS (n / 1000000)).size ≤ 1000000001 := by have := numS_size (n / 1000000); omega
  have S2 : (numS (n / 1000)).size ≤ 1000000001 := by have := numS_size (n / 1000); omega
  have S3 : (numS n).size ≤ 1000000001 := by have := numS_size n; omega
  have dp := is_lt hp
  go_enter Tryz.func117, Tryz.ntmps117
  go_wp2_with (go_at_call 129; refine (nuUnits_any _).mono ?_; rintro e w1 ⟨rfl, hu, b1⟩; have HU := Lib.hid hu; have HS : Hid (w.heap.size < w1.heap.size) := Lib.hid (World.block_lt_of_cell? _ _ hu.1); have B1 := Lib.hid b1; clear b1 hu)
  go_loopw [3, 8] (fun v i wr => FormRel w1 n v i wr) (fun _ i _ => 3 - (intOf i).toNat)
  case atStart => exact ⟨0, by omega, rfl, World.ownsRow_nil _ _ _ _, Below.refl _ _⟩
  case round =>
    obtain ⟨k, hk, rfl, ho, hb⟩ := hrel
    have HO1 := Lib.hid ho
    have HB1 := Lib.hid hb
    have HUr := Lib.hid (HU.out.below hb HS.out)
    clear ho hb
    obtain ⟨u0, u1, u2⟩ := HUr.out
    rcases (show k = 0 ∨ k = 1 ∨ k = 2 ∨ k = 3 by omega) with rfl | rfl | rfl | rfl
    · by_cases hm : (n : Int) % 1000000 = 0
      · have dm : ((n : Int) % 1000000 == 0) = true := by simp [hm]
        have e : isM n = true := by unfold isM; simp; omega
        clear hm
        go_wp2_with (first | (go_at_call 130; (with_reducible refine (nuSize_0 _).mono ?_); rintro e w2 ⟨rfl, b2⟩; have HO1 := Lib.hid (HO1.out.below b2 (Nat.le_refl _)); have HB1 := Lib.hid (HB1.out.trans (b2.mono HB1.out.size)); clear b2) | (go_at_call 33; (with_reducible refine (N1.out _).mono ?_); rintro e w2 ⟨rfl, b2⟩; have HO1 := Lib.hid (HO1.out.below b2 (Nat.le_refl _)); have HB1 := Lib.hid (HB1.out.trans (b2.mono HB1.out.size)); clear b2) | (at_builtin; refine wpList_append_own _ rfl _ _ 44 rfl w1.heap.size 9 i0 (.string ⟨#[]⟩) 1 16 Tryz.underlying44 hi hz0 hz1 hz2 rfl (by decide) _ _ _ rfl (World.ownsRow.alloc (w := w2) HO1.out _) ⟨w2.heap.size, 0, none⟩ 1 1 [.string (numS (n / 1000000) ++ ⟨#[109]⟩)] rfl rfl (one_new w2 _ _) (by intro u hu; simp at hu; subst hu; rfl) (by have := preL_le n 0; unfold maxLen; omega) (by have := preL_le n 0; omega) (by have := HB1.out.size; simp; omega) ?_; intro v' w3 hown1 hgrow1 _; have R := Lib.hid (OwnZ.snoc (wr := w2) HO1.out HB1.out.size HB1.out hown1 hgrow1); clear hown1 hgrow1))
        go_roundw
        case rel => exact ⟨1, by omega, by go_num, R.out.1.to (pm1 e) (snoc_len (pm1 e)), R.out.2⟩
        case measure => simp [intOf]
      · have dm : ((n : Int) % 1000000 == 0) = false := by simp [hm]
        have e : isM n = false := by unfold isM; simp; omega
        clear hm
        go_wp2_with (go_at_call 130; (with_reducible refine (nuSize_0 _).mono ?_); rintro e w2 ⟨rfl, b2⟩; have HO1 := Lib.hid (HO1.out.below b2 (Nat.le_refl _)); have HB1 := Lib.hid (HB1.out.trans (b2.mono HB1.out.size)); clear b2)
        go_roundw
        case rel => exact ⟨1, by omega, by go_num, HO1.out.to (pm0 e) (by rw [pm0 e]), HB1.out⟩
        case measure => simp [intOf]
    · by_cases hm : (n : Int) % 1000 = 0
      · have dm : ((n : Int) % 1000 == 0) = true := by simp [hm]
        have e : isK n = true := by unfold isK; simp; omega
        clear hm
        go_wp2_with (first | (go_at_call 130; (with_reducible refine (nuSize_1 _).mono ?_); rintro e w2 ⟨rfl, b2⟩; have HO1 := Lib.hid (HO1.out.below b2 (Nat.le_refl _)); have HB1 := Lib.hid (HB1.out.trans (b2.mono HB1.out.size)); clear b2) | (go_at_call 33; (with_reducible refine (N2.out _).mono ?_); rintro e w2 ⟨rfl, b2⟩; have HO1 := Lib.hid (HO1.out.below b2 (Nat.le_refl _)); have HB1 := Lib.hid (HB1.out.trans (b2.mono HB1.out.size)); clear b2) | (at_builtin; refine wpList_append_own _ rfl _ _ 44 rfl w1.heap.size 9 i0 (.string ⟨#[]⟩) 1 16 Tryz.underlying44 hi hz0 hz1 hz2 rfl (by decide) _ _ _ rfl (World.ownsRow.alloc (w := w2) HO1.out _) ⟨w2.heap.size, 0, none⟩ 1 1 [.string (numS (n / 1000) ++ ⟨#[107]⟩)] rfl rfl (one_new w2 _ _) (by intro u hu; simp at hu; subst hu; rfl) (by have := preL_le n 1; unfold maxLen; omega) (by have := preL_le n 1; omega) (by have := HB1.out.size; simp; omega) ?_; intro v' w3 hown1 hgrow1 _; have R := Lib.hid (OwnZ.snoc (wr := w2) HO1.out HB1.out.size HB1.out hown1 hgrow1); clear hown1 hgrow1))
        go_roundw
        case rel => exact ⟨2, by omega, by go_num, R.out.1.to (pk1 e) (snoc_len (pk1 e)), R.out.2⟩
        case measure => simp [intOf]
      · have dm : ((n : Int) % 1000 == 0) = false := by simp [hm]
        have e : isK n = false := by unfold isK; simp; omega
        clear hm
        go_wp2_with (go_at_call 130; (with_reducible refine (nuSize_1 _).mono ?_); rintro e w2 ⟨rfl, b2⟩; have HO1 := Lib.hid (HO1.out.below b2 (Nat.le_refl _)); have HB1 := Lib.hid (HB1.out.trans (b2.mono HB1.out.size)); clear b2)
        go_roundw
        case rel => exact ⟨2, by omega, by go_num, HO1.out.to (pk0 e) (by rw [pk0 e]), HB1.out⟩
        case measure => simp [intOf]
    · go_wp2_with (first | (go_at_call 130; (with_reducible refine (nuSize_2 _).mono ?_); rintro e w2 ⟨rfl, b2⟩; have HO1 := Lib.hid (HO1.out.below b2 (Nat.le_refl _)); have HB1 := Lib.hid (HB1.out.trans (b2.mono HB1.out.size)); clear b2) | (go_at_call 33; (with_reducible refine (N3.out _).mono ?_); rintro e w2 ⟨rfl, b2⟩; have HO1 := Lib.hid (HO1.out.below b2 (Nat.le_refl _)); have HB1 := Lib.hid (HB1.out.trans (b2.mono HB1.out.size)); clear b2) | (at_builtin; refine wpList_append_own _ rfl _ _ 44 rfl w1.heap.size 9 i0 (.string ⟨#[]⟩) 1 16 Tryz.underlying44 hi hz0 hz1 hz2 rfl (by decide) _ _ _ rfl (World.ownsRow.alloc (w := w2) HO1.out _) ⟨w2.heap.size, 0, none⟩ 1 1 [.string (numS n ++ ⟨#[]⟩)] rfl rfl (one_new w2 _ _) (by intro u hu; simp at hu; subst hu; rfl) (by have := preL_le n 2; unfold maxLen; omega) (by have := preL_le n 2; omega) (by have := HB1.out.size; simp; omega) ?_; intro v' w3 hown1 hgrow1 _; have R := Lib.hid (OwnZ.snoc (wr := w2) HO1.out HB1.out.size HB1.out hown1 hgrow1); clear hown1 hgrow1))
      go_roundw
      case rel => exact ⟨3, by omega, by go_num, R.out.1.to (pn2 n) (snoc_len (pn2 n)), R.out.2⟩
      case measure => simp [intOf]
    · go_wp2
      go_ret
      exact ⟨_, rfl, HO1.out.base B1.out.size, B1.out.trans (HB1.out.mono B1.out.size)⟩
set_option maxHeartbeats 6400000 in
theorem nuForms_zero (w : World) :
    Calls Tryz.prog 117 #[.int .i64 0] w fun e w' => ∃ v, e = .returned v ∧ OwnZ w' w.heap.size v (formsL 0).length (formsL 0) ∧ Below w.heap.size w w' := by
  obtain ⟨i0, hi, hz0, hz1, hz2⟩ := info_parts infoStr
  have N3 : Hid (∀ w, Calls Tryz.prog 33 #[.int .i64 0] w fun e w' => e = .returned (.string (numS 0)) ∧ Below w.heap.size w w') := Lib.hid (l1Num_any 0 (by omega))
  have S3 : (numS 0).size ≤ 1000000001 := by have := numS_size 0; omega
  go_enter Tryz.func117, Tryz.ntmps117
  go_wp2_with (go_at_call 129; refine (nuUnits_any _).mono ?_; rintro e w1 ⟨rfl, hu, b1⟩; have HU := Lib.hid hu; have HS : Hid (w.heap.size < w1.heap.size) := Lib.hid (World.block_lt_of_cell? _ _ hu.1); have B1 := Lib.hid b1; clear b1 hu)
  go_loopw [3, 8] (fun v i wr => FormRel w1 0 v i wr) (fun _ i _ => 3 - (intOf i).toNat)
  case atStart => exact ⟨0, by omega, rfl, World.ownsRow_nil _ _ _ _, Below.refl _ _⟩
  case round =>
    obtain ⟨k, hk, rfl, ho, hb⟩ := hrel
    have HO1 := Lib.hid ho
    have HB1 := Lib.hid hb
    have HUr := Lib.hid (HU.out.below hb HS.out)
    clear ho hb
    obtain ⟨u0, u1, u2⟩ := HUr.out
    rcases (show k = 0 ∨ k = 1 ∨ k = 2 ∨ k = 3 by omega) with rfl | rfl | rfl | rfl
    · go_wp2_with (go_at_call 130; (with_reducible refine (nuSize_0 _).mono ?_); rintro e w2 ⟨rfl, b2⟩; have HO1 := Lib.hid (HO1.out.below b2 (Nat.le_refl _)); have HB1 := Lib.hid (HB1.out.trans (b2.mono HB1.out.size)); clear b2)
      go_roundw
      case rel => exact ⟨1, by omega, by go_num, HO1.out.to (pm0 isM_zero) (by rw [pm0 isM_zero]), HB1.out⟩
      case measure => simp [intOf]
    · go_wp2_with (go_at_call 130; (with_reducible refine (nuSize_1 _).mono ?_); rintro e w2 ⟨rfl, b2⟩; have HO1 := Lib.hid (HO1.out.below b2 (Nat.le_refl _)); have HB1 := Lib.hid (HB1.out.trans (b2.mono HB1.out.size)); clear b2)
      go_roundw
      case rel => exact ⟨2, by omega, by go_num, HO1.out.to (pk0 isK_zero) (by rw [pk0 isK_zero]), HB1.out⟩
      case measure => simp [intOf]
    · go_wp2_with (first | (go_at_call 130; (with_reducible refine (nuSize_2 _).mono ?_); rintro e w2 ⟨rfl, b2⟩; have HO1 := Lib.hid (HO1.out.below b2 (Nat.le_refl _)); have HB1 := Lib.hid (HB1.out.trans (b2.mono HB1.out.size)); clear b2) | (go_at_call 33; (with_reducible refine (N3.out _).mono ?_); rintro e w2 ⟨rfl, b2⟩; have HO1 := Lib.hid (HO1.out.below b2 (Nat.le_refl _)); have HB1 := Lib.hid (HB1.out.trans (b2.mono HB1.out.size)); clear b2) | (at_builtin; refine wpList_append_own _ rfl _ _ 44 rfl w1.heap.size 9 i0 (.string ⟨#[]⟩) 1 16 Tryz.underlying44 hi hz0 hz1 hz2 rfl (by decide) _ _ _ rfl (World.ownsRow.alloc (w := w2) HO1.out _) ⟨w2.heap.size, 0, none⟩ 1 1 [.string (numS 0 ++ ⟨#[]⟩)] rfl rfl (one_new w2 _ _) (by intro u hu; simp at hu; subst hu; rfl) (by have := preL_le 0 2; unfold maxLen; omega) (by have := preL_le 0 2; omega) (by have := HB1.out.size; simp; omega) ?_; intro v' w3 hown1 hgrow1 _; have R := Lib.hid (OwnZ.snoc (wr := w2) HO1.out HB1.out.size HB1.out hown1 hgrow1); clear hown1 hgrow1))
      go_roundw
      case rel => exact ⟨3, by omega, by go_num, R.out.1.to (pn2 0) (snoc_len (pn2 0)), R.out.2⟩
      case measure => simp [intOf]
    · go_wp2
      go_ret
      exact ⟨_, rfl, HO1.out.base B1.out.size, B1.out.trans (HB1.out.mono B1.out.size)⟩
theorem nuForms_any (n : Nat) (hn : (n : Int) ≤ 1000000000) (w : World) :
    Calls Tryz.prog 117 #[.int .i64 n] w fun e w' => ∃ v, e = .returned v ∧ OwnZ w' w.heap.size v (formsL n).length (formsL n) ∧ Below w.heap.size w w' := by
  rcases Nat.eq_zero_or_pos n with rfl | h
  · exact nuForms_zero w
  · exact nuForms_pos n hn (by omega) w
end Go.Proofs.YthgbhnedfdnfpaaGreatDoor

/- Decimal numerals: strconv.Itoa as the program calls it. -/
namespace Go.Proofs.YthgbhnedfdnfpaaGreatDoor
set_option maxRecDepth 100000
open Go.RowKit

def Pow (w : World) : Prop := Lib.TabIs Tryz.prog w "internal/strconv.uint64pow10" .u64 Lib.pow10Tab
theorem Pow.below {w w' : World} (h : Pow w) (hb : Below w.heap.size w w') : Pow w' := Lib.tabBelow_of_tabIs h w' hb
theorem gPow : Tryz.prog.globalNamed "internal/strconv.uint64pow10" = some 3 := by kernel_rfl
theorem tPow : (Tryz.prog.globals[3]?).map (·.type) = some 145 := by kernel_rfl
theorem cPow : Tryz.prog.cellsOf 145 = 20 := by kernel_rfl
theorem cU64 : Tryz.prog.cellsOf 68 = 1 := by kernel_rfl
theorem pow10_of_head {W : World} {r : List (String × DataW Unit)} (h : laidMet Tryz.prog (("internal/strconv.uint64pow10", Rows.laid_internal_strconv_uint64pow10) :: r) W) : Pow W :=
  Lib.tabIs_of_head gPow tPow Tryz.underlying145 Tryz.underlying68 cU64 cPow h
theorem itoa_any (n : Nat) (hn : (n : Int) ≤ 1000000000) (w : World) (hP : Hid (Pow w)) :
    Calls Tryz.prog 38 #[.int .i64 n] w fun e w' => e = .returned (.string (numS n)) ∧ Below w.heap.size w w' :=
  (Tryz.strconv_Itoa (n : Int) (by omega) (by omega) w hP.out).mono fun e w' ⟨he, k, os, hw⟩ => by
    refine ⟨by rw [he, Lib.itoa_nonneg]; rfl, ?_⟩
    subst hw
    exact Lib.below_grow _ w (Nat.le_refl _) k os
end Go.Proofs.YthgbhnedfdnfpaaGreatDoor

/- Values: contracts of the functions of chapter 2 that only compute with numbers: isValue, MultiplyValues, ScaleValue, programs and models. -/
namespace Go.Proofs.YthgbhnedfdnfpaaGreatDoor
set_option maxRecDepth 100000
open Go.RowKit

theorem isValue_true (n : Int) (w : World) (h0 : 0 ≤ n) (h1 : n ≤ 1000000000) :
    Calls Tryz.prog 101 #[.int .i64 n] w fun e w' => e = .returned (.bool true) ∧ w = w' := by
  go_enter Tryz.func101, Tryz.ntmps101
  go_wp2
  go_ret
  exact ⟨rfl, rfl⟩
end Go.Proofs.YthgbhnedfdnfpaaGreatDoor
