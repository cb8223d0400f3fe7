/- The units in the model: contracts of nuUnits and nuSize. Decimal texts in the model: what they stand for, and facts for the walk of nuRead. -/
import Derived.Test.YtkpocljlmbihcaaDoorMark
import Derived.Deep.RegionWith
import Derived.Test.YtkpocljlmbihcaaDoorSpl
import Derived.Test.YtkpocljlmbihcaaDoorRdm
import Derived.Test.YtkpocljlmbihcaaDoorRdh
namespace Go.Proofs.YtkpocljlmbihcaaDoor
set_option maxRecDepth 100000
open Go.RowKit

def UnitsAt (w : World) (g : Nat) : Prop := w.cell? ⟨g, 0, none⟩ = some (.string ⟨#[109]⟩) ∧ w.cell? ⟨g, 1, none⟩ = some (.string ⟨#[107]⟩) ∧ w.cell? ⟨g, 2, none⟩ = some (.string ⟨#[]⟩)
theorem units_new (w : World) (ty : TypeId) : UnitsAt (w.alloc (.cells #[.string ⟨#[109]⟩, .string ⟨#[107]⟩, .string ⟨#[]⟩] ty)) w.heap.size := by
  refine ⟨?_, ?_, ?_⟩ <;> rw [World.cell?_alloc_at _ _ _ _ rfl] <;> rfl
theorem nuUnits_any (w : World) :
    Calls Tryd.prog 88 #[] w fun e w' => e = .returned (.slice (some ⟨w.heap.size, 0, none⟩) 3 3) ∧ UnitsAt w' w.heap.size ∧ Below w.heap.size w w' := by
  go_enter Tryd.func88, Tryd.ntmps88
  go_wp2
  go_ret
  exact ⟨rfl, units_new _ _, (Below.refl _ _).alloc (Nat.le_refl _) _⟩
def SaysSz (w : World) (n : Int) (e : Ending) (w' : World) : Prop := e = .returned (.int .i64 n) ∧ Below w.heap.size w w'
theorem sz_cells (w : World) (ty : TypeId) (j : Nat) (h : j < 3) : (w.alloc (.cells #[.int .i64 1000000, .int .i64 1000, .int .i64 1] ty)).cell? ⟨w.heap.size, j, none⟩ = some ([Value.int .i64 1000000, .int .i64 1000, .int .i64 1].getD j .nilIface) := by
  rw [World.cell?_alloc_at _ _ _ _ rfl]
  rcases (show j = 0 ∨ j = 1 ∨ j = 2 by omega) with rfl | rfl | rfl <;> rfl
theorem nuSize_0 (w : World) : Calls Tryd.prog 89 #[.int .i64 0] w (SaysSz w 1000000) := by
  go_enter Tryd.func89, Tryd.ntmps89
  go_wp2
  go_ret
  exact ⟨rfl, (Below.refl _ _).alloc (Nat.le_refl _) _⟩
theorem nuSize_1 (w : World) : Calls Tryd.prog 89 #[.int .i64 1] w (SaysSz w 1000) := by
  go_enter Tryd.func89, Tryd.ntmps89
  go_wp2
  go_ret
  exact ⟨rfl, (Below.refl _ _).alloc (Nat.le_refl _) _⟩
theorem nuSize_2 (w : World) : Calls Tryd.prog 89 #[.int .i64 2] w (SaysSz w 1) := by
  go_enter Tryd.func89, Tryd.ntmps89
  go_wp2
  go_ret
  exact ⟨rfl, (Below.refl _ _).alloc (Nat.le_refl _) _⟩

end Go.Proofs.YtkpocljlmbihcaaDoor

namespace Go.Proofs.YtkpocljlmbihcaaDoor
open Go.RowKit

/-- a number with a unit: none stands for 0 -/
def unitN (o : Option Int) (f : Int) : Option Int := match o with | Option.some n => if n = 0 then none else Option.some (n * f) | Option.none => none
/-- the value of a decimal text -/
def rnr (l : List UInt8) : Option Int :=
  if Lib.hasSuffix l [109] then unitN (rdT 10 1000 (initL l)) 1000000
  else if Lib.hasSuffix l [107] then unitN (rdT 10 1000000 (initL l)) 1000
  else rdT 10 1000000000 l
theorem rnr_m {l : List UInt8} (h : Lib.hasSuffix l [109] = true) : rnr l = unitN (rdT 10 1000 (initL l)) 1000000 := by unfold rnr; rw [if_pos h]
theorem rnr_k {l : List UInt8} (h : Lib.hasSuffix l [109] = false) (h2 : Lib.hasSuffix l [107] = true) : rnr l = unitN (rdT 10 1000000 (initL l)) 1000 := by
  unfold rnr; rw [if_neg (by simp [h]), if_pos h2]
theorem rnr_n {l : List UInt8} (h : Lib.hasSuffix l [109] = false) (h2 : Lib.hasSuffix l [107] = false) : rnr l = rdT 10 1000000000 l := by
  unfold rnr; rw [if_neg (by simp [h]), if_neg (by simp [h2])]
theorem suf_one (p : List UInt8) (x c : UInt8) : Lib.hasSuffix (p ++ [x]) [c] = ([x] == [c]) := by
  unfold Lib.hasSuffix List.isSuffixOf
  simp [List.isPrefixOf]
  exact Bool.eq_iff_iff.2 (by simp; exact eq_comm)
theorem suf_nil (c : UInt8) : Lib.hasSuffix [] [c] = false := rfl
/-- the last byte of a text, and what stands before it -/
theorem last_run (s : ByteArray) (h : 0 < s.size) : ∃ t u : ByteArray, (∀ c, (t.toList == [c]) = Lib.hasSuffix s.data.toList [c]) ∧ u.data.toList = initL s.data.toList ∧ u.size + 1 = s.size ∧ s.extract 0 ((s.size : Int) - 1).toNat = u ∧
    (∀ w, (Instr.slice 9 (.string s) (some (.int .i64 ((s.size : Int) - 1))) none none).run Tryd.prog w = .ok (.string t) w) ∧
    (∀ w, (Instr.slice 9 (.string s) none (some (.int .i64 ((s.size : Int) - 1))) none).run Tryd.prog w = .ok (.string u) w) := by
  have hl : 0 < s.data.toList.length := by rw [← size_data]; exact h
  have e1 : ((s.size : Int) - 1).toNat = s.size - 1 := by omega
  refine ⟨s.extract (s.size - 1) s.size, s.extract 0 (s.size - 1), fun c => ?_, ?_, ?_, by rw [e1], fun w => ?_, fun w => ?_⟩
  · rw [ByteArray.toList_eq, Lib.extract_data, List.take_of_length_le (by simp), size_data]
    generalize s.data.toList = l at hl
    have hsplit : l = l.take (l.length - 1) ++ l.drop (l.length - 1) := (List.take_append_drop _ _).symm
    have hd : (l.drop (l.length - 1)).length = 1 := by simp; omega
    obtain ⟨x, hx⟩ : ∃ x, l.drop (l.length - 1) = [x] := List.length_eq_one_iff.1 hd
    conv => rhs; rw [hsplit, hx, suf_one]
    rw [hx]
  · rw [Lib.extract_data]
    unfold initL
    rw [← size_data]
    simp
  · simp; omega
  · rw [run_slice_string_l w 9 s Tryd.underlying9 .i64 ((s.size : Int) - 1) (by omega) (by omega), e1]
  · rw [run_slice_string_h w 9 s Tryd.underlying9 .i64 ((s.size : Int) - 1) (by omega) (by omega), e1]
theorem unitN_none (f : Int) : unitN none f = none := rfl
theorem unitN_zero (f : Int) : unitN (Option.some 0) f = none := rfl
theorem unitN_some {n : Int} (f : Int) (h : 0 < n) : unitN (Option.some n) f = Option.some (n * f) := by
  show (if n = 0 then none else Option.some (n * f)) = _
  exact if_neg (by omega)
theorem opt_three (o : Option Int) (h : ∀ v, o = Option.some v → 0 ≤ v) : (o = none ∨ o = Option.some 0) ∨ ∃ v, o = Option.some v ∧ 0 < v := by
  cases o with
  | none => exact .inl (.inl rfl)
  | some v =>
    rcases Int.lt_or_eq_of_le (h v rfl) with q | q
    · exact .inr ⟨v, rfl, q⟩
    · exact .inl (.inr (by rw [q]))
theorem sizes_init {s : ByteArray} {u : ByteArray} (h : u.size + 1 = s.size) (hs : s.size ≤ 1048576) : u.size ≤ 1048576 := by omega
end Go.Proofs.YtkpocljlmbihcaaDoor
