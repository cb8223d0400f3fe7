/- Units: contracts of splitUnit. -/
import Derived.Test.YteogadbjnmcblaaDoorUni
import Derived.Test.YteogadbjnmcblaaDoorRdl
import Derived.Deep.QuietTactic
import Derived.BigQuiet
namespace Go.Proofs.YteogadbjnmcblaaDoor
set_option maxRecDepth 100000
open Go.RowKit

/-- what stands before the last byte -/
def initL (l : List UInt8) : List UInt8 := l.take (l.length - 1)
theorem trim_yes {l : List UInt8} {c : UInt8} (h : Lib.hasSuffix l [c] = true) : Lib.trimSuffix l [c] = initL l := by unfold Lib.trimSuffix initL; rw [if_pos h]; rfl
/-- a text and a number -/
def SaysUnit (w : World) (u : ByteArray) (f : Int) (e : Ending) (w' : World) : Prop := e = .returned (.tuple #[.string u, .int .i64 f]) ∧ Below w.heap.size w w'
theorem unit_cells (w w1 : World) (b : ByteArray) (n : Int) (ty : TypeId) (h : w1 = w.alloc (.cells #[.string b, .int .i64 n] ty)) :
    w1.cell? ⟨w.heap.size, 0, none⟩ = some (.string b) ∧ w1.cell? ⟨w.heap.size, 1, none⟩ = some (.int .i64 n) := by
  subst h
  constructor <;> rw [World.cell?_alloc_at _ _ _ _ rfl] <;> rfl

theorem unit_below (w w1 : World) (b : ByteArray) (n : Int) (ty : TypeId) (h : w1 = w.alloc (.cells #[.string b, .int .i64 n] ty)) : Below w.heap.size w w1 := by
  subst h
  exact (Below.refl _ _).alloc (Nat.le_refl _) _
theorem unit_at0 (w : World) : (Instr.index 67 (.agg #[.string ⟨#[109]⟩, .int .i64 1000000, .string ⟨#[107]⟩, .int .i64 1000]) (.int .i64 0)).run Tryd.prog w = .ok (.agg #[.string ⟨#[109]⟩, .int .i64 1000000]) w := by kernel_rfl
theorem unit_at1 (w : World) : (Instr.index 67 (.agg #[.string ⟨#[109]⟩, .int .i64 1000000, .string ⟨#[107]⟩, .int .i64 1000]) (.int .i64 1)).run Tryd.prog w = .ok (.agg #[.string ⟨#[107]⟩, .int .i64 1000]) w := by kernel_rfl

set_option maxHeartbeats 1600000 in
theorem splitUnit_m (s u : ByteArray) (w : World) (hU : Hid (Units w)) (hs : s.size ≤ 1048576) (hm : Hid (Lib.hasSuffix s.data.toList [109] = true)) (hu : Hid ((⟨(Lib.trimSuffix s.data.toList [109]).toArray⟩ : ByteArray) = u)) :
    Calls Tryd.prog 29 #[.string s] w (SaysUnit w u 1000000) := by
  obtain ⟨c0, c1, c2, c3⟩ := hU.out
  have i0 := unit_at0
  have i1 := unit_at1
  go_enter Tryd.func29, Tryd.ntmps29
  go_wp2_with fail
  refine wp_loop_rounds 1 ?_
  rw [rounds_succ]
  go_wp2_with (go_at_call 42; refine (Tryd.strings_CutSuffix s _ _ (by omega)).mono ?_; rw [show (ByteArray.mk #[109]).data.toList = [109] from rfl, hm.out, hu.out]; rintro e w1 ⟨rfl, hw⟩; obtain ⟨k2, k3⟩ := unit_cells _ _ _ _ _ hw; have B1 := Lib.hid (unit_below _ _ _ _ _ hw); clear hw)
  go_quiet (fail)
  go_wp2
  go_ret2
  exact ⟨rfl, below_drewN B1.out _⟩
set_option maxHeartbeats 1600000 in
theorem splitUnit_k (s u : ByteArray) (w : World) (hU : Hid (Units w)) (hs : s.size ≤ 1048576) (hm : Hid (Lib.hasSuffix s.data.toList [109] = false)) (hk : Hid (Lib.hasSuffix s.data.toList [107] = true)) (hu : Hid ((⟨(Lib.trimSuffix s.data.toList [107]).toArray⟩ : ByteArray) = u)) :
    Calls Tryd.prog 29 #[.string s] w (SaysUnit w u 1000) := by
  obtain ⟨c0, c1, c2, c3⟩ := hU.out
  have i0 := unit_at0
  have i1 := unit_at1
  go_enter Tryd.func29, Tryd.ntmps29
  go_wp2_with fail
  refine wp_loop_rounds 2 ?_
  obtain ⟨x, hx⟩ : ∃ x : ByteArray, (⟨(Lib.trimSuffix s.data.toList [109]).toArray⟩ : ByteArray) = x := ⟨_, rfl⟩
  have HX := Lib.hid hx
  clear hx
  rw [rounds_succ]
  go_wp2_with (go_at_call 42; refine (Tryd.strings_CutSuffix s _ _ (by omega)).mono ?_; rw [show (ByteArray.mk #[109]).data.toList = [109] from rfl, hm.out, HX.out]; rintro e w1 ⟨rfl, hw⟩; obtain ⟨k2, k3⟩ := unit_cells _ _ _ _ _ hw; have B1 := Lib.hid (unit_below _ _ _ _ _ hw); clear hw)
  rw [rounds_succ]
  go_wp2_with (go_at_call 42; refine (Tryd.strings_CutSuffix s _ _ (by omega)).mono ?_; rw [show (ByteArray.mk #[107]).data.toList = [107] from rfl, hk.out, hu.out]; rintro e w2 ⟨rfl, hw⟩; obtain ⟨k4, k5⟩ := unit_cells _ _ _ _ _ hw; have B2 := Lib.hid (unit_below _ _ _ _ _ hw); clear hw)
  go_quiet (fail)
  go_wp2
  go_ret2
  exact ⟨rfl, below_drewN (B1.out.trans (B2.out.mono B1.out.size)) _⟩
set_option maxHeartbeats 1600000 in
theorem splitUnit_n (s : ByteArray) (w : World) (hU : Hid (Units w)) (hs : s.size ≤ 1048576) (hm : Hid (Lib.hasSuffix s.data.toList [109] = false)) (hk : Hid (Lib.hasSuffix s.data.toList [107] = false)) :
    Calls Tryd.prog 29 #[.string s] w (SaysUnit w s 1) := by
  obtain ⟨c0, c1, c2, c3⟩ := hU.out
  have i0 := unit_at0
  have i1 := unit_at1
  go_enter Tryd.func29, Tryd.ntmps29
  go_wp2_with fail
  refine wp_loop_rounds 3 ?_
  obtain ⟨x, hx⟩ : ∃ x : ByteArray, (⟨(Lib.trimSuffix s.data.toList [109]).toArray⟩ : ByteArray) = x := ⟨_, rfl⟩
  have HX := Lib.hid hx
  clear hx
  obtain ⟨y, hy⟩ : ∃ y : ByteArray, (⟨(Lib.trimSuffix s.data.toList [107]).toArray⟩ : ByteArray) = y := ⟨_, rfl⟩
  have HY := Lib.hid hy
  clear hy
  rw [rounds_succ]
  go_wp2_with (go_at_call 42; refine (Tryd.strings_CutSuffix s _ _ (by omega)).mono ?_; rw [show (ByteArray.mk #[109]).data.toList = [109] from rfl, hm.out, HX.out]; rintro e w1 ⟨rfl, hw⟩; obtain ⟨k2, k3⟩ := unit_cells _ _ _ _ _ hw; have B1 := Lib.hid (unit_below _ _ _ _ _ hw); clear hw)
  rw [rounds_succ]
  go_wp2_with (go_at_call 42; refine (Tryd.strings_CutSuffix s _ _ (by omega)).mono ?_; rw [show (ByteArray.mk #[107]).data.toList = [107] from rfl, hk.out, HY.out]; rintro e w2 ⟨rfl, hw⟩; obtain ⟨k4, k5⟩ := unit_cells _ _ _ _ _ hw; have B2 := Lib.hid (unit_below _ _ _ _ _ hw); clear hw)
  rw [rounds_succ]
  go_wp2
  go_ret2
  exact ⟨rfl, B1.out.trans (B2.out.mono B1.out.size)⟩
end Go.Proofs.YteogadbjnmcblaaDoor
