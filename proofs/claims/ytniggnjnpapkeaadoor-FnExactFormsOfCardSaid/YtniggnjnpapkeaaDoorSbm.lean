/- Marking and asking a slice of strings of the call's own. -/
import Derived.Test.YtniggnjnpapkeaaDoorSbt
import Derived.Deep.RegionWith
namespace Go.Proofs.YtniggnjnpapkeaaDoor
set_option maxRecDepth 100000
open Go.RowKit

def mkS (k : Int) : ByteArray := strOfNums [109, 48 + k]
def marksS (n : Nat) : List ByteArray := (List.range n).map fun i : Nat => mkS ((i : Int) + 1)
def markToS (l : List ByteArray) (k : Nat) : List ByteArray := marksS k ++ l.drop k
theorem marksS_length (n : Nat) : (marksS n).length = n := by simp [marksS]
theorem marksS_succ (n : Nat) : marksS (n + 1) = marksS n ++ [mkS ((n : Int) + 1)] := by simp [marksS, List.range_succ]
theorem markToS_zero (l : List ByteArray) : markToS l 0 = l := by simp [markToS, marksS]
theorem markToS_all (l : List ByteArray) : markToS l l.length = marksS l.length := by simp [markToS]
theorem markToS_set (l : List ByteArray) (k : Nat) (h : k < l.length) : (markToS l k).set k (mkS ((k : Int) + 1)) = markToS l (k + 1) := by
  unfold markToS
  rw [List.set_append_right _ _ (by rw [marksS_length]; exact Nat.le_refl _), marksS_length, Nat.sub_self, List.drop_eq_getElem_cons h, List.set_cons_zero, marksS_succ, List.append_assoc]
  rfl
theorem marksS_get (n k : Nat) (h : k < n) : (marksS n).getD k ⟨#[]⟩ = mkS ((k : Int) + 1) := by
  simp [marksS, List.getD_eq_getElem?_getD, h]
def MarkRelS (w : World) (g n cap : Nat) (l : List ByteArray) (m i : Value) (wr : World) : Prop :=
  ∃ k : Nat, k ≤ n ∧ i = .int .i64 k ∧ m = .int .i64 (k + 1) ∧ OwnS wr g g n cap (markToS l k) ∧ OnlyGrown g w wr
set_option maxHeartbeats 800000 in
theorem markStringS_own (g n cap : Nat) (l : List ByteArray) (w : World) (HO : Hid (OwnS w g g n cap l)) (hm : n ≤ 8) :
    Calls Tryd.prog 20 #[.slice (some ⟨g, 0, none⟩) n cap, .int .i64 1] w fun e w' => e = .returned (.int .i64 (n + 1)) ∧ OwnS w' g g n cap (marksS n) ∧ OnlyGrown g w w' := by
  have HL := Lib.hid HO.out.len
  go_enter Tryd.func20, Tryd.ntmps20
  go_wp2
  go_loopw [1, 5] (fun m i wr => MarkRelS w g n cap l m i wr) (fun _ i _ => n - (intOf i).toNat)
  case atStart => exact ⟨0, Nat.zero_le _, rfl, rfl, by rw [markToS_zero]; exact HO.out, OnlyGrown.refl _ _⟩
  case round =>
    obtain ⟨k, hk, rfl, rfl, ho, hb⟩ := hrel
    have HO1 := Lib.hid ho
    have HB1 := Lib.hid hb
    clear ho hb
    by_cases hlt : k < n
    · go_wp2_with (go_at_call 37; refine (markText_any _ (by omega) (by omega) _).mono ?_; rw [show strOfNums [109, 48 + ((k : Int) + 1)] = mkS ((k : Int) + 1) from rfl]; rintro e w1 ⟨rfl, b1⟩; have B1 := Lib.hid b1; have HO2 := Lib.hid (HO1.out.below b1 HO1.out.lt.2); clear b1; have hst := HO2.out.cell k hlt; have hfz : w1.frozen? ⟨g, k, none⟩ = false := World.ownsRow.frozenAt HO2.out k)
      go_roundw
      case rel => exact ⟨k + 1, by omega, by go_num, by go_num, by rw [← markToS_set l k (by have := HL.out; omega)]; exact HO2.out.store k _, HB1.out.step HO1.out.lt.2 B1.out k _⟩
      case measure => simp [intOf]; omega
    · go_wp2
      go_ret
      have e : k = n := by omega
      subst e
      have e2 : markToS l k = marksS k := by have := markToS_all l; rw [HL.out] at this; exact this
      have := HO1.out
      rw [e2] at this
      exact ⟨rfl, this, HB1.out⟩
theorem markStringS_none (a : Option Addr) (ca : Nat) (w : World) :
    Calls Tryd.prog 20 #[.slice a 0 ca, .int .i64 1] w fun e w' => e = .returned (.int .i64 1) ∧ w = w' := by
  go_enter Tryd.func20, Tryd.ntmps20
  go_wp2
  refine wp_loop_rounds 1 ?_
  rw [rounds_succ]
  go_wp2
  go_ret
  exact ⟨rfl, rfl⟩
set_option maxHeartbeats 800000 in
theorem heldStringS_own (B g n cap : Nat) (w : World) (HO : Hid (OwnS w B g n cap (marksS n))) (hm : n ≤ 8) :
    Calls Tryd.prog 21 #[.slice (some ⟨g, 0, none⟩) n cap, .int .i64 1] w fun e w' => e = .returned (.int .i64 (n + 1)) ∧ Below w.heap.size w w' := by
  go_enter Tryd.func21, Tryd.ntmps21
  go_wp2
  go_loopw [1, 5] (fun m i wr => ∃ k : Nat, k ≤ n ∧ i = .int .i64 k ∧ m = .int .i64 (k + 1) ∧ Below w.heap.size w wr) (fun _ i _ => n - (intOf i).toNat)
  case atStart => exact ⟨0, Nat.zero_le _, rfl, rfl, Below.refl _ _⟩
  case round =>
    obtain ⟨k, hk, rfl, rfl, hb⟩ := hrel
    have HB1 := Lib.hid hb
    clear hb
    by_cases hlt : k < n
    · have hst : wr.cell? ⟨g, k, none⟩ = some (.string (mkS ((k : Int) + 1))) := by rw [(HO.out.below HB1.out HO.out.lt.2).cell k hlt, marksS_get n k hlt]
      have hst2 : wr.drew.cell? ⟨g, k, none⟩ = some (.string (mkS ((k : Int) + 1))) := hst
      go_wp2_with fail
      go_region_with (go_at_call 37; refine (markText_any _ (by omega) (by omega) _).mono ?_; rw [show strOfNums [109, 48 + ((k : Int) + 1)] = mkS ((k : Int) + 1) from rfl]; rintro e w1 ⟨rfl, b1⟩; have B1 := Lib.hid b1; have hst3 : w1.cell? ⟨g, k, none⟩ = some (.string (mkS ((k : Int) + 1))) := (b1.cell (p := ⟨g, k, none⟩) (World.block_lt_of_cell? _ _ hst2)).trans hst2; clear b1)
      all_goals
        go_wp2
        go_roundw
        case rel => exact ⟨k + 1, by omega, by go_num, by go_num, (show Below w.heap.size w wr.drew from below_drewN HB1.out 1).trans (B1.out.mono (show w.heap.size ≤ wr.heap.size from HB1.out.size))⟩
        case measure => simp [intOf]; omega
    · go_wp2
      go_ret
      exact ⟨ret_int (by omega), HB1.out⟩
theorem heldStringS_none (a : Option Addr) (ca : Nat) (w : World) :
    Calls Tryd.prog 21 #[.slice a 0 ca, .int .i64 1] w fun e w' => e = .returned (.int .i64 1) ∧ w = w' := by
  go_enter Tryd.func21, Tryd.ntmps21
  go_wp2
  refine wp_loop_rounds 1 ?_
  rw [rounds_succ]
  go_wp2
  go_ret
  exact ⟨rfl, rfl⟩
end Go.Proofs.YtniggnjnpapkeaaDoor
