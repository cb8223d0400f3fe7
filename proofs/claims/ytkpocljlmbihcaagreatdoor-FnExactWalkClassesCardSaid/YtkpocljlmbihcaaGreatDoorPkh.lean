import Derived.Test.YtkpocljlmbihcaaGreatDoorPkd
/- Hexadecimal texts of values: contracts of HexText, program and model. -/
namespace Go.Proofs.YtkpocljlmbihcaaGreatDoor
set_option maxRecDepth 100000
open Go.RowKit

/-- 1 if a truth value is true -/
def trueOf : Value → Nat
  | .bool true => 1
  | _ => 0
theorem trueOf_t : trueOf (.bool true) = 1 := rfl
theorem trueOf_f : trueOf (.bool false) = 0 := rfl
/-- at each round's head of the model's loop -/
def HxRel (n : Nat) (x s b : Value) : Prop := ∃ (m : Nat) (l : List Int), x = .int .i64 m ∧ s = .string (strOfNums l) ∧ m ≤ n ∧
  ((b = .bool true ∧ Hid (hexN m ++ l = hexN n)) ∨ (b = .bool false ∧ Hid (l = hexN n)))

set_option maxHeartbeats 1600000 in
theorem nuHex_any (n : Nat) (w : World) (hn : (n : Int) ≤ 65535) :
    Calls Tryz.prog 70 #[.int .i64 n] w fun e w' => e = .returned (.string (hexStr n)) ∧ w = w' := by
  have hN := hexN_length n
  go_enter Tryz.func70, Tryz.ntmps70
  go_wp2
  go_loop [0, 3, 4] (fun x s b => HxRel n x s b) (fun x _ b => 2 * (intOf x).toNat + trueOf b)
  case atStart => exact ⟨n, [], rfl, rfl, Nat.le_refl _, .inl ⟨rfl, by unfold Hid; simp⟩⟩
  case round =>
    obtain ⟨m, l, rfl, rfl, hm, hb⟩ := hrel
    rcases hb with ⟨rfl, HP⟩ | ⟨rfl, HP⟩
    · have hz : (strOfNums l).size ≤ 65536 := by
        rw [strOfNums_size]
        have := congrArg List.length HP.out
        simp at this
        omega
      clear hN
      rcases Nat.lt_or_ge m 16 with hlt | hge
      · have hs := sl16 w m hlt
        have hz1 : (strOfNums [hdI (m : Int)]).size ≤ 1 := by rw [strOfNums_size]; simp
        have e1 : (m : Int) % 16 = m := by omega
        have e2 : (m : Int) / 16 = 0 := by omega
        go_wp2
        go_round
        case rel => exact ⟨0, [hdI (m : Int)] ++ l, by go_num, by rw [strOfNums_append], Nat.zero_le _, .inr ⟨rfl, by unfold Hid; rw [← HP.out, hexN_small m hlt]⟩⟩
        case measure => simp [intOf, trueOf]
      · have hs : (Instr.slice 9 (.string ⟨#[48, 49, 50, 51, 52, 53, 54, 55, 56, 57, 97, 98, 99, 100, 101, 102]⟩) (some (.int .i64 ((m : Int) % 16))) (some (.int .i64 ((m : Int) % 16 + 1))) none).run Tryz.prog w = .ok (.string (strOfNums [hdI ((m : Int) % 16)])) w := sl16 w (m % 16) (Nat.mod_lt _ (by omega))
        have hz1 : (strOfNums [hdI ((m : Int) % 16)]).size ≤ 1 := by rw [strOfNums_size]; simp
        have e2 : decide ((0 : Int) < (m : Int) / 16) = true := by simp; omega
        go_wp2
        go_round
        case rel => exact ⟨m / 16, [hdI ((m : Int) % 16)] ++ l, by go_num, by rw [strOfNums_append], by omega, .inl ⟨rfl, by unfold Hid; rw [← HP.out, hexN_big m hge, List.append_assoc]⟩⟩
        case measure => simp [intOf, trueOf]; omega
    · have hz : (strOfNums l).size ≤ 65536 := by
        rw [strOfNums_size]
        have := congrArg List.length HP.out
        omega
      clear hN
      go_wp2
      go_ret
      refine ⟨str_ret ?_, rfl⟩
      have e : (⟨#[48, 120]⟩ : ByteArray) = strOfNums [48, 120] := rfl
      rw [e, strOfNums_append, hexStr, ← HP.out]
      rfl

theorem implHexText_big (n : Int) (w : World) (h : 65535 < n) :
    Calls Tryz.prog 106 #[.int .i64 n] w fun e w' => e = .returned (.tuple #[.string ⟨#[]⟩, .bool false]) ∧ w = w' := by
  have d := is_lt h
  go_enter Tryz.func106, Tryz.ntmps106
  go_wp2
  go_ret2
  exact ⟨rfl, rfl⟩
theorem implHexText_of (n : Int) (w : World) (h : n ≤ 65535) (s : ByteArray) (b : Bool) (hc : Hid (Calls Tryz.prog 121 #[.int .i64 n] w (SaysStrB w s b))) :
    Calls Tryz.prog 106 #[.int .i64 n] w (SaysStrB w s b) := by
  have d := not_lt h
  go_enter Tryz.func106, Tryz.ntmps106
  go_wp2_with (go_at_call 121; refine hc.out.mono ?_; rintro e w1 ⟨rfl, b1⟩; have B1 := Lib.hid b1; clear b1)
  go_ret2
  exact ⟨rfl, B1.out⟩

end Go.Proofs.YtkpocljlmbihcaaGreatDoor
