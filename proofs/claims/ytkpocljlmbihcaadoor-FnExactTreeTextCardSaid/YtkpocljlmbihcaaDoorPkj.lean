import Derived.Test.YtkpocljlmbihcaaDoorPki
import Derived.Test.YtkpocljlmbihcaaDoorPke
/- The model's checks of single filters; bits of a mask; boxes of classes and filters. -/
namespace Go
set_option maxRecDepth 100000
theorem cfb_ofInt (a : Nat) (ha : a < 65536) : (BitVec.ofInt 64 (a : Int)).toNat = a := by
  rw [BitVec.ofInt_natCast, BitVec.toNat_ofNat]; exact Nat.mod_eq_of_lt (by omega)
theorem cfb_small (n : Nat) (h : n < 65536) : IntKind.i64.wrap (n : Int) = (n : Int) := by
  simp [IntKind.wrap, IntKind.bits, IntKind.signed]; omega
theorem cfb_and (v m : Nat) (hv : v < 65536) (hm : m < 65536) : bits .and .i64 (v : Int) (m : Int) = ((v &&& m : Nat) : Int) := by
  have hx : v &&& m ≤ v := Nat.and_le_left
  show IntKind.i64.wrap ((BitVec.ofInt 64 (v : Int) &&& BitVec.ofInt 64 (m : Int)).toNat : Int) = _
  rw [BitVec.toNat_and, cfb_ofInt v hv, cfb_ofInt m hm, cfb_small _ (by omega)]
theorem cfb_bv (x y : BitVec 64) : (x &&& ~~~y = 0#64) ↔ x &&& y = x := by
  constructor
  · intro h
    ext i hi
    have := congrArg (fun z => z.getLsbD i) h
    simp at this ⊢
    cases hx : x.getLsbD i <;> cases hy : y.getLsbD i <;> simp_all
  · intro h
    ext i hi
    have := congrArg (fun z => z.getLsbD i) h
    simp at this ⊢
    cases hx : x.getLsbD i <;> cases hy : y.getLsbD i <;> simp_all
theorem cfb_andNot (v m : Nat) (hv : v < 65536) (hm : m < 65536) : (bits .andNot .i64 (v : Int) (m : Int) == 0) = decide (v &&& m = v) := by
  show (IntKind.i64.wrap ((BitVec.ofInt 64 (v : Int) &&& ~~~BitVec.ofInt 64 (m : Int)).toNat : Int) == 0) = _
  have hx : (BitVec.ofInt 64 (v : Int) &&& ~~~BitVec.ofInt 64 (m : Int)).toNat ≤ v := by
    rw [BitVec.toNat_and, cfb_ofInt v hv]; exact Nat.and_le_left
  rw [cfb_small _ (by omega)]
  apply Bool.eq_iff_iff.2
  rw [beq_iff_eq, decide_eq_true_iff]
  have h1 : ((BitVec.ofInt 64 (v : Int) &&& ~~~BitVec.ofInt 64 (m : Int)).toNat : Int) = 0 ↔ (BitVec.ofInt 64 (v : Int) &&& ~~~BitVec.ofInt 64 (m : Int)) = 0#64 := by
    rw [show ((0 : Int)) = ((0 : Nat) : Int) from rfl, Int.ofNat_inj]
    constructor
    · intro h; apply BitVec.eq_of_toNat_eq; rw [h]; rfl
    · intro h; rw [h]; rfl
  rw [h1, cfb_bv, BitVec.toNat_eq, BitVec.toNat_and, cfb_ofInt v hv, cfb_ofInt m hm]
end Go
namespace Go.Proofs.YtkpocljlmbihcaaDoor
open Go.RowKit
set_option linter.unusedVariables false

theorem and_bits {v m : Int} (h : 0 ≤ v ∧ v ≤ 65535) (k : 0 ≤ m ∧ m ≤ 65535) : (bits .and .i64 v m == v) = bitB v m := by
  obtain ⟨a, rfl⟩ := Int.eq_ofNat_of_zero_le h.1
  obtain ⟨b, rfl⟩ := Int.eq_ofNat_of_zero_le k.1
  rw [cfb_and a b (by omega) (by omega)]
  unfold bitB
  apply Bool.eq_iff_iff.2
  rw [beq_iff_eq, decide_eq_true_iff, Int.toNat_natCast, Int.toNat_natCast]
  omega
theorem andNot_bits {v m : Int} (h : 0 ≤ v ∧ v ≤ 65535) (k : 0 ≤ m ∧ m ≤ 65535) : (bits .andNot .i64 v m == 0) = bitB v m := by
  obtain ⟨a, rfl⟩ := Int.eq_ofNat_of_zero_le h.1
  obtain ⟨b, rfl⟩ := Int.eq_ofNat_of_zero_le k.1
  rw [cfb_andNot a b (by omega) (by omega)]
  unfold bitB
  rw [Int.toNat_natCast, Int.toNat_natCast]
def FltSelf (x : Flt) : Bool := inB x.o 1 99 && patOk x
theorem flt_self (x : Flt) (b : Int) (hb : 0 ≤ b) (h : FltSelf x = false) : (decide (b < x.o) && (decide (x.o ≤ 99) && patOk x)) = false := by
  unfold FltSelf at h
  rcases inBR_cases x.o 1 99 with ⟨a, c, e⟩ | ⟨a, e⟩ | ⟨a, c, e⟩
  · rw [e, Bool.true_and] at h; rw [h]; simp
  · rw [not_lt (show x.o ≤ b by omega)]; rfl
  · rw [not_le c]; simp
theorem flt_self_t (x : Flt) (b : Int) (h : FltSelf x = true) : 0 < x.o ∧ (decide (b < x.o) && (decide (x.o ≤ 99) && patOk x)) = decide (b < x.o) := by
  unfold FltSelf at h
  rw [Bool.and_eq_true] at h
  have := inBR_iff.1 h.1
  rw [h.2, is_le this.2]
  exact ⟨by omega, by simp⟩
theorem cls_self (x : Cls) (b : Int) (hb : 0 ≤ b) (h : ClsSelf x = false) : (decide (b < x.i) && (decide (x.i ≤ 999) && rateOk x)) = false := by
  unfold ClsSelf at h
  rcases inBR_cases x.i 1 999 with ⟨a, c, e⟩ | ⟨a, e⟩ | ⟨a, c, e⟩
  · rw [e, Bool.true_and] at h; rw [h]; simp
  · rw [not_lt (show x.i ≤ b by omega)]; rfl
  · rw [not_le c]; simp
theorem cls_self_t (x : Cls) (b : Int) (h : ClsSelf x = true) : 0 < x.i ∧ (decide (b < x.i) && (decide (x.i ≤ 999) && rateOk x)) = decide (b < x.i) := by
  unfold ClsSelf at h
  rw [Bool.and_eq_true] at h
  have := inBR_iff.1 h.1
  rw [h.2, is_le this.2]
  exact ⟨by omega, by simp⟩
/-! Boxes. -/
theorem box_at {w w1 : World} {a : Array Value} {t : TypeId} (b : Below (w.alloc (.cells a t)).heap.size (w.alloc (.cells a t)) w1) (k : Nat) (v : Value) (hv : a[k]? = some v) : w1.cell? ⟨w.heap.size, k, none⟩ = some v := by
  rw [(bcell b).1 w.heap.size k (by simp)]
  simp [go_sem, hv]
def EightB (w : World) (g : Nat) (x : Cls) : Prop := w.cell? ⟨g, 0, none⟩ = some (.int .i64 x.i) ∧ w.cell? ⟨g, 1, none⟩ = some (.int .i64 x.p) ∧ w.cell? ⟨g, 2, none⟩ = some (.int .i64 x.r) ∧ w.cell? ⟨g, 3, none⟩ = some (.int .i64 x.e) ∧
  w.cell? ⟨g, 4, none⟩ = some (.int .i64 x.b) ∧ w.cell? ⟨g, 5, none⟩ = some (.int .i64 x.u) ∧ w.cell? ⟨g, 6, none⟩ = some (.int .i64 x.o) ∧ w.cell? ⟨g, 7, none⟩ = some (.int .i64 x.l)
theorem box_eight {w w1 : World} {xi xp xr xe xb xu xo xl : Int} {t : TypeId} (b : Below (w.alloc (.cells #[.int .i64 xi, .int .i64 xp, .int .i64 xr, .int .i64 xe, .int .i64 xb, .int .i64 xu, .int .i64 xo, .int .i64 xl] t)).heap.size (w.alloc (.cells #[.int .i64 xi, .int .i64 xp, .int .i64 xr, .int .i64 xe, .int .i64 xb, .int .i64 xu, .int .i64 xo, .int .i64 xl] t)) w1) :
    EightB w1 w.heap.size ⟨xi, xp, xr, xe, xb, xu, xo, xl⟩ ∧ Below w.heap.size w w1 :=
  ⟨⟨box_at b 0 _ rfl, box_at b 1 _ rfl, box_at b 2 _ rfl, box_at b 3 _ rfl, box_at b 4 _ rfl, box_at b 5 _ rfl, box_at b 6 _ rfl, box_at b 7 _ rfl⟩, (one_new2 w _).trans (b.mono (by simp))⟩
def FiveB (w : World) (g : Nat) (x : Flt) : Prop := w.cell? ⟨g, 0, none⟩ = some (.int .i64 x.o) ∧ w.cell? ⟨g, 1, none⟩ = some (.int .i64 x.f) ∧ w.cell? ⟨g, 2, none⟩ = some (.int .i64 x.m) ∧ w.cell? ⟨g, 3, none⟩ = some (.int .i64 x.v) ∧ w.cell? ⟨g, 4, none⟩ = some (.int .i64 x.t)
theorem box_five {w w1 : World} {xo xf xm xv xt : Int} {t : TypeId} (b : Below (w.alloc (.cells #[.int .i64 xo, .int .i64 xf, .int .i64 xm, .int .i64 xv, .int .i64 xt] t)).heap.size (w.alloc (.cells #[.int .i64 xo, .int .i64 xf, .int .i64 xm, .int .i64 xv, .int .i64 xt] t)) w1) :
    FiveB w1 w.heap.size ⟨xo, xf, xm, xv, xt⟩ ∧ Below w.heap.size w w1 :=
  ⟨⟨box_at b 0 _ rfl, box_at b 1 _ rfl, box_at b 2 _ rfl, box_at b 3 _ rfl, box_at b 4 _ rfl⟩, (one_new2 w _).trans (b.mono (by simp))⟩
theorem drew_on {w w1 : World} (b : Below w.drew.heap.size w.drew w1) : Below w.heap.size w w1 := (below_drewN (Below.refl _ w) 1).trans b
set_option maxHeartbeats 1600000 in
theorem cfFilter_any (x : Flt) (w : World) : Calls Tryd.prog 25 #[fltV x] w (SaysB w (FltSelf x)) := by
  obtain ⟨b7, d7⟩ : ∃ b, (bits .and .i64 x.v x.m == x.v) = b := ⟨_, rfl⟩
  have HX : Hid (FltSelf x = (inB x.o 1 99 && (inB x.f 0 3 && (inB x.m 0 65535 && (inB x.v 0 65535 && b7))))) := Lib.hid (by
    unfold FltSelf patOk
    cases hm : inB x.m 0 65535
    · rfl
    cases hv : inB x.v 0 65535
    · rfl
    rw [← d7, and_bits (inBR_iff.1 hv) (inBR_iff.1 hm)])
  have H1 := Lib.hid (fun w => l1In_any x.o 1 99 w)
  have H2 := Lib.hid (fun w => l1In_any x.f 0 3 w)
  have H3 := Lib.hid (fun w => l1In_any x.m 0 65535 w)
  have H4 := Lib.hid (fun w => l1In_any x.v 0 65535 w)
  generalize inB x.o 1 99 = b1 at HX H1
  generalize inB x.f 0 3 = b2 at HX H2
  generalize inB x.m 0 65535 = b3 at HX H3
  generalize inB x.v 0 65535 = b4 at HX H4
  generalize FltSelf x = B at HX ⊢
  obtain ⟨xo, xf, xm, xv, xt⟩ := x
  unfold fltV
  simp only at d7 H1 H2 H3 H4 ⊢
  go_enter Tryd.func25, Tryd.ntmps25
  go_wp2_with (first | (go_at_call 26; (with_reducible refine (H1.out _).mono ?_); rintro e w' ⟨rfl, rfl⟩) | (go_at_call 26; (with_reducible refine (H2.out _).mono ?_); rintro e w' ⟨rfl, rfl⟩) | (go_at_call 26; (with_reducible refine (H3.out _).mono ?_); rintro e w' ⟨rfl, rfl⟩) | (go_at_call 26; (with_reducible refine (H4.out _).mono ?_); rintro e w' ⟨rfl, rfl⟩))
  all_goals
    go_ret
    exact ⟨ret_bool (by rw [HX.out]; simp_all), one_new2 _ _⟩
end Go.Proofs.YtkpocljlmbihcaaDoor

/- Hexadecimal texts of values: contracts of HexText, program and model. -/
namespace Go.Proofs.YtkpocljlmbihcaaDoor
set_option maxRecDepth 100000
open Go.RowKit

/-- 1 if a truth value is true -/
def trueOf : Value → Nat
  | .bool true => 1
  | _ => 0
theorem trueOf_t : trueOf (.bool true) = 1 := rfl
theorem trueOf_f : trueOf (.bool false) = 0 := rfl
/-- at each round's head of the model's loop -/
def HxRel (n : Nat) (x s b : Value) : Prop := ∃ (m : Nat) (l : List Int), x = .int .i64 m ∧ s = .string (strOfNums l) ∧ m ≤ n ∧
  ((b = .bool true ∧ Hid (hexN m ++ l = hexN n)) ∨ (b = .bool false ∧ Hid (l = hexN n)))

set_option maxHeartbeats 1600000 in
theorem nuHex_any (n : Nat) (w : World) (hn : (n : Int) ≤ 65535) :
    Calls Tryd.prog 51 #[.int .i64 n] w fun e w' => e = .returned (.string (hexStr n)) ∧ w = w' := by
  have hN := hexN_length n
  go_enter Tryd.func51, Tryd.ntmps51
  go_wp2
  go_loop [0, 3, 4] (fun x s b => HxRel n x s b) (fun x _ b => 2 * (intOf x).toNat + trueOf b)
  case atStart => exact ⟨n, [], rfl, rfl, Nat.le_refl _, .inl ⟨rfl, by unfold Hid; simp⟩⟩
  case round =>
    obtain ⟨m, l, rfl, rfl, hm, hb⟩ := hrel
    rcases hb with ⟨rfl, HP⟩ | ⟨rfl, HP⟩
    · have hz : (strOfNums l).size ≤ 65536 := by
        rw [strOfNums_size]
        have := congrArg List.length HP.out
        simp at this
        omega
      clear hN
      rcases Nat.lt_or_ge m 16 with hlt | hge
      · have hs := sl16 w m hlt
        have hz1 : (strOfNums [hdI (m : Int)]).size ≤ 1 := by rw [strOfNums_size]; simp
        have e1 : (m : Int) % 16 = m := by omega
        have e2 : (m : Int) / 16 = 0 := by omega
        go_wp2
        go_round
        case rel => exact ⟨0, [hdI (m : Int)] ++ l, by go_num, by rw [strOfNums_append], Nat.zero_le _, .inr ⟨rfl, by unfold Hid; rw [← HP.out, hexN_small m hlt]⟩⟩
        case measure => simp [intOf, trueOf]
      · have hs : (Instr.slice 9 (.string ⟨#[48, 49, 50, 51, 52, 53, 54, 55, 56, 57, 97, 98, 99, 100, 101, 102]⟩) (some (.int .i64 ((m : Int) % 16))) (some (.int .i64 ((m : Int) % 16 + 1))) none).run Tryd.prog w = .ok (.string (strOfNums [hdI ((m : Int) % 16)])) w := sl16 w (m % 16) (Nat.mod_lt _ (by omega))
        have hz1 : (strOfNums [hdI ((m : Int) % 16)]).size ≤ 1 := by rw [strOfNums_size]; simp
        have e2 : decide ((0 : Int) < (m : Int) / 16) = true := by simp; omega
        go_wp2
        go_round
        case rel => exact ⟨m / 16, [hdI ((m : Int) % 16)] ++ l, by go_num, by rw [strOfNums_append], by omega, .inl ⟨rfl, by unfold Hid; rw [← HP.out, hexN_big m hge, List.append_assoc]⟩⟩
        case measure => simp [intOf, trueOf]; omega
    · have hz : (strOfNums l).size ≤ 65536 := by
        rw [strOfNums_size]
        have := congrArg List.length HP.out
        omega
      clear hN
      go_wp2
      go_ret
      refine ⟨str_ret ?_, rfl⟩
      have e : (⟨#[48, 120]⟩ : ByteArray) = strOfNums [48, 120] := rfl
      rw [e, strOfNums_append, hexStr, ← HP.out]
      rfl

theorem implHexText_big (n : Int) (w : World) (h : 65535 < n) :
    Calls Tryd.prog 29 #[.int .i64 n] w fun e w' => e = .returned (.tuple #[.string ⟨#[]⟩, .bool false]) ∧ w = w' := by
  have d := is_lt h
  go_enter Tryd.func29, Tryd.ntmps29
  go_wp2
  go_ret2
  exact ⟨rfl, rfl⟩
theorem implHexText_of (n : Int) (w : World) (h : n ≤ 65535) (s : ByteArray) (b : Bool) (hc : Hid (Calls Tryd.prog 52 #[.int .i64 n] w (SaysStrB w s b))) :
    Calls Tryd.prog 29 #[.int .i64 n] w (SaysStrB w s b) := by
  have d := not_lt h
  go_enter Tryd.func29, Tryd.ntmps29
  go_wp2_with (go_at_call 52; refine hc.out.mono ?_; rintro e w1 ⟨rfl, b1⟩; have B1 := Lib.hid b1; clear b1)
  go_ret2
  exact ⟨rfl, B1.out⟩

end Go.Proofs.YtkpocljlmbihcaaDoor
