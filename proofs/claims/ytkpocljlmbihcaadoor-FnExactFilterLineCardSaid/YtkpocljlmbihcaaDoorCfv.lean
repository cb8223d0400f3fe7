/- The model's checks of single filters; bits of a mask; boxes of classes and filters. -/
import Derived.Test.YtkpocljlmbihcaaDoorCfu
namespace Go
set_option maxRecDepth 100000
theorem cfb_ofInt (a : Nat) (ha : a < 65536) : (BitVec.ofInt 64 (a : Int)).toNat = a := by
  rw [BitVec.ofInt_natCast, BitVec.toNat_ofNat]; exact Nat.mod_eq_of_lt (by omega)
theorem cfb_small (n : Nat) (h : n < 65536) : IntKind.i64.wrap (n : Int) = (n : Int) := by
  simp [IntKind.wrap, IntKind.bits, IntKind.signed]; omega
theorem cfb_and (v m : Nat) (hv : v < 65536) (hm : m < 65536) : bits .and .i64 (v : Int) (m : Int) = ((v &&& m : Nat) : Int) := by
  have hx : v &&& m ≤ v := Nat.and_le_left
  show IntKind.i64.wrap ((BitVec.ofInt 64 (v : Int) &&& BitVec.ofInt 64 (m : Int)).toNat : Int) = _
  rw [BitVec.toNat_and, cfb_ofInt v hv, cfb_ofInt m hm, cfb_small _ (by omega)]
theorem cfb_bv (x y : BitVec 64) : (x &&& ~~~y = 0#64) ↔ x &&& y = x := by
  constructor
  · intro h
    ext i hi
    have := congrArg (fun z => z.getLsbD i) h
    simp at this ⊢
    cases hx : x.getLsbD i <;> cases hy : y.getLsbD i <;> simp_all
  · intro h
    ext i hi
    have := congrArg (fun z => z.getLsbD i) h
    simp at this ⊢
    cases hx : x.getLsbD i <;> cases hy : y.getLsbD i <;> simp_all
theorem cfb_andNot (v m : Nat) (hv : v < 65536) (hm : m < 65536) : (bits .andNot .i64 (v : Int) (m : Int) == 0) = decide (v &&& m = v) := by
  show (IntKind.i64.wrap ((BitVec.ofInt 64 (v : Int) &&& ~~~BitVec.ofInt 64 (m : Int)).toNat : Int) == 0) = _
  have hx : (BitVec.ofInt 64 (v : Int) &&& ~~~BitVec.ofInt 64 (m : Int)).toNat ≤ v := by
    rw [BitVec.toNat_and, cfb_ofInt v hv]; exact Nat.and_le_left
  rw [cfb_small _ (by omega)]
  apply Bool.eq_iff_iff.2
  rw [beq_iff_eq, decide_eq_true_iff]
  have h1 : ((BitVec.ofInt 64 (v : Int) &&& ~~~BitVec.ofInt 64 (m : Int)).toNat : Int) = 0 ↔ (BitVec.ofInt 64 (v : Int) &&& ~~~BitVec.ofInt 64 (m : Int)) = 0#64 := by
    rw [show ((0 : Int)) = ((0 : Nat) : Int) from rfl, Int.ofNat_inj]
    constructor
    · intro h; apply BitVec.eq_of_toNat_eq; rw [h]; rfl
    · intro h; rw [h]; rfl
  rw [h1, cfb_bv, BitVec.toNat_eq, BitVec.toNat_and, cfb_ofInt v hv, cfb_ofInt m hm]
end Go
namespace Go.Proofs.YtkpocljlmbihcaaDoor
open Go.RowKit
set_option linter.unusedVariables false

theorem and_bits {v m : Int} (h : 0 ≤ v ∧ v ≤ 65535) (k : 0 ≤ m ∧ m ≤ 65535) : (bits .and .i64 v m == v) = bitB v m := by
  obtain ⟨a, rfl⟩ := Int.eq_ofNat_of_zero_le h.1
  obtain ⟨b, rfl⟩ := Int.eq_ofNat_of_zero_le k.1
  rw [cfb_and a b (by omega) (by omega)]
  unfold bitB
  apply Bool.eq_iff_iff.2
  rw [beq_iff_eq, decide_eq_true_iff, Int.toNat_natCast, Int.toNat_natCast]
  omega
theorem andNot_bits {v m : Int} (h : 0 ≤ v ∧ v ≤ 65535) (k : 0 ≤ m ∧ m ≤ 65535) : (bits .andNot .i64 v m == 0) = bitB v m := by
  obtain ⟨a, rfl⟩ := Int.eq_ofNat_of_zero_le h.1
  obtain ⟨b, rfl⟩ := Int.eq_ofNat_of_zero_le k.1
  rw [cfb_andNot a b (by omega) (by omega)]
  unfold bitB
  rw [Int.toNat_natCast, Int.toNat_natCast]
def FltSelf (x : Flt) : Bool := inB x.o 1 99 && patOk x
theorem flt_self (x : Flt) (b : Int) (hb : 0 ≤ b) (h : FltSelf x = false) : (decide (b < x.o) && (decide (x.o ≤ 99) && patOk x)) = false := by
  unfold FltSelf at h
  rcases inBR_cases x.o 1 99 with ⟨a, c, e⟩ | ⟨a, e⟩ | ⟨a, c, e⟩
  · rw [e, Bool.true_and] at h; rw [h]; simp
  · rw [not_lt (show x.o ≤ b by omega)]; rfl
  · rw [not_le c]; simp
theorem flt_self_t (x : Flt) (b : Int) (h : FltSelf x = true) : 0 < x.o ∧ (decide (b < x.o) && (decide (x.o ≤ 99) && patOk x)) = decide (b < x.o) := by
  unfold FltSelf at h
  rw [Bool.and_eq_true] at h
  have := inBR_iff.1 h.1
  rw [h.2, is_le this.2]
  exact ⟨by omega, by simp⟩
theorem cls_self (x : Cls) (b : Int) (hb : 0 ≤ b) (h : ClsSelf x = false) : (decide (b < x.i) && (decide (x.i ≤ 999) && rateOk x)) = false := by
  unfold ClsSelf at h
  rcases inBR_cases x.i 1 999 with ⟨a, c, e⟩ | ⟨a, e⟩ | ⟨a, c, e⟩
  · rw [e, Bool.true_and] at h; rw [h]; simp
  · rw [not_lt (show x.i ≤ b by omega)]; rfl
  · rw [not_le c]; simp
theorem cls_self_t (x : Cls) (b : Int) (h : ClsSelf x = true) : 0 < x.i ∧ (decide (b < x.i) && (decide (x.i ≤ 999) && rateOk x)) = decide (b < x.i) := by
  unfold ClsSelf at h
  rw [Bool.and_eq_true] at h
  have := inBR_iff.1 h.1
  rw [h.2, is_le this.2]
  exact ⟨by omega, by simp⟩
/-! Boxes. -/
theorem box_at {w w1 : World} {a : Array Value} {t : TypeId} (b : Below (w.alloc (.cells a t)).heap.size (w.alloc (.cells a t)) w1) (k : Nat) (v : Value) (hv : a[k]? = some v) : w1.cell? ⟨w.heap.size, k, none⟩ = some v := by
  rw [(bcell b).1 w.heap.size k (by simp)]
  simp [go_sem, hv]
def EightB (w : World) (g : Nat) (x : Cls) : Prop := w.cell? ⟨g, 0, none⟩ = some (.int .i64 x.i) ∧ w.cell? ⟨g, 1, none⟩ = some (.int .i64 x.p) ∧ w.cell? ⟨g, 2, none⟩ = some (.int .i64 x.r) ∧ w.cell? ⟨g, 3, none⟩ = some (.int .i64 x.e) ∧
  w.cell? ⟨g, 4, none⟩ = some (.int .i64 x.b) ∧ w.cell? ⟨g, 5, none⟩ = some (.int .i64 x.u) ∧ w.cell? ⟨g, 6, none⟩ = some (.int .i64 x.o) ∧ w.cell? ⟨g, 7, none⟩ = some (.int .i64 x.l)
theorem box_eight {w w1 : World} {xi xp xr xe xb xu xo xl : Int} {t : TypeId} (b : Below (w.alloc (.cells #[.int .i64 xi, .int .i64 xp, .int .i64 xr, .int .i64 xe, .int .i64 xb, .int .i64 xu, .int .i64 xo, .int .i64 xl] t)).heap.size (w.alloc (.cells #[.int .i64 xi, .int .i64 xp, .int .i64 xr, .int .i64 xe, .int .i64 xb, .int .i64 xu, .int .i64 xo, .int .i64 xl] t)) w1) :
    EightB w1 w.heap.size ⟨xi, xp, xr, xe, xb, xu, xo, xl⟩ ∧ Below w.heap.size w w1 :=
  ⟨⟨box_at b 0 _ rfl, box_at b 1 _ rfl, box_at b 2 _ rfl, box_at b 3 _ rfl, box_at b 4 _ rfl, box_at b 5 _ rfl, box_at b 6 _ rfl, box_at b 7 _ rfl⟩, (one_new2 w _).trans (b.mono (by simp))⟩
def FiveB (w : World) (g : Nat) (x : Flt) : Prop := w.cell? ⟨g, 0, none⟩ = some (.int .i64 x.o) ∧ w.cell? ⟨g, 1, none⟩ = some (.int .i64 x.f) ∧ w.cell? ⟨g, 2, none⟩ = some (.int .i64 x.m) ∧ w.cell? ⟨g, 3, none⟩ = some (.int .i64 x.v) ∧ w.cell? ⟨g, 4, none⟩ = some (.int .i64 x.t)
theorem box_five {w w1 : World} {xo xf xm xv xt : Int} {t : TypeId} (b : Below (w.alloc (.cells #[.int .i64 xo, .int .i64 xf, .int .i64 xm, .int .i64 xv, .int .i64 xt] t)).heap.size (w.alloc (.cells #[.int .i64 xo, .int .i64 xf, .int .i64 xm, .int .i64 xv, .int .i64 xt] t)) w1) :
    FiveB w1 w.heap.size ⟨xo, xf, xm, xv, xt⟩ ∧ Below w.heap.size w w1 :=
  ⟨⟨box_at b 0 _ rfl, box_at b 1 _ rfl, box_at b 2 _ rfl, box_at b 3 _ rfl, box_at b 4 _ rfl⟩, (one_new2 w _).trans (b.mono (by simp))⟩
theorem drew_on {w w1 : World} (b : Below w.drew.heap.size w.drew w1) : Below w.heap.size w w1 := (below_drewN (Below.refl _ w) 1).trans b
set_option maxHeartbeats 1600000 in
theorem cfFilter_any (x : Flt) (w : World) : Calls Tryd.prog 25 #[fltV x] w (SaysB w (FltSelf x)) := by
  obtain ⟨b7, d7⟩ : ∃ b, (bits .and .i64 x.v x.m == x.v) = b := ⟨_, rfl⟩
  have HX : Hid (FltSelf x = (inB x.o 1 99 && (inB x.f 0 3 && (inB x.m 0 65535 && (inB x.v 0 65535 && b7))))) := Lib.hid (by
    unfold FltSelf patOk
    cases hm : inB x.m 0 65535
    · rfl
    cases hv : inB x.v 0 65535
    · rfl
    rw [← d7, and_bits (inBR_iff.1 hv) (inBR_iff.1 hm)])
  have H1 := Lib.hid (fun w => l1In_any x.o 1 99 w)
  have H2 := Lib.hid (fun w => l1In_any x.f 0 3 w)
  have H3 := Lib.hid (fun w => l1In_any x.m 0 65535 w)
  have H4 := Lib.hid (fun w => l1In_any x.v 0 65535 w)
  generalize inB x.o 1 99 = b1 at HX H1
  generalize inB x.f 0 3 = b2 at HX H2
  generalize inB x.m 0 65535 = b3 at HX H3
  generalize inB x.v 0 65535 = b4 at HX H4
  generalize FltSelf x = B at HX ⊢
  obtain ⟨xo, xf, xm, xv, xt⟩ := x
  unfold fltV
  simp only at d7 H1 H2 H3 H4 ⊢
  go_enter Tryd.func25, Tryd.ntmps25
  go_wp2_with (first | (go_at_call 26; (with_reducible refine (H1.out _).mono ?_); rintro e w' ⟨rfl, rfl⟩) | (go_at_call 26; (with_reducible refine (H2.out _).mono ?_); rintro e w' ⟨rfl, rfl⟩) | (go_at_call 26; (with_reducible refine (H3.out _).mono ?_); rintro e w' ⟨rfl, rfl⟩) | (go_at_call 26; (with_reducible refine (H4.out _).mono ?_); rintro e w' ⟨rfl, rfl⟩))
  all_goals
    go_ret
    exact ⟨ret_bool (by rw [HX.out]; simp_all), one_new2 _ _⟩
end Go.Proofs.YtkpocljlmbihcaaDoor
