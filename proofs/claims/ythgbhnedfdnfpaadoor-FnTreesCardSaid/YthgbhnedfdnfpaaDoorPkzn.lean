import Derived.Test.YthgbhnedfdnfpaaDoorPkzm
import Derived.Test.YthgbhnedfdnfpaaDoorPkc
import Derived.Deep.RegionWith
import Derived.Test.YthgbhnedfdnfpaaDoorPkzl
import Derived.Deep.QuietTactic
import Derived.BigQuiet
import Derived.Lib.ItoaMem
import Derived.Lib.AppendIntMem
import Derived.Test.YthgbhnedfdnfpaaDoorPka
import Derived.Deep.AppendLies
import Derived.Deep.RegionLaw
/- Digits of a row: contracts of the model's nuDigits. -/
namespace Go.Proofs.YthgbhnedfdnfpaaDoor
set_option maxRecDepth 100000
open Go.RowKit

/-- the number, or -1 -/
def optM (o : Option Int) : Int := o.getD (-1)
def SaysInt (w : World) (n : Int) (e : Ending) (w' : World) : Prop := e = .returned (.int .i64 n) ∧ w = w'
/-- how far the model is: the number is within the limit, or beyond it -/
def NdSt (b lim : Int) (s : ByteArray) (o : Option Int) (k : Nat) (t : Int) : Prop := (t ≤ lim ∧ Hid (rdN b lim (s.data.toList.drop k) t = o)) ∨ (lim < t ∧ Hid (o = none))
def NdRel (b lim : Int) (s : ByteArray) (o : Option Int) (n i : Value) : Prop :=
  ∃ (k : Nat) (t : Int), k ≤ s.size ∧ i = .int .i64 k ∧ n = .int .i64 t ∧ 0 ≤ t ∧ t ≤ 20000000000 ∧ NdSt b lim s o k t
theorem nd_big {b lim : Int} {s : ByteArray} {o : Option Int} {k : Nat} {t : Int} (h : NdSt b lim s o k t) (c : lim < t) : optM o = -1 := by
  rcases h with ⟨h, _⟩ | ⟨_, h⟩
  · omega
  · rw [h.out]; rfl
theorem nd_good {b lim : Int} {s : ByteArray} {o : Option Int} {k : Nat} {t : Int} (h : NdSt b lim s o k t) (c : t ≤ lim) : rdN b lim (s.data.toList.drop k) t = o := by
  rcases h with ⟨_, h⟩ | ⟨h, _⟩
  · exact h.out
  · omega
theorem nd_none {b lim : Int} {s : ByteArray} {o : Option Int} {k : Nat} {t : Int} (h : NdSt b lim s o k t) (e : rdN b lim (s.data.toList.drop k) t = none) : optM o = -1 := by
  rcases h with ⟨_, h⟩ | ⟨_, h⟩
  · rw [← h.out, e]; rfl
  · rw [h.out]; rfl
theorem nd_step (b lim : Int) (s : ByteArray) (k : Nat) (t d : Int) (o : Option Int) (hlt : k < s.size) (hd : dg b ((s[k]'hlt).toNat : Int) = d) (d0 : 0 ≤ d) (h : rdN b lim (s.data.toList.drop k) t = o) : NdSt b lim s o (k + 1) (t * b + d) := by
  by_cases c : t * b + d ≤ lim
  · exact .inl ⟨c, by unfold Hid; rw [← rdN_yes b lim s k t d hlt hd ⟨d0, c⟩]; exact h⟩
  · exact .inr ⟨by omega, by unfold Hid; rw [← h]; exact rdN_no b lim s k t d hlt hd (by omega)⟩
theorem byte_ways (y : Int) : y < 48 ∨ (48 ≤ y ∧ y ≤ 57) ∨ (57 < y ∧ y < 97) ∨ (97 ≤ y ∧ y ≤ 102) ∨ 102 < y := by omega
theorem dg_10_bad {y : Int} (h : y < 48 ∨ 57 < y) : dg 10 y = -1 := by
  unfold dg dv
  rw [if_neg (show ¬ (48 ≤ y ∧ y ≤ 57) by omega)]
  split <;> split <;> omega
theorem dg_16_bad {y : Int} (h : y < 48 ∨ (57 < y ∧ y < 97) ∨ 102 < y) : dg 16 y = -1 := by
  unfold dg dv
  rw [if_neg (show ¬ (48 ≤ y ∧ y ≤ 57) by omega), if_neg (show ¬ (97 ≤ y ∧ y ≤ 102) by omega)]
  rfl
theorem dg_10_low {y : Int} (h : 48 ≤ y) (h2 : y ≤ 57) : dg 10 y = y - 48 := by
  unfold dg dv
  rw [if_pos (show 48 ≤ y ∧ y ≤ 57 by omega), if_pos (by omega)]
theorem dg_16_low {y : Int} (h : 48 ≤ y) (h2 : y ≤ 57) : dg 16 y = y - 48 := by
  unfold dg dv
  rw [if_pos (show 48 ≤ y ∧ y ≤ 57 by omega), if_pos (by omega)]
theorem dg_16_high {y : Int} (h : 97 ≤ y) (h2 : y ≤ 102) : dg 16 y = y - 97 + 10 := by
  unfold dg dv
  rw [if_neg (show ¬ (48 ≤ y ∧ y ≤ 57) by omega), if_pos (show 97 ≤ y ∧ y ≤ 102 by omega), if_pos (by omega)]
  omega
theorem nth_byte (s : ByteArray) (k : Nat) (h : k < s.size) (w : World) : (Instr.index 9 (.string s) (.int .i64 (k : Int))).run Tryd.prog w = .ok (.int .u8 (s[k]'h).toNat) w := by
  rw [run_index_string w 9 s .i64 (k : Int) Tryd.underlying9, dif_pos (by omega)]
  rfl

end Go.Proofs.YthgbhnedfdnfpaaDoor

/- Digits of a row: contracts of readDigits. -/
namespace Go.Proofs.YthgbhnedfdnfpaaDoor
set_option maxRecDepth 100000
open Go.RowKit

end Go.Proofs.YthgbhnedfdnfpaaDoor

/- The model's numbers: contracts of scNumber, scDecimal, and DecimalAt of program and model. DecimalAt: contracts of program and model. DecimalAt: the model's side, and both together. -/
namespace Go.Proofs.YthgbhnedfdnfpaaDoor
set_option maxRecDepth 100000
open Go.RowKit

def SaysTwo (w : World) (n : Int) (k : Nat) (e : Ending) (w' : World) : Prop := e = .returned (.tuple #[.int .i64 n, .int .i64 (k : Int)]) ∧ w = w'
def NumRel (b bound : Int) (s : ByteArray) (k0 : Nat) (x n : Value) : Prop :=
  ∃ (k : Nat) (t : Int), k ≤ s.size ∧ x = .int .i64 k ∧ n = .int .i64 t ∧ 0 ≤ t ∧ t ≤ 68719476735 ∧ satN b bound (s.data.toList.drop k) t = satN b bound (s.data.toList.drop k0) 0 ∧ k + dlen b (s.data.toList.drop k) = k0 + dlen b (s.data.toList.drop k0)
theorem sat_small (b bound : Int) (s : ByteArray) (k : Nat) (t : Int) (h : k < s.size) (hp : 0 ≤ dg b (s[k].toNat : Int)) (ht : t ≤ bound) : satN b bound (s.data.toList.drop k) t = satN b bound (s.data.toList.drop (k + 1)) (b * t + dg b (s[k].toNat : Int)) := by
  rw [drop_at s k h, satN, if_pos hp, if_pos ht]
theorem sat_big (b bound : Int) (s : ByteArray) (k : Nat) (t : Int) (h : k < s.size) (hp : 0 ≤ dg b (s[k].toNat : Int)) (ht : bound < t) : satN b bound (s.data.toList.drop k) t = satN b bound (s.data.toList.drop (k + 1)) t := by
  rw [drop_at s k h, satN, if_pos hp, if_neg (by omega)]
theorem sat_stop (b bound : Int) (s : ByteArray) (k : Nat) (t : Int) (h : k < s.size) (hp : ¬ 0 ≤ dg b (s[k].toNat : Int)) : satN b bound (s.data.toList.drop k) t = t := by
  rw [drop_at s k h, satN, if_neg hp]
theorem sat_end (b bound : Int) (s : ByteArray) (k : Nat) (t : Int) (h : s.size ≤ k) : satN b bound (s.data.toList.drop k) t = t := by
  rw [List.drop_eq_nil_of_le (by simpa using h)]; rfl
end Go.Proofs.YthgbhnedfdnfpaaDoor

namespace Go.Proofs.YthgbhnedfdnfpaaDoor
open Go.RowKit

theorem ret_three {a a' b b' c c' : Value} (h : a = a') (h' : b = b') (h'' : c = c') : Ending.returned (.tuple #[a, b, c]) = .returned (.tuple #[a', b', c']) := by rw [h, h', h'']
theorem sub_run (s : ByteArray) (k0 c : Nat) (hc : k0 + c ≤ s.size) : ∃ u : ByteArray, u.size = c ∧ u.data.toList = (s.data.toList.drop k0).take c ∧
    ∀ w, (Instr.slice 9 (.string s) (some (.int .i64 (k0 : Int))) (some (.int .i64 ((k0 : Int) + (c : Int)))) none).run Tryd.prog w = .ok (.string u) w := by
  have hd := Lib.extract_data s k0 (k0 + c)
  rw [Nat.add_sub_cancel_left] at hd
  refine ⟨s.extract k0 (k0 + c), ?_, hd, fun w => ?_⟩
  · have := congrArg List.length hd
    simp at this
    simp
    omega
  · rw [run_slice_string w 9 s .i64 .i64 (k0 : Int) ((k0 : Int) + (c : Int)) Tryd.underlying9 (by omega) (by omega) (by omega)]
    rfl
theorem Drawn.trans {a b c : World} (h : Drawn a b) (k : Drawn b c) : Drawn a c := by
  obtain ⟨q, rfl⟩ := h
  obtain ⟨r, rfl⟩ := k
  exact ⟨q + r, by simp⟩
def SaysThree (w : World) (a b : Int) (ok : Bool) (e : Ending) (w' : World) : Prop := e = .returned (.tuple #[.int .i64 a, .int .i64 b, .bool ok]) ∧ Drawn w w'

/-! The program. -/
end Go.Proofs.YthgbhnedfdnfpaaDoor

namespace Go.Proofs.YthgbhnedfdnfpaaDoor
open Go.RowKit

def AtBad (n a : Int) : Prop := 4000 < n ∨ (n ≤ 4000 ∧ a < 0) ∨ (n ≤ 4000 ∧ 0 ≤ a ∧ n < a)
def SaysTwoI (w : World) (n k : Int) (e : Ending) (w' : World) : Prop := e = .returned (.tuple #[.int .i64 n, .int .i64 k]) ∧ w = w'
def SaysThreeS (w : World) (a b : Int) (ok : Bool) (e : Ending) (w' : World) : Prop := e = .returned (.tuple #[.int .i64 a, .int .i64 b, .bool ok]) ∧ w = w'
/-- the first digit is not 0: as many digits, so great a number -/
theorem first_ge (s : ByteArray) (k0 c : Nat) (hk0 : k0 < s.size) (HC : dlen 10 (s.data.toList.drop k0) = c) (h0 : 10 < c) (b3 : (s[k0].toNat : Int) ≠ 48) : 1000000000 < dvN 10 (s.data.toList.drop k0) 0 := by
  rw [drop_at s k0 hk0] at HC ⊢
  unfold dlen at HC
  unfold dvN
  by_cases hd : 0 ≤ dg 10 (s[k0].toNat : Int)
  · rw [if_pos hd] at HC ⊢
    have h1 := (dvN_ge 10 (by omega) (s.data.toList.drop (k0 + 1)) (0 * 10 + dg 10 (s[k0].toNat : Int)) (by omega)).1
    have hne : 1 ≤ dg 10 (s[k0].toNat : Int) := by
      unfold dg at hd ⊢
      have := dv_cases (s[k0].toNat : Int)
      split at hd
      · rename_i h
        rw [if_pos h]
        omega
      · omega
    have hp : ((10 ^ 10 : Nat) : Int) ≤ ((10 ^ (dlen 10 (s.data.toList.drop (k0 + 1))) : Nat) : Int) := Int.ofNat_le.2 (Nat.pow_le_pow_right (by omega) (by omega))
    rw [Int.natCast_pow, Int.natCast_pow] at hp
    have e10 : ((10 : Nat) : Int) ^ 10 = 10000000000 := rfl
    rw [e10] at hp
    have hc10 : ((10 : Nat) : Int) = 10 := rfl
    rw [hc10] at hp
    have hm : 1 * (10 : Int) ^ (dlen 10 (s.data.toList.drop (k0 + 1))) ≤ dg 10 (s[k0].toNat : Int) * 10 ^ (dlen 10 (s.data.toList.drop (k0 + 1))) := Int.mul_le_mul_of_nonneg_right hne (by omega)
    rw [Int.zero_mul, Int.zero_add] at h1 ⊢
    omega
  · rw [if_neg hd] at HC
    omega

theorem dlen_room (b : Int) (s : ByteArray) (k : Nat) (h : k ≤ s.size) : k + dlen b (s.data.toList.drop k) ≤ s.size := by
  have := dlen_le b (s.data.toList.drop k)
  simp at this
  omega
end Go.Proofs.YthgbhnedfdnfpaaDoor

/- HexAt: contracts of program and model, and both together. -/
namespace Go.Proofs.YthgbhnedfdnfpaaDoor
set_option maxRecDepth 100000
open Go.RowKit

theorem from_run (s : ByteArray) (k0 : Nat) (hk : k0 ≤ s.size) : ∃ u : ByteArray, Hid (u.data.toList = s.data.toList.drop k0) ∧
    ∀ w, (Instr.slice 9 (.string s) (some (.int .i64 (k0 : Int))) none none).run Tryd.prog w = .ok (.string u) w := by
  have hd := Lib.extract_data s k0 s.size
  refine ⟨s.extract k0 s.size, ?_, fun w => ?_⟩
  · unfold Hid
    rw [hd, List.take_of_length_le]
    simp
  · rw [run_slice_string_l w 9 s Tryd.underlying9 .i64 (k0 : Int) (by omega) (by omega)]
    rfl
/-- the prefix is there -/
def Pfx (s : ByteArray) (k0 : Nat) : Prop := Lib.hasPrefix (s.data.toList.drop k0) [48, 120] = true

theorem sub_run2 (s : ByteArray) (k0 c : Nat) (hc : k0 + 2 + c ≤ s.size) : ∃ u : ByteArray, u.size = c ∧ u.data.toList = (s.data.toList.drop (k0 + 2)).take c ∧
    ∀ w, (Instr.slice 9 (.string s) (some (.int .i64 ((k0 : Int) + 2))) (some (.int .i64 ((k0 : Int) + 2 + (c : Int)))) none).run Tryd.prog w = .ok (.string u) w := by
  obtain ⟨u, a, b, h⟩ := sub_run s (k0 + 2) c hc
  have e1 : ((k0 + 2 : Nat) : Int) = (k0 : Int) + 2 := by omega
  rw [e1] at h
  exact ⟨u, a, b, h⟩
theorem pfx_two (s : ByteArray) (k0 : Nat) (u : ByteArray) (hu : u.data.toList = (s.data.toList.drop k0).take 2) : (u.toList == [48, 120]) = Lib.hasPrefix (s.data.toList.drop k0) [48, 120] := by
  rw [ByteArray.toList_eq, hu]
  unfold Lib.hasPrefix
  generalize s.data.toList.drop k0 = l
  match l with
  | [] => rfl
  | [a] => simp [List.isPrefixOf]
  | a :: b :: r =>
    simp only [List.take_succ_cons, List.take_zero, List.isPrefixOf]
    rw [Bool.eq_iff_iff]
    simp
    constructor
    · rintro ⟨rfl, rfl⟩; exact ⟨rfl, rfl⟩
    · rintro ⟨rfl, rfl⟩; exact ⟨rfl, rfl⟩
theorem pfx_size (s : ByteArray) (k0 : Nat) (h : Pfx s k0) : k0 + 2 ≤ s.size := by
  unfold Pfx Lib.hasPrefix at h
  have := (List.isPrefixOf_iff_prefix.1 h).length_le
  simp at this
  omega

/-! The program. -/
/-! The model. -/
end Go.Proofs.YthgbhnedfdnfpaaDoor

/- Hexadecimal texts read: contracts of ReadHex, program and model. -/
namespace Go.Proofs.YthgbhnedfdnfpaaDoor
set_option maxRecDepth 100000
open Go.RowKit

/-- the value of a hexadecimal text -/
def rhx (l : List UInt8) : Option Int := if Lib.hasPrefix l [48, 120] then rdT 16 65535 (l.drop 2) else none
theorem rhx_no {l : List UInt8} (h : Lib.hasPrefix l [48, 120] = false) : rhx l = none := by unfold rhx; rw [h]; rfl
theorem rhx_yes {l : List UInt8} (h : Lib.hasPrefix l [48, 120] = true) : rhx l = rdT 16 65535 (l.drop 2) := by unfold rhx; rw [if_pos h]
theorem rdN_nonneg (b lim : Int) (hb : 0 ≤ b) : ∀ (l : List UInt8) (n v : Int), 0 ≤ n → rdN b lim l n = Option.some v → 0 ≤ v
  | [], n, v, h, e => by
    have := Option.some.inj e
    omega
  | c :: r, n, v, h, e => by
    rw [rdN] at e
    split at e
    · rename_i g
      refine rdN_nonneg b lim hb r _ v ?_ e
      have := Int.mul_nonneg h hb
      omega
    · cases e
theorem rdT_nonneg (b lim : Int) (hb : 0 ≤ b) (l : List UInt8) (v : Int) (e : rdT b lim l = Option.some v) : 0 ≤ v := by
  unfold rdT at e
  split at e
  · cases e
  · exact rdN_nonneg b lim hb l 0 v (by omega) e
theorem rdN_le (b lim : Int) : ∀ (l : List UInt8) (n v : Int), n ≤ lim → rdN b lim l n = Option.some v → v ≤ lim
  | [], n, v, h, e => by
    have := Option.some.inj e
    omega
  | c :: r, n, v, h, e => by
    rw [rdN] at e
    split at e
    · rename_i g
      exact rdN_le b lim r _ v g.2 e
    · cases e
theorem rdT_le (b lim : Int) (hl : 0 ≤ lim) (l : List UInt8) (v : Int) (e : rdT b lim l = Option.some v) : v ≤ lim := by
  unfold rdT at e
  split at e
  · cases e
  · exact rdN_le b lim l 0 v hl e
theorem rhx_nonneg (l : List UInt8) (v : Int) (e : rhx l = Option.some v) : 0 ≤ v := by
  unfold rhx at e
  split at e
  · exact rdT_nonneg 16 65535 (by omega) _ v e
  · cases e
theorem rhx_le (l : List UInt8) (v : Int) (e : rhx l = Option.some v) : v ≤ 65535 := by
  unfold rhx at e
  split at e
  · exact rdT_le 16 65535 (by omega) _ v e
  · cases e
theorem pfx_len {l : List UInt8} (h : Lib.hasPrefix l [48, 120] = true) : 2 ≤ l.length := by
  unfold Lib.hasPrefix at h
  simpa using (List.isPrefixOf_iff_prefix.1 h).length_le
theorem two_run (s : ByteArray) (hk : 2 ≤ s.size) : ∃ u t : ByteArray, u.data.toList = s.data.toList.drop 2 ∧ t.data.toList = s.data.toList.take 2 ∧
    (∀ w, (Instr.slice 9 (.string s) (some (.int .i64 2)) none none).run Tryd.prog w = .ok (.string u) w) ∧
    (∀ w, (Instr.slice 9 (.string s) none (some (.int .i64 2)) none).run Tryd.prog w = .ok (.string t) w) := by
  refine ⟨s.extract 2 s.size, s.extract 0 2, ?_, ?_, fun w => ?_, fun w => ?_⟩
  · rw [Lib.extract_data, List.take_of_length_le]
    simp
  · rw [Lib.extract_data]
    simp
  · rw [run_slice_string_l w 9 s Tryd.underlying9 .i64 2 (by omega) (by omega)]
    rfl
  · rw [run_slice_string_h w 9 s Tryd.underlying9 .i64 2 (by omega) (by omega)]
    rfl

/-- a pair of a number and a truth value -/
def SaysPair (w : World) (r : Int) (ok : Bool) (e : Ending) (w' : World) : Prop := e = .returned (.tuple #[.int .i64 r, .bool ok]) ∧ Below w.heap.size w w'
theorem opt_ways (o : Option Int) (h : ∀ v, o = Option.some v → 0 ≤ v) : (o = none) ∨ ∃ v, o = Option.some v ∧ 0 ≤ v := by
  cases o with
  | none => exact .inl rfl
  | some v => exact .inr ⟨v, rfl, h v rfl⟩
end Go.Proofs.YthgbhnedfdnfpaaDoor

/- The units in the model: contracts of nuUnits and nuSize. Decimal texts in the model: what they stand for, and facts for the walk of nuRead. -/
namespace Go.Proofs.YthgbhnedfdnfpaaDoor
set_option maxRecDepth 100000
open Go.RowKit

def UnitsAt (w : World) (g : Nat) : Prop := w.cell? ⟨g, 0, none⟩ = some (.string ⟨#[109]⟩) ∧ w.cell? ⟨g, 1, none⟩ = some (.string ⟨#[107]⟩) ∧ w.cell? ⟨g, 2, none⟩ = some (.string ⟨#[]⟩)
theorem units_new (w : World) (ty : TypeId) : UnitsAt (w.alloc (.cells #[.string ⟨#[109]⟩, .string ⟨#[107]⟩, .string ⟨#[]⟩] ty)) w.heap.size := by
  refine ⟨?_, ?_, ?_⟩ <;> rw [World.cell?_alloc_at _ _ _ _ rfl] <;> rfl
def SaysSz (w : World) (n : Int) (e : Ending) (w' : World) : Prop := e = .returned (.int .i64 n) ∧ Below w.heap.size w w'
theorem sz_cells (w : World) (ty : TypeId) (j : Nat) (h : j < 3) : (w.alloc (.cells #[.int .i64 1000000, .int .i64 1000, .int .i64 1] ty)).cell? ⟨w.heap.size, j, none⟩ = some ([Value.int .i64 1000000, .int .i64 1000, .int .i64 1].getD j .nilIface) := by
  rw [World.cell?_alloc_at _ _ _ _ rfl]
  rcases (show j = 0 ∨ j = 1 ∨ j = 2 by omega) with rfl | rfl | rfl <;> rfl
end Go.Proofs.YthgbhnedfdnfpaaDoor

namespace Go.Proofs.YthgbhnedfdnfpaaDoor
open Go.RowKit

/-- a number with a unit: none stands for 0 -/
def unitN (o : Option Int) (f : Int) : Option Int := match o with | Option.some n => if n = 0 then none else Option.some (n * f) | Option.none => none
/-- the value of a decimal text -/
def rnr (l : List UInt8) : Option Int :=
  if Lib.hasSuffix l [109] then unitN (rdT 10 1000 (initL l)) 1000000
  else if Lib.hasSuffix l [107] then unitN (rdT 10 1000000 (initL l)) 1000
  else rdT 10 1000000000 l
theorem rnr_m {l : List UInt8} (h : Lib.hasSuffix l [109] = true) : rnr l = unitN (rdT 10 1000 (initL l)) 1000000 := by unfold rnr; rw [if_pos h]
theorem rnr_k {l : List UInt8} (h : Lib.hasSuffix l [109] = false) (h2 : Lib.hasSuffix l [107] = true) : rnr l = unitN (rdT 10 1000000 (initL l)) 1000 := by
  unfold rnr; rw [if_neg (by simp [h]), if_pos h2]
theorem rnr_n {l : List UInt8} (h : Lib.hasSuffix l [109] = false) (h2 : Lib.hasSuffix l [107] = false) : rnr l = rdT 10 1000000000 l := by
  unfold rnr; rw [if_neg (by simp [h]), if_neg (by simp [h2])]
theorem suf_one (p : List UInt8) (x c : UInt8) : Lib.hasSuffix (p ++ [x]) [c] = ([x] == [c]) := by
  unfold Lib.hasSuffix List.isSuffixOf
  simp [List.isPrefixOf]
  exact Bool.eq_iff_iff.2 (by simp; exact eq_comm)
theorem suf_nil (c : UInt8) : Lib.hasSuffix [] [c] = false := rfl
/-- the last byte of a text, and what stands before it -/
theorem last_run (s : ByteArray) (h : 0 < s.size) : ∃ t u : ByteArray, (∀ c, (t.toList == [c]) = Lib.hasSuffix s.data.toList [c]) ∧ u.data.toList = initL s.data.toList ∧ u.size + 1 = s.size ∧ s.extract 0 ((s.size : Int) - 1).toNat = u ∧
    (∀ w, (Instr.slice 9 (.string s) (some (.int .i64 ((s.size : Int) - 1))) none none).run Tryd.prog w = .ok (.string t) w) ∧
    (∀ w, (Instr.slice 9 (.string s) none (some (.int .i64 ((s.size : Int) - 1))) none).run Tryd.prog w = .ok (.string u) w) := by
  have hl : 0 < s.data.toList.length := by rw [← size_data]; exact h
  have e1 : ((s.size : Int) - 1).toNat = s.size - 1 := by omega
  refine ⟨s.extract (s.size - 1) s.size, s.extract 0 (s.size - 1), fun c => ?_, ?_, ?_, by rw [e1], fun w => ?_, fun w => ?_⟩
  · rw [ByteArray.toList_eq, Lib.extract_data, List.take_of_length_le (by simp), size_data]
    generalize s.data.toList = l at hl
    have hsplit : l = l.take (l.length - 1) ++ l.drop (l.length - 1) := (List.take_append_drop _ _).symm
    have hd : (l.drop (l.length - 1)).length = 1 := by simp; omega
    obtain ⟨x, hx⟩ : ∃ x, l.drop (l.length - 1) = [x] := List.length_eq_one_iff.1 hd
    conv => rhs; rw [hsplit, hx, suf_one]
    rw [hx]
  · rw [Lib.extract_data]
    unfold initL
    rw [← size_data]
    simp
  · simp; omega
  · rw [run_slice_string_l w 9 s Tryd.underlying9 .i64 ((s.size : Int) - 1) (by omega) (by omega), e1]
  · rw [run_slice_string_h w 9 s Tryd.underlying9 .i64 ((s.size : Int) - 1) (by omega) (by omega), e1]
theorem unitN_none (f : Int) : unitN none f = none := rfl
theorem unitN_zero (f : Int) : unitN (Option.some 0) f = none := rfl
theorem unitN_some {n : Int} (f : Int) (h : 0 < n) : unitN (Option.some n) f = Option.some (n * f) := by
  show (if n = 0 then none else Option.some (n * f)) = _
  exact if_neg (by omega)
theorem opt_three (o : Option Int) (h : ∀ v, o = Option.some v → 0 ≤ v) : (o = none ∨ o = Option.some 0) ∨ ∃ v, o = Option.some v ∧ 0 < v := by
  cases o with
  | none => exact .inl (.inl rfl)
  | some v =>
    rcases Int.lt_or_eq_of_le (h v rfl) with q | q
    · exact .inr ⟨v, rfl, q⟩
    · exact .inl (.inr (by rw [q]))
theorem sizes_init {s : ByteArray} {u : ByteArray} (h : u.size + 1 = s.size) (hs : s.size ≤ 1048576) : u.size ≤ 1048576 := by omega
end Go.Proofs.YthgbhnedfdnfpaaDoor

/- The texts of a value in the model: contracts of nuForms. -/
namespace Go.Proofs.YthgbhnedfdnfpaaDoor
set_option maxRecDepth 100000
open Go.RowKit

def mF (n : Nat) : ByteArray := numS (n / 1000000) ++ ⟨#[109]⟩
def kF (n : Nat) : ByteArray := numS (n / 1000) ++ ⟨#[107]⟩
/-- has a text with the unit m, with the unit k -/
def isM (n : Nat) : Bool := decide (n % 1000000 = 0) && decide (0 < n)
def isK (n : Nat) : Bool := decide (n % 1000 = 0) && decide (0 < n)
/-- the texts of a value with the first k units -/
def preL (n : Nat) : Nat → List ByteArray
  | 0 => []
  | 1 => if isM n then [mF n] else []
  | 2 => (if isM n then [mF n] else []) ++ (if isK n then [kF n] else [])
  | _ => (if isM n then [mF n] else []) ++ (if isK n then [kF n] else []) ++ [numS n]
/-- all texts of a value -/
def formsL (n : Nat) : List ByteArray := preL n 3
theorem preL_le (n k : Nat) : (preL n k).length ≤ 3 := by
  unfold preL
  split <;> (repeat' split) <;> simp
theorem UnitsAt.below {w w' : World} {g B : Nat} (h : UnitsAt w g) (hb : Below B w w') (hg : g < B) : UnitsAt w' g :=
  ⟨(hb.cell (p := ⟨g, 0, none⟩) hg).trans h.1, (hb.cell (p := ⟨g, 1, none⟩) hg).trans h.2.1, (hb.cell (p := ⟨g, 2, none⟩) hg).trans h.2.2⟩
theorem OwnZ.base {w : World} {B B' n : Nat} {v : Value} {l : List ByteArray} (h : OwnZ w B v n l) (hB : B' ≤ B) : OwnZ w B' v n l := by
  obtain ⟨h1, h2⟩ := h
  refine ⟨h1, ?_⟩
  rcases h2 with h2 | ⟨g', cap', cur, a, b, c, d⟩
  · exact .inl h2
  · exact .inr ⟨g', cap', cur, a, Nat.le_trans hB b, c, d⟩
def FormRel (w1 : World) (n : Nat) (v i : Value) (wr : World) : Prop :=
  ∃ k : Nat, k ≤ 3 ∧ i = .int .i64 k ∧ OwnZ wr w1.heap.size v (preL n k).length (preL n k) ∧ Below w1.heap.size w1 wr
theorem OwnZ.to {w : World} {B n m : Nat} {v : Value} {l l' : List ByteArray} (h : OwnZ w B v n l) (hl : l = l') (hn : n = m) : OwnZ w B v m l' := by subst hl hn; exact h
theorem size_lit (c : UInt8) : (⟨#[c]⟩ : ByteArray).size = 1 := rfl
theorem pm1 {n : Nat} (e : isM n = true) : preL n 0 ++ [mF n] = preL n 1 := by simp [preL, e]
theorem pm0 {n : Nat} (e : isM n = false) : preL n 0 = preL n 1 := by simp [preL, e]
theorem pk1 {n : Nat} (e : isK n = true) : preL n 1 ++ [kF n] = preL n 2 := by simp [preL, e]
theorem pk0 {n : Nat} (e : isK n = false) : preL n 1 = preL n 2 := by simp [preL, e]
theorem pn1 (n : Nat) : preL n 2 ++ [numS n] = preL n 3 := by simp [preL]
theorem str_nil (a : ByteArray) : a ++ (⟨#[]⟩ : ByteArray) = a := by apply ByteArray.ext; simp [ByteArray.data_append]
theorem snoc_len {l l' : List ByteArray} {c : ByteArray} (h : l ++ [c] = l') : l.length + 1 = l'.length := by rw [← h]; simp
theorem isM_zero : isM 0 = false := rfl
theorem isK_zero : isK 0 = false := rfl
theorem pn2 (n : Nat) : preL n 2 ++ [numS n ++ ⟨#[]⟩] = preL n 3 := by rw [str_nil]; exact pn1 n
theorem formsL_zero : formsL 0 = preL 0 3 := rfl
end Go.Proofs.YthgbhnedfdnfpaaDoor

/- Decimal numerals: strconv.Itoa as the program calls it. -/
namespace Go.Proofs.YthgbhnedfdnfpaaDoor
set_option maxRecDepth 100000
open Go.RowKit

/-- the table of powers of ten is in its place -/
def Pow (w : World) : Prop := Lib.TabIs Tryd.prog w "internal/strconv.uint64pow10" .u64 Lib.pow10Tab
theorem Pow.below {w w' : World} (h : Pow w) (hb : Below w.heap.size w w') : Pow w' := Lib.tabBelow_of_tabIs h w' hb
theorem cU64 : Tryd.prog.cellsOf 58 = 1 := by kernel_rfl
end Go.Proofs.YthgbhnedfdnfpaaDoor

/- Values: contracts of the functions of chapter 2 that only compute with numbers: isValue, MultiplyValues, ScaleValue, programs and models. -/
namespace Go.Proofs.YthgbhnedfdnfpaaDoor
set_option maxRecDepth 100000
open Go.RowKit

/-- both functions say the same -/
def SaysNum (f : FuncId) (args : Array Value) (r : Int) (ok : Bool) : Prop :=
  ∀ w, Calls Tryd.prog f args w fun e w' => e = .returned (.tuple #[.int .i64 r, .bool ok]) ∧ w = w'


end Go.Proofs.YthgbhnedfdnfpaaDoor

/- The texts of a value in the program: contracts of FormsOf. -/
namespace Go.Proofs.YthgbhnedfdnfpaaDoor
set_option maxRecDepth 100000
open Go.RowKit

def FormRelI (w : World) (n : Nat) (v i : Value) (wr : World) : Prop :=
  ∃ k : Nat, k ≤ 2 ∧ i = .int .i64 k ∧ OwnZ wr w.heap.size v (preL n k).length (preL n k) ∧ Below w.heap.size w wr
end Go.Proofs.YthgbhnedfdnfpaaDoor
