import Derived.Test.YthgbhnedfdnfpaaDoorPkzl
import Derived.Lib.SlBytesConst
import Derived.Test.YthgbhnedfdnfpaaDoorPka
import Derived.Lib.Bytealg
import Derived.Laws.RangeAny
import Derived.Laws.Runes
import Derived.LoopTactic
import Derived.WalkMore
import Derived.ChangeSame
import Derived.Stop.LaidErr
import Derived.Deep.QuietTactic
import Derived.BigQuiet
/- HexOf: the program's side. -/
namespace Go.Proofs.YthgbhnedfdnfpaaDoor
set_option maxRecDepth 100000
open Go.RowKit

theorem i64_and15 (n : Int) : bits .and .i64 n 15 = n % 16 := by
  have h15 : (BitVec.ofInt 64 15).toNat = 2 ^ 4 - 1 := by decide
  have key : (BitVec.ofInt 64 n &&& BitVec.ofInt 64 15).toNat = (n % ((2 ^ 64 : Nat) : Int)).toNat % 2 ^ 4 := by
    rw [BitVec.toNat_and, BitVec.toNat_ofInt, h15, Nat.and_two_pow_sub_one_eq_mod]
  show IntKind.i64.wrap ((BitVec.ofInt 64 n &&& BitVec.ofInt 64 15).toNat : Nat) = n % 16
  rw [key, IntKind.wrap_i64]
  omega
theorem hex_atN : ∀ (k : Nat), k < 16 → (p : k < hexB.size) → ((hexB[k]'p).toNat : Int) = hdI (k : Int)
  | 0, _, p => rfl
  | 1, _, p => rfl
  | 2, _, p => rfl
  | 3, _, p => rfl
  | 4, _, p => rfl
  | 5, _, p => rfl
  | 6, _, p => rfl
  | 7, _, p => rfl
  | 8, _, p => rfl
  | 9, _, p => rfl
  | 10, _, p => rfl
  | 11, _, p => rfl
  | 12, _, p => rfl
  | 13, _, p => rfl
  | 14, _, p => rfl
  | 15, _, p => rfl
  | k + 16, h, _ => absurd h (by omega)
theorem hex_at (k : Int) (h0 : 0 ≤ k) (h1 : k < 16) (p : k.toNat < hexB.size) : ((hexB[k.toNat]'p).toNat : Int) = hdI k := by
  obtain ⟨m, rfl⟩ := Int.eq_ofNat_of_zero_le h0
  exact hex_atN m (by omega) p
theorem hdI_bd (k : Int) (h0 : 0 ≤ k) (h1 : k < 16) : 48 ≤ hdI k ∧ hdI k ≤ 102 := by
  unfold hdI; split <;> omega
/-- a text is made of a row of bytes -/
theorem back_str {w : World} {B g n cap : Nat} {zs : List Int} (h : OwnB w B g n cap zs) (hr : ∀ c ∈ zs, 0 ≤ c ∧ c ≤ 255) :
    (convert 22 9 (.slice (some ⟨g, 0, none⟩) n cap)).run Tryd.prog w = .ok (.string (strOfNums zs)) w :=
  run_convert_bytes_arg w 22 5 Tryd.underlying22 Tryd.underlying5 g 0 n cap zs h.len (fun i hi => (h.row hr).1 i (by rw [h.len]; exact hi)) 9 Tryd.underlying9

/-- the digits so far, behind the prefix -/
def htxt (n c i : Nat) : List Int := 48 :: 120 :: hexC (n / 16 ^ i) (c - i)
theorem htxt_step (n c i : Nat) (h : i < c) : htxt n c (i + 1) ++ [hdI (((n : Int) / 16 ^ i) % 16)] = htxt n c i := by
  obtain ⟨d, hd⟩ : ∃ d, c - i = d + 1 := ⟨c - i - 1, by omega⟩
  have e : c - (i + 1) = d := by omega
  unfold htxt
  rw [hd, e, hexC, Nat.pow_succ, ← Nat.div_div_eq_div_mul]
  rfl
theorem hexC_range (c : Nat) : ∀ n : Nat, ∀ x ∈ hexC n c, 0 ≤ x ∧ x ≤ 255 := by
  induction c with
  | zero => intro n x hx; simp [hexC] at hx
  | succ c ih =>
    intro n x hx
    simp only [hexC, List.mem_append, List.mem_singleton] at hx
    rcases hx with hx | rfl
    · exact ih _ x hx
    · have := hdI_bd ((n % 16 : Nat) : Int) (by omega) (by omega)
      omega
theorem htxt_range (n c i : Nat) : ∀ x ∈ htxt n c i, 0 ≤ x ∧ x ≤ 255 := by
  intro x hx
  simp only [htxt, List.mem_cons] at hx
  rcases hx with rfl | rfl | hx
  · omega
  · omega
  · exact hexC_range _ _ x hx
theorem hexC_length (c : Nat) : ∀ n : Nat, (hexC n c).length = c := by
  induction c with
  | zero => intro n; rfl
  | succ c ih => intro n; simp [hexC, ih]
theorem htxt_length (n c i : Nat) : (htxt n c i).length = 2 + (c - i) := by simp [htxt, hexC_length]; omega

theorem two_olds {w wr : World} {o : Obj} (h0 : wr.cell? ⟨w.heap.size, 0, none⟩ = some (.int .u8 48)) (h1 : wr.cell? ⟨w.heap.size, 1, none⟩ = some (.int .u8 120)) (hsz : w.heap.size < wr.heap.size) :
    ∀ b, (some (⟨w.heap.size, 0, none⟩ : Addr)) = some b → ∀ j u, (bv [48, 120])[j]? = some u → (wr.alloc o).cell? (b.add j) = some u := by
  intro b hb j u hj
  cases hb
  match j, hj with
  | 0, hj =>
    simp [bv] at hj; subst hj
    rw [show (⟨w.heap.size, 0, none⟩ : Addr).add 0 = ⟨w.heap.size, 0, none⟩ by simp [Addr.add], World.cell?_alloc_past _ _ _ hsz]
    exact h0
  | 1, hj =>
    simp [bv] at hj; subst hj
    rw [show (⟨w.heap.size, 0, none⟩ : Addr).add 1 = ⟨w.heap.size, 1, none⟩ by simp [Addr.add], World.cell?_alloc_past _ _ _ hsz]
    exact h1
  | j + 2, hj => simp [bv] at hj
theorem row_base {w : World} {B B' n : Nat} {v : Value} {xs : List Value} (h : w.ownsRow B 5 1 v n xs) (hB : B' ≤ B) : w.ownsRow B' 5 1 v n xs := by
  obtain ⟨h1, h2⟩ := h
  refine ⟨h1, ?_⟩
  rcases h2 with h2 | ⟨g', cap', cur, a, b, c, d⟩
  · exact .inl h2
  · exact .inr ⟨g', cap', cur, a, Nat.le_trans hB b, c, d⟩
theorem shift4 (n : Int) (k : Nat) : n / 2 ^ (4 * k) = n / 16 ^ k := by
  rw [Int.pow_mul]
  rfl
/-- the text so far: the prefix as it was laid, or a row of the call's own -/
def Txt (w : World) (n c j : Nat) (v : Value) (wr : World) : Prop :=
  (j = c ∧ v = .slice (some ⟨w.heap.size, 0, none⟩) 2 2 ∧ wr.cell? ⟨w.heap.size, 0, none⟩ = some (.int .u8 48) ∧ wr.cell? ⟨w.heap.size, 1, none⟩ = some (.int .u8 120)) ∨
  (j < c ∧ OwnV wr w.heap.size v (2 + (c - j)) (htxt n c j))
def HexRel (w : World) (n c : Nat) (v i : Value) (wr : World) : Prop :=
  ∃ (j : Nat) (i' : Int), j ≤ c ∧ i = .int .i64 i' ∧ i' + 1 = j ∧ Txt w n c j v wr ∧ Below w.heap.size w wr ∧ w.heap.size < wr.heap.size
def SaysStr (w : World) (s : ByteArray) (e : Ending) (w' : World) : Prop := e = .returned (.tuple #[.string s, .bool true]) ∧ Below w.heap.size w w'
theorem htxt_first (n c : Nat) (h : 0 < c) : bv [48, 120] ++ [.int .u8 (hdI ((n : Int) / 2 ^ (4 * (c - 1)) % 16))] = bv (htxt n c (c - 1)) := by
  have e := htxt_step n c (c - 1) (by omega)
  rw [shift4, ← e, show c - 1 + 1 = c by omega]
  simp [bv, htxt, hexC]

def SaysStrB (w : World) (s : ByteArray) (b : Bool) (e : Ending) (w' : World) : Prop := e = .returned (.tuple #[.string s, .bool b]) ∧ Below w.heap.size w w'
end Go.Proofs.YthgbhnedfdnfpaaDoor

/- Digits in a text: what they stand for, and contracts of the functions that look for them. -/
namespace Go.Proofs.YthgbhnedfdnfpaaDoor
set_option maxRecDepth 100000
open Go.RowKit

/-- a digit's value, or -1 -/
def dv (c : Int) : Int := if 48 ≤ c ∧ c ≤ 57 then c - 48 else if 97 ≤ c ∧ c ≤ 102 then c - 87 else -1
def dg (b c : Int) : Int := if dv c < b then dv c else -1
theorem dg_bd (b c : Int) : -1 ≤ dg b c ∧ dg b c < b ∨ dg b c = -1 := by
  unfold dg
  split
  · left
    refine ⟨?_, by assumption⟩
    unfold dv
    split
    · omega
    · split <;> omega
  · right; rfl
theorem dg_lt (b c : Int) (hb : 0 < b) : -1 ≤ dg b c ∧ dg b c < b := by
  rcases dg_bd b c with h | h
  · exact h
  · omega

/-- how many digits begin a list -/
def dlen (b : Int) : List UInt8 → Nat
  | [] => 0
  | c :: r => if 0 ≤ dg b (c.toNat : Int) then dlen b r + 1 else 0
/-- the number of the digits that begin a list, behind a number -/
def dvN (b : Int) : List UInt8 → Int → Int
  | [], n => n
  | c :: r, n => if 0 ≤ dg b (c.toNat : Int) then dvN b r (n * b + dg b (c.toNat : Int)) else n
/-- the same, but it stops to grow above a bound -/
def satN (b bound : Int) : List UInt8 → Int → Int
  | [], n => n
  | c :: r, n => if 0 ≤ dg b (c.toNat : Int) then satN b bound r (if n ≤ bound then b * n + dg b (c.toNat : Int) else n) else n
theorem dlen_le (b : Int) (l : List UInt8) : dlen b l ≤ l.length := by
  induction l with
  | nil => exact Nat.le_refl _
  | cons c r ih => unfold dlen; split <;> simp; omega
theorem satN_stuck (b bound : Int) (l : List UInt8) (n : Int) (h : bound < n) : satN b bound l n = n := by
  induction l with
  | nil => rfl
  | cons c r ih => unfold satN; rw [if_neg (show ¬ n ≤ bound by omega), ih]; split <;> rfl
theorem dvN_ge (b : Int) (hb : 1 ≤ b) (l : List UInt8) : ∀ n : Int, 0 ≤ n → n * b ^ (dlen b l) ≤ dvN b l n ∧ n ≤ dvN b l n := by
  induction l with
  | nil => intro n h; simp [dvN, dlen]
  | cons c r ih =>
    intro n h
    unfold dvN dlen
    split
    · rename_i hd
      have h1 := ih (n * b + dg b (c.toNat : Int)) (by have := Int.mul_nonneg h (show (0 : Int) ≤ b by omega); omega)
      have hp : (0 : Int) < b ^ (dlen b r) := Int.pow_pos (by omega)
      have e : (n * b + dg b (c.toNat : Int)) * b ^ (dlen b r) = n * b ^ (dlen b r + 1) + dg b (c.toNat : Int) * b ^ (dlen b r) := by rw [Int.pow_succ]; grind
      have h2 := Int.mul_nonneg hd (Int.le_of_lt hp)
      have h3 : n * 1 ≤ n * b := Int.mul_le_mul_of_nonneg_left hb h
      refine ⟨by rw [e] at h1; omega, by omega⟩
    · simp
theorem dvN_lt (b : Int) (hb : 1 ≤ b) (l : List UInt8) : ∀ n : Int, 0 ≤ n → dvN b l n < (n + 1) * b ^ (dlen b l) := by
  induction l with
  | nil => intro n h; simp [dvN, dlen]; omega
  | cons c r ih =>
    intro n h
    unfold dvN dlen
    split
    · rename_i hd
      have h1 := ih (n * b + dg b (c.toNat : Int)) (by have := Int.mul_nonneg h (show (0 : Int) ≤ b by omega); omega)
      have hp : (0 : Int) < b ^ (dlen b r) := Int.pow_pos (by omega)
      have hl := (dg_lt b (c.toNat : Int) (by omega)).2
      have h2 : (n * b + dg b (c.toNat : Int) + 1) * b ^ (dlen b r) ≤ (n + 1) * b * b ^ (dlen b r) := Int.mul_le_mul_of_nonneg_right (by rw [Int.add_mul]; omega) (Int.le_of_lt hp)
      rw [Int.pow_succ]
      have e : (n + 1) * b * b ^ (dlen b r) = (n + 1) * (b ^ (dlen b r) * b) := by grind
      omega
    · simp; omega
theorem sat_or (b bound : Int) (hb : 1 ≤ b) (l : List UInt8) : ∀ n : Int, 0 ≤ n → satN b bound l n = dvN b l n ∨ (bound < satN b bound l n ∧ bound < dvN b l n) := by
  induction l with
  | nil => intro n _; exact .inl rfl
  | cons c r ih =>
    intro n h
    by_cases hn : n ≤ bound
    · unfold satN dvN
      split
      · simp only [Int.mul_comm b n]
        exact ih _ (by have := Int.mul_nonneg h (show (0 : Int) ≤ b by omega); omega)
      · exact .inl rfl
    · right
      rw [satN_stuck b bound (c :: r) n (by omega)]
      have := (dvN_ge b hb (c :: r) n h).2
      omega
theorem dvN_take (b : Int) (l : List UInt8) : ∀ n : Int, dvN b (l.take (dlen b l)) n = dvN b l n := by
  induction l with
  | nil => intro n; rfl
  | cons c r ih =>
    intro n
    by_cases hd : 0 ≤ dg b (c.toNat : Int)
    · simp only [dlen, dvN, if_pos hd, List.take_succ_cons]
      exact ih _
    · simp only [dlen, dvN, if_neg hd, List.take_zero]
theorem dlen_take (b : Int) (l : List UInt8) : dlen b (l.take (dlen b l)) = dlen b l := by
  induction l with
  | nil => rfl
  | cons c r ih =>
    by_cases hd : 0 ≤ dg b (c.toNat : Int)
    · simp only [dlen, if_pos hd, List.take_succ_cons, ih]
    · simp only [dlen, if_neg hd, List.take_zero]

/-! The library's search in the two rows of digits. -/
theorem dec_all : ∀ c : Fin 256, Lib.indexByte decB.data.toList (c.val).toUInt8 = dg 10 (c.val : Int) := by decide +kernel
theorem hex_all : ∀ c : Fin 256, Lib.indexByte hexB.data.toList (c.val).toUInt8 = dg 16 (c.val : Int) := by decide +kernel
def SaysIntD (w : World) (n : Int) (e : Ending) (w' : World) : Prop := e = .returned (.int .i64 n) ∧ Drawn w w'
def EndRel (w : World) (b : Int) (s : ByteArray) (k0 : Nat) (v : Value) (wr : World) : Prop :=
  ∃ k q : Nat, k ≤ s.size ∧ v = .int .i64 k ∧ wr = w.drewN q ∧ k + dlen b (s.data.toList.drop k) = k0 + dlen b (s.data.toList.drop k0)
theorem dlen_more (b : Int) (s : ByteArray) (k : Nat) (h : k < s.size) (hp : 0 ≤ dg b (s[k].toNat : Int)) : dlen b (s.data.toList.drop k) = dlen b (s.data.toList.drop (k + 1)) + 1 := by
  rw [drop_at s k h, dlen, if_pos hp]
theorem dlen_stop (b : Int) (s : ByteArray) (k : Nat) (h : k < s.size) (hp : ¬ 0 ≤ dg b (s[k].toNat : Int)) : dlen b (s.data.toList.drop k) = 0 := by
  rw [drop_at s k h, dlen, if_neg hp]
theorem dlen_end (b : Int) (s : ByteArray) (k : Nat) (h : s.size ≤ k) : dlen b (s.data.toList.drop k) = 0 := by
  rw [List.drop_eq_nil_of_le (by simpa using h)]; rfl
end Go.Proofs.YthgbhnedfdnfpaaDoor

/- strings.IndexRune in a row of ASCII bytes, at whatever rune: the digit's value, or -1. -/
namespace Go.Proofs.YthgbhnedfdnfpaaDoor
set_option maxRecDepth 100000
open Go.RowKit
set_option linter.unusedVariables false

/-- a short row of ASCII bytes -/
def Asc (s : ByteArray) : Prop := ∀ b ∈ s.data.toList, b.toNat < 128
theorem asc_dec : Asc decB := by unfold Asc decB; decide
theorem asc_hex : Asc hexB := by unfold Asc hexB; decide
theorem asc_at {s : ByteArray} (h : Asc s) (k : Nat) (hk : k < s.size) : (s[k]'hk).toNat < 128 := h _ (by
  have : s[k] = s.data.toList[k]'(by simpa using hk) := rfl
  rw [this]; exact List.getElem_mem _)
theorem index_high {l : List UInt8} {c : UInt8} (h : ∀ b ∈ l, b ≠ c) : Lib.indexByte l c = -1 := by
  induction l with
  | nil => rfl
  | cons b r ih =>
    have h1 : (b == c) = false := by simpa using h b (by simp)
    rw [Lib.indexByte, h1, ih (fun x hx => h x (by simp [hx]))]
    rfl

/-- the answer -1 -/
def SaysNone (w : World) (e : Ending) (w' : World) : Prop := e = .returned (.int .i64 (-1)) ∧ Below w.heap.size w w'

/-- a valid rune that is not ASCII: its last byte is not there -/
theorem rune_tail (s : ByteArray) (m : Nat) (mi mj : Int) (hmi : mi = m) (hmj : mj = (m : Int) + 1) (hs : Asc s) (hm : m < s.size) (hz2 : s.size ≤ 64) : ∃ (d : UInt8) (u : ByteArray), d.toNat < 128 ∧ Hid (Asc u) ∧
    (∀ w, (Instr.index 9 (.string s) (.int .i64 mi)).run Tryd.prog w = .ok (.int .u8 d.toNat) w) ∧
    (∀ w, (Instr.slice 9 (.string s) (some (.int .i64 mj)) none none).run Tryd.prog w = .ok (.string u) w) := by
  subst hmi hmj
  refine ⟨s[m], s.extract (m + 1) s.size, asc_at hs m hm, ?_, fun w => ?_, fun w => ?_⟩
  · intro b hb
    exact hs b (mem_extract hb)
  · rw [run_index_string w 9 s .i64 (m : Int) Tryd.underlying9, dif_pos (by omega)]
    rfl
  · rw [run_slice_string_l w 9 s Tryd.underlying9 .i64 ((m : Int) + 1) (by omega) (by omega)]
    rfl
theorem size_cases {n : Nat} (h : 2 ≤ n) (h4 : n ≤ 4) : n = 1 + 1 ∨ n = 2 + 1 ∨ n = 3 + 1 := by omega
end Go.Proofs.YthgbhnedfdnfpaaDoor

/- The numbers that digits stand for: contracts of digitsValue, scDigit and scNumber. -/
namespace Go.Proofs.YthgbhnedfdnfpaaDoor
set_option maxRecDepth 100000
open Go.RowKit

/-- the number of a list of digits -/
def dval (b : Int) (l : List UInt8) : Int := l.foldl (fun a c => a * b + dg b (c.toNat : Int)) 0
theorem dval_snoc (b : Int) (l : List UInt8) (c : UInt8) : dval b (l ++ [c]) = dval b l * b + dg b (c.toNat : Int) := by simp [dval]
theorem dval_dvN (b : Int) (l : List UInt8) (h : ∀ c ∈ l, 0 ≤ dg b (c.toNat : Int)) : dval b l = dvN b l 0 := by
  have gen : ∀ (l : List UInt8) (n : Int), (∀ c ∈ l, 0 ≤ dg b (c.toNat : Int)) → l.foldl (fun a c => a * b + dg b (c.toNat : Int)) n = dvN b l n := by
    intro l
    induction l with
    | nil => intro n _; rfl
    | cons c r ih =>
      intro n hl
      simp only [List.foldl_cons, dvN, if_pos (hl c (by simp))]
      exact ih _ (fun x hx => hl x (by simp [hx]))
  exact gen l 0 h
theorem digits_of (b : Int) (l : List UInt8) : ∀ c ∈ l.take (dlen b l), 0 ≤ dg b (c.toNat : Int) := by
  induction l with
  | nil => intro c hc; simp at hc
  | cons x r ih =>
    intro c hc
    by_cases hd : 0 ≤ dg b (x.toNat : Int)
    · simp only [dlen, if_pos hd, List.take_succ_cons, List.mem_cons] at hc
      rcases hc with rfl | hc
      · exact hd
      · exact ih c hc
    · simp [dlen, if_neg hd] at hc
theorem take_byte (s : ByteArray) (k : Nat) (h : k < s.size) : s.data.toList.take (k + 1) = s.data.toList.take k ++ [s[k]] := by
  rw [List.take_succ_eq_append_getElem (by simpa using h)]; rfl
theorem mem_byte (s : ByteArray) (k : Nat) (h : k < s.size) : s[k] ∈ s.data.toList := by
  have : s[k] = s.data.toList[k]'(by simpa using h) := rfl
  rw [this]
  exact List.getElem_mem _

def ValRel (w : World) (b : Int) (s : ByteArray) (n i : Value) (wr : World) : Prop :=
  ∃ (k q : Nat) (t : Int), k ≤ s.size ∧ i = .int .i64 k ∧ n = .int .i64 t ∧ wr = w.drewN q ∧ 0 ≤ t ∧ t < b ^ k ∧ t = dval b (s.data.toList.take k)
theorem pow_dec (k : Nat) (h : k < 10) : (10 : Int) ^ k ≤ 68719476736 := by
  rcases (show k = 0 ∨ k = 1 ∨ k = 2 ∨ k = 3 ∨ k = 4 ∨ k = 5 ∨ k = 6 ∨ k = 7 ∨ k = 8 ∨ k = 9 by omega) with rfl | rfl | rfl | rfl | rfl | rfl | rfl | rfl | rfl | rfl <;> decide
theorem pow_hex (k : Nat) (h : k < 10) : (16 : Int) ^ k ≤ 68719476736 := by
  rcases (show k = 0 ∨ k = 1 ∨ k = 2 ∨ k = 3 ∨ k = 4 ∨ k = 5 ∨ k = 6 ∨ k = 7 ∨ k = 8 ∨ k = 9 by omega) with rfl | rfl | rfl | rfl | rfl | rfl | rfl | rfl | rfl | rfl <;> decide
theorem dv_cases (c : Int) : (c < 48 ∧ dv c = -1) ∨ (48 ≤ c ∧ c ≤ 57 ∧ dv c = c - 48) ∨ (57 < c ∧ c < 97 ∧ dv c = -1) ∨ (97 ≤ c ∧ c ≤ 102 ∧ dv c = c - 87) ∨ (102 < c ∧ dv c = -1) := by
  unfold dv
  split
  · omega
  · split <;> omega
end Go.Proofs.YthgbhnedfdnfpaaDoor

/- Digits of a row: what they stand for, and facts for the walks of readDigits and of the model's nuDigits. -/
namespace Go.Proofs.YthgbhnedfdnfpaaDoor
set_option maxRecDepth 100000
open Go.RowKit

/-- the number of a list of digits to a base, none if it becomes greater than a limit -/
def rdN (b lim : Int) : List UInt8 → Int → Option Int
  | [], n => Option.some n
  | c :: r, n => if 0 ≤ dg b (c.toNat : Int) ∧ n * b + dg b (c.toNat : Int) ≤ lim then rdN b lim r (n * b + dg b (c.toNat : Int)) else none
/-- the same, without needless zeros -/
def rdT (b lim : Int) (l : List UInt8) : Option Int := if l = [] ∨ (1 < l.length ∧ l.head? = Option.some 48) then none else rdN b lim l 0
def optR (o : Option Int) : Int := o.getD 0
def optK (o : Option Int) : Bool := o.isSome
theorem opt_none {o : Option Int} (h : o = none) : optR o = 0 ∧ optK o = false := by subst h; exact ⟨rfl, rfl⟩
theorem opt_some {o : Option Int} {s : Int} (h : o = Option.some s) : optR o = s ∧ optK o = true := by subst h; exact ⟨rfl, rfl⟩
theorem rdN_yes (b lim : Int) (s : ByteArray) (k : Nat) (t d : Int) (h : k < s.size) (hd : dg b ((s[k]'h).toNat : Int) = d) (g : 0 ≤ d ∧ t * b + d ≤ lim) : rdN b lim (s.data.toList.drop k) t = rdN b lim (s.data.toList.drop (k + 1)) (t * b + d) := by
  rw [drop_at s k h, rdN, hd, if_pos g]
theorem rdN_no (b lim : Int) (s : ByteArray) (k : Nat) (t d : Int) (h : k < s.size) (hd : dg b ((s[k]'h).toNat : Int) = d) (g : ¬ (0 ≤ d ∧ t * b + d ≤ lim)) : rdN b lim (s.data.toList.drop k) t = none := by
  rw [drop_at s k h, rdN, hd, if_neg g]
theorem rdN_end (b lim : Int) (s : ByteArray) (k : Nat) (t : Int) (h : s.size ≤ k) : rdN b lim (s.data.toList.drop k) t = Option.some t := by
  rw [List.drop_eq_nil_of_le (by simpa using h)]; rfl
theorem dg_high (b c : Int) (h : 128 ≤ c) : dg b c = -1 := by
  have e : dv c = -1 := by
    unfold dv
    rw [if_neg (by omega), if_neg (by omega)]
  unfold dg
  rw [e]
  split <;> rfl

/-- what begins a text of digits -/
inductive DigHead (s : ByteArray) : Prop
  | none (h : s.size = 0)
  | zero (h : 1 < s.size) (e : (s[0]'(by omega)).toNat = 48)
  | one (h : s.size = 1)
  | more (h : 1 < s.size) (e : (s[0]'(by omega)).toNat ≠ 48)
theorem dig_head (s : ByteArray) : DigHead s := by
  rcases Nat.eq_zero_or_pos s.size with h | h
  · exact .none h
  · rcases Nat.lt_or_ge 1 s.size with h1 | h1
    · by_cases e : (s[0]'(by omega)).toNat = 48
      · exact .zero h1 e
      · exact .more h1 e
    · exact .one (by omega)
theorem size_data (s : ByteArray) : s.size = s.data.toList.length := Lib.size_eq s
theorem head_at (s : ByteArray) (h : 0 < s.size) : s.data.toList.head? = Option.some (s[0]'h) := by
  have := drop_at s 0 h
  rw [List.drop_zero] at this
  rw [this]; rfl
theorem rdT_nil (b lim : Int) (s : ByteArray) (h : s.size = 0) : rdT b lim s.data.toList = none := by
  unfold rdT
  rw [if_pos (.inl (List.eq_nil_of_length_eq_zero (by rw [← size_data]; exact h)))]
theorem rdT_zero (b lim : Int) (s : ByteArray) (h : 1 < s.size) (e : (s[0]'(by omega)).toNat = 48) : rdT b lim s.data.toList = none := by
  unfold rdT
  refine if_pos (.inr ⟨by rw [← size_data]; exact h, ?_⟩)
  rw [head_at s (by omega)]
  congr 1
  exact UInt8.toNat_inj.1 e
theorem rdT_go (b lim : Int) (s : ByteArray) (h : 0 < s.size) (e : 1 < s.size → (s[0]'h).toNat ≠ 48) : rdT b lim s.data.toList = rdN b lim (s.data.toList.drop 0) 0 := by
  unfold rdT
  rw [if_neg, List.drop_zero]
  rintro (h1 | ⟨h1, h2⟩)
  · have q : s.size = 0 := by rw [size_data, h1]; rfl
    omega
  · rw [head_at s h] at h2
    refine e (by rw [size_data]; exact h1) ?_
    rw [Option.some.inj h2]
    rfl
theorem empty_tests {s : ByteArray} (h : s.size = 0) : (s.toList == []) = true ∧ s.toList.isEmpty = true := by
  have e : s.toList = [] := by rw [ByteArray.toList_eq]; exact List.eq_nil_of_length_eq_zero (by rw [← size_data]; exact h)
  rw [e]; exact ⟨rfl, rfl⟩
theorem full_tests {s : ByteArray} (h : 0 < s.size) : (s.toList == []) = false ∧ s.toList.isEmpty = false := by
  have e : s.toList ≠ [] := by
    rw [ByteArray.toList_eq]
    intro e
    have q : s.size = 0 := by rw [size_data, e]; rfl
    omega
  cases hl : s.toList with
  | nil => exact absurd hl e
  | cons a r => exact ⟨rfl, rfl⟩
theorem first_byte (s : ByteArray) (h : 0 < s.size) (w : World) : (Instr.index 9 (.string s) (.int .i64 0)).run Tryd.prog w = .ok (.int .u8 (s[0]'h).toNat) w := by
  rw [run_index_string w 9 s .i64 0 Tryd.underlying9, dif_pos (by omega)]
  rfl

def SaysRd (w : World) (o : Option Int) (e : Ending) (w' : World) : Prop := e = .returned (.tuple #[.int .i64 (optR o), .bool (optK o)]) ∧ Below w.heap.size w w'
def RdRel (w : World) (b lim : Int) (s : ByteArray) (o : Option Int) (n : Value) (wr : World) : Prop :=
  ∃ (k : Nat) (t : Int), k ≤ s.size ∧ n = .int .i64 t ∧ wr = w.iter s k ∧ 0 ≤ t ∧ t ≤ lim ∧ Hid (rdN b lim (s.data.toList.drop k) t = o)
theorem iter_below (w : World) (s : ByteArray) (k : Nat) : Below w.heap.size w (w.iter s k) := (Below.refl _ _).alloc (Nat.le_refl _) _

end Go.Proofs.YthgbhnedfdnfpaaDoor

/- The table of units: what its cells hold; facts out of the rows' conditions; a world for the witness with the tables in place. Units: contracts of splitUnit. -/
namespace Go.Proofs.YthgbhnedfdnfpaaDoor
set_option maxRecDepth 100000
open Go.RowKit

theorem cInt : Tryd.prog.cellsOf 3 = 1 := by kernel_rfl
theorem list_four {α : Type} {l : List α} (h : l.length = 4) : ∃ a b c d, l = [a, b, c, d] := by
  match l, h with
  | [a, b, c, d], _ => exact ⟨a, b, c, d, rfl⟩
end Go.Proofs.YthgbhnedfdnfpaaDoor

namespace Go.Proofs.YthgbhnedfdnfpaaDoor
open Go.RowKit

/-- what stands before the last byte -/
def initL (l : List UInt8) : List UInt8 := l.take (l.length - 1)
theorem trim_yes {l : List UInt8} {c : UInt8} (h : Lib.hasSuffix l [c] = true) : Lib.trimSuffix l [c] = initL l := by unfold Lib.trimSuffix initL; rw [if_pos h]; rfl
/-- a text and a number -/
def SaysUnit (w : World) (u : ByteArray) (f : Int) (e : Ending) (w' : World) : Prop := e = .returned (.tuple #[.string u, .int .i64 f]) ∧ Below w.heap.size w w'
theorem unit_cells (w w1 : World) (b : ByteArray) (n : Int) (ty : TypeId) (h : w1 = w.alloc (.cells #[.string b, .int .i64 n] ty)) :
    w1.cell? ⟨w.heap.size, 0, none⟩ = some (.string b) ∧ w1.cell? ⟨w.heap.size, 1, none⟩ = some (.int .i64 n) := by
  subst h
  constructor <;> rw [World.cell?_alloc_at _ _ _ _ rfl] <;> rfl

theorem unit_below (w w1 : World) (b : ByteArray) (n : Int) (ty : TypeId) (h : w1 = w.alloc (.cells #[.string b, .int .i64 n] ty)) : Below w.heap.size w w1 := by
  subst h
  exact (Below.refl _ _).alloc (Nat.le_refl _) _
end Go.Proofs.YthgbhnedfdnfpaaDoor
