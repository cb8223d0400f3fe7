import Derived.Test.YthgbhnedfdnfpaaDoorRows
import Derived.WalkKit
import Derived.Lib.Hide
import Derived.LoopTactic
import Derived.Lib.Strings
import Derived.Laws.RangeAny
import Derived.Laws.Runes
import Derived.WalkMore
import Derived.Deep.RegionWith
/- Contracts of the small functions of chapter 1 that only compute with numbers. -/
namespace Go.Proofs.YthgbhnedfdnfpaaDoor
set_option maxRecDepth 100000
open Go.RowKit
theorem ret_bool {a b : Bool} (h : a = b) : Ending.returned (.bool a) = .returned (.bool b) := by rw [h]
theorem ret_int {k : IntKind} {a b : Int} (h : a = b) : Ending.returned (.int k a) = .returned (.int k b) := by rw [h]
theorem is_le {a b : Int} (h : a ≤ b) : decide (a ≤ b) = true := by simp; omega
theorem is_lt {a b : Int} (h : a < b) : decide (a < b) = true := by simp; omega
theorem not_le {a b : Int} (h : b < a) : decide (a ≤ b) = false := by simp; omega
theorem not_lt {a b : Int} (h : b ≤ a) : decide (a < b) = false := by simp; omega

def inB (n lo hi : Int) : Bool := decide (lo ≤ n) && decide (n ≤ hi)
theorem inB_true {n lo hi : Int} (h : lo ≤ n) (h2 : n ≤ hi) : inB n lo hi = true := by unfold inB; simp [h, h2]
theorem inB_low {n lo hi : Int} (h : n < lo) : inB n lo hi = false := by unfold inB; simp; omega
theorem inB_high {n lo hi : Int} (h : hi < n) : inB n lo hi = false := by unfold inB; simp; omega

theorem l1In_any (n lo hi : Int) (w : World) :
    Calls Tryd.prog 42 #[.int .i64 n, .int .i64 lo, .int .i64 hi] w fun e w' => e = .returned (.bool (inB n lo hi)) ∧ w = w' := by
  rcases Int.lt_or_le n lo with c0 | c0
  · have H : Hid (inB n lo hi = false) := Lib.hid (inB_low c0)
    go_enter Tryd.func42, Tryd.ntmps42
    go_wp2
    go_ret
    exact ⟨ret_bool (by rw [H.out]), rfl⟩
  rcases Int.lt_or_le hi n with c1 | c1
  · have H : Hid (inB n lo hi = false) := Lib.hid (inB_high c1)
    have d := not_le c1
    go_enter Tryd.func42, Tryd.ntmps42
    go_wp2
    go_ret
    exact ⟨ret_bool (by rw [H.out]), rfl⟩
  · have H : Hid (inB n lo hi = true) := Lib.hid (inB_true c0 c1)
    go_enter Tryd.func42, Tryd.ntmps42
    go_wp2
    go_ret
    exact ⟨ret_bool (by rw [H.out]), rfl⟩

theorem l1In_true (n lo hi : Int) (w : World) (c0 : lo ≤ n) (c1 : n ≤ hi) :
    Calls Tryd.prog 42 #[.int .i64 n, .int .i64 lo, .int .i64 hi] w fun e w' => e = .returned (.bool true) ∧ w = w' :=
  (l1In_any n lo hi w).mono fun _ _ ⟨a, b⟩ => ⟨by rw [a, inB_true c0 c1], b⟩
theorem l1In_false (n lo hi : Int) (w : World) (c : n < lo ∨ hi < n) :
    Calls Tryd.prog 42 #[.int .i64 n, .int .i64 lo, .int .i64 hi] w fun e w' => e = .returned (.bool false) ∧ w = w' :=
  (l1In_any n lo hi w).mono fun _ _ ⟨a, b⟩ => ⟨by rcases c with c | c <;> rw [a]; rw [inB_low c]; rw [inB_high c], b⟩


/-! Bytes that may be in a text. -/
def plainB (c : Int) : Bool := (decide (32 ≤ c) && decide (c ≤ 126)) || c == 9 || c == 10
theorem plain_cases {c : Int} (h : plainB c = true) : (32 ≤ c ∧ c ≤ 126) ∨ c = 9 ∨ c = 10 := by
  unfold plainB at h; simp at h; omega
theorem plain_not {c : Int} (h : plainB c = false) : (c == 9) = false ∧ (c == 10) = false ∧ (c < 32 ∨ 126 < c) := by
  unfold plainB at h; simp at h; simp; omega
theorem ret_pair {a a' b b' : Value} (h : a = a') (h' : b = b') : Ending.returned (.tuple #[a, b]) = .returned (.tuple #[a', b']) := by rw [h, h']
end Go.Proofs.YthgbhnedfdnfpaaDoor

/- The first byte that may not be in a text: contracts of both functions. -/
namespace Go.Proofs.YthgbhnedfdnfpaaDoor
set_option maxRecDepth 100000
open Go.RowKit

def badL : List UInt8 → Nat
  | [] => 0
  | c :: r => if plainB (c.toNat : Int) then badL r + 1 else 0
theorem badL_le (l : List UInt8) : badL l ≤ l.length := by
  induction l with
  | nil => simp [badL]
  | cons c r ih => unfold badL; split <;> simp; omega
theorem drop_at (s : ByteArray) (k : Nat) (h : k < s.size) : s.data.toList.drop k = s[k] :: s.data.toList.drop (k + 1) := by
  rw [List.drop_eq_getElem_cons (by simpa using h)]; rfl
theorem badL_more (s : ByteArray) (k : Nat) (h : k < s.size) (hp : plainB (s[k].toNat : Int) = true) : badL (s.data.toList.drop k) = badL (s.data.toList.drop (k + 1)) + 1 := by
  rw [drop_at s k h, badL, if_pos hp]
theorem badL_stop (s : ByteArray) (k : Nat) (h : k < s.size) (hp : plainB (s[k].toNat : Int) = false) : badL (s.data.toList.drop k) = 0 := by
  rw [drop_at s k h, badL, if_neg (by rw [hp]; simp)]
theorem badL_end (s : ByteArray) (k : Nat) (h : s.size ≤ k) : badL (s.data.toList.drop k) = 0 := by
  rw [List.drop_eq_nil_of_le (by simpa using h)]; rfl

/-- what both loops say at each round's head -/
def BadRel (s : ByteArray) (v : Value) : Prop := ∃ k : Nat, k ≤ s.size ∧ v = .int .i64 k ∧ k + badL (s.data.toList.drop k) = badL s.data.toList

def badB (s : ByteArray) : Bool := decide ((s.size : Int) ≤ 4000)
def badR (s : ByteArray) : Int := if (s.size : Int) ≤ 4000 then badL s.data.toList else 0
end Go.Proofs.YthgbhnedfdnfpaaDoor

/- Space and first texts of a list of bytes: plain functions and facts, for the tokens of chapter 3. Letters and digits, signs, words, key words of a list of bytes: plain functions and facts. -/
namespace Go.Proofs.YthgbhnedfdnfpaaDoor
set_option maxRecDepth 100000
open Go.RowKit

/-- the number of bytes of the space that a list begins with; the first argument: inside a comment -/
def skL : Bool → List UInt8 → Nat
  | _, [] => 0
  | cm, c :: r =>
    if c.toNat = 10 then skL false r + 1
    else if cm then (if plainB (c.toNat : Int) then skL true r + 1 else 0)
    else if c.toNat = 32 ∨ c.toNat = 9 then skL false r + 1
    else if c.toNat = 92 then (if Lib.hasPrefix r [10] then skL false r + 1 else 0)
    else if c.toNat = 35 then skL true r + 1
    else 0
theorem skL_le (b : Bool) (l : List UInt8) : skL b l ≤ l.length := by
  induction l generalizing b with
  | nil => simp [skL]
  | cons c r ih =>
    have h0 := ih false
    have h1 := ih true
    unfold skL
    repeat' split
    all_goals simp
    all_goals omega
theorem sk_nl (b : Bool) (s : ByteArray) (k : Nat) (h : k < s.size) (e : (s[k]'h).toNat = 10) : skL b (s.data.toList.drop k) = skL false (s.data.toList.drop (k + 1)) + 1 := by
  rw [drop_at s k h, skL, if_pos e]
theorem sk_in (s : ByteArray) (k : Nat) (h : k < s.size) (e : (s[k]'h).toNat ≠ 10) (p : plainB ((s[k]'h).toNat : Int) = true) : skL true (s.data.toList.drop k) = skL true (s.data.toList.drop (k + 1)) + 1 := by
  rw [drop_at s k h, skL, if_neg e, if_pos rfl, if_pos p]
theorem sk_out (s : ByteArray) (k : Nat) (h : k < s.size) (p : plainB ((s[k]'h).toNat : Int) = false) : skL true (s.data.toList.drop k) = 0 := by
  have e : (s[k]'h).toNat ≠ 10 := by intro e; rw [e] at p; simp [plainB] at p
  rw [drop_at s k h, skL, if_neg e, if_pos rfl, if_neg (by simp [p])]
theorem sk_blank (s : ByteArray) (k : Nat) (h : k < s.size) (e : (s[k]'h).toNat = 32 ∨ (s[k]'h).toNat = 9) : skL false (s.data.toList.drop k) = skL false (s.data.toList.drop (k + 1)) + 1 := by
  rw [drop_at s k h, skL, if_neg (by omega), if_neg (by simp), if_pos e]
theorem sk_hash (s : ByteArray) (k : Nat) (h : k < s.size) (e : (s[k]'h).toNat = 35) : skL false (s.data.toList.drop k) = skL true (s.data.toList.drop (k + 1)) + 1 := by
  rw [drop_at s k h, skL, if_neg (by omega), if_neg (by simp), if_neg (by omega), if_neg (by omega), if_pos e]
theorem sk_back (s : ByteArray) (k : Nat) (h : k < s.size) (e : (s[k]'h).toNat = 92) (p : Lib.hasPrefix (s.data.toList.drop (k + 1)) [10] = true) : skL false (s.data.toList.drop k) = skL false (s.data.toList.drop (k + 1)) + 1 := by
  rw [drop_at s k h, skL, if_neg (by omega), if_neg (by simp), if_neg (by omega), if_pos e, if_pos p]
theorem sk_lone (s : ByteArray) (k : Nat) (h : k < s.size) (e : (s[k]'h).toNat = 92) (p : Lib.hasPrefix (s.data.toList.drop (k + 1)) [10] = false) : skL false (s.data.toList.drop k) = 0 := by
  rw [drop_at s k h, skL, if_neg (by omega), if_neg (by simp), if_neg (by omega), if_pos e, if_neg (by simp [p])]
theorem sk_stop (s : ByteArray) (k : Nat) (h : k < s.size) (e : (s[k]'h).toNat ≠ 10 ∧ (s[k]'h).toNat ≠ 32 ∧ (s[k]'h).toNat ≠ 9 ∧ (s[k]'h).toNat ≠ 92 ∧ (s[k]'h).toNat ≠ 35) : skL false (s.data.toList.drop k) = 0 := by
  obtain ⟨e1, e2, e3, e4, e5⟩ := e
  rw [drop_at s k h, skL, if_neg e1, if_neg (by simp), if_neg (by omega), if_neg e4, if_neg e5]
theorem sk_end (b : Bool) (s : ByteArray) (k : Nat) (h : s.size ≤ k) : skL b (s.data.toList.drop k) = 0 := by
  rw [List.drop_eq_nil_of_le (by simpa using h)]; cases b <;> rfl
theorem size_list (s : ByteArray) : s.size = s.data.toList.length := Lib.size_eq s
theorem next_nl (s : ByteArray) (k : Nat) (h : k + 1 < s.size) : Lib.hasPrefix (s.data.toList.drop (k + 1)) [10] = decide ((s[k + 1]'h).toNat = 10) := by
  rw [drop_at s (k + 1) h]
  unfold Lib.hasPrefix
  simp [List.isPrefixOf]
  rw [Bool.eq_iff_iff]
  simp
  constructor
  · intro e; rw [← e]; rfl
  · intro e; exact (UInt8.toNat_inj.1 (by rw [e]; rfl))
theorem next_none (s : ByteArray) (k : Nat) (h : s.size ≤ k + 1) : Lib.hasPrefix (s.data.toList.drop (k + 1)) [10] = false := by
  rw [List.drop_eq_nil_of_le (by simpa using h)]; rfl
theorem two_prefix (s : ByteArray) (k : Nat) (h : k < s.size) (e : (s[k]'h).toNat = 92) : Lib.hasPrefix (s.data.toList.drop k) [92, 10] = Lib.hasPrefix (s.data.toList.drop (k + 1)) [10] := by
  have e' : s[k]'h = 92 := UInt8.toNat_inj.1 (by rw [e]; rfl)
  rw [drop_at s k h, e']
  unfold Lib.hasPrefix
  simp [List.isPrefixOf]
end Go.Proofs.YthgbhnedfdnfpaaDoor

namespace Go.Proofs.YthgbhnedfdnfpaaDoor
open Go.RowKit

def letB (c : Int) : Bool := decide (97 ≤ c) && decide (c ≤ 122)
def digB (c : Int) : Bool := decide (48 ≤ c) && decide (c ≤ 57)
def mkB (c : Int) : Bool := letB c || digB c
/-- how many letters and digits a list begins with -/
def runN : List UInt8 → Nat
  | [] => 0
  | c :: r => if mkB (c.toNat : Int) then runN r + 1 else 0
theorem runN_le (l : List UInt8) : runN l ≤ l.length := by
  induction l with
  | nil => simp [runN]
  | cons c r ih => unfold runN; split <;> simp; omega
theorem run_more (s : ByteArray) (k : Nat) (h : k < s.size) (hp : mkB ((s[k]'h).toNat : Int) = true) : runN (s.data.toList.drop k) = runN (s.data.toList.drop (k + 1)) + 1 := by
  rw [drop_at s k h, runN, if_pos hp]
theorem run_stop (s : ByteArray) (k : Nat) (h : k < s.size) (hp : mkB ((s[k]'h).toNat : Int) = false) : runN (s.data.toList.drop k) = 0 := by
  rw [drop_at s k h, runN, if_neg (by rw [hp]; simp)]
theorem run_end (s : ByteArray) (k : Nat) (h : s.size ≤ k) : runN (s.data.toList.drop k) = 0 := by
  rw [List.drop_eq_nil_of_le (by simpa using h)]; rfl
/-- the signs -/
def sgA : List ByteArray := [⟨#[123]⟩, ⟨#[125]⟩, ⟨#[59]⟩, ⟨#[47]⟩, ⟨#[61]⟩, ⟨#[45, 62]⟩]
/-- the first of some texts that a list begins with -/
def pfxOf (l : List UInt8) : List ByteArray → ByteArray
  | [] => ⟨#[]⟩
  | x :: r => if Lib.hasPrefix l x.data.toList then x else pfxOf l r
def sgOf (l : List UInt8) : ByteArray := pfxOf l sgA
theorem pfx_at (l : List UInt8) (x : ByteArray) (k : Nat) (h : k < sgA.length) (e : sgA.getD k ⟨#[]⟩ = x) : pfxOf l (sgA.drop k) = if Lib.hasPrefix l x.data.toList then x else pfxOf l (sgA.drop (k + 1)) := by
  rw [List.drop_eq_getElem_cons h, pfxOf]
  have : sgA[k] = x := by rw [← e]; simp [List.getD_eq_getElem?_getD, h]
  rw [this]
theorem pfx_end (l : List UInt8) : pfxOf l (sgA.drop 6) = ⟨#[]⟩ := rfl
/-- the key words -/
def kwA : List ByteArray := [⟨#[113, 100, 105, 115, 99]⟩, ⟨#[100, 101, 102, 97, 117, 108, 116]⟩, ⟨#[99, 108, 97, 115, 115]⟩, ⟨#[114, 97, 116, 101]⟩, ⟨#[99, 101, 105, 108]⟩, ⟨#[98, 117, 114, 115, 116]⟩, ⟨#[99, 98, 117, 114, 115, 116]⟩, ⟨#[112, 114, 105, 111]⟩, ⟨#[108, 105, 109, 105, 116]⟩, ⟨#[102, 105, 108, 116, 101, 114]⟩, ⟨#[115, 111, 117, 114, 99, 101]⟩, ⟨#[100, 101, 115, 116]⟩, ⟨#[112, 111, 114, 116]⟩, ⟨#[109, 97, 114, 107]⟩]
/-- a text is one of some -/
def oneOf (s : ByteArray) : List ByteArray → Bool
  | [] => false
  | x :: r => (x.toList == s.toList) || oneOf s r
def isKw (s : ByteArray) : Bool := oneOf s kwA
/-- only letters, twelve at most -/
def wdB (l : List UInt8) : Bool := l.all (fun c => letB (c.toNat : Int)) && decide (l.length ≤ 12)
end Go.Proofs.YthgbhnedfdnfpaaDoor

/- Space skipped: contracts of spaceSize and SkipSpace, program and model. -/
namespace Go.Proofs.YthgbhnedfdnfpaaDoor
set_option maxRecDepth 100000
open Go.RowKit
set_option linter.unusedVariables false

/-- a number, memory made -/
def SaysN (w : World) (n : Int) (e : Ending) (w' : World) : Prop := e = .returned (.int .i64 n) ∧ Below w.heap.size w w'
theorem byte_at (s : ByteArray) (k : Nat) (h : k < s.size) (m : Int) (hm : m = k) (w : World) : (Instr.index 9 (.string s) (.int .i64 m)).run Tryd.prog w = .ok (.int .u8 (s[k]'h).toNat) w := by
  subst hm
  rw [run_index_string w 9 s .i64 (k : Int) Tryd.underlying9, dif_pos (by omega)]
  rfl
/-- what stands from an index on -/
theorem rest_at (s : ByteArray) (k : Nat) (h : k ≤ s.size) : ∃ u : ByteArray, u.data.toList = s.data.toList.drop k ∧ u.size + k = s.size ∧ (∀ w, (Instr.slice 9 (.string s) (some (.int .i64 (k : Int))) none none).run Tryd.prog w = .ok (.string u) w) := by
  refine ⟨s.extract k s.size, ?_, ?_, fun w => ?_⟩
  · rw [Lib.extract_data, List.take_of_length_le]
    simp
  · simp; omega
  · rw [run_slice_string_l w 9 s Tryd.underlying9 .i64 (k : Int) (by omega) (by omega)]
    rfl
def SpRel (w : World) (s : ByteArray) (N : Nat) (c : Value) (wr : World) : Prop :=
  ∃ (k : Nat) (b : Bool), k ≤ s.size ∧ c = .bool b ∧ wr = w.iter s k ∧ Hid (k + skL b (s.data.toList.drop k) = N)
theorem below_iter (w : World) (s : ByteArray) (k : Nat) : Below w.heap.size w (w.iter s k) := (Below.refl _ _).alloc (Nat.le_refl _) _
def SkRel (s : ByteArray) (N : Nat) (v : Value) : Prop := ∃ k : Nat, k ≤ s.size ∧ v = .int .i64 k ∧ Hid (k + skL false (s.data.toList.drop k) = N)
def SkIn (s : ByteArray) (N k0 : Nat) (v : Value) : Prop := ∃ k : Nat, k0 ≤ k ∧ k ≤ s.size ∧ v = .int .i64 k ∧ Hid (k + skL true (s.data.toList.drop k) = N)
theorem plain35 : plainB 35 = true := by decide
end Go.Proofs.YthgbhnedfdnfpaaDoor
