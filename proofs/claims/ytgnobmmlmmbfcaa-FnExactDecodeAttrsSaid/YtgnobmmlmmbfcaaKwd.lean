/- Space and first texts of a list of bytes: plain functions and facts, for the tokens of chapter 3. Letters and digits, signs, words, key words of a list of bytes: plain functions and facts. -/
import Derived.Test.YtgnobmmlmmbfcaaBad
import Derived.Lib.Strings
namespace Go.Proofs.Ytgnobmmlmmbfcaa
open Go.RowKit

/-- the number of bytes of the space that a list begins with; the first argument: inside a comment -/
def skL : Bool → List UInt8 → Nat
  | _, [] => 0
  | cm, c :: r =>
    if c.toNat = 10 then skL false r + 1
    else if cm then (if plainB (c.toNat : Int) then skL true r + 1 else 0)
    else if c.toNat = 32 ∨ c.toNat = 9 then skL false r + 1
    else if c.toNat = 92 then (if Lib.hasPrefix r [10] then skL false r + 1 else 0)
    else if c.toNat = 35 then skL true r + 1
    else 0
theorem skL_le (b : Bool) (l : List UInt8) : skL b l ≤ l.length := by
  induction l generalizing b with
  | nil => simp [skL]
  | cons c r ih =>
    have h0 := ih false
    have h1 := ih true
    unfold skL
    repeat' split
    all_goals simp
    all_goals omega
theorem sk_nl (b : Bool) (s : ByteArray) (k : Nat) (h : k < s.size) (e : (s[k]'h).toNat = 10) : skL b (s.data.toList.drop k) = skL false (s.data.toList.drop (k + 1)) + 1 := by
  rw [drop_at s k h, skL, if_pos e]
theorem sk_in (s : ByteArray) (k : Nat) (h : k < s.size) (e : (s[k]'h).toNat ≠ 10) (p : plainB ((s[k]'h).toNat : Int) = true) : skL true (s.data.toList.drop k) = skL true (s.data.toList.drop (k + 1)) + 1 := by
  rw [drop_at s k h, skL, if_neg e, if_pos rfl, if_pos p]
theorem sk_out (s : ByteArray) (k : Nat) (h : k < s.size) (p : plainB ((s[k]'h).toNat : Int) = false) : skL true (s.data.toList.drop k) = 0 := by
  have e : (s[k]'h).toNat ≠ 10 := by intro e; rw [e] at p; simp [plainB] at p
  rw [drop_at s k h, skL, if_neg e, if_pos rfl, if_neg (by simp [p])]
theorem sk_blank (s : ByteArray) (k : Nat) (h : k < s.size) (e : (s[k]'h).toNat = 32 ∨ (s[k]'h).toNat = 9) : skL false (s.data.toList.drop k) = skL false (s.data.toList.drop (k + 1)) + 1 := by
  rw [drop_at s k h, skL, if_neg (by omega), if_neg (by simp), if_pos e]
theorem sk_hash (s : ByteArray) (k : Nat) (h : k < s.size) (e : (s[k]'h).toNat = 35) : skL false (s.data.toList.drop k) = skL true (s.data.toList.drop (k + 1)) + 1 := by
  rw [drop_at s k h, skL, if_neg (by omega), if_neg (by simp), if_neg (by omega), if_neg (by omega), if_pos e]
theorem sk_back (s : ByteArray) (k : Nat) (h : k < s.size) (e : (s[k]'h).toNat = 92) (p : Lib.hasPrefix (s.data.toList.drop (k + 1)) [10] = true) : skL false (s.data.toList.drop k) = skL false (s.data.toList.drop (k + 1)) + 1 := by
  rw [drop_at s k h, skL, if_neg (by omega), if_neg (by simp), if_neg (by omega), if_pos e, if_pos p]
theorem sk_lone (s : ByteArray) (k : Nat) (h : k < s.size) (e : (s[k]'h).toNat = 92) (p : Lib.hasPrefix (s.data.toList.drop (k + 1)) [10] = false) : skL false (s.data.toList.drop k) = 0 := by
  rw [drop_at s k h, skL, if_neg (by omega), if_neg (by simp), if_neg (by omega), if_pos e, if_neg (by simp [p])]
theorem sk_stop (s : ByteArray) (k : Nat) (h : k < s.size) (e : (s[k]'h).toNat ≠ 10 ∧ (s[k]'h).toNat ≠ 32 ∧ (s[k]'h).toNat ≠ 9 ∧ (s[k]'h).toNat ≠ 92 ∧ (s[k]'h).toNat ≠ 35) : skL false (s.data.toList.drop k) = 0 := by
  obtain ⟨e1, e2, e3, e4, e5⟩ := e
  rw [drop_at s k h, skL, if_neg e1, if_neg (by simp), if_neg (by omega), if_neg e4, if_neg e5]
theorem sk_end (b : Bool) (s : ByteArray) (k : Nat) (h : s.size ≤ k) : skL b (s.data.toList.drop k) = 0 := by
  rw [List.drop_eq_nil_of_le (by simpa using h)]; cases b <;> rfl
theorem size_list (s : ByteArray) : s.size = s.data.toList.length := Lib.size_eq s
theorem next_nl (s : ByteArray) (k : Nat) (h : k + 1 < s.size) : Lib.hasPrefix (s.data.toList.drop (k + 1)) [10] = decide ((s[k + 1]'h).toNat = 10) := by
  rw [drop_at s (k + 1) h]
  unfold Lib.hasPrefix
  simp [List.isPrefixOf]
  rw [Bool.eq_iff_iff]
  simp
  constructor
  · intro e; rw [← e]; rfl
  · intro e; exact (UInt8.toNat_inj.1 (by rw [e]; rfl))
theorem next_none (s : ByteArray) (k : Nat) (h : s.size ≤ k + 1) : Lib.hasPrefix (s.data.toList.drop (k + 1)) [10] = false := by
  rw [List.drop_eq_nil_of_le (by simpa using h)]; rfl
theorem two_prefix (s : ByteArray) (k : Nat) (h : k < s.size) (e : (s[k]'h).toNat = 92) : Lib.hasPrefix (s.data.toList.drop k) [92, 10] = Lib.hasPrefix (s.data.toList.drop (k + 1)) [10] := by
  have e' : s[k]'h = 92 := UInt8.toNat_inj.1 (by rw [e]; rfl)
  rw [drop_at s k h, e']
  unfold Lib.hasPrefix
  simp [List.isPrefixOf]
end Go.Proofs.Ytgnobmmlmmbfcaa

namespace Go.Proofs.Ytgnobmmlmmbfcaa
open Go.RowKit

def letB (c : Int) : Bool := decide (97 ≤ c) && decide (c ≤ 122)
def digB (c : Int) : Bool := decide (48 ≤ c) && decide (c ≤ 57)
def mkB (c : Int) : Bool := letB c || digB c
/-- how many letters and digits a list begins with -/
def runN : List UInt8 → Nat
  | [] => 0
  | c :: r => if mkB (c.toNat : Int) then runN r + 1 else 0
theorem runN_le (l : List UInt8) : runN l ≤ l.length := by
  induction l with
  | nil => simp [runN]
  | cons c r ih => unfold runN; split <;> simp; omega
theorem run_more (s : ByteArray) (k : Nat) (h : k < s.size) (hp : mkB ((s[k]'h).toNat : Int) = true) : runN (s.data.toList.drop k) = runN (s.data.toList.drop (k + 1)) + 1 := by
  rw [drop_at s k h, runN, if_pos hp]
theorem run_stop (s : ByteArray) (k : Nat) (h : k < s.size) (hp : mkB ((s[k]'h).toNat : Int) = false) : runN (s.data.toList.drop k) = 0 := by
  rw [drop_at s k h, runN, if_neg (by rw [hp]; simp)]
theorem run_end (s : ByteArray) (k : Nat) (h : s.size ≤ k) : runN (s.data.toList.drop k) = 0 := by
  rw [List.drop_eq_nil_of_le (by simpa using h)]; rfl
/-- the signs -/
def sgA : List ByteArray := [⟨#[123]⟩, ⟨#[125]⟩, ⟨#[59]⟩, ⟨#[47]⟩, ⟨#[61]⟩, ⟨#[45, 62]⟩]
/-- the first of some texts that a list begins with -/
def pfxOf (l : List UInt8) : List ByteArray → ByteArray
  | [] => ⟨#[]⟩
  | x :: r => if Lib.hasPrefix l x.data.toList then x else pfxOf l r
def sgOf (l : List UInt8) : ByteArray := pfxOf l sgA
theorem pfx_at (l : List UInt8) (x : ByteArray) (k : Nat) (h : k < sgA.length) (e : sgA.getD k ⟨#[]⟩ = x) : pfxOf l (sgA.drop k) = if Lib.hasPrefix l x.data.toList then x else pfxOf l (sgA.drop (k + 1)) := by
  rw [List.drop_eq_getElem_cons h, pfxOf]
  have : sgA[k] = x := by rw [← e]; simp [List.getD_eq_getElem?_getD, h]
  rw [this]
theorem pfx_end (l : List UInt8) : pfxOf l (sgA.drop 6) = ⟨#[]⟩ := rfl
/-- the key words -/
def kwA : List ByteArray := [⟨#[113, 100, 105, 115, 99]⟩, ⟨#[100, 101, 102, 97, 117, 108, 116]⟩, ⟨#[99, 108, 97, 115, 115]⟩, ⟨#[114, 97, 116, 101]⟩, ⟨#[99, 101, 105, 108]⟩, ⟨#[98, 117, 114, 115, 116]⟩, ⟨#[99, 98, 117, 114, 115, 116]⟩, ⟨#[112, 114, 105, 111]⟩, ⟨#[108, 105, 109, 105, 116]⟩, ⟨#[102, 105, 108, 116, 101, 114]⟩, ⟨#[115, 111, 117, 114, 99, 101]⟩, ⟨#[100, 101, 115, 116]⟩, ⟨#[112, 111, 114, 116]⟩, ⟨#[109, 97, 114, 107]⟩]
/-- a text is one of some -/
def oneOf (s : ByteArray) : List ByteArray → Bool
  | [] => false
  | x :: r => (x.toList == s.toList) || oneOf s r
def isKw (s : ByteArray) : Bool := oneOf s kwA
/-- only letters, twelve at most -/
def wdB (l : List UInt8) : Bool := l.all (fun c => letB (c.toNat : Int)) && decide (l.length ≤ 12)
end Go.Proofs.Ytgnobmmlmmbfcaa
