/- Space and first texts of a list of bytes: plain functions and facts, for the tokens of chapter 3. -/
import Derived.Test.YteogadbjnmcblaaDoorBad
import Derived.Lib.Strings
namespace Go.Proofs.YteogadbjnmcblaaDoor
set_option maxRecDepth 100000
open Go.RowKit

/-- the number of bytes of the space that a list begins with; the first argument: inside a comment -/
def skL : Bool → List UInt8 → Nat
  | _, [] => 0
  | cm, c :: r =>
    if c.toNat = 10 then skL false r + 1
    else if cm then (if plainB (c.toNat : Int) then skL true r + 1 else 0)
    else if c.toNat = 32 ∨ c.toNat = 9 then skL false r + 1
    else if c.toNat = 92 then (if Lib.hasPrefix r [10] then skL false r + 1 else 0)
    else if c.toNat = 35 then skL true r + 1
    else 0
theorem skL_le (b : Bool) (l : List UInt8) : skL b l ≤ l.length := by
  induction l generalizing b with
  | nil => simp [skL]
  | cons c r ih =>
    have h0 := ih false
    have h1 := ih true
    unfold skL
    repeat' split
    all_goals simp
    all_goals omega
theorem sk_nl (b : Bool) (s : ByteArray) (k : Nat) (h : k < s.size) (e : (s[k]'h).toNat = 10) : skL b (s.data.toList.drop k) = skL false (s.data.toList.drop (k + 1)) + 1 := by
  rw [drop_at s k h, skL, if_pos e]
theorem sk_in (s : ByteArray) (k : Nat) (h : k < s.size) (e : (s[k]'h).toNat ≠ 10) (p : plainB ((s[k]'h).toNat : Int) = true) : skL true (s.data.toList.drop k) = skL true (s.data.toList.drop (k + 1)) + 1 := by
  rw [drop_at s k h, skL, if_neg e, if_pos rfl, if_pos p]
theorem sk_out (s : ByteArray) (k : Nat) (h : k < s.size) (p : plainB ((s[k]'h).toNat : Int) = false) : skL true (s.data.toList.drop k) = 0 := by
  have e : (s[k]'h).toNat ≠ 10 := by intro e; rw [e] at p; simp [plainB] at p
  rw [drop_at s k h, skL, if_neg e, if_pos rfl, if_neg (by simp [p])]
theorem sk_blank (s : ByteArray) (k : Nat) (h : k < s.size) (e : (s[k]'h).toNat = 32 ∨ (s[k]'h).toNat = 9) : skL false (s.data.toList.drop k) = skL false (s.data.toList.drop (k + 1)) + 1 := by
  rw [drop_at s k h, skL, if_neg (by omega), if_neg (by simp), if_pos e]
theorem sk_hash (s : ByteArray) (k : Nat) (h : k < s.size) (e : (s[k]'h).toNat = 35) : skL false (s.data.toList.drop k) = skL true (s.data.toList.drop (k + 1)) + 1 := by
  rw [drop_at s k h, skL, if_neg (by omega), if_neg (by simp), if_neg (by omega), if_neg (by omega), if_pos e]
theorem sk_back (s : ByteArray) (k : Nat) (h : k < s.size) (e : (s[k]'h).toNat = 92) (p : Lib.hasPrefix (s.data.toList.drop (k + 1)) [10] = true) : skL false (s.data.toList.drop k) = skL false (s.data.toList.drop (k + 1)) + 1 := by
  rw [drop_at s k h, skL, if_neg (by omega), if_neg (by simp), if_neg (by omega), if_pos e, if_pos p]
theorem sk_lone (s : ByteArray) (k : Nat) (h : k < s.size) (e : (s[k]'h).toNat = 92) (p : Lib.hasPrefix (s.data.toList.drop (k + 1)) [10] = false) : skL false (s.data.toList.drop k) = 0 := by
  rw [drop_at s k h, skL, if_neg (by omega), if_neg (by simp), if_neg (by omega), if_pos e, if_neg (by simp [p])]
theorem sk_stop (s : ByteArray) (k : Nat) (h : k < s.size) (e : (s[k]'h).toNat ≠ 10 ∧ (s[k]'h).toNat ≠ 32 ∧ (s[k]'h).toNat ≠ 9 ∧ (s[k]'h).toNat ≠ 92 ∧ (s[k]'h).toNat ≠ 35) : skL false (s.data.toList.drop k) = 0 := by
  obtain ⟨e1, e2, e3, e4, e5⟩ := e
  rw [drop_at s k h, skL, if_neg e1, if_neg (by simp), if_neg (by omega), if_neg e4, if_neg e5]
theorem sk_end (b : Bool) (s : ByteArray) (k : Nat) (h : s.size ≤ k) : skL b (s.data.toList.drop k) = 0 := by
  rw [List.drop_eq_nil_of_le (by simpa using h)]; cases b <;> rfl
theorem size_list (s : ByteArray) : s.size = s.data.toList.length := Lib.size_eq s
theorem next_nl (s : ByteArray) (k : Nat) (h : k + 1 < s.size) : Lib.hasPrefix (s.data.toList.drop (k + 1)) [10] = decide ((s[k + 1]'h).toNat = 10) := by
  rw [drop_at s (k + 1) h]
  unfold Lib.hasPrefix
  simp [List.isPrefixOf]
  rw [Bool.eq_iff_iff]
  simp
  constructor
  · intro e; rw [← e]; rfl
  · intro e; exact (UInt8.toNat_inj.1 (by rw [e]; rfl))
theorem next_none (s : ByteArray) (k : Nat) (h : s.size ≤ k + 1) : Lib.hasPrefix (s.data.toList.drop (k + 1)) [10] = false := by
  rw [List.drop_eq_nil_of_le (by simpa using h)]; rfl
theorem two_prefix (s : ByteArray) (k : Nat) (h : k < s.size) (e : (s[k]'h).toNat = 92) : Lib.hasPrefix (s.data.toList.drop k) [92, 10] = Lib.hasPrefix (s.data.toList.drop (k + 1)) [10] := by
  have e' : s[k]'h = 92 := UInt8.toNat_inj.1 (by rw [e]; rfl)
  rw [drop_at s k h, e']
  unfold Lib.hasPrefix
  simp [List.isPrefixOf]
end Go.Proofs.YteogadbjnmcblaaDoor
