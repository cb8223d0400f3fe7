/- The first byte that may not be in a text: contracts of both functions. -/
import Derived.Test.YtgnobmmlmmbfcaaNum
import Derived.LoopTactic
namespace Go.Proofs.Ytgnobmmlmmbfcaa
open Go.RowKit

def badL : List UInt8 → Nat
  | [] => 0
  | c :: r => if plainB (c.toNat : Int) then badL r + 1 else 0
theorem badL_le (l : List UInt8) : badL l ≤ l.length := by
  induction l with
  | nil => simp [badL]
  | cons c r ih => unfold badL; split <;> simp; omega
theorem drop_at (s : ByteArray) (k : Nat) (h : k < s.size) : s.data.toList.drop k = s[k] :: s.data.toList.drop (k + 1) := by
  rw [List.drop_eq_getElem_cons (by simpa using h)]; rfl
theorem badL_more (s : ByteArray) (k : Nat) (h : k < s.size) (hp : plainB (s[k].toNat : Int) = true) : badL (s.data.toList.drop k) = badL (s.data.toList.drop (k + 1)) + 1 := by
  rw [drop_at s k h, badL, if_pos hp]
theorem badL_stop (s : ByteArray) (k : Nat) (h : k < s.size) (hp : plainB (s[k].toNat : Int) = false) : badL (s.data.toList.drop k) = 0 := by
  rw [drop_at s k h, badL, if_neg (by rw [hp]; simp)]
theorem badL_end (s : ByteArray) (k : Nat) (h : s.size ≤ k) : badL (s.data.toList.drop k) = 0 := by
  rw [List.drop_eq_nil_of_le (by simpa using h)]; rfl

/-- what both loops say at each round's head -/
def BadRel (s : ByteArray) (v : Value) : Prop := ∃ k : Nat, k ≤ s.size ∧ v = .int .i64 k ∧ k + badL (s.data.toList.drop k) = badL s.data.toList

def badB (s : ByteArray) : Bool := decide ((s.size : Int) ≤ 4000)
def badR (s : ByteArray) : Int := if (s.size : Int) ≤ 4000 then badL s.data.toList else 0
end Go.Proofs.Ytgnobmmlmmbfcaa
