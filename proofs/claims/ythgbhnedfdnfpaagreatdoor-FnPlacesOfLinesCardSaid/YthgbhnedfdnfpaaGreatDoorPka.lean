import Derived.Test.YthgbhnedfdnfpaaGreatDoorRows
import Derived.WalkKit
import Derived.Lib.Hide
import Derived.LoopTactic
import Derived.Lib.Strings
/- Contracts of the small functions of chapter 1 that only compute with numbers. -/
namespace Go.Proofs.YthgbhnedfdnfpaaGreatDoor
set_option maxRecDepth 100000
open Go.RowKit
theorem ret_bool {a b : Bool} (h : a = b) : Ending.returned (.bool a) = .returned (.bool b) := by rw [h]
theorem ret_int {k : IntKind} {a b : Int} (h : a = b) : Ending.returned (.int k a) = .returned (.int k b) := by rw [h]
theorem is_le {a b : Int} (h : a ≤ b) : decide (a ≤ b) = true := by simp; omega
theorem is_lt {a b : Int} (h : a < b) : decide (a < b) = true := by simp; omega
theorem not_le {a b : Int} (h : b < a) : decide (a ≤ b) = false := by simp; omega
theorem not_lt {a b : Int} (h : b ≤ a) : decide (a < b) = false := by simp; omega

def inB (n lo hi : Int) : Bool := decide (lo ≤ n) && decide (n ≤ hi)
theorem inB_true {n lo hi : Int} (h : lo ≤ n) (h2 : n ≤ hi) : inB n lo hi = true := by unfold inB; simp [h, h2]
theorem inB_low {n lo hi : Int} (h : n < lo) : inB n lo hi = false := by unfold inB; simp; omega
theorem inB_high {n lo hi : Int} (h : hi < n) : inB n lo hi = false := by unfold inB; simp; omega

theorem l1In_any (n lo hi : Int) (w : World) :
    Calls Tryz.prog 48 #[.int .i64 n, .int .i64 lo, .int .i64 hi] w fun e w' => e = .returned (.bool (inB n lo hi)) ∧ w = w' := by
  rcases Int.lt_or_le n lo with c0 | c0
  · have H : Hid (inB n lo hi = false) := Lib.hid (inB_low c0)
    go_enter Tryz.func48, Tryz.ntmps48
    go_wp2
    go_ret
    exact ⟨ret_bool (by rw [H.out]), rfl⟩
  rcases Int.lt_or_le hi n with c1 | c1
  · have H : Hid (inB n lo hi = false) := Lib.hid (inB_high c1)
    have d := not_le c1
    go_enter Tryz.func48, Tryz.ntmps48
    go_wp2
    go_ret
    exact ⟨ret_bool (by rw [H.out]), rfl⟩
  · have H : Hid (inB n lo hi = true) := Lib.hid (inB_true c0 c1)
    go_enter Tryz.func48, Tryz.ntmps48
    go_wp2
    go_ret
    exact ⟨ret_bool (by rw [H.out]), rfl⟩

theorem ret_pair {a a' b b' : Value} (h : a = a') (h' : b = b') : Ending.returned (.tuple #[a, b]) = .returned (.tuple #[a', b']) := by rw [h, h']
end Go.Proofs.YthgbhnedfdnfpaaGreatDoor

/- The first byte that may not be in a text: contracts of both functions. -/
namespace Go.Proofs.YthgbhnedfdnfpaaGreatDoor
set_option maxRecDepth 100000
open Go.RowKit

theorem drop_at (s : ByteArray) (k : Nat) (h : k < s.size) : s.data.toList.drop k = s[k] :: s.data.toList.drop (k + 1) := by
  rw [List.drop_eq_getElem_cons (by simpa using h)]; rfl
end Go.Proofs.YthgbhnedfdnfpaaGreatDoor

/- Space and first texts of a list of bytes: plain functions and facts, for the tokens of chapter 3. Letters and digits, signs, words, key words of a list of bytes: plain functions and facts. -/
namespace Go.Proofs.YthgbhnedfdnfpaaGreatDoor
set_option maxRecDepth 100000
open Go.RowKit

theorem size_list (s : ByteArray) : s.size = s.data.toList.length := Lib.size_eq s
end Go.Proofs.YthgbhnedfdnfpaaGreatDoor

namespace Go.Proofs.YthgbhnedfdnfpaaGreatDoor
open Go.RowKit

def letB (c : Int) : Bool := decide (97 ≤ c) && decide (c ≤ 122)
def kwA : List ByteArray := [⟨#[113, 100, 105, 115, 99]⟩, ⟨#[100, 101, 102, 97, 117, 108, 116]⟩, ⟨#[99, 108, 97, 115, 115]⟩, ⟨#[114, 97, 116, 101]⟩, ⟨#[99, 101, 105, 108]⟩, ⟨#[98, 117, 114, 115, 116]⟩, ⟨#[99, 98, 117, 114, 115, 116]⟩, ⟨#[112, 114, 105, 111]⟩, ⟨#[108, 105, 109, 105, 116]⟩, ⟨#[102, 105, 108, 116, 101, 114]⟩, ⟨#[115, 111, 117, 114, 99, 101]⟩, ⟨#[100, 101, 115, 116]⟩, ⟨#[112, 111, 114, 116]⟩, ⟨#[109, 97, 114, 107]⟩]
def oneOf (s : ByteArray) : List ByteArray → Bool
  | [] => false
  | x :: r => (x.toList == s.toList) || oneOf s r
def isKw (s : ByteArray) : Bool := oneOf s kwA
def wdB (l : List UInt8) : Bool := l.all (fun c => letB (c.toNat : Int)) && decide (l.length ≤ 12)
end Go.Proofs.YthgbhnedfdnfpaaGreatDoor
