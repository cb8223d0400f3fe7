/- Letters and digits, signs, words, key words of a list of bytes: plain functions and facts. -/
import Derived.Test.YteogadbjnmcblaaDoorTkp
namespace Go.Proofs.YteogadbjnmcblaaDoor
set_option maxRecDepth 100000
open Go.RowKit

def letB (c : Int) : Bool := decide (97 ≤ c) && decide (c ≤ 122)
def digB (c : Int) : Bool := decide (48 ≤ c) && decide (c ≤ 57)
def mkB (c : Int) : Bool := letB c || digB c
/-- how many letters and digits a list begins with -/
def runN : List UInt8 → Nat
  | [] => 0
  | c :: r => if mkB (c.toNat : Int) then runN r + 1 else 0
theorem runN_le (l : List UInt8) : runN l ≤ l.length := by
  induction l with
  | nil => simp [runN]
  | cons c r ih => unfold runN; split <;> simp; omega
theorem run_more (s : ByteArray) (k : Nat) (h : k < s.size) (hp : mkB ((s[k]'h).toNat : Int) = true) : runN (s.data.toList.drop k) = runN (s.data.toList.drop (k + 1)) + 1 := by
  rw [drop_at s k h, runN, if_pos hp]
theorem run_stop (s : ByteArray) (k : Nat) (h : k < s.size) (hp : mkB ((s[k]'h).toNat : Int) = false) : runN (s.data.toList.drop k) = 0 := by
  rw [drop_at s k h, runN, if_neg (by rw [hp]; simp)]
theorem run_end (s : ByteArray) (k : Nat) (h : s.size ≤ k) : runN (s.data.toList.drop k) = 0 := by
  rw [List.drop_eq_nil_of_le (by simpa using h)]; rfl
/-- the signs -/
def sgA : List ByteArray := [⟨#[123]⟩, ⟨#[125]⟩, ⟨#[59]⟩, ⟨#[47]⟩, ⟨#[61]⟩, ⟨#[45, 62]⟩]
/-- the first of some texts that a list begins with -/
def pfxOf (l : List UInt8) : List ByteArray → ByteArray
  | [] => ⟨#[]⟩
  | x :: r => if Lib.hasPrefix l x.data.toList then x else pfxOf l r
def sgOf (l : List UInt8) : ByteArray := pfxOf l sgA
theorem pfx_at (l : List UInt8) (x : ByteArray) (k : Nat) (h : k < sgA.length) (e : sgA.getD k ⟨#[]⟩ = x) : pfxOf l (sgA.drop k) = if Lib.hasPrefix l x.data.toList then x else pfxOf l (sgA.drop (k + 1)) := by
  rw [List.drop_eq_getElem_cons h, pfxOf]
  have : sgA[k] = x := by rw [← e]; simp [List.getD_eq_getElem?_getD, h]
  rw [this]
theorem pfx_end (l : List UInt8) : pfxOf l (sgA.drop 6) = ⟨#[]⟩ := rfl
/-- the key words -/
def kwA : List ByteArray := [⟨#[113, 100, 105, 115, 99]⟩, ⟨#[100, 101, 102, 97, 117, 108, 116]⟩, ⟨#[99, 108, 97, 115, 115]⟩, ⟨#[114, 97, 116, 101]⟩, ⟨#[99, 101, 105, 108]⟩, ⟨#[98, 117, 114, 115, 116]⟩, ⟨#[99, 98, 117, 114, 115, 116]⟩, ⟨#[112, 114, 105, 111]⟩, ⟨#[108, 105, 109, 105, 116]⟩, ⟨#[102, 105, 108, 116, 101, 114]⟩, ⟨#[115, 111, 117, 114, 99, 101]⟩, ⟨#[100, 101, 115, 116]⟩, ⟨#[112, 111, 114, 116]⟩, ⟨#[109, 97, 114, 107]⟩]
/-- a text is one of some -/
def oneOf (s : ByteArray) : List ByteArray → Bool
  | [] => false
  | x :: r => (x.toList == s.toList) || oneOf s r
def isKw (s : ByteArray) : Bool := oneOf s kwA
/-- only letters, twelve at most -/
def wdB (l : List UInt8) : Bool := l.all (fun c => letB (c.toNat : Int)) && decide (l.length ≤ 12)
end Go.Proofs.YteogadbjnmcblaaDoor
