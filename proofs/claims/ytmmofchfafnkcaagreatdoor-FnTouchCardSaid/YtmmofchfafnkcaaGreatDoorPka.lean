import Derived.Test.YtmmofchfafnkcaaGreatDoorRows
import Derived.WalkKit
import Derived.Lib.Hide
import Derived.LoopTactic
import Derived.Lib.Strings
import Derived.WalkSmall
import Derived.Deep.QuietTactic
import Derived.BigQuiet
/- Contracts of the small functions of chapter 1 that only compute with numbers. -/
namespace Go.Proofs.YtmmofchfafnkcaaGreatDoor
set_option maxRecDepth 100000
open Go.RowKit
theorem ret_bool {a b : Bool} (h : a = b) : Ending.returned (.bool a) = .returned (.bool b) := by rw [h]
theorem ret_int {k : IntKind} {a b : Int} (h : a = b) : Ending.returned (.int k a) = .returned (.int k b) := by rw [h]
theorem is_le {a b : Int} (h : a ≤ b) : decide (a ≤ b) = true := by simp; omega
theorem is_lt {a b : Int} (h : a < b) : decide (a < b) = true := by simp; omega
theorem not_le {a b : Int} (h : b < a) : decide (a ≤ b) = false := by simp; omega
theorem not_lt {a b : Int} (h : b ≤ a) : decide (a < b) = false := by simp; omega

def inB (n lo hi : Int) : Bool := decide (lo ≤ n) && decide (n ≤ hi)
theorem inB_true {n lo hi : Int} (h : lo ≤ n) (h2 : n ≤ hi) : inB n lo hi = true := by unfold inB; simp [h, h2]
theorem inB_low {n lo hi : Int} (h : n < lo) : inB n lo hi = false := by unfold inB; simp; omega
theorem inB_high {n lo hi : Int} (h : hi < n) : inB n lo hi = false := by unfold inB; simp; omega

theorem l1In_any (n lo hi : Int) (w : World) :
    Calls Tryz.prog 133 #[.int .i64 n, .int .i64 lo, .int .i64 hi] w fun e w' => e = .returned (.bool (inB n lo hi)) ∧ w = w' := by
  rcases Int.lt_or_le n lo with c0 | c0
  · have H : Hid (inB n lo hi = false) := Lib.hid (inB_low c0)
    go_enter Tryz.func133, Tryz.ntmps133
    go_wp2
    go_ret
    exact ⟨ret_bool (by rw [H.out]), rfl⟩
  rcases Int.lt_or_le hi n with c1 | c1
  · have H : Hid (inB n lo hi = false) := Lib.hid (inB_high c1)
    have d := not_le c1
    go_enter Tryz.func133, Tryz.ntmps133
    go_wp2
    go_ret
    exact ⟨ret_bool (by rw [H.out]), rfl⟩
  · have H : Hid (inB n lo hi = true) := Lib.hid (inB_true c0 c1)
    go_enter Tryz.func133, Tryz.ntmps133
    go_wp2
    go_ret
    exact ⟨ret_bool (by rw [H.out]), rfl⟩

theorem l1In_true (n lo hi : Int) (w : World) (c0 : lo ≤ n) (c1 : n ≤ hi) :
    Calls Tryz.prog 133 #[.int .i64 n, .int .i64 lo, .int .i64 hi] w fun e w' => e = .returned (.bool true) ∧ w = w' :=
  (l1In_any n lo hi w).mono fun _ _ ⟨a, b⟩ => ⟨by rw [a, inB_true c0 c1], b⟩
theorem l1In_false (n lo hi : Int) (w : World) (c : n < lo ∨ hi < n) :
    Calls Tryz.prog 133 #[.int .i64 n, .int .i64 lo, .int .i64 hi] w fun e w' => e = .returned (.bool false) ∧ w = w' :=
  (l1In_any n lo hi w).mono fun _ _ ⟨a, b⟩ => ⟨by rcases c with c | c <;> rw [a]; rw [inB_low c]; rw [inB_high c], b⟩

theorem scBytes_true (n : Int) (w : World) (c : n ≤ 4000) :
    Calls Tryz.prog 68 #[.int .i64 n] w fun e w' => e = .returned (.bool true) ∧ w = w' := by
  go_enter Tryz.func68, Tryz.ntmps68
  go_wp2
  go_ret
  exact ⟨rfl, rfl⟩
theorem scBytes_false (n : Int) (w : World) (c : 4000 < n) :
    Calls Tryz.prog 68 #[.int .i64 n] w fun e w' => e = .returned (.bool false) ∧ w = w' := by
  have d := not_le c
  go_enter Tryz.func68, Tryz.ntmps68
  go_wp2
  go_ret
  exact ⟨rfl, rfl⟩
theorem isText_true (s : ByteArray) (w : World) (h : (s.size : Int) ≤ 4000) :
    Calls Tryz.prog 66 #[.string s] w fun e w' => e = .returned (.bool true) ∧ w = w' := by
  go_enter Tryz.func66, Tryz.ntmps66
  go_wp2
  go_ret
  exact ⟨rfl, rfl⟩
theorem isText_false (s : ByteArray) (w : World) (h : (4000 : Int) < s.size) :
    Calls Tryz.prog 66 #[.string s] w fun e w' => e = .returned (.bool false) ∧ w = w' := by
  have d := not_le h
  go_enter Tryz.func66, Tryz.ntmps66
  go_wp2
  go_ret
  exact ⟨rfl, rfl⟩


/-! Bytes that may be in a text. -/
def plainB (c : Int) : Bool := (decide (32 ≤ c) && decide (c ≤ 126)) || c == 9 || c == 10
theorem plain_cases {c : Int} (h : plainB c = true) : (32 ≤ c ∧ c ≤ 126) ∨ c = 9 ∨ c = 10 := by
  unfold plainB at h; simp at h; omega
theorem plain_not {c : Int} (h : plainB c = false) : (c == 9) = false ∧ (c == 10) = false ∧ (c < 32 ∨ 126 < c) := by
  unfold plainB at h; simp at h; simp; omega
theorem isPlain_true (c : Int) (w : World) (h : plainB c = true) :
    Calls Tryz.prog 247 #[.int .u8 c] w fun e w' => e = .returned (.bool true) ∧ w = w' := by
  rcases plain_cases h with ⟨a, b⟩ | rfl | rfl
  · clear h
    go_enter Tryz.func247, Tryz.ntmps247
    go_wp2
    go_ret
    exact ⟨rfl, rfl⟩
  · clear h
    go_enter Tryz.func247, Tryz.ntmps247
    go_wp2
    go_ret
    exact ⟨rfl, rfl⟩
  · clear h
    go_enter Tryz.func247, Tryz.ntmps247
    go_wp2
    go_ret
    exact ⟨rfl, rfl⟩
theorem isPlain_false (c : Int) (w : World) (h : plainB c = false) :
    Calls Tryz.prog 247 #[.int .u8 c] w fun e w' => e = .returned (.bool false) ∧ w = w' := by
  obtain ⟨h9, h10, hh⟩ := plain_not h
  clear h
  rcases hh with a | a
  · go_enter Tryz.func247, Tryz.ntmps247
    go_wp2
    go_ret
    exact ⟨rfl, rfl⟩
  · have d := not_le a
    have b : (32 : Int) ≤ c := by omega
    go_enter Tryz.func247, Tryz.ntmps247
    go_wp2
    go_ret
    exact ⟨rfl, rfl⟩
theorem scPlain_true (c : Int) (w : World) (h : plainB c = true) :
    Calls Tryz.prog 243 #[.int .u8 c] w fun e w' => e = .returned (.bool true) ∧ w = w' := by
  rcases plain_cases h with ⟨a, b⟩ | rfl | rfl
  · clear h
    go_enter Tryz.func243, Tryz.ntmps243
    go_wp2
    go_ret
    exact ⟨rfl, rfl⟩
  · clear h
    go_enter Tryz.func243, Tryz.ntmps243
    go_wp2
    go_ret
    exact ⟨rfl, rfl⟩
  · clear h
    go_enter Tryz.func243, Tryz.ntmps243
    go_wp2
    go_ret
    exact ⟨rfl, rfl⟩
theorem scPlain_false (c : Int) (w : World) (h : plainB c = false) :
    Calls Tryz.prog 243 #[.int .u8 c] w fun e w' => e = .returned (.bool false) ∧ w = w' := by
  obtain ⟨h9, h10, hh⟩ := plain_not h
  clear h
  rcases hh with a | a
  · go_enter Tryz.func243, Tryz.ntmps243
    go_wp2
    go_ret
    exact ⟨rfl, rfl⟩
  · have d := not_le a
    have b : (32 : Int) ≤ c := by omega
    go_enter Tryz.func243, Tryz.ntmps243
    go_wp2
    go_ret
    exact ⟨rfl, rfl⟩

theorem ret_pair {a a' b b' : Value} (h : a = a') (h' : b = b') : Ending.returned (.tuple #[a, b]) = .returned (.tuple #[a', b']) := by rw [h, h']
end Go.Proofs.YtmmofchfafnkcaaGreatDoor

/- The first byte that may not be in a text: contracts of both functions. -/
namespace Go.Proofs.YtmmofchfafnkcaaGreatDoor
set_option maxRecDepth 100000
open Go.RowKit

def badL : List UInt8 → Nat
  | [] => 0
  | c :: r => if plainB (c.toNat : Int) then badL r + 1 else 0
theorem badL_le (l : List UInt8) : badL l ≤ l.length := by
  induction l with
  | nil => simp [badL]
  | cons c r ih => unfold badL; split <;> simp; omega
theorem drop_at (s : ByteArray) (k : Nat) (h : k < s.size) : s.data.toList.drop k = s[k] :: s.data.toList.drop (k + 1) := by
  rw [List.drop_eq_getElem_cons (by simpa using h)]; rfl
theorem badL_more (s : ByteArray) (k : Nat) (h : k < s.size) (hp : plainB (s[k].toNat : Int) = true) : badL (s.data.toList.drop k) = badL (s.data.toList.drop (k + 1)) + 1 := by
  rw [drop_at s k h, badL, if_pos hp]
theorem badL_stop (s : ByteArray) (k : Nat) (h : k < s.size) (hp : plainB (s[k].toNat : Int) = false) : badL (s.data.toList.drop k) = 0 := by
  rw [drop_at s k h, badL, if_neg (by rw [hp]; simp)]
theorem badL_end (s : ByteArray) (k : Nat) (h : s.size ≤ k) : badL (s.data.toList.drop k) = 0 := by
  rw [List.drop_eq_nil_of_le (by simpa using h)]; rfl

/-- what both loops say at each round's head -/
def BadRel (s : ByteArray) (v : Value) : Prop := ∃ k : Nat, k ≤ s.size ∧ v = .int .i64 k ∧ k + badL (s.data.toList.drop k) = badL s.data.toList

def badB (s : ByteArray) : Bool := decide ((s.size : Int) ≤ 4000)
def badR (s : ByteArray) : Int := if (s.size : Int) ≤ 4000 then badL s.data.toList else 0
end Go.Proofs.YtmmofchfafnkcaaGreatDoor

/- Space and first texts of a list of bytes: plain functions and facts, for the tokens of chapter 3. Letters and digits, signs, words, key words of a list of bytes: plain functions and facts. -/
namespace Go.Proofs.YtmmofchfafnkcaaGreatDoor
set_option maxRecDepth 100000
open Go.RowKit

/-- the number of bytes of the space that a list begins with; the first argument: inside a comment -/
def skL : Bool → List UInt8 → Nat
  | _, [] => 0
  | cm, c :: r =>
    if c.toNat = 10 then skL false r + 1
    else if cm then (if plainB (c.toNat : Int) then skL true r + 1 else 0)
    else if c.toNat = 32 ∨ c.toNat = 9 then skL false r + 1
    else if c.toNat = 92 then (if Lib.hasPrefix r [10] then skL false r + 1 else 0)
    else if c.toNat = 35 then skL true r + 1
    else 0
theorem skL_le (b : Bool) (l : List UInt8) : skL b l ≤ l.length := by
  induction l generalizing b with
  | nil => simp [skL]
  | cons c r ih =>
    have h0 := ih false
    have h1 := ih true
    unfold skL
    repeat' split
    all_goals simp
    all_goals omega
theorem sk_nl (b : Bool) (s : ByteArray) (k : Nat) (h : k < s.size) (e : (s[k]'h).toNat = 10) : skL b (s.data.toList.drop k) = skL false (s.data.toList.drop (k + 1)) + 1 := by
  rw [drop_at s k h, skL, if_pos e]
theorem sk_in (s : ByteArray) (k : Nat) (h : k < s.size) (e : (s[k]'h).toNat ≠ 10) (p : plainB ((s[k]'h).toNat : Int) = true) : skL true (s.data.toList.drop k) = skL true (s.data.toList.drop (k + 1)) + 1 := by
  rw [drop_at s k h, skL, if_neg e, if_pos rfl, if_pos p]
theorem sk_out (s : ByteArray) (k : Nat) (h : k < s.size) (p : plainB ((s[k]'h).toNat : Int) = false) : skL true (s.data.toList.drop k) = 0 := by
  have e : (s[k]'h).toNat ≠ 10 := by intro e; rw [e] at p; simp [plainB] at p
  rw [drop_at s k h, skL, if_neg e, if_pos rfl, if_neg (by simp [p])]
theorem sk_blank (s : ByteArray) (k : Nat) (h : k < s.size) (e : (s[k]'h).toNat = 32 ∨ (s[k]'h).toNat = 9) : skL false (s.data.toList.drop k) = skL false (s.data.toList.drop (k + 1)) + 1 := by
  rw [drop_at s k h, skL, if_neg (by omega), if_neg (by simp), if_pos e]
theorem sk_hash (s : ByteArray) (k : Nat) (h : k < s.size) (e : (s[k]'h).toNat = 35) : skL false (s.data.toList.drop k) = skL true (s.data.toList.drop (k + 1)) + 1 := by
  rw [drop_at s k h, skL, if_neg (by omega), if_neg (by simp), if_neg (by omega), if_neg (by omega), if_pos e]
theorem sk_back (s : ByteArray) (k : Nat) (h : k < s.size) (e : (s[k]'h).toNat = 92) (p : Lib.hasPrefix (s.data.toList.drop (k + 1)) [10] = true) : skL false (s.data.toList.drop k) = skL false (s.data.toList.drop (k + 1)) + 1 := by
  rw [drop_at s k h, skL, if_neg (by omega), if_neg (by simp), if_neg (by omega), if_pos e, if_pos p]
theorem sk_lone (s : ByteArray) (k : Nat) (h : k < s.size) (e : (s[k]'h).toNat = 92) (p : Lib.hasPrefix (s.data.toList.drop (k + 1)) [10] = false) : skL false (s.data.toList.drop k) = 0 := by
  rw [drop_at s k h, skL, if_neg (by omega), if_neg (by simp), if_neg (by omega), if_pos e, if_neg (by simp [p])]
theorem sk_stop (s : ByteArray) (k : Nat) (h : k < s.size) (e : (s[k]'h).toNat ≠ 10 ∧ (s[k]'h).toNat ≠ 32 ∧ (s[k]'h).toNat ≠ 9 ∧ (s[k]'h).toNat ≠ 92 ∧ (s[k]'h).toNat ≠ 35) : skL false (s.data.toList.drop k) = 0 := by
  obtain ⟨e1, e2, e3, e4, e5⟩ := e
  rw [drop_at s k h, skL, if_neg e1, if_neg (by simp), if_neg (by omega), if_neg e4, if_neg e5]
theorem sk_end (b : Bool) (s : ByteArray) (k : Nat) (h : s.size ≤ k) : skL b (s.data.toList.drop k) = 0 := by
  rw [List.drop_eq_nil_of_le (by simpa using h)]; cases b <;> rfl
theorem size_list (s : ByteArray) : s.size = s.data.toList.length := Lib.size_eq s
theorem next_nl (s : ByteArray) (k : Nat) (h : k + 1 < s.size) : Lib.hasPrefix (s.data.toList.drop (k + 1)) [10] = decide ((s[k + 1]'h).toNat = 10) := by
  rw [drop_at s (k + 1) h]
  unfold Lib.hasPrefix
  simp [List.isPrefixOf]
  rw [Bool.eq_iff_iff]
  simp
  constructor
  · intro e; rw [← e]; rfl
  · intro e; exact (UInt8.toNat_inj.1 (by rw [e]; rfl))
theorem next_none (s : ByteArray) (k : Nat) (h : s.size ≤ k + 1) : Lib.hasPrefix (s.data.toList.drop (k + 1)) [10] = false := by
  rw [List.drop_eq_nil_of_le (by simpa using h)]; rfl
theorem two_prefix (s : ByteArray) (k : Nat) (h : k < s.size) (e : (s[k]'h).toNat = 92) : Lib.hasPrefix (s.data.toList.drop k) [92, 10] = Lib.hasPrefix (s.data.toList.drop (k + 1)) [10] := by
  have e' : s[k]'h = 92 := UInt8.toNat_inj.1 (by rw [e]; rfl)
  rw [drop_at s k h, e']
  unfold Lib.hasPrefix
  simp [List.isPrefixOf]
end Go.Proofs.YtmmofchfafnkcaaGreatDoor

namespace Go.Proofs.YtmmofchfafnkcaaGreatDoor
open Go.RowKit

def letB (c : Int) : Bool := decide (97 ≤ c) && decide (c ≤ 122)
def digB (c : Int) : Bool := decide (48 ≤ c) && decide (c ≤ 57)
def mkB (c : Int) : Bool := letB c || digB c
/-- how many letters and digits a list begins with -/
def runN : List UInt8 → Nat
  | [] => 0
  | c :: r => if mkB (c.toNat : Int) then runN r + 1 else 0
theorem runN_le (l : List UInt8) : runN l ≤ l.length := by
  induction l with
  | nil => simp [runN]
  | cons c r ih => unfold runN; split <;> simp; omega
theorem run_more (s : ByteArray) (k : Nat) (h : k < s.size) (hp : mkB ((s[k]'h).toNat : Int) = true) : runN (s.data.toList.drop k) = runN (s.data.toList.drop (k + 1)) + 1 := by
  rw [drop_at s k h, runN, if_pos hp]
theorem run_stop (s : ByteArray) (k : Nat) (h : k < s.size) (hp : mkB ((s[k]'h).toNat : Int) = false) : runN (s.data.toList.drop k) = 0 := by
  rw [drop_at s k h, runN, if_neg (by rw [hp]; simp)]
theorem run_end (s : ByteArray) (k : Nat) (h : s.size ≤ k) : runN (s.data.toList.drop k) = 0 := by
  rw [List.drop_eq_nil_of_le (by simpa using h)]; rfl
/-- the signs -/
def sgA : List ByteArray := [⟨#[123]⟩, ⟨#[125]⟩, ⟨#[59]⟩, ⟨#[47]⟩, ⟨#[61]⟩, ⟨#[45, 62]⟩]
/-- the first of some texts that a list begins with -/
def pfxOf (l : List UInt8) : List ByteArray → ByteArray
  | [] => ⟨#[]⟩
  | x :: r => if Lib.hasPrefix l x.data.toList then x else pfxOf l r
def sgOf (l : List UInt8) : ByteArray := pfxOf l sgA
theorem pfx_at (l : List UInt8) (x : ByteArray) (k : Nat) (h : k < sgA.length) (e : sgA.getD k ⟨#[]⟩ = x) : pfxOf l (sgA.drop k) = if Lib.hasPrefix l x.data.toList then x else pfxOf l (sgA.drop (k + 1)) := by
  rw [List.drop_eq_getElem_cons h, pfxOf]
  have : sgA[k] = x := by rw [← e]; simp [List.getD_eq_getElem?_getD, h]
  rw [this]
theorem pfx_end (l : List UInt8) : pfxOf l (sgA.drop 6) = ⟨#[]⟩ := rfl
/-- the key words -/
def kwA : List ByteArray := [⟨#[113, 100, 105, 115, 99]⟩, ⟨#[100, 101, 102, 97, 117, 108, 116]⟩, ⟨#[99, 108, 97, 115, 115]⟩, ⟨#[114, 97, 116, 101]⟩, ⟨#[99, 101, 105, 108]⟩, ⟨#[98, 117, 114, 115, 116]⟩, ⟨#[99, 98, 117, 114, 115, 116]⟩, ⟨#[112, 114, 105, 111]⟩, ⟨#[108, 105, 109, 105, 116]⟩, ⟨#[102, 105, 108, 116, 101, 114]⟩, ⟨#[115, 111, 117, 114, 99, 101]⟩, ⟨#[100, 101, 115, 116]⟩, ⟨#[112, 111, 114, 116]⟩, ⟨#[109, 97, 114, 107]⟩]
/-- a text is one of some -/
def oneOf (s : ByteArray) : List ByteArray → Bool
  | [] => false
  | x :: r => (x.toList == s.toList) || oneOf s r
def isKw (s : ByteArray) : Bool := oneOf s kwA
/-- only letters, twelve at most -/
def wdB (l : List UInt8) : Bool := l.all (fun c => letB (c.toNat : Int)) && decide (l.length ≤ 12)
end Go.Proofs.YtmmofchfafnkcaaGreatDoor

/- Slices of bytes: what reads as a list of bytes, what the call made itself, and the contracts of the copying, comparing, marking and asking functions of the laws. -/
namespace Go.Proofs.YtmmofchfafnkcaaGreatDoor
set_option maxRecDepth 100000
open Go.RowKit

theorem infoU8 : (Tryz.prog.info? 5).map (fun i => (i.zero, i.size, i.bytes)) = some (some (.int .u8 0), 1, 1) := by kernel_rfl

/-- the cells of a list of bytes -/
def bv (zs : List Int) : List Value := zs.map (Value.int .u8)
theorem bv_length (zs : List Int) : (bv zs).length = zs.length := by simp [bv]
theorem bv_get (zs : List Int) (i : Nat) (h : i < zs.length) : (bv zs)[i]? = some (.int .u8 (zs.getD i 0)) := by
  simp [bv, h]

/-- in world w, the bytes zs lie from cell off of block b on -/
def Row (w : World) (b off : Nat) (zs : List Int) : Prop :=
  (∀ i, i < zs.length → w.cell? ⟨b, off + i, none⟩ = some (.int .u8 (zs.getD i 0))) ∧ ∀ n ∈ zs, 0 ≤ n ∧ n ≤ 255

/-- a slice of n bytes of the call's own: block g, the bytes zs -/
def OwnB (w : World) (B g n cap : Nat) (zs : List Int) : Prop :=
  w.ownsRow B 5 1 (.slice (some ⟨g, 0, none⟩) n cap) n (bv zs)

theorem OwnB.len {w : World} {B g n cap : Nat} {zs : List Int} (h : OwnB w B g n cap zs) : zs.length = n := by
  have := h.1; rw [bv_length] at this; omega
theorem OwnB.lt {w : World} {B g n cap : Nat} {zs : List Int} (h : OwnB w B g n cap zs) : B ≤ g ∧ g < w.heap.size := World.ownsRow.lt h g rfl
theorem OwnB.row {w : World} {B g n cap : Nat} {zs : List Int} (h : OwnB w B g n cap zs) (hr : ∀ n ∈ zs, 0 ≤ n ∧ n ≤ 255) : Row w g 0 zs := by
  refine ⟨fun i hi => ?_, hr⟩
  have hl := h.len
  have := World.ownsRow.cellAt h i (by omega)
  rw [Nat.zero_add, this, bv_get _ _ hi]
theorem OwnB.below {w w' : World} {B B' g n cap : Nat} {zs : List Int} (h : OwnB w B g n cap zs) (hb : Below B' w w') (hg : g < B') : OwnB w' B g n cap zs := by
  obtain ⟨h1, h2⟩ := h
  refine ⟨h1, ?_⟩
  rcases h2 with h2 | ⟨g', cap', cur, a, b, c, d⟩
  · exact .inl h2
  · cases a
    exact .inr ⟨g, cap, cur, rfl, b, by rw [hb.block g hg]; exact c, d⟩
theorem OwnB.base {w : World} {B B' g n cap : Nat} {zs : List Int} (h : OwnB w B g n cap zs) (hB : B' ≤ B) : OwnB w B' g n cap zs := by
  obtain ⟨h1, h2⟩ := h
  refine ⟨h1, ?_⟩
  rcases h2 with h2 | ⟨g', cap', cur, a, b, c, d⟩
  · exact .inl h2
  · exact .inr ⟨g', cap', cur, a, Nat.le_trans hB b, c, d⟩
theorem Row.below {w w' : World} {b off B : Nat} {zs : List Int} (h : Row w b off zs) (hb : Below B w w') (hB : b < B) : Row w' b off zs :=
  ⟨fun i hi => (hb.cell (p := ⟨b, off + i, none⟩) hB).trans (h.1 i hi), h.2⟩
theorem Row.drewN {w : World} {b off : Nat} {zs : List Int} (h : Row w b off zs) (q : Nat) : Row (w.drewN q) b off zs := h
theorem Row.at {w : World} {b off : Nat} {zs : List Int} (h : Row w b off zs) (k : Nat) (hk : k < zs.length) :
    ∃ c, Hid (c = zs.getD k 0) ∧ 0 ≤ c ∧ c ≤ 255 ∧ w.cell? ⟨b, off + k, none⟩ = some (.int .u8 c) := by
  refine ⟨zs.getD k 0, rfl, ?_, ?_, h.1 k hk⟩
  · exact (h.2 _ (by rw [List.getD_eq_getElem?_getD, List.getElem?_eq_getElem hk]; exact List.getElem_mem hk)).1
  · exact (h.2 _ (by rw [List.getD_eq_getElem?_getD, List.getElem?_eq_getElem hk]; exact List.getElem_mem hk)).2

/-- what a slice that came in reads as: nothing, or a row of bytes -/
def In (w : World) (a : Option Addr) (zs : List Int) : Prop :=
  zs = [] ∨ ∃ b off, a = some ⟨b, off, none⟩ ∧ Row w b off zs

/-- a copy was made: a new block that holds the bytes -/
def Made (w : World) (n : Nat) (zs : List Int) (e : Ending) (w' : World) : Prop :=
  e = .returned (.slice (some ⟨w.heap.size, 0, none⟩) n n) ∧ OwnB w' w.heap.size w.heap.size n n zs ∧ Below w.heap.size w w'

def fillTo (zs : List Int) (k : Nat) : List Int := zs.take k ++ List.replicate (zs.length - k) 0
theorem fillTo_zero (zs : List Int) : fillTo zs 0 = List.replicate zs.length 0 := by simp [fillTo]
theorem fillTo_all (zs : List Int) : fillTo zs zs.length = zs := by simp [fillTo]
theorem fillTo_set (zs : List Int) (k : Nat) (h : k < zs.length) : (fillTo zs k).set k (zs.getD k 0) = fillTo zs (k + 1) := by
  obtain ⟨m, hm⟩ : ∃ m, zs.length - k = m + 1 := ⟨zs.length - k - 1, by omega⟩
  have e1 : (zs.take k).length = k := by simp; omega
  unfold fillTo
  rw [hm, List.set_append_right _ _ (by omega), e1, Nat.sub_self, List.replicate_succ, List.set_cons_zero, show zs.length - (k + 1) = m by omega, List.take_succ_eq_append_getElem h, List.append_assoc, List.getD_eq_getElem?_getD, List.getElem?_eq_getElem h]
  rfl
theorem bv_set (zs : List Int) (k : Nat) (c : Int) : (bv zs).set k (.int .u8 c) = bv (zs.set k c) := by simp [bv, List.map_set]
theorem fillTo_length (zs : List Int) (k : Nat) (h : k ≤ zs.length) : (fillTo zs k).length = zs.length := by simp [fillTo]; omega
theorem OwnB.store {w : World} {B g n cap : Nat} {zs : List Int} (h : OwnB w B g n cap zs) (k : Nat) (c : Int) : OwnB (w.setCell ⟨g, k, none⟩ (.int .u8 c)) B g n cap (zs.set k c) := by
  have := (World.ownsRow.stored h k (.int .u8 c)).1
  rw [bv_set] at this
  exact this
theorem OwnB.cell {w : World} {B g n cap : Nat} {zs : List Int} (h : OwnB w B g n cap zs) (k : Nat) (hk : k < n) : w.cell? ⟨g, k, none⟩ = some (.int .u8 (zs.getD k 0)) := by
  have hl := h.len
  rw [World.ownsRow.cellAt h k (by omega), bv_get _ _ (by omega)]

theorem madeB {w : World} {B g n : Nat} (h : w.ownsRow B 5 1 (.slice (some ⟨g, 0, none⟩) n n) n (madeCells (Value.int .u8 0).cells (n * 1)).toList) : OwnB w B g n n (List.replicate n 0) := by
  have e : (madeCells (Value.int .u8 0).cells (n * 1)).toList = bv (List.replicate n 0) := by
    rw [Nat.mul_one, bv, List.map_replicate]
    exact toList_madeCells_one _ n
  rw [e] at h
  exact h

/-- at each round's head of the copying loop -/
def CopyRel (w : World) (n : Nat) (zs : List Int) (i : Value) (wr : World) : Prop :=
  ∃ k : Nat, k ≤ n ∧ i = .int .i64 k ∧ OwnB wr w.heap.size w.heap.size n n (fillTo zs k) ∧ Below w.heap.size w wr

/-- the world with some draws more -/
def Drawn (w w' : World) : Prop := ∃ q, w' = w.drewN q
theorem Drawn.below {w w' : World} (h : Drawn w w') (B : Nat) : Below B w w' := by obtain ⟨q, rfl⟩ := h; exact below_drewN (Below.refl _ _) q
def EqRel (w : World) (n : Nat) (i : Value) (wr : World) : Prop := ∃ k q : Nat, k ≤ n ∧ i = .int .i64 k ∧ wr = w.drewN q
def SaysDrawn (w : World) (b : Bool) (e : Ending) (w' : World) : Prop := e = .returned (.bool b) ∧ Drawn w w'

theorem laidOut : laidOutB Tryz.prog = true := by kernel_rfl
theorem own : ownKnob Tryz.prog.godebug = none := by kernel_rfl

/-- WHAT THE WALK IS TOLD OF A SLICE OF INTEGERS THAT CAME IN: it is nil; or it leads to a row of 'cap' cells, the numbers 'zs' (the first 'len' are its elements, the rest its spare room), each fitting its kind. -/
def IsRow (k : IntKind) (w : World) (a : Option Addr) (len cap : Nat) (zs : List Int) : Prop :=
  (a = none ∧ len = 0 ∧ cap = 0 ∧ zs = []) ∨
  ∃ x, a = some x ∧ len ≤ cap ∧ cap ≤ maxLen ∧ zs.length = cap ∧ (∀ i, i < zs.length → w.cell? (x.add i) = some (.int k (zs.getD i 0))) ∧ ∀ n ∈ zs, (Lit.int k n).wf = true
theorem wf_u8 {n : Int} (h : (Lit.int .u8 n).wf = true) : 0 ≤ n ∧ n ≤ 255 := by
  have h' : (decide (IntKind.u8.min ≤ n) && decide (n ≤ IntKind.u8.max)) = true := h
  have e1 : IntKind.u8.min = 0 := by decide
  have e2 : IntKind.u8.max = 255 := by decide
  rw [e1, e2] at h'
  simp at h'
  exact h'
theorem IsRow.view {w : World} {a : Option Addr} {len cap : Nat} {zs : List Int} (h : IsRow .u8 w a len cap zs) : len ≤ maxLen ∧ ∃ ys, Hid (ys.length = len) ∧ Hid (In w a ys) := by
  rcases h with ⟨rfl, rfl, rfl, rfl⟩ | ⟨x, rfl, hl, hm, hz, hcell, hwf⟩
  · exact ⟨Nat.zero_le _, [], rfl, .inl rfl⟩
  · refine ⟨Nat.le_trans hl hm, zs.take len, by unfold Hid; simp; omega, ?_⟩
    rcases Nat.eq_zero_or_pos len with rfl | hp
    · exact .inl (by simp)
    · obtain ⟨b, off, spot⟩ := x
      have hspot : spot = none := by simpa [Addr.add] using World.cell?_spot (hcell 0 (by omega))
      subst hspot
      refine .inr ⟨b, off, rfl, fun i hi => ?_, fun n hn => wf_u8 (hwf n (List.mem_of_mem_take hn))⟩
      simp at hi
      have := hcell i (by omega)
      rw [show (⟨b, off, none⟩ : Addr).add i = ⟨b, off + i, none⟩ by unfold Addr.add; split <;> simp_all] at this
      rw [this]
      simp [List.getD_eq_getElem?_getD]
      rw [List.getElem?_take, if_pos (by omega)]
theorem In.below {w w' : World} {a : Option Addr} {zs : List Int} (h : In w a zs) (hb : Below w.heap.size w w') : In w' a zs := by
  by_cases e : zs = []
  · exact .inl e
  · rcases h with h | ⟨b, off, rfl, hr⟩
    · exact absurd h e
    · have hp : 0 < zs.length := List.length_pos_iff.2 e
      exact .inr ⟨b, off, rfl, hr.below hb (World.block_lt_of_cell? w _ (hr.1 0 hp))⟩
theorem In.range {w : World} {a : Option Addr} {zs : List Int} (h : In w a zs) : ∀ n ∈ zs, 0 ≤ n ∧ n ≤ 255 := by
  rcases h with rfl | ⟨b, off, rfl, hr⟩
  · intro n hn; cases hn
  · exact hr.2
end Go.Proofs.YtmmofchfafnkcaaGreatDoor

/- Marking and asking a slice of the call's own: contracts of markByteS, heldByteS, and eqByteS of two empty slices. -/
namespace Go.Proofs.YtmmofchfafnkcaaGreatDoor
set_option maxRecDepth 100000
open Go.RowKit

/-- the marks 1, 2, .. as bytes, ahead of the old bytes -/
def marks (n : Nat) : List Int := (List.range n).map (fun i : Nat => ((i : Int) + 1) % 256)
def markTo (zs : List Int) (k : Nat) : List Int := marks k ++ zs.drop k
theorem marks_length (n : Nat) : (marks n).length = n := by simp [marks]
theorem marks_succ (n : Nat) : marks (n + 1) = marks n ++ [((n : Int) + 1) % 256] := by simp [marks, List.range_succ]
theorem markTo_zero (zs : List Int) : markTo zs 0 = zs := by simp [markTo, marks]
theorem markTo_all (zs : List Int) : markTo zs zs.length = marks zs.length := by simp [markTo]
theorem markTo_set (zs : List Int) (k : Nat) (h : k < zs.length) : (markTo zs k).set k (((k : Int) + 1) % 256) = markTo zs (k + 1) := by
  unfold markTo
  rw [List.set_append_right _ _ (by rw [marks_length]; exact Nat.le_refl _), marks_length, Nat.sub_self, List.drop_eq_getElem_cons h, List.set_cons_zero, marks_succ, List.append_assoc]
  rfl
theorem markTo_length (zs : List Int) (k : Nat) (h : k ≤ zs.length) : (markTo zs k).length = zs.length := by simp [markTo, marks_length]; omega
theorem marks_get (n k : Nat) (h : k < n) : (marks n).getD k 0 = ((k : Int) + 1) % 256 := by
  simp [marks, List.getD_eq_getElem?_getD, h]

/-- only block g was written -/
def OnlyBlock (g : Nat) (w w' : World) : Prop := Below g w w' ∧ w'.heap.size = w.heap.size ∧ ∀ k, k ≠ g → w'.heap[k]? = w.heap[k]?
theorem OnlyBlock.refl (g : Nat) (w : World) : OnlyBlock g w w := ⟨Below.refl _ _, rfl, fun _ _ => rfl⟩
theorem OnlyBlock.store {g : Nat} {w w' : World} (h : OnlyBlock g w w') (k : Nat) (v : Value) : OnlyBlock g w (w'.setCell ⟨g, k, none⟩ v) :=
  ⟨h.1.setCell (Nat.le_refl _) v, by rw [← h.2.1]; simp, fun j hj => by rw [Below.heap_setCell _ _ _ _ (by exact hj)]; exact h.2.2 j hj⟩
theorem OwnB.other {w w' : World} {B g g' n cap : Nat} {zs : List Int} (h : OwnB w B g n cap zs) (hb : OnlyBlock g' w w') (hg : g ≠ g') : OwnB w' B g n cap zs := by
  obtain ⟨h1, h2⟩ := h
  refine ⟨h1, ?_⟩
  rcases h2 with h2 | ⟨g1, cap', cur, a, b, c, d⟩
  · exact .inl h2
  · cases a
    exact .inr ⟨g, cap, cur, rfl, b, by rw [hb.2.2 g hg]; exact c, d⟩

theorem OwnB.self {w : World} {B g n cap : Nat} {zs : List Int} (h : OwnB w B g n cap zs) : OwnB w g g n cap zs := by
  obtain ⟨h1, h2⟩ := h
  refine ⟨h1, ?_⟩
  rcases h2 with ⟨a, _⟩ | ⟨g1, cap', cur, a, b, c, d⟩
  · cases a
  · cases a
    exact .inr ⟨g, cap, cur, rfl, Nat.le_refl _, c, d⟩
def MarkRel (w : World) (g n cap : Nat) (zs : List Int) (m i : Value) (wr : World) : Prop :=
  ∃ k : Nat, k ≤ n ∧ i = .int .i64 k ∧ m = .int .i64 (k + 1) ∧ OwnB wr g g n cap (markTo zs k) ∧ OnlyBlock g w wr
/-- what marking leaves -/
def Marked (w : World) (g n cap : Nat) (e : Ending) (w' : World) : Prop :=
  e = .returned (.int .i64 (n + 1)) ∧ OwnB w' g g n cap (marks n) ∧ OnlyBlock g w w'

def OwnV (w : World) (B : Nat) (v : Value) (n : Nat) (zs : List Int) : Prop := w.ownsRow B 5 1 v n (bv zs)
theorem OwnV.snoc {w wr w1 : World} {B n : Nat} {v v' : Value} {zs : List Int} {c : Int} {o : Obj} (h : OwnV wr B v n zs) (hB : B ≤ wr.heap.size) (hb : Below B w wr)
    (h' : w1.ownsRow B 5 1 v' (n + 1) (bv zs ++ [.int .u8 c])) (hg : (wr.alloc o).grownBy w1 v.ownBlock) : OwnV w1 B v' (n + 1) (zs ++ [c]) ∧ Below B w w1 :=
  ⟨by unfold OwnV; simpa [bv] using h', (hb.alloc hB o).grown hg (by simp; omega) (fun j hj => (World.ownsRow.lt h j hj).1)⟩
theorem OwnV.some {w : World} {B n : Nat} {v : Value} {zs : List Int} (h : OwnV w B v n zs) (hn : 0 < n) : ∃ g cap, v = .slice (some ⟨g, 0, none⟩) n cap ∧ OwnB w B g n cap zs := by
  rcases h.2 with ⟨_, h0⟩ | ⟨g, cap, cur, hv, _⟩
  · omega
  · subst hv
    exact ⟨g, cap, rfl, h⟩

/-- bytes were made: a slice of the call's own -/
def Gives (w : World) (n : Nat) (zs : List Int) (e : Ending) (w' : World) : Prop :=
  ∃ g cap, e = .returned (.tuple #[.slice (some ⟨g, 0, none⟩) n cap, .bool true]) ∧ OwnB w' w.heap.size g n cap zs ∧ Below w.heap.size w w'
/-- nothing was made -/
def GivesNone (w : World) (e : Ending) (w' : World) : Prop := e = .returned (.tuple #[.slice none 0 0, .bool false]) ∧ w = w'
def GivesRow (w : World) (n : Nat) (zs : List Int) (e : Ending) (w' : World) : Prop :=
  ∃ g cap, e = .returned (.slice (some ⟨g, 0, none⟩) n cap) ∧ OwnB w' w.heap.size g n cap zs ∧ Below w.heap.size w w'

theorem one_new (w : World) (v : Value) (t : TypeId) : ∀ j u, [v][j]? = some u → (w.alloc (.cells #[v] t)).cell? ((⟨w.heap.size, 0, none⟩ : Addr).add j) = some u := by
  intro j u hj
  match j, hj with
  | 0, hj => simp at hj; subst hj; simp [Addr.add]
end Go.Proofs.YtmmofchfafnkcaaGreatDoor
