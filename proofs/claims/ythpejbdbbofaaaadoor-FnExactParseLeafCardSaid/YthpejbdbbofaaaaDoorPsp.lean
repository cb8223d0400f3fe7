/- The parser as plain functions of a list of tokens. -/
import Derived.Test.YthpejbdbbofaaaaDoorTkd
import Derived.Test.YthpejbdbbofaaaaDoorTkv
import Derived.Test.YthpejbdbbofaaaaDoorCfm
namespace Go.Proofs.YthpejbdbbofaaaaDoor
set_option maxRecDepth 100000
open Go.RowKit
set_option linter.unusedVariables false
set_option linter.unusedSimpArgs false

/-- how a part is read: what it is, or the kind of the fault; and how many tokens were read -/
inductive PR (α : Type) where
  | ok (x : α) (j : Nat)
  | bad (k : Int) (j : Nat)
def PR.bind {α β : Type} (r : PR α) (f : α → Nat → PR β) : PR β := match r with
  | .ok x j => f x j
  | .bad k j => .bad k j
theorem PR.bind_ok {α β : Type} {r : PR α} {f : α → Nat → PR β} {x : α} {j : Nat} (h : r = .ok x j) : r.bind f = f x j := by rw [h]; rfl
theorem PR.bind_bad {α β : Type} {r : PR α} {f : α → Nat → PR β} {k : Int} {j : Nat} (h : r = .bad k j) : r.bind f = .bad k j := by rw [h]; rfl
/-- the next token has a text -/
def nxP (ts : List Tok) (i : Nat) (t : ByteArray) : Bool := match ts[i]? with
  | .some x => x.t.toList == t.toList
  | .none => false
def tkP (ts : List Tok) (i : Nat) (t : ByteArray) : PR Unit := if nxP ts i t = true then .ok () (i + 1) else .bad 2 i
def kdP (ts : List Tok) (i : Nat) (k : Int) : PR Tok := match ts[i]? with
  | .some x => if x.k = k then .ok x (i + 1) else .bad 2 i
  | .none => .bad 2 i
def nuP (ts : List Tok) (i : Nat) : PR Int := (kdP ts i 3).bind fun x j => .ok x.v j
def naP (ts : List Tok) (i : Nat) (t : ByteArray) : PR Int := (tkP ts i t).bind fun _ j => nuP ts j
/-- the fault at a token -/
def fltP (ts : List Tok) (en : Int) (k : Int) (i : Nat) : Int × Int := match ts[i]? with
  | .some x => (k, x.a)
  | .none => (6, en)
abbrev tQdisc : ByteArray := ⟨#[113, 100, 105, 115, 99]⟩
abbrev tDefault : ByteArray := ⟨#[100, 101, 102, 97, 117, 108, 116]⟩
abbrev tClass : ByteArray := ⟨#[99, 108, 97, 115, 115]⟩
abbrev tRate : ByteArray := ⟨#[114, 97, 116, 101]⟩
abbrev tCeil : ByteArray := ⟨#[99, 101, 105, 108]⟩
abbrev tBurst : ByteArray := ⟨#[98, 117, 114, 115, 116]⟩
abbrev tCburst : ByteArray := ⟨#[99, 98, 117, 114, 115, 116]⟩
abbrev tPrio : ByteArray := ⟨#[112, 114, 105, 111]⟩
abbrev tLimit : ByteArray := ⟨#[108, 105, 109, 105, 116]⟩
abbrev tFilter : ByteArray := ⟨#[102, 105, 108, 116, 101, 114]⟩
abbrev tSource : ByteArray := ⟨#[115, 111, 117, 114, 99, 101]⟩
abbrev tDest : ByteArray := ⟨#[100, 101, 115, 116]⟩
abbrev tPort : ByteArray := ⟨#[112, 111, 114, 116]⟩
abbrev tMark : ByteArray := ⟨#[109, 97, 114, 107]⟩
abbrev tOpen : ByteArray := ⟨#[123]⟩
abbrev tShut : ByteArray := ⟨#[125]⟩
abbrev tSemi : ByteArray := ⟨#[59]⟩
abbrev tSlash : ByteArray := ⟨#[47]⟩
abbrev tArrow : ByteArray := ⟨#[45, 62]⟩
abbrev fwA : List ByteArray := [tSource, tDest, tPort, tMark]
def fdL (ts : List Tok) (i : Nat) : List ByteArray → Int → PR Int
  | [], _ => .bad 2 i
  | t :: r, n => if nxP ts i t = true then .ok n (i + 1) else fdL ts i r (n + 1)
def fdP (ts : List Tok) (i : Nat) : PR Int := fdL ts i fwA 0
theorem fdL_at (ts : List Tok) (i k : Nat) (hk : k < 4) {x : ByteArray} (hx : fwA.getD k ⟨#[]⟩ = x) : fdL ts i (fwA.drop k) (k : Nat) = if nxP ts i x = true then .ok (k : Nat) (i + 1) else fdL ts i (fwA.drop (k + 1)) ((k + 1 : Nat) : Int) := by
  subst hx
  rcases (show k = 0 ∨ k = 1 ∨ k = 2 ∨ k = 3 by omega) with rfl | rfl | rfl | rfl <;> rfl
def flP (ts : List Tok) (i : Nat) : PR Flt := (naP ts i tFilter).bind fun o j0 => (fdP ts j0).bind fun f j1 => (kdP ts j1 3).bind fun x j2 => (naP ts j2 tSlash).bind fun m j3 => (naP ts j3 tArrow).bind fun t j4 => (tkP ts j4 tSemi).bind fun _ j5 => .ok ⟨o, f, m, x.v, t⟩ j5
def hdP (ts : List Tok) (i : Nat) (p : Int) : PR Cls := (naP ts i tClass).bind fun a j0 => (naP ts j0 tRate).bind fun r j1 => (naP ts j1 tCeil).bind fun e j2 => (naP ts j2 tBurst).bind fun b j3 => (naP ts j3 tCburst).bind fun u j4 => (naP ts j4 tPrio).bind fun o j5 => .ok ⟨a, p, r, e, b, u, o, 0⟩ j5
def liP (ts : List Tok) (i : Nat) : PR Int := (naP ts i tLimit).bind fun n j0 => (tkP ts j0 tSemi).bind fun _ j1 => .ok n j1
def lfP (ts : List Tok) (i : Nat) (p : Int) : PR Cls := (hdP ts i p).bind fun x j => (liP ts j).bind fun n j1 => .ok { x with l := n } j1
/-- all tokens are read -/
def alP {α : Type} (ts : List Tok) (r : PR α) : PR α := r.bind fun x j => if j = ts.length then .ok x j else .bad 2 j
theorem nxP_lt {ts : List Tok} {i : Nat} {t : ByteArray} (h : nxP ts i t = true) : i < ts.length := by
  unfold nxP at h
  rcases Nat.lt_or_ge i ts.length with q | q
  · exact q
  · rw [List.getElem?_eq_none q] at h; cases h
theorem nxP_in {ts : List Tok} {i : Nat} {t : ByteArray} (h : i < ts.length) {x : Tok} (hx : ts.getD i tok0 = x) : nxP ts i t = (x.t.toList == t.toList) := by
  subst hx
  unfold nxP
  simp [List.getD_eq_getElem?_getD, h]
theorem nxP_end {ts : List Tok} {i : Nat} {t : ByteArray} (h : ts.length ≤ i) : nxP ts i t = false := by
  unfold nxP
  rw [List.getElem?_eq_none h]
theorem tkP_yes {ts : List Tok} {i : Nat} {t : ByteArray} (h : nxP ts i t = true) : tkP ts i t = .ok () (i + 1) := if_pos h
theorem tkP_no {ts : List Tok} {i : Nat} {t : ByteArray} (h : nxP ts i t = false) : tkP ts i t = .bad 2 i := if_neg (by rw [h]; simp)
theorem kdP_in {ts : List Tok} {i : Nat} {k : Int} (h : i < ts.length) {x : Tok} (hx : ts.getD i tok0 = x) : kdP ts i k = if x.k = k then .ok x (i + 1) else .bad 2 i := by
  subst hx
  unfold kdP
  simp [List.getD_eq_getElem?_getD, h]
theorem kdP_end {ts : List Tok} {i : Nat} {k : Int} (h : ts.length ≤ i) : kdP ts i k = .bad 2 i := by
  unfold kdP
  rw [List.getElem?_eq_none h]
theorem fltP_in {ts : List Tok} {en k : Int} {i : Nat} (h : i < ts.length) {x : Tok} (hx : ts.getD i tok0 = x) : fltP ts en k i = (k, x.a) := by
  subst hx
  unfold fltP
  simp [List.getD_eq_getElem?_getD, h]
theorem fltP_end {ts : List Tok} {en k : Int} {i : Nat} (h : ts.length ≤ i) : fltP ts en k i = (6, en) := by
  unfold fltP
  rw [List.getElem?_eq_none h]
end Go.Proofs.YthpejbdbbofaaaaDoor
