/- Chapter 4's functions that return numbers: classes found, tops, spare rates. -/
import Derived.Test.YtfijhgggljaomaaCfi
import Derived.Test.YtfijhgggljaomaaCfy
namespace Go.Proofs.Ytfijhgggljaomaa
open Go.RowKit
set_option linter.unusedVariables false

def resFindClass1 (c : Cfg) (id : Int) : Int := if goodC c then (match fnd c.cs id with | .none => 0 | .some k => (k : Int)) else 0
def resFindClass2 (c : Cfg) (id : Int) : Bool := goodC c && (fnd c.cs id).isSome
theorem fc_bad {c : Cfg} (id : Int) (h : goodC c = false) : resFindClass1 c id = 0 ∧ resFindClass2 c id = false := by unfold resFindClass1 resFindClass2; rw [h]; exact ⟨rfl, rfl⟩
theorem fc_none {c : Cfg} (id : Int) (h : goodC c = true) (hf : fnd c.cs id = Option.none) : resFindClass1 c id = 0 ∧ resFindClass2 c id = false := by unfold resFindClass1 resFindClass2; rw [h, hf]; exact ⟨rfl, rfl⟩
theorem fc_some {c : Cfg} (id : Int) {k : Nat} (h : goodC c = true) (hf : fnd c.cs id = Option.some k) : resFindClass1 c id = k ∧ resFindClass2 c id = true := by unfold resFindClass1 resFindClass2; rw [h, hf]; exact ⟨rfl, rfl⟩
/-! Tops. -/
def topF : List Cls → Nat
  | [] => 0
  | x :: r => if x.p = 0 then 0 else topF r + 1
theorem topF_not : ∀ (cs : List Cls) (j : Nat), j < topF cs → (cs.getD j cls0).p ≠ 0
  | [], j, h => by unfold topF at h; omega
  | x :: r, j, h => by
    unfold topF at h
    by_cases hx : x.p = 0
    · rw [if_pos hx] at h; omega
    · rw [if_neg hx] at h
      match j, h with
      | 0, _ => simpa using hx
      | j + 1, h => simpa using topF_not r j (by omega)
theorem topF_at : ∀ (cs : List Cls), 1 ≤ cT cs → topF cs < cs.length ∧ (cs.getD (topF cs) cls0).p = 0
  | [], h => by simp [cT] at h
  | x :: r, h => by
    by_cases hx : x.p = 0
    · have e : topF (x :: r) = 0 := by conv => lhs; unfold topF; rw [if_pos hx]
      rw [e]; simp [hx]
    · have e : topF (x :: r) = topF r + 1 := by conv => lhs; unfold topF; rw [if_neg hx]
      have := topF_at r (by simpa [cT, hx] using h)
      rw [e]; simpa using this
def resTopOf1 (c : Cfg) : Int := if goodC c then (topF c.cs : Int) else 0
def resTopOf2 (c : Cfg) : Bool := goodC c
def TfRel (w : World) (o : Obj) (T : Nat) (i : Value) (wr : World) : Prop := ∃ k : Nat, k ≤ T ∧ i = .int .i64 k ∧ Aft w o wr
def IxRel (w : World) (T : Nat) (i : Value) (wr : World) : Prop := ∃ k : Nat, k ≤ T ∧ i = .int .i64 k ∧ Below w.heap.size w wr
end Go.Proofs.Ytfijhgggljaomaa
