/- Numbers written with a width: contracts of WriteLittle, program and model. -/
import Derived.Test.YtgnobmmlmmbfcaaLit
namespace Go.Proofs.Ytgnobmmlmmbfcaa
open Go.RowKit
set_option maxRecDepth 100000

/-- the lowest k bytes of a number -/
def wl (n : Int) (k : Nat) : List Int := (List.range k).map (fun i : Nat => n / 256 ^ i % 256)
theorem wl_length (n : Int) (k : Nat) : (wl n k).length = k := by simp [wl]
theorem wl_succ (n : Int) (k : Nat) : wl n (k + 1) = wl n k ++ [n / 256 ^ k % 256] := by simp [wl, List.range_succ]
theorem wl_range (n : Int) (k : Nat) : ∀ c ∈ wl n k, 0 ≤ c ∧ c ≤ 255 := by
  intro c hc
  simp only [wl, List.mem_map] at hc
  obtain ⟨i, _, rfl⟩ := hc
  omega
def wlTo (n : Int) (wd k : Nat) : List Int := wl n k ++ List.replicate (wd - k) 0
theorem wlTo_zero (n : Int) (wd : Nat) : wlTo n wd 0 = List.replicate wd 0 := by simp [wlTo, wl]
theorem wlTo_all (n : Int) (wd : Nat) : wlTo n wd wd = wl n wd := by simp [wlTo]
theorem wlTo_set (n : Int) (wd k : Nat) (h : k < wd) : (wlTo n wd k).set k (n / 256 ^ k % 256) = wlTo n wd (k + 1) := by
  obtain ⟨m, hm⟩ : ∃ m, wd - k = m + 1 := ⟨wd - k - 1, by omega⟩
  unfold wlTo
  rw [List.set_append_right _ _ (by rw [wl_length]; exact Nat.le_refl _), wl_length, Nat.sub_self, hm, List.replicate_succ, List.set_cons_zero, show wd - (k + 1) = m by omega, wl_succ, List.append_assoc]
  rfl
theorem shift_is (n : Int) (k : Nat) : n / 2 ^ (8 * k) % 256 = n / 256 ^ k % 256 := by
  rw [Int.pow_mul]
  rfl

def WriRel (w : World) (n : Int) (wd : Nat) (i : Value) (wr : World) : Prop :=
  ∃ k : Nat, k ≤ wd ∧ i = .int .i64 k ∧ OwnB wr w.heap.size w.heap.size wd wd (wlTo n wd k) ∧ Below w.heap.size w wr

/-! The model. -/
def TopRel (wd : Nat) (x o : Value) : Prop := ∃ (j k : Nat) (p : Int), j + k = wd ∧ x = .int .i64 j ∧ o = .int .i64 p ∧ p = 256 ^ k
def WsRel (w : World) (n : Int) (wd : Nat) (x y v : Value) (wr : World) : Prop :=
  ∃ (j k : Nat) (m : Int), j + k = wd ∧ x = .int .i64 m ∧ y = .int .i64 j ∧ 0 ≤ m ∧ m ≤ 4294967295 ∧ m = n / 256 ^ k ∧ OwnV wr w.heap.size v k (wl n k) ∧ Below w.heap.size w wr
end Go.Proofs.Ytgnobmmlmmbfcaa
