/- Valid attributes: contracts of both sides. -/
import Derived.Test.YtgnobmmlmmbfcaaAtm
import Derived.Test.YtgnobmmlmmbfcaaIsi
import Derived.WalkMore
import Derived.WalkSmall
import Derived.Deep.RegionWith
import Derived.Deep.QuietTactic
import Derived.BigQuiet
import Derived.Lib.Strings
namespace Go.Proofs.Ytgnobmmlmmbfcaa
open Go.RowKit
set_option linter.unusedVariables false
set_option maxRecDepth 100000

theorem atr_is (w : World) (x : At) (t : TypeId) : AtrIs (w.alloc (.cells #[.int .i64 x.d, .int .i64 x.t, .bool x.n, .string x.s] t)) w.heap.size x := by
  refine ⟨⟨?_, ?_, ?_, ?_⟩, ?_⟩ <;> simp [go_sem]
/-- the state of the walk over the attributes -/
def AaRel (w : World) (l : List At) (n : Nat) (B : Bool) (m i : Value) (wr : World) : Prop := ∃ (k : Nat) (M : Int), k ≤ n ∧ i = .int .i64 k ∧ m = .int .i64 M ∧ BX w wr ∧ Hid (gdA M (l.drop k) = B) ∧ Hid (M = mA l k) ∧ 1 ≤ M ∧ M ≤ 8
theorem aa_next {l : List At} {k : Nat} {M : Int} {B : Bool} (hM : M = mA l k) (hk : k < l.length) (HP : gdA M (l.drop k) = B) :
    B = (inB (gA l k).d 1 M && okA (gA l k) && gdA (mA l (k + 1)) (l.drop (k + 1))) := by
  rw [← HP, hM, gdA_at l k hk]
theorem mA_succ (l : List At) (k : Nat) : mA l (k + 1) = nxA (gA l k) := by unfold mA; simp
theorem inB_of {a b c : Int} (h : inB a b c = true) : b ≤ a ∧ a ≤ c := by unfold inB at h; simpa using h
/-- the walk of the model -/
def TgRel (w : World) (l : List At) (n : Nat) (B : Bool) (i : Value) (wr : World) : Prop := ∃ k : Nat, k ≤ n ∧ i = .int .i64 k ∧ BX w wr ∧ Hid (gdA (mA l k) (l.drop k) = B) ∧ Hid (0 < k → 1 ≤ (gA l (k - 1)).d ∧ (gA l (k - 1)).d ≤ 8)
def lstI (a b : Int) : Int := if a < b then a else b
theorem size_nil {s : ByteArray} (h : s.size = 0) : s = ⟨#[]⟩ := by
  obtain ⟨d⟩ := s
  have : d = #[] := Array.eq_empty_of_size_eq_zero h
  rw [this]
theorem not_empty {s : ByteArray} (h : ¬ s = ⟨#[]⟩) : s.toList.isEmpty = false := by
  have hs : s.size ≠ 0 := fun q => h (size_nil q)
  have e : s.toList.length = s.size := by rw [Lib.toList_data]; rfl
  cases hl : s.toList with
  | nil => rw [hl] at e; exact absurd e.symm hs
  | cons a r => rfl
theorem quiet_same {f : FuncId} {args : Array Value} {v : Value} (h : ∀ w, Calls Try.prog f args w fun e w' => e = .returned v ∧ w = w') : ∀ (w : World) (n : Nat), Calls Try.prog f args (w.drewN n) fun e w'' => e = .returned v ∧ ∃ m, w'' = w.drewN m :=
  fun w n => Calls.quiet_of_same ((h _).mono fun _ _ q => ⟨q.1, q.2.symm⟩)
theorem lst_one (l : List At) : lstI 1 8 = mA l 0 := rfl
theorem lst_same {l : List At} {j : Nat} {d : Int} {s : ByteArray} {t : Int} (h8 : d ≤ 8) (hx : gA l j = ⟨d, t, false, s⟩) : lstI d 8 = mA l (j + 1) := by
  rw [mA_succ, hx]; unfold lstI nxA; simp only [Bool.false_eq_true, if_false]; split <;> omega
theorem lst_more {l : List At} {j : Nat} {d : Int} {s : ByteArray} {t : Int} (h8 : d ≤ 8) (hx : gA l j = ⟨d, t, true, s⟩) : lstI (d + 1) 8 = mA l (j + 1) := by
  rw [mA_succ, hx]; unfold lstI nxA; simp only [if_true]; split <;> split <;> omega
theorem okA_ways (x : At) : okA x = (inB x.t 0 32767 && (decide (x.s.size ≤ 1000) && !(x.n && !decide (x.s.size = 0)))) := by
  unfold okA; congr 1; cases x.n; simp; rw [Bool.eq_iff_iff]; simp only [if_true, Bool.true_and, Bool.and_eq_true, decide_eq_true_eq, Bool.not_not]; omega
end Go.Proofs.Ytgnobmmlmmbfcaa
