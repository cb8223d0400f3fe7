/- Offsets of attributes: contracts of the program. -/
import Derived.Test.YtgnobmmlmmbfcaaAtz
import Derived.Test.YtgnobmmlmmbfcaaApk
namespace Go.Proofs.Ytgnobmmlmmbfcaa
open Go.RowKit
set_option linter.unusedVariables false
set_option maxRecDepth 100000

theorem paddedSize_any (s : Nat) (w : World) (h : s ≤ 1000000) : Calls Try.prog 24 #[.int .i64 (s : Int)] w fun e w' => e = .returned (.int .i64 ((padA s : Nat) : Int)) ∧ w' = w := by
  have HX : Hid (((padA s : Nat) : Int) = alR (s : Int) 4) := Lib.hid (by unfold padA alR; rw [if_pos (by omega)]; omega)
  have HA := Lib.hid (fun w => implAlignUp_any (s : Int) 4 w)
  generalize ((padA s : Nat) : Int) = R at HX ⊢
  generalize alR (s : Int) 4 = Z at HX HA
  generalize alnB (s : Int) 4 = b at HA
  go_enter Try.func24, Try.ntmps24
  go_wp2_with (go_at_call 27; refine (HA.out _).mono ?_; rintro e w1 ⟨rfl, rfl⟩)
  go_ret
  exact ⟨ret_int2 HX.out.symm, rfl⟩
/-- the offsets up to an index -/
def ofs (l : List At) (k : Nat) : List Nat := (List.range (k + 1)).map (ofA l)
theorem ofs_length (l : List At) (k : Nat) : (ofs l k).length = k + 1 := by simp [ofs]
theorem ofs_succ (l : List At) (k : Nat) : ofs l (k + 1) = ofs l k ++ [ofA l (k + 1)] := by unfold ofs; rw [List.range_succ, List.map_append]; rfl
theorem ofs_get (l : List At) (k j : Nat) (h : j ≤ k) : (ofs l k).getD j 0 = ofA l j := by simp [ofs, List.getD_eq_getElem?_getD, show j < k + 1 by omega]
def AoRel (w : World) (l : List At) (n : Nat) (out i : Value) (wr : World) : Prop :=
  ∃ k : Nat, k ≤ n ∧ i = .int .i64 k ∧ BX w wr ∧ wr.ownsRow w.heap.size 3 1 out (ofs l k).length (nv (ofs l k))
/-- the offsets, if the attributes are valid; and whether all of them fit -/
def SaysOF (w : World) (l : List At) (e : Ending) (w' : World) : Prop :=
  ∃ v, e = .returned (.tuple #[v, .bool (lsA l && decide (ofA l l.length ≤ 6000))]) ∧ Below w.heap.size w w' ∧ (lsA l = true → w'.ownsRow w.heap.size 3 1 v (ofs l l.length).length (nv (ofs l l.length)))
theorem of_start (w1 : World) (l : List At) {B : Nat} (hB : B ≤ w1.heap.size) : (w1.alloc (.cells #[.int .i64 0] 3)).ownsRow B 3 1 (.slice (some ⟨w1.heap.size, 0, none⟩) 1 1) (ofs l 0).length (nv (ofs l 0)) := by
  have h := World.ownsRow_lit (base := B) (e := 3) (size := 1) w1 #[.int .i64 0] 1 hB (by unfold maxLen; omega) rfl
  exact h
def okP (l : List At) (i : Int) : Bool := okS l i
def SaysT3 (w : World) (r1 r2 r3 : Value) (e : Ending) (w' : World) : Prop := e = .returned (.tuple #[r1, r2, r3]) ∧ Below w.heap.size w w'
def resTo (l : List At) (i : Int) : Int := if okS l i then ((ofA l (enA l i.toNat) : Nat) : Int) else 0
theorem ret_iib {a b a' b' : Int} {p q : Bool} (h : a = b) (h1 : a' = b') (h' : p = q) : Ending.returned (.tuple #[.int .i64 a, .int .i64 a', .bool p]) = .returned (.tuple #[.int .i64 b, .int .i64 b', .bool q]) := by rw [h, h1, h']
theorem okS_ways (l : List At) (i : Int) : okS l i = ((lsA l && decide (ofA l l.length ≤ 6000)) && inB i 0 ((l.length : Int) - 1)) := by
  unfold okS hasA
  cases lsA l <;> cases inB i 0 ((l.length : Int) - 1) <;> simp
theorem res_no {l : List At} {i : Int} (h : okS l i = false) : resOf l i = 0 ∧ resTo l i = 0 ∧ resSz l i = 0 := by unfold resOf resTo resSz; rw [h]; exact ⟨rfl, rfl, rfl⟩
theorem res_yes {l : List At} {k : Nat} (h : okS l k = true) : resOf l k = (ofA l k : Nat) ∧ resTo l k = (ofA l (enA l k) : Nat) ∧ resSz l k = (szA l k : Nat) := by
  unfold resOf resTo resSz; rw [h, Int.toNat_natCast]; exact ⟨rfl, rfl, rfl⟩
theorem res_all (l : List At) (i : Int) : (resSz l i = resTo l i - resOf l i ∧ 0 ≤ resOf l i ∧ resOf l i ≤ 401600 ∧ 0 ≤ resTo l i ∧ resTo l i ≤ 401600) ∧ (0 ≤ resOf l i ∧ resOf l i ≤ 401600) := by
  cases h : okS l i
  · obtain ⟨a, b, c⟩ := res_no h
    rw [a, b, c]
    omega
  · have hA : hasA l i = true := by unfold okS at h; exact (Bool.and_eq_true_iff.1 h).1
    obtain ⟨hl, k, rfl, hk⟩ := hasA_of hA
    obtain ⟨a, b, c⟩ := res_yes h
    have V := va hl
    have := ofA_le V k (by omega)
    have := ofA_le V (enA l k) (enA_is hk).2.1
    have := V.len
    have := (enA_is hk).2.1
    have := of_end hk
    rw [a, b, c]
    omega
end Go.Proofs.Ytgnobmmlmmbfcaa
