/- The strict reading of a binary form: plain functions; the model's small functions. -/
import Derived.Test.YtgnobmmlmmbfcaaAtj
namespace Go.Proofs.Ytgnobmmlmmbfcaa
open Go.RowKit
set_option linter.unusedVariables false
set_option maxRecDepth 100000

/-- the byte at an offset -/
def byS (s : ByteArray) (k : Nat) : Nat := if h : k < s.size then s[k].toNat else 0
theorem byS_eq {s : ByteArray} {k : Nat} (h : k < s.size) : byS s k = s[k].toNat := dif_pos h
theorem byS_lt (s : ByteArray) (k : Nat) : byS s k < 256 := by
  unfold byS
  split
  · exact UInt8.toNat_lt _
  · omega
def rdS (s : ByteArray) (a : Nat) : Nat := byS s a + 256 * byS s (a + 1)
theorem rdS_lt (s : ByteArray) (a : Nat) : rdS s a < 65536 := by
  have := byS_lt s a
  have := byS_lt s (a + 1)
  unfold rdS
  omega
/-- the first byte that is not zero, of some -/
def nzF (s : ByteArray) : Nat → Nat → Option Nat
  | 0, _ => none
  | f + 1, k => if byS s k = 0 then nzF s f (k + 1) else some k
/-- the fault at the beginning of an attribute: its kind (0: none) and its place -/
def hdF (s : ByteArray) (cnt dp a en : Nat) : Nat × Nat :=
  if 8 < dp then (4, a)
  else if 400 ≤ cnt then (5, a)
  else if en < a + 4 then (6, a)
  else if rdS s a < 4 then (3, a)
  else if en < a + padA (rdS s a) then (6, a)
  else if rdS s (a + 2) < 32768 ∧ 1004 < rdS s a then (5, a)
  else match nzF s (padA (rdS s a) - rdS s a) (a + rdS s a) with
    | some k => (1, k)
    | none => (0, 0)
/-- attributes read from a place up to an end: those that were read, and the fault -/
def lsF (s : ByteArray) : Nat → Nat → Nat → Nat → List At → List At × (Nat × Nat)
  | 0, _, _, _, out => (out, (0, 0))
  | f + 1, dp, a, en, out =>
    if a < en then
      (if 0 < (hdF s out.length dp a en).1 then (out, hdF s out.length dp a en)
      else if rdS s (a + 2) < 32768 then lsF s f dp (a + padA (rdS s a)) en (out ++ [⟨(dp : Int), (rdS s (a + 2) : Int), false, s.extract (a + 4) (a + rdS s a)⟩])
      else if 0 < (lsF s f (dp + 1) (a + 4) (a + rdS s a) (out ++ [⟨(dp : Int), (rdS s (a + 2) : Int) - 32768, true, ⟨#[]⟩⟩])).2.1 then
        lsF s f (dp + 1) (a + 4) (a + rdS s a) (out ++ [⟨(dp : Int), (rdS s (a + 2) : Int) - 32768, true, ⟨#[]⟩⟩])
      else lsF s f dp (a + padA (rdS s a)) en (lsF s f (dp + 1) (a + 4) (a + rdS s a) (out ++ [⟨(dp : Int), (rdS s (a + 2) : Int) - 32768, true, ⟨#[]⟩⟩])).1)
    else (out, (0, 0))
/-- what DecodeAttrs answers -/
def dcF (s : ByteArray) : List At × (Nat × Nat) := if 6000 < s.size then ([], (5, 0)) else (if 0 < (lsF s s.size 1 0 s.size []).2.1 then ([], (lsF s s.size 1 0 s.size []).2) else (lsF s s.size 1 0 s.size []))
/-- where there is no fault, the attribute is whole -/
theorem hd_none {s : ByteArray} {cnt dp a en : Nat} (h : (hdF s cnt dp a en).1 = 0) : dp ≤ 8 ∧ cnt < 400 ∧ a + 4 ≤ en ∧ 4 ≤ rdS s a ∧ a + padA (rdS s a) ≤ en ∧ ¬ (rdS s (a + 2) < 32768 ∧ 1004 < rdS s a) ∧ nzF s (padA (rdS s a) - rdS s a) (a + rdS s a) = none := by
  unfold hdF at h
  split at h
  · cases h
  · split at h
    · cases h
    · split at h
      · cases h
      · split at h
        · cases h
        · split at h
          · cases h
          · split at h
            · cases h
            · split at h
              · cases h
              · rename_i hz
                exact ⟨by omega, by omega, by omega, by omega, by omega, by assumption, hz⟩
theorem rd_pad (s : ByteArray) (a : Nat) : rdS s a ≤ padA (rdS s a) ∧ padA (rdS s a) ≤ rdS s a + 3 := by unfold padA; omega
def fuV (p : Nat × Nat) : Value := .agg #[.int .i64 (p.1 : Int), .int .i64 (p.2 : Int)]
def SaysU (w : World) (p : Nat × Nat) (e : Ending) (w' : World) : Prop := e = .returned (fuV p) ∧ Below w.heap.size w w'
set_option maxHeartbeats 3200000 in
theorem tvRead_any (s : ByteArray) (a : Nat) (w : World) (h : a + 1 < s.size) (hs : s.size ≤ 6000) :
    Calls Try.prog 20 #[.string s, .int .i64 (a : Int)] w (SaysQ w (.int .i64 ((rdS s a : Nat) : Int))) := by
  have ha : a < s.size := by omega
  have HX : Hid (((rdS s a : Nat) : Int) = (s[a].toNat : Int) + 256 * (s[a + 1].toNat : Int)) := Lib.hid (by
    unfold rdS; rw [byS_eq ha, byS_eq h]; omega)
  obtain ⟨x, hx⟩ : ∃ x : Nat, s[a].toNat = x := ⟨_, rfl⟩
  obtain ⟨y, hy⟩ : ∃ y : Nat, (s[a + 1]'h).toNat = y := ⟨_, rfl⟩
  have hix := byte_at s a ha (a : Int) rfl
  have hix2 := byte_at s (a + 1) h ((a : Int) + 1) (by omega)
  rw [hx] at hix HX
  rw [hy] at hix2 HX
  have l0 : x < 256 := by rw [← hx]; exact UInt8.toNat_lt _
  have l1 : y < 256 := by rw [← hy]; exact UInt8.toNat_lt _
  clear hx hy
  generalize ((rdS s a : Nat) : Int) = R at HX ⊢
  go_enter Try.func20, Try.ntmps20
  go_wp2_with fail
  go_quiet (fail)
  go_wp2_with fail
  go_ret
  exact ⟨ret_int2 HX.out.symm, _, rfl⟩
set_option maxHeartbeats 1600000 in
theorem tvFault_any (k a : Nat) (w : World) :
    Calls Try.prog 14 #[.int .i64 (k : Int), .int .i64 (a : Int)] w (SaysU w (k, a)) := by
  go_enter Try.func14, Try.ntmps14
  go_wp2
  exact bodyPost_ret (v := .agg #[.int .i64 (k : Int), .int .i64 (a : Int)]) (by simp [results, Try.results14, go_sem]) rfl ⟨rfl, one_new2 _ _⟩
def SaysNo (w : World) (e : Ending) (w' : World) : Prop := e = .returned (.tuple #[]) ∧ w = w'
set_option maxHeartbeats 1600000 in
theorem refuse_no (k a : Int) (w : World) :
    Calls Try.prog 17 #[.bool false, .int .i64 k, .int .i64 a] w (SaysNo w) := by
  go_enter Try.func17, Try.ntmps17
  go_wp2
  exact bodyPost_ret (v := .tuple #[]) (by simp [results, Try.results17, go_sem]) rfl ⟨rfl, rfl⟩
end Go.Proofs.Ytgnobmmlmmbfcaa
