/- Letters and digits, signs, words and tokens of a list of bytes: plain functions and facts. -/
import Derived.Test.YtdmcgjohpnojkaaDoorKwd
import Derived.Test.YtdmcgjohpnojkaaDoorRns
namespace Go.Proofs.YtdmcgjohpnojkaaDoor
set_option maxRecDepth 100000
open Go.RowKit

/-- the first byte, -1 if there is none -/
def tkHd : List UInt8 → Int
  | [] => -1
  | c :: _ => (c.toNat : Int)
/-- what a text is: the kind of its fault (0: none), its kind, its value -/
def tkFa (s : ByteArray) : Int :=
  if tkHd s.data.toList < 0 then 1
  else if digB (tkHd s.data.toList) then (if (ray s.data.toList).isSome then 0 else 3)
  else if letB (tkHd s.data.toList) then (if wdB s.data.toList then 0 else 7)
  else 0
def tkKi (s : ByteArray) : Int :=
  if tkHd s.data.toList < 0 then 0
  else if digB (tkHd s.data.toList) then (if (ray s.data.toList).isSome then 3 else 0)
  else if letB (tkHd s.data.toList) then (if wdB s.data.toList then (if isKw s then 1 else 2) else 0)
  else 4
def tkVa (s : ByteArray) : Int :=
  if tkHd s.data.toList < 0 then 0
  else if digB (tkHd s.data.toList) then optR (ray s.data.toList)
  else 0
theorem hd_at (s : ByteArray) (h : 0 < s.size) : tkHd s.data.toList = ((s[0]'h).toNat : Int) := by
  have := drop_at s 0 h
  rw [List.drop_zero] at this
  rw [this]; rfl
theorem hd_none (s : ByteArray) (h : s.size = 0) : tkHd s.data.toList = -1 := by
  have e : s.data.toList = [] := List.eq_nil_of_length_eq_zero (by rw [← size_list]; exact h)
  rw [e]; rfl
/-- what a text that is not empty is, by its first byte -/
inductive TkWay (s : ByteArray) (c : Int) : Prop
  | num (v : Int) (d : digB c = true) (r : ray s.data.toList = Option.some v) (e : tkFa s = 0) (k : tkKi s = 3) (x : tkVa s = v)
  | bad (d : digB c = true) (r : ray s.data.toList = Option.none) (e : tkFa s = 3)
  | sign (d : digB c = false) (l : letB c = false) (e : tkFa s = 0) (k : tkKi s = 4) (x : tkVa s = 0)
  | word (d : digB c = false) (l : letB c = true) (q : wdB s.data.toList = false) (e : tkFa s = 7)
  | key (d : digB c = false) (l : letB c = true) (q : wdB s.data.toList = true) (i : isKw s = true) (e : tkFa s = 0) (k : tkKi s = 1) (x : tkVa s = 0)
  | name (d : digB c = false) (l : letB c = true) (q : wdB s.data.toList = true) (i : isKw s = false) (e : tkFa s = 0) (k : tkKi s = 2) (x : tkVa s = 0)
theorem tk_way (s : ByteArray) (h : 0 < s.size) : TkWay s ((s[0]'h).toNat : Int) := by
  have hh := hd_at s h
  obtain ⟨c, hc⟩ : ∃ c : Int, ((s[0]'h).toNat : Int) = c := ⟨_, rfl⟩
  have h0 : ¬ c < 0 := by omega
  rw [hc] at hh ⊢
  rcases Bool.eq_false_or_eq_true (digB c) with hd | hd
  · cases hr : ray s.data.toList with
    | none => exact .bad hd hr (by unfold tkFa; rw [hh, if_neg h0, if_pos hd, hr]; rfl)
    | some v => exact .num v hd hr (by unfold tkFa; rw [hh, if_neg h0, if_pos hd, hr]; rfl) (by unfold tkKi; rw [hh, if_neg h0, if_pos hd, hr]; rfl) (by unfold tkVa; rw [hh, if_neg h0, if_pos hd, hr]; rfl)
  · have nd : ¬ digB c = true := by rw [hd]; simp
    rcases Bool.eq_false_or_eq_true (letB c) with hl | hl
    · rcases Bool.eq_false_or_eq_true (wdB s.data.toList) with hw | hw
      · have hv : tkVa s = 0 := by unfold tkVa; rw [hh, if_neg h0, if_neg nd]
        have hf : tkFa s = 0 := by unfold tkFa; rw [hh, if_neg h0, if_neg nd, if_pos hl, if_pos hw]
        rcases Bool.eq_false_or_eq_true (isKw s) with hk | hk
        · exact .key hd hl hw hk hf (by unfold tkKi; rw [hh, if_neg h0, if_neg nd, if_pos hl, if_pos hw, if_pos hk]) hv
        · exact .name hd hl hw hk hf (by unfold tkKi; rw [hh, if_neg h0, if_neg nd, if_pos hl, if_pos hw, if_neg (by rw [hk]; simp)]) hv
      · exact .word hd hl hw (by unfold tkFa; rw [hh, if_neg h0, if_neg nd, if_pos hl, if_neg (by rw [hw]; simp)])
    · have nl : ¬ letB c = true := by rw [hl]; simp
      exact .sign hd hl (by unfold tkFa; rw [hh, if_neg h0, if_neg nd, if_neg nl]) (by unfold tkKi; rw [hh, if_neg h0, if_neg nd, if_neg nl]) (by unfold tkVa; rw [hh, if_neg h0, if_neg nd])
theorem tk_nil (s : ByteArray) (h : s.size = 0) : tkFa s = 1 := by unfold tkFa; rw [hd_none s h, if_pos (by omega)]
/-- the first text of a list, as a text -/
def ftL (l : List UInt8) : ByteArray := if sgOf l = ⟨#[]⟩ then ⟨(l.take (runN l)).toArray⟩ else sgOf l
/-- a token, a fault -/
def tokV (k a : Int) (s : ByteArray) (v : Int) : Value := .agg #[.int .i64 k, .int .i64 a, .string s, .int .i64 v]
def fauV (k a : Int) : Value := .agg #[.int .i64 k, .int .i64 a]
def tokR (s : ByteArray) (a : Int) : Value := if tkFa s = 0 then tokV (tkKi s) a s (tkVa s) else tokV 0 0 ⟨#[]⟩ 0
def fauR (s : ByteArray) (a : Int) : Value := if tkFa s = 0 then fauV 0 0 else fauV (tkFa s) a
theorem tokR_yes {s : ByteArray} (a : Int) {k v : Int} (e : tkFa s = 0) (hk : tkKi s = k) (hv : tkVa s = v) : tokR s a = tokV k a s v ∧ fauR s a = fauV 0 0 := by
  unfold tokR fauR; rw [if_pos e, if_pos e, hk, hv]; exact ⟨rfl, rfl⟩
theorem tokR_no {s : ByteArray} (a : Int) {k : Int} (e : tkFa s = k) (h : k ≠ 0) : tokR s a = tokV 0 0 ⟨#[]⟩ 0 ∧ fauR s a = fauV k a := by
  unfold tokR fauR; rw [if_neg (by rw [e]; exact h), if_neg (by rw [e]; exact h), e]; exact ⟨rfl, rfl⟩
end Go.Proofs.YtdmcgjohpnojkaaDoor
