/- A text cut at every byte c: the model's l1Split, the library's splitB, as one list of pieces; lines and columns. -/
import Derived.Test.YtdfkehgkonadhaaDoorNum
import Derived.Lib.Split
import Derived.Lib.SplitLaws
namespace Go.Proofs.YtdfkehgkonadhaaDoor
set_option maxRecDepth 100000
open Go.RowKit
set_option linter.unusedVariables false

theorem drop_c (s : ByteArray) (k : Nat) (h : k < s.size) : s.data.toList.drop k = s[k] :: s.data.toList.drop (k + 1) := by
  rw [List.drop_eq_getElem_cons (by simpa using h)]; rfl
/-- the pieces of a list of bytes at c, the first one begun -/
def scA (b : UInt8) (acc : List UInt8) : List UInt8 → List (List UInt8)
  | [] => [acc]
  | c :: r => if c = b then acc :: scA b [] r else scA b (acc ++ [c]) r
def scL (b : UInt8) (l : List UInt8) : List (List UInt8) := scA b [] l
theorem scA_length (b : UInt8) : ∀ (l acc : List UInt8), (scA b acc l).length = l.count b + 1
  | [], acc => by simp [scA]
  | c :: r, acc => by
    unfold scA
    by_cases h : c = b
    · subst h
      rw [if_pos rfl, List.length_cons, scA_length c r [], List.count_cons_self]
    · rw [if_neg h, scA_length b r _, List.count_cons_of_ne h]
theorem scL_length (b : UInt8) (l : List UInt8) : (scL b l).length = l.count b + 1 := scA_length b l []
theorem scA_index (b : UInt8) : ∀ (l acc : List UInt8), scA b acc l = if Lib.indexByte l b = -1 then [acc ++ l] else (acc ++ l.take (Lib.indexByte l b).toNat) :: scL b (l.drop ((Lib.indexByte l b).toNat + 1))
  | [], acc => by simp [scA, Lib.indexByte]
  | c :: r, acc => by
    have hg := Lib.indexByte_ge r b
    unfold scA Lib.indexByte
    by_cases h : c = b
    · subst h; simp [scL]
    · have e : (c == b) = false := by simpa using h
      rw [if_neg h, e, scA_index b r (acc ++ [c])]
      by_cases h1 : Lib.indexByte r b = -1
      · simp [h1]
      · have h2 : (Lib.indexByte r b == -1) = false := by simpa using h1
        have h3 : ¬ Lib.indexByte r b + 1 = -1 := by omega
        have h4 : (Lib.indexByte r b + 1).toNat = (Lib.indexByte r b).toNat + 1 := by omega
        simp [h1, h2, h3, h4]
/-- the library's cut -/
theorem splitK_sc (b : UInt8) : ∀ (k : Nat) (l : List UInt8), (scL b l).length ≤ k + 1 → Lib.splitK [b] 0 k l = scL b l
  | 0, l, h => by
    have e := scA_index b l []
    unfold Lib.splitK
    unfold scL at h ⊢
    rw [e] at h ⊢
    by_cases h1 : Lib.indexByte l b = -1
    · simp [h1]
    · rw [if_neg h1] at h
      have := scL_length b (l.drop ((Lib.indexByte l b).toNat + 1))
      simp only [List.length_cons] at h
      omega
  | k + 1, l, h => by
    have e := scA_index b l []
    unfold Lib.splitK
    rw [Lib.index_one]
    have e1 : scL b l = scA b [] l := rfl
    rw [e1] at h ⊢
    rw [e] at h ⊢
    by_cases h1 : Lib.indexByte l b = -1
    · simp [h1]
    · rw [if_neg h1] at h ⊢
      have h2 : (Lib.indexByte l b == -1) = false := by simpa using h1
      rw [h2]
      simp only [Bool.false_eq_true, if_false, List.nil_append, Nat.add_zero, Nat.zero_add, List.length_cons, List.length_nil]
      rw [splitK_sc b k _ (by simp only [List.length_cons] at h; omega)]
/-- the same over a text and places in it: k bytes are still to see -/
def scF (b : UInt8) (s : ByteArray) (a : Nat) : Nat → List ByteArray
  | 0 => [s.extract a s.size]
  | k + 1 => if s.data.toList.getD (s.size - (k + 1)) 0 = b then s.extract a (s.size - (k + 1)) :: scF b s (s.size - (k + 1) + 1) k else scF b s a k
theorem scF_hit (b : UInt8) (s : ByteArray) (a j : Nat) (h : j < s.size) (hc : s[j] = b) : scF b s a (s.size - j) = s.extract a j :: scF b s (j + 1) (s.size - (j + 1)) := by
  obtain ⟨k, hk⟩ : ∃ k, s.size - j = k + 1 := ⟨s.size - j - 1, by omega⟩
  have e1 : s.size - (k + 1) = j := by omega
  have e2 : s.size - (j + 1) = k := by omega
  have e3 : s.data.toList.getD j 0 = b := by
    rw [List.getD_eq_getElem?_getD, List.getElem?_eq_getElem (by simpa using h)]
    exact hc
  rw [hk, e2]
  conv => lhs; unfold scF
  rw [e1, if_pos e3]
theorem scF_miss (b : UInt8) (s : ByteArray) (a j : Nat) (h : j < s.size) (hc : ¬ s[j] = b) : scF b s a (s.size - j) = scF b s a (s.size - (j + 1)) := by
  obtain ⟨k, hk⟩ : ∃ k, s.size - j = k + 1 := ⟨s.size - j - 1, by omega⟩
  have e1 : s.size - (k + 1) = j := by omega
  have e2 : s.size - (j + 1) = k := by omega
  have e3 : ¬ s.data.toList.getD j 0 = b := by
    rw [List.getD_eq_getElem?_getD, List.getElem?_eq_getElem (by simpa using h)]
    exact hc
  rw [hk, e2]
  conv => lhs; unfold scF
  rw [e1, if_neg e3]
theorem scF_end (b : UInt8) (s : ByteArray) (a j : Nat) (h : s.size ≤ j) : scF b s a (s.size - j) = [s.extract a s.size] := by
  rw [show s.size - j = 0 by omega]; rfl
def scB (b : UInt8) (s : ByteArray) : List ByteArray := scF b s 0 s.size
theorem ext_snoc (s : ByteArray) (a j : Nat) (h : j < s.size) (ha : a ≤ j) : (s.extract a (j + 1)).data.toList = (s.extract a j).data.toList ++ [s[j]] := by
  rw [Lib.extract_data, Lib.extract_data]
  simp only [List.take_drop]
  rw [show a + (j + 1 - a) = j + 1 by omega, show a + (j - a) = j by omega]
  have hj : j < s.data.toList.length := by simpa using h
  rw [List.take_succ_eq_append_getElem hj, List.drop_append_of_le_length (by rw [List.length_take]; omega)]
  rfl
theorem scF_list (b : UInt8) (s : ByteArray) : ∀ (k a : Nat), k ≤ s.size → a ≤ s.size - k → (scF b s a k).map (·.data.toList) = scA b (s.extract a (s.size - k)).data.toList (s.data.toList.drop (s.size - k))
  | 0, a, _, _ => by
    have : s.data.toList.drop s.size = [] := List.drop_eq_nil_of_le (by simp)
    simp [scF, this, scA]
  | k + 1, a, hk, ha => by
    obtain ⟨j, hj⟩ : ∃ j, s.size - (k + 1) = j := ⟨_, rfl⟩
    have e1 : s.size - k = j + 1 := by omega
    have hjl : j < s.size := by omega
    rw [hj] at ha ⊢
    rw [drop_c s j hjl, scA]
    have hk1 : k + 1 = s.size - j := by omega
    have hk2 : k = s.size - (j + 1) := by omega
    rw [hk1]
    by_cases hc : s[j] = b
    · rw [scF_hit b s a j hjl hc, if_pos hc, List.map_cons, ← hk2, scF_list b s k (j + 1) (by omega) (by omega), e1]
      have : (s.extract (j + 1) (j + 1)).data.toList = [] := by rw [Lib.extract_data]; simp
      rw [this]
    · rw [scF_miss b s a j hjl hc, if_neg hc, ← hk2, scF_list b s k a (by omega) (by omega), e1, ext_snoc s a j hjl ha]
theorem scB_list (b : UInt8) (s : ByteArray) : (scB b s).map (·.data.toList) = scL b s.data.toList := by
  unfold scB scL
  rw [scF_list b s s.size 0 (Nat.le_refl _) (Nat.zero_le _)]
  have : (s.extract 0 (s.size - s.size)).data.toList = [] := by rw [Lib.extract_data]; simp
  rw [this, Nat.sub_self, List.drop_zero]
theorem scB_length (b : UInt8) (s : ByteArray) : (scB b s).length = s.data.toList.count b + 1 := by
  have := congrArg List.length (scB_list b s)
  rw [List.length_map, scL_length] at this
  exact this
theorem lists_inj : ∀ (l m : List ByteArray), l.map (·.data.toList) = m.map (·.data.toList) → l = m
  | [], [], _ => rfl
  | [], _ :: _, h => by simp at h
  | _ :: _, [], h => by simp at h
  | a :: l, b :: m, h => by
    simp only [List.map_cons, List.cons.injEq] at h
    obtain ⟨h1, h2⟩ := h
    have e : a = b := by
      obtain ⟨⟨a⟩⟩ := a
      obtain ⟨⟨b⟩⟩ := b
      simp only at h1
      rw [h1]
    rw [e, lists_inj l m h2]
theorem countB_sc (b : UInt8) (s : ByteArray) : Lib.countB s ⟨#[b]⟩ + 1 = (scB b s).length := by
  rw [scB_length]
  show Lib.count s.data.toList [b] + 1 = _
  rw [Lib.count_one]
/-- what strings.Split gives -/
theorem split_sc (b : UInt8) (s : ByteArray) : Lib.splitB ⟨#[b]⟩ 0 (Lib.countB s ⟨#[b]⟩) s = scB b s := by
  refine lists_inj _ _ ?_
  rw [Lib.splitB_data, scB_list]
  refine splitK_sc b _ _ ?_
  rw [scL_length]
  show _ ≤ Lib.count s.data.toList [b] + 1
  rw [Lib.count_one]
  exact Nat.le_refl _
/-! Lines and columns. -/
theorem scA_snoc (b x : UInt8) : ∀ (l acc : List UInt8), scA b acc (l ++ [x]) = if x = b then scA b acc l ++ [[]] else (scA b acc l).dropLast ++ [((scA b acc l).getLastD []) ++ [x]]
  | [], acc => by
    simp only [List.nil_append, scA]
    by_cases h : x = b
    · simp [h]
    · simp [h]
  | c :: r, acc => by
    simp only [List.cons_append, scA]
    by_cases h : c = b
    · simp only [if_pos h]
      rw [scA_snoc b x r []]
      by_cases hx : x = b
      · simp [hx]
      · simp only [if_neg hx]
        have hne : scA b [] r ≠ [] := by intro q; have := scA_length b r []; rw [q] at this; simp at this
        rw [List.dropLast_cons_of_ne_nil hne, List.getLastD_cons, List.cons_append]
        congr 3
        rw [List.getLastD_eq_getLast?, List.getLastD_eq_getLast?, List.getLast?_eq_some_getLast hne]
        rfl
    · simp only [if_neg h]
      exact scA_snoc b x r _
/-- the line and the column behind a list of bytes -/
def lnN (l : List UInt8) : Nat := (scL 10 l).length
def coN (l : List UInt8) : Nat := ((scL 10 l).getLastD []).length + 1
theorem ln_nil : lnN [] = 1 := rfl
theorem co_nil : coN [] = 1 := rfl
theorem ln_hit (l : List UInt8) : lnN (l ++ [10]) = lnN l + 1 := by unfold lnN scL; rw [scA_snoc]; simp
theorem co_hit (l : List UInt8) : coN (l ++ [10]) = 1 := by unfold coN scL; rw [scA_snoc]; simp
theorem ln_miss (l : List UInt8) (x : UInt8) (h : x ≠ 10) : lnN (l ++ [x]) = lnN l := by
  have := scA_length 10 l []
  unfold lnN scL; rw [scA_snoc, if_neg h]; simp; omega
theorem co_miss (l : List UInt8) (x : UInt8) (h : x ≠ 10) : coN (l ++ [x]) = coN l + 1 := by
  unfold coN scL; rw [scA_snoc, if_neg h]; simp
theorem ln_le (l : List UInt8) : lnN l ≤ l.length + 1 := by
  unfold lnN; rw [scL_length]; have := List.count_le_length (a := (10 : UInt8)) (l := l); omega
theorem sc_total (b : UInt8) : ∀ (l acc : List UInt8), ((scA b acc l).map (fun x => x.length + 1)).sum = acc.length + l.length + 1
  | [], acc => by simp [scA]
  | c :: r, acc => by
    unfold scA
    by_cases h : c = b
    · rw [if_pos h, List.map_cons, List.sum_cons, sc_total b r []]; simp; omega
    · rw [if_neg h, sc_total b r _]; simp; omega
/-- the sum of the sizes of texts, one more each -/
def zsum (l : List ByteArray) : Nat := (l.map (fun x => x.size + 1)).sum
theorem zsum_all (b : UInt8) (s : ByteArray) : zsum (scB b s) = s.size + 1 := by
  have h := sc_total b s.data.toList []
  have e := scB_list b s
  unfold scL at e
  rw [← e, List.map_map] at h
  unfold zsum
  rw [Lib.size_eq s]
  simp only [List.length_nil, Nat.zero_add] at h
  rw [← h]
  congr 1
theorem zsum_take (l : List ByteArray) (k : Nat) : zsum (l.take k) ≤ zsum l := by
  have h : zsum l = zsum (l.take k) + zsum (l.drop k) := by
    unfold zsum
    rw [← List.sum_append, ← List.map_append, List.take_append_drop]
  omega
theorem zsum_more (l : List ByteArray) (k : Nat) (h : k < l.length) : zsum (l.take (k + 1)) = zsum (l.take k) + ((l.getD k ⟨#[]⟩).size + 1) := by
  unfold zsum
  rw [List.take_succ_eq_append_getElem h, List.map_append, List.sum_append]
  simp [List.getD_eq_getElem?_getD, h]
theorem piece_le (l : List ByteArray) (k : Nat) (h : k < l.length) : (l.getD k ⟨#[]⟩).size + 1 ≤ zsum l := by
  have a := zsum_more l k h
  have b := zsum_take l (k + 1)
  omega
/-- the last piece -/
theorem last_co (s : ByteArray) : ((scB 10 s).getD ((scB 10 s).length - 1) ⟨#[]⟩).size + 1 = coN s.data.toList := by
  have hl := scB_length 10 s
  have e := scB_list 10 s
  have hk : (scB 10 s).length - 1 < (scB 10 s).length := by omega
  unfold coN
  rw [← e, List.getLastD_eq_getLast?, List.getLast?_eq_getElem?, List.length_map, List.getElem?_map, List.getD_eq_getElem?_getD, List.getElem?_eq_getElem hk]
  simp only [Option.map_some, Option.getD_some]
  rw [Lib.size_eq]
theorem ln_sc (s : ByteArray) : (scB 10 s).length = lnN s.data.toList := by
  unfold lnN
  rw [← scB_list, List.length_map]
end Go.Proofs.YtdfkehgkonadhaaDoor
