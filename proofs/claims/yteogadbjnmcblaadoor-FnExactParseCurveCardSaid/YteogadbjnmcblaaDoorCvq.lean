/- A text cut at every '/': the model's l1Split, the library's splitB, as one list of pieces. -/
import Derived.Test.YteogadbjnmcblaaDoorCvo
import Derived.Lib.Split
namespace Go.Proofs.YteogadbjnmcblaaDoor
set_option maxRecDepth 100000
open Go.RowKit
set_option linter.unusedVariables false

/-- the pieces of a list of bytes at 47, the first one begun -/
def spA (acc : List UInt8) : List UInt8 → List (List UInt8)
  | [] => [acc]
  | c :: r => if c = 47 then acc :: spA [] r else spA (acc ++ [c]) r
def spL (l : List UInt8) : List (List UInt8) := spA [] l
theorem spA_pos : ∀ (l acc : List UInt8), 1 ≤ (spA acc l).length
  | [], acc => by simp [spA]
  | c :: r, acc => by
    unfold spA; split
    · simp
    · exact spA_pos r _
theorem spA_len : ∀ (l acc : List UInt8), (spA acc l).length ≤ l.length + 1
  | [], acc => by simp [spA]
  | c :: r, acc => by
    unfold spA; split
    · have := spA_len r []; simp; omega
    · have := spA_len r (acc ++ [c]); simp; omega
theorem spA_index : ∀ (l acc : List UInt8), spA acc l = if Lib.indexByte l 47 = -1 then [acc ++ l] else (acc ++ l.take (Lib.indexByte l 47).toNat) :: spL (l.drop ((Lib.indexByte l 47).toNat + 1))
  | [], acc => by simp [spA, Lib.indexByte]
  | c :: r, acc => by
    have hg := Lib.indexByte_ge r 47
    unfold spA Lib.indexByte
    by_cases h : c = 47
    · subst h; simp [spL]
    · have e : (c == 47) = false := by simpa using h
      rw [if_neg h, e, spA_index r (acc ++ [c])]
      by_cases h1 : Lib.indexByte r 47 = -1
      · simp [h1]
      · have h2 : (Lib.indexByte r 47 == -1) = false := by simpa using h1
        have h3 : ¬ Lib.indexByte r 47 + 1 = -1 := by omega
        have h4 : (Lib.indexByte r 47 + 1).toNat = (Lib.indexByte r 47).toNat + 1 := by omega
        simp [h1, h2, h3, h4]
/-- the library's cut, at most k times -/
theorem splitK_eq : ∀ (k : Nat) (l : List UInt8), (spL l).length ≤ k + 1 → Lib.splitK [47] 0 k l = spL l
  | 0, l, h => by
    have e := spA_index l []
    unfold Lib.splitK
    unfold spL at h ⊢
    rw [e] at h ⊢
    by_cases h1 : Lib.indexByte l 47 = -1
    · simp [h1]
    · rw [if_neg h1] at h
      have := spA_pos (l.drop ((Lib.indexByte l 47).toNat + 1)) []
      unfold spL at h
      simp at h
      exact absurd h (by intro q; rw [q] at this; simp at this)
  | k + 1, l, h => by
    have e := spA_index l []
    unfold Lib.splitK
    rw [Lib.index_one]
    have e1 : spL l = spA [] l := rfl
    rw [e1] at h ⊢
    rw [e] at h ⊢
    by_cases h1 : Lib.indexByte l 47 = -1
    · simp [h1]
    · rw [if_neg h1] at h ⊢
      have h2 : (Lib.indexByte l 47 == -1) = false := by simpa using h1
      rw [h2]
      simp only [Bool.false_eq_true, if_false, List.nil_append, Nat.add_zero, Nat.zero_add, List.length_cons, List.length_nil]
      rw [splitK_eq k _ (by simp only [List.length_cons] at h; omega)]
theorem splitK_long : ∀ (k : Nat) (l : List UInt8), k + 1 ≤ (spL l).length → (Lib.splitK [47] 0 k l).length = k + 1
  | 0, l, _ => rfl
  | k + 1, l, h => by
    have e := spA_index l []
    unfold Lib.splitK
    rw [Lib.index_one]
    have e1 : spL l = spA [] l := rfl
    rw [e1, e] at h
    by_cases h1 : Lib.indexByte l 47 = -1
    · rw [if_pos h1] at h; simp at h
    · rw [if_neg h1] at h
      have h2 : (Lib.indexByte l 47 == -1) = false := by simpa using h1
      rw [h2]
      simp only [Bool.false_eq_true, if_false, Nat.zero_add, List.length_cons, List.length_nil]
      rw [splitK_long k _ (by simp only [List.length_cons] at h; omega)]
/-- with n = 4: three pieces exactly if there are three, and the same -/
theorem splitN_three (l : List UInt8) : (Lib.splitK [47] 0 (min 4 (l.length + 1) - 1) l).length = 3 ↔ (spL l).length = 3 := by
  have hp := spA_pos l []
  have hl := spA_len l []
  have e1 : spL l = spA [] l := rfl
  rw [e1]
  by_cases h : (spA [] l).length ≤ min 4 (l.length + 1) - 1 + 1
  · rw [splitK_eq _ l h]; rfl
  · have h4 : min 4 (l.length + 1) = 4 := by omega
    rw [h4] at h ⊢
    have := splitK_long 3 l (by rw [e1]; omega)
    rw [this]; omega
theorem splitN_eq (l : List UInt8) (h : (spL l).length = 3) : Lib.splitK [47] 0 (min 4 (l.length + 1) - 1) l = spL l := by
  have hl := spA_len l []
  have e1 : spL l = spA [] l := rfl
  exact splitK_eq _ l (by rw [e1] at h ⊢; omega)
/-- a text without '/' in front of one -/
theorem spA_piece : ∀ (p acc r : List UInt8), (∀ c ∈ p, c ≠ 47) → spA acc (p ++ 47 :: r) = (acc ++ p) :: spL r
  | [], acc, r, _ => by simp [spA, spL]
  | c :: p, acc, r, h => by
    rw [List.cons_append, spA, if_neg (h c (by simp)), spA_piece p (acc ++ [c]) r (fun x hx => h x (by simp [hx]))]
    simp
theorem spA_last : ∀ (p acc : List UInt8), (∀ c ∈ p, c ≠ 47) → spA acc p = [acc ++ p]
  | [], acc, _ => by simp [spA]
  | c :: p, acc, h => by
    rw [spA, if_neg (h c (by simp)), spA_last p (acc ++ [c]) (fun x hx => h x (by simp [hx]))]
    simp
theorem sp_three (a b c : List UInt8) (ha : ∀ x ∈ a, x ≠ 47) (hb : ∀ x ∈ b, x ≠ 47) (hc : ∀ x ∈ c, x ≠ 47) : spL (a ++ 47 :: (b ++ 47 :: c)) = [a, b, c] := by
  unfold spL
  rw [spA_piece a [] _ ha]
  unfold spL
  rw [spA_piece b [] _ hb]
  unfold spL
  rw [spA_last c [] hc]
  simp

/-- the same over a text and places in it: k bytes are still to see -/
def spF (s : ByteArray) (a : Nat) : Nat → List ByteArray
  | 0 => [s.extract a s.size]
  | k + 1 => if s.data.toList.getD (s.size - (k + 1)) 0 = 47 then s.extract a (s.size - (k + 1)) :: spF s (s.size - (k + 1) + 1) k else spF s a k
theorem spF_hit (s : ByteArray) (a j : Nat) (h : j < s.size) (hc : s[j] = 47) : spF s a (s.size - j) = s.extract a j :: spF s (j + 1) (s.size - (j + 1)) := by
  obtain ⟨k, hk⟩ : ∃ k, s.size - j = k + 1 := ⟨s.size - j - 1, by omega⟩
  have e1 : s.size - (k + 1) = j := by omega
  have e2 : s.size - (j + 1) = k := by omega
  have e3 : s.data.toList.getD j 0 = 47 := by
    rw [List.getD_eq_getElem?_getD, List.getElem?_eq_getElem (by simpa using h)]
    exact hc
  rw [hk, e2]
  conv => lhs; unfold spF
  rw [e1, if_pos e3]
theorem spF_miss (s : ByteArray) (a j : Nat) (h : j < s.size) (hc : ¬ s[j] = 47) : spF s a (s.size - j) = spF s a (s.size - (j + 1)) := by
  obtain ⟨k, hk⟩ : ∃ k, s.size - j = k + 1 := ⟨s.size - j - 1, by omega⟩
  have e1 : s.size - (k + 1) = j := by omega
  have e2 : s.size - (j + 1) = k := by omega
  have e3 : ¬ s.data.toList.getD j 0 = 47 := by
    rw [List.getD_eq_getElem?_getD, List.getElem?_eq_getElem (by simpa using h)]
    exact hc
  rw [hk, e2]
  conv => lhs; unfold spF
  rw [e1, if_neg e3]
theorem spF_end (s : ByteArray) (a j : Nat) (h : s.size ≤ j) : spF s a (s.size - j) = [s.extract a s.size] := by
  rw [show s.size - j = 0 by omega]; rfl
def spB (s : ByteArray) : List ByteArray := spF s 0 s.size
theorem extract_snoc (s : ByteArray) (a j : Nat) (h : j < s.size) (ha : a ≤ j) : (s.extract a (j + 1)).data.toList = (s.extract a j).data.toList ++ [s[j]] := by
  rw [Lib.extract_data, Lib.extract_data]
  simp only [List.take_drop]
  rw [show a + (j + 1 - a) = j + 1 by omega, show a + (j - a) = j by omega]
  have hj : j < s.data.toList.length := by simpa using h
  rw [List.take_succ_eq_append_getElem hj, List.drop_append_of_le_length (by rw [List.length_take]; omega)]
  rfl
theorem spF_list (s : ByteArray) : ∀ (k a : Nat), k ≤ s.size → a ≤ s.size - k → (spF s a k).map (·.data.toList) = spA (s.extract a (s.size - k)).data.toList (s.data.toList.drop (s.size - k))
  | 0, a, _, _ => by
    have : s.data.toList.drop s.size = [] := List.drop_eq_nil_of_le (by simp)
    simp [spF, this, spA]
  | k + 1, a, hk, ha => by
    obtain ⟨j, hj⟩ : ∃ j, s.size - (k + 1) = j := ⟨_, rfl⟩
    have e1 : s.size - k = j + 1 := by omega
    have hjl : j < s.size := by omega
    rw [hj] at ha ⊢
    rw [drop_at s j hjl, spA]
    have hk1 : k + 1 = s.size - j := by omega
    have hk2 : k = s.size - (j + 1) := by omega
    rw [hk1]
    by_cases hc : s[j] = 47
    · rw [spF_hit s a j hjl hc, if_pos hc, List.map_cons, ← hk2, spF_list s k (j + 1) (by omega) (by omega), e1]
      have : (s.extract (j + 1) (j + 1)).data.toList = [] := by rw [Lib.extract_data]; simp
      rw [this]
    · rw [spF_miss s a j hjl hc, if_neg hc, ← hk2, spF_list s k a (by omega) (by omega), e1, extract_snoc s a j hjl ha]
theorem spB_list (s : ByteArray) : (spB s).map (·.data.toList) = spL s.data.toList := by
  unfold spB spL
  rw [spF_list s s.size 0 (Nat.le_refl _) (Nat.zero_le _)]
  have : (s.extract 0 (s.size - s.size)).data.toList = [] := by rw [Lib.extract_data]; simp
  rw [this, Nat.sub_self, List.drop_zero]
def SlRel (w : World) (s : ByteArray) (T : List ByteArray) (out from_ i : Value) (wr : World) : Prop :=
  ∃ (j a : Nat) (l : List ByteArray), j ≤ s.size ∧ a ≤ j ∧ l.length ≤ j ∧ i = .int .i64 j ∧ from_ = .int .i64 a ∧ OwnZ wr w.heap.size out l.length l ∧ Below w.heap.size w wr ∧ Hid (l ++ spF s a (s.size - j) = T)
def SaysZ (w : World) (T : List ByteArray) (e : Ending) (w' : World) : Prop := ∃ v, e = .returned v ∧ OwnZ w' w.heap.size v T.length T ∧ Below w.heap.size w w'
set_option maxHeartbeats 3200000 in
theorem l1Split_any (s : ByteArray) (w : World) (hs : s.size ≤ 1048576) : Calls Tryd.prog 26 #[.string s, .int .u8 47] w (SaysZ w (spB s)) := by
  obtain ⟨i0, hi, hz0, hz1, hz2⟩ := info_parts infoStr
  obtain ⟨T, hT⟩ : ∃ T, spB s = T := ⟨_, rfl⟩
  have H0 : Hid ([] ++ spF s 0 (s.size - 0) = T) := Lib.hid hT
  rw [hT]
  clear hT
  go_enter Tryd.func26, Tryd.ntmps26
  go_wp2_with fail
  go_loopw [5, 6, 7] (fun out fr i wr => SlRel w s T out fr i wr) (fun _ _ i _ => s.size - (intOf i).toNat)
  case atStart => exact ⟨0, 0, [], Nat.zero_le _, Nat.le_refl _, Nat.le_refl _, rfl, rfl, World.ownsRow_nil _ _ _ _, Below.refl _ _, H0⟩
  case round =>
    obtain ⟨j, a, l, hj, ha, hl, rfl, rfl, ho, hb, HP⟩ := hrel
    have HO := Lib.hid ho
    have HB := Lib.hid hb
    clear ho hb
    by_cases hlt : j < s.size
    · by_cases hc : s[j] = 47
      · have dq : ((s[j].toNat : Int) == 47) = true := by rw [hc]; rfl
        have HX : Hid ((l ++ [s.extract a j]) ++ spF s (j + 1) (s.size - (j + 1)) = T) := Lib.hid (by rw [← HP.out, spF_hit s a j hlt hc]; simp)
        clear hc
        go_wp2_with (at_builtin; refine wpList_append_own _ rfl _ _ 39 rfl w.heap.size 9 i0 (.string ⟨#[]⟩) 1 16 Tryd.underlying39 hi hz0 hz1 hz2 rfl (by decide) _ _ _ rfl (World.ownsRow.alloc (w := wr) HO.out _) ⟨wr.heap.size, 0, none⟩ 1 1 [.string (s.extract a j)] rfl rfl (one_new wr _ _) (by intro u hu; simp at hu; subst hu; rfl) (by unfold maxLen; omega) (by omega) (by have := HB.out.size; simp; omega) ?_; intro v' w3 hown1 hgrow1 _; have R := Lib.hid (OwnZ.snoc (wr := wr) HO.out HB.out.size HB.out hown1 hgrow1); clear hown1 hgrow1)
        go_roundw
        case rel => exact ⟨j + 1, j + 1, l ++ [s.extract a j], by omega, Nat.le_refl _, by simp; omega, by go_num, by go_num, by rw [List.length_append]; exact R.out.1, R.out.2, HX⟩
        case measure => simp [intOf]; omega
      · have dq : ((s[j].toNat : Int) == 47) = false := by
          have : s[j].toNat ≠ 47 := fun q => hc (UInt8.toNat_inj.1 q)
          simp; omega
        have HX : Hid (l ++ spF s a (s.size - (j + 1)) = T) := Lib.hid (by rw [← HP.out, spF_miss s a j hlt hc])
        clear hc
        go_wp2_with fail
        go_roundw
        case rel => exact ⟨j + 1, a, l, by omega, by omega, by omega, by go_num, rfl, HO.out, HB.out, HX⟩
        case measure => simp [intOf]; omega
    · have HX : Hid (l ++ [s.extract a s.size] = T) := Lib.hid (by rw [← HP.out, spF_end s a j (by omega)])
      go_wp2_with (at_builtin; refine wpList_append_own _ rfl _ _ 39 rfl w.heap.size 9 i0 (.string ⟨#[]⟩) 1 16 Tryd.underlying39 hi hz0 hz1 hz2 rfl (by decide) _ _ _ rfl (World.ownsRow.alloc (w := wr) HO.out _) ⟨wr.heap.size, 0, none⟩ 1 1 [.string (s.extract a s.size)] rfl rfl (one_new wr _ _) (by intro u hu; simp at hu; subst hu; rfl) (by unfold maxLen; omega) (by omega) (by have := HB.out.size; simp; omega) ?_; intro v' w3 hown1 hgrow1 _; have R := Lib.hid (OwnZ.snoc (wr := wr) HO.out HB.out.size HB.out hown1 hgrow1); clear hown1 hgrow1)
      go_ret
      exact ⟨_, rfl, by rw [← HX.out, List.length_append]; exact R.out.1, R.out.2⟩
end Go.Proofs.YteogadbjnmcblaaDoor
