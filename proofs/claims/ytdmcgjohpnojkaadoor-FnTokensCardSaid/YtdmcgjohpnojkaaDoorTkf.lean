/- SpacedText: contracts, program and model. -/
import Derived.Test.YtdmcgjohpnojkaaDoorTku
import Derived.Test.YtdmcgjohpnojkaaDoorTky
namespace Go.Proofs.YtdmcgjohpnojkaaDoor
set_option maxRecDepth 100000
open Go.RowKit
set_option linter.unusedVariables false

/-- the texts of the tokens of a text are short -/
theorem SzT.snoc {l : List Tok} {x : Tok} (h : SzT l) (hx : x.t.size ≤ 1048576) : SzT (l ++ [x]) := by
  intro k hk
  rw [List.length_append] at hk
  by_cases hlt : k < l.length
  · have := h k hlt
    rw [List.getD_eq_getElem?_getD, List.getElem?_append_left hlt, ← List.getD_eq_getElem?_getD]
    exact this
  · have hk1 : k = l.length := by simp at hk; omega
    subst hk1
    simp [List.getD_eq_getElem?_getD, hx]
theorem SzT.nil : SzT [] := fun k h => absurd h (by simp)
theorem tkA_size (s : ByteArray) (i : Nat) : (tkA s i).t.size ≤ s.size := by
  unfold tkA
  simp only []
  split
  · exact Nat.zero_le _
  · split
    · show (ftL _).size ≤ _
      have := ftL_len (s.data.toList.drop (i + skL false (s.data.toList.drop i)))
      rw [List.length_drop, ← size_list] at this
      omega
    · exact Nat.zero_le _
theorem tkGo_sz (s : ByteArray) (hs : s.size ≤ 4000) : ∀ m i acc, SzT acc → SzT (tkGo s m i acc).l
  | 0, _, _, _ => SzT.nil
  | m + 1, i, acc, h => by
    unfold tkGo
    split
    · exact SzT.nil
    · split
      · exact h
      · split
        · exact SzT.nil
        · exact tkGo_sz s hs m _ _ (h.snoc (Nat.le_trans (tkA_size s i) (by omega)))
theorem tkT_sz (s : ByteArray) : SzT (tkT s).l := by
  unfold tkT
  split
  · rename_i h; exact tkGo_sz s h 601 0 [] SzT.nil
  · exact SzT.nil
/-- what SpacedText answers -/
def spO (s : ByteArray) : Bool := flO s && jnO (tkT s).l
def spR (s : ByteArray) : ByteArray := if flO s then jnR (tkT s).l else ⟨#[]⟩
theorem sp_no {s : ByteArray} (h : flO s = false) : spO s = false ∧ spR s = ⟨#[]⟩ := ⟨by unfold spO; rw [h]; rfl, by unfold spR; rw [if_neg (by rw [h]; simp)]⟩
theorem sp_yes {s : ByteArray} (h : flO s = true) : spO s = jnO (tkT s).l ∧ spR s = jnR (tkT s).l := ⟨by unfold spO; rw [h]; rfl, by unfold spR; rw [if_pos h]⟩
set_option maxHeartbeats 1600000 in
theorem implSpaced_any (s : ByteArray) (w : World) (hT : Hid (Tabs w)) : Calls Tryd.prog 15 #[.string s] w (SaysTB w (spR s) (spO s)) := by
  have HA := Lib.hid (fun w hT => faultless_any s w hT)
  have HZ := Lib.hid (tkT_sz s)
  have HN := Lib.hid (fun h => sp_no (s := s) h)
  have HY := Lib.hid (fun h => sp_yes (s := s) h)
  obtain ⟨l, hl⟩ : ∃ l, (tkT s).l = l := ⟨_, rfl⟩
  obtain ⟨o, ho⟩ : ∃ o, flO s = o := ⟨_, rfl⟩
  rw [hl] at HA HZ HY
  rw [ho] at HA HN HY
  clear hl ho
  have HJ := Lib.hid (fun v w hT h => implJoin_any v l w hT h HZ)
  cases o
  · have HX := Lib.hid (HN.out rfl)
    rw [HX.out.1, HX.out.2]
    clear HY HN HX
    go_enter Tryd.func15, Tryd.ntmps15
    go_wp2_with (go_at_call 45; refine (HA.out _ hT).mono ?_; rintro e w1 ⟨v, rfl, o1, b1⟩; have B1 := Lib.hid b1; clear b1 o1)
    go_ret2
    exact ⟨rfl, B1.out⟩
  · have HX := Lib.hid (HY.out rfl)
    rw [HX.out.1, HX.out.2]
    clear HY HN HX
    obtain ⟨r, hr⟩ : ∃ r, jnR l = r := ⟨_, rfl⟩
    obtain ⟨p, hp⟩ : ∃ p, jnO l = p := ⟨_, rfl⟩
    rw [hr, hp] at HJ
    rw [hr, hp]
    clear hr hp
    go_enter Tryd.func15, Tryd.ntmps15
    go_wp2_with (go_at_call 45; refine (HA.out _ hT).mono ?_; rintro e w1 ⟨v, rfl, o1, b1⟩; have B1 := Lib.hid b1; have T1 := Lib.hid (hT.out.below b1); have O1 := Lib.hid o1.slt; clear b1 o1; refine Hid.out ?_)
    refine Lib.hid ?_
    go_wp2_with (go_at_call 46; refine (HJ.out v _ T1 O1).mono ?_; rintro e w2 ⟨rfl, b2⟩; have B2 := Lib.hid b2; clear b2)
    go_ret2
    exact ⟨rfl, B1.out.trans (B2.out.mono B1.out.size)⟩
set_option maxHeartbeats 1600000 in
theorem specSpaced_any (s : ByteArray) (w : World) : Calls Tryd.prog 16 #[.string s] w (SaysTB w (spR s) (spO s)) := by
  have HA := Lib.hid (fun w => specTokensOf_any s w)
  have HZ := Lib.hid (tkT_sz s)
  have hl1 := tkT_len s
  have HO : Hid (flO s = (tkO s && ((tkT s).f == 0))) := Lib.hid rfl
  have HN := Lib.hid (fun h => sp_no (s := s) h)
  have HY := Lib.hid (fun h => sp_yes (s := s) h)
  obtain ⟨R, hR⟩ : ∃ R, tkT s = R := ⟨_, rfl⟩
  obtain ⟨o, ho⟩ : ∃ o, tkO s = o := ⟨_, rfl⟩
  rw [hR] at HA HY HO HZ hl1
  rw [ho] at HA HO
  clear ho hR
  obtain ⟨l, f, g⟩ := R
  have hl2 : l.length ≤ 1048576 := Nat.le_trans hl1 (by omega)
  have HJ := Lib.hid (fun v w h => specJoin_any v l w h HZ hl2)
  cases o
  · have HX := Lib.hid (HN.out (by rw [HO.out]; rfl))
    rw [HX.out.1, HX.out.2]
    clear HY HN HX HO
    go_enter Tryd.func16, Tryd.ntmps16
    go_wp2_with (go_at_call 7; refine (HA.out _).mono ?_; rintro e w1 ⟨v, rfl, o1, b1⟩; have B1 := Lib.hid b1; clear b1 o1)
    go_ret2
    exact ⟨rfl, B1.out.alloc B1.out.size _⟩
  · by_cases hf : f = 0
    · subst hf
      have HX := Lib.hid (HY.out (by rw [HO.out]; rfl))
      rw [HX.out.1, HX.out.2]
      clear HY HN HX HO
      show Calls Tryd.prog 16 #[.string s] w (SaysTB w (jnR l) (jnO l))
      obtain ⟨r, hr⟩ : ∃ r, jnR l = r := ⟨_, rfl⟩
      obtain ⟨p, hp⟩ : ∃ p, jnO l = p := ⟨_, rfl⟩
      rw [hr, hp] at HJ
      rw [hr, hp]
      clear hr hp
      go_enter Tryd.func16, Tryd.ntmps16
      go_wp2_with (go_at_call 7; refine (HA.out _).mono ?_; rintro e w1 ⟨v, rfl, o1, b1⟩; have B1 := Lib.hid b1; have O1 := Lib.hid o1.slt; clear b1 o1; refine Hid.out ?_)
      refine Lib.hid ?_
      go_wp2_with (go_at_call 47; refine (HJ.out v _ (O1.out.below (one_new2 _ _))).mono ?_; rintro e w2 ⟨rfl, b2⟩; have B2 := Lib.hid ((one_new2 _ _).trans (b2.mono (one_new2 _ _).size)); clear b2)
      go_ret2
      exact ⟨rfl, B1.out.trans (B2.out.mono B1.out.size)⟩
    · have df : (f != 0) = true := by simpa using hf
      have HX := Lib.hid (HN.out (by rw [HO.out]; simp [hf]))
      rw [HX.out.1, HX.out.2]
      clear HY HN HX HO hf
      go_enter Tryd.func16, Tryd.ntmps16
      go_wp2_with (go_at_call 7; refine (HA.out _).mono ?_; rintro e w1 ⟨v, rfl, o1, b1⟩; have B1 := Lib.hid b1; clear b1 o1)
      go_ret2
      exact ⟨rfl, B1.out.alloc B1.out.size _⟩
end Go.Proofs.YtdmcgjohpnojkaaDoor
