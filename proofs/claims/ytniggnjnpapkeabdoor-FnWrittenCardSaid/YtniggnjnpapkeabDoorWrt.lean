/- What FnWritten asks: bytes are read back from their text, hexadecimal numbers from theirs, and what stands before a bad byte is plain. -/
import Derived.Test.YtniggnjnpapkeabDoorParT
import Derived.Test.YtniggnjnpapkeabDoorHxaT
import Derived.Test.YtniggnjnpapkeabDoorBad
import Derived.Test.YtniggnjnpapkeabDoorSrd
import Derived.Test.YtniggnjnpapkeabDoorDrf
namespace Go.Proofs.YtniggnjnpapkeabDoor
set_option maxRecDepth 100000
open Go.RowKit

/-! Digits and their values. -/
theorem hdI_dg (c : Nat) (h : c < 256) (hd : 0 ≤ dg 16 (c : Int)) : hdI (dg 16 (c : Int)) = c := by
  rcases dv_cases (c : Int) with ⟨_, e⟩ | ⟨h1, h2, e⟩ | ⟨_, _, e⟩ | ⟨h1, h2, e⟩ | ⟨_, e⟩ <;> unfold dg at hd ⊢ <;> rw [e] at hd ⊢
  · rw [if_pos (by omega)] at hd; omega
  · rw [if_pos (by omega)]; unfold hdI; rw [if_pos (by omega)]; omega
  · rw [if_pos (by omega)] at hd; omega
  · rw [if_pos (by omega)]; unfold hdI; rw [if_neg (by omega)]; omega
  · rw [if_pos (by omega)] at hd; omega
theorem dg_hdI (k : Int) (h0 : 0 ≤ k) (h1 : k < 16) : dg 16 (hdI k) = k := by
  unfold hdI
  split
  · rcases dv_cases (48 + k) with ⟨_, _⟩ | ⟨_, _, e⟩ | ⟨_, _, _⟩ | ⟨_, _, _⟩ | ⟨_, _⟩ <;> first | omega | (unfold dg; rw [e, if_pos (by omega)]; omega)
  · rcases dv_cases (87 + k) with ⟨_, _⟩ | ⟨_, _, _⟩ | ⟨_, _, _⟩ | ⟨_, _, e⟩ | ⟨_, _⟩ <;> first | omega | (unfold dg; rw [e, if_pos (by omega)]; omega)
def u8 (n : Int) : UInt8 := UInt8.ofNat n.toNat
theorem u8_nat (n : Int) (h0 : 0 ≤ n) (h1 : n ≤ 255) : ((u8 n).toNat : Int) = n := by
  unfold u8
  rw [UInt8.toNat_ofNat']
  omega
theorem u8_byte (b : UInt8) : u8 (b.toNat : Int) = b := by
  unfold u8
  simp

/-! Bytes are read back. -/
theorem str_list (zs : List Int) : (strOfNums zs).data.toList = zs.map u8 := by simp [strOfNums, u8]
theorem pair_back (s : ByteArray) (k : Nat) (h : k + 1 < s.size) (ha : 0 ≤ dg 16 (s[k].toNat : Int)) (hb : 0 ≤ dg 16 (s[k + 1].toNat : Int)) :
    [hdI (dval 16 ((s.data.toList.drop k).take 2) % 256 / 16 % 16), hdI (dval 16 ((s.data.toList.drop k).take 2) % 256 % 16)].map u8 = [s[k], s[k + 1]] := by
  have x1 := dg_lt 16 (s[k].toNat : Int) (by omega)
  have x2 := dg_lt 16 (s[k + 1].toNat : Int) (by omega)
  have e1 := hdI_dg s[k].toNat (UInt8.toNat_lt _) ha
  have e2 := hdI_dg s[k + 1].toNat (UInt8.toNat_lt _) hb
  rw [pair_val s k h]
  have d1 : (16 * dg 16 (s[k].toNat : Int) + dg 16 (s[k + 1].toNat : Int)) % 256 / 16 % 16 = dg 16 (s[k].toNat : Int) := by omega
  have d2 : (16 * dg 16 (s[k].toNat : Int) + dg 16 (s[k + 1].toNat : Int)) % 256 % 16 = dg 16 (s[k + 1].toNat : Int) := by omega
  rw [d1, d2, e1, e2]
  simp [u8_byte]
theorem text_back (s : ByteArray) (n : Nat) (hn : s.size = 2 * n) (ha : AllHex s) : strOfNums (bt (pb s n)) = s := by
  have hd : ∀ (k : Nat) (h : k < s.size), 0 ≤ dg 16 (s[k].toNat : Int) := fun k h => allHex_mem s ha _ (mem_byte s k h)
  have key : ∀ k, k ≤ n → (strOfNums (bt (pb s k))).data.toList = s.data.toList.take (2 * k) := by
    intro k
    induction k with
    | zero => intro _; rfl
    | succ k ih =>
      intro hk
      have hlt : 2 * k + 1 < s.size := by omega
      rw [str_list, pb_succ, bt_snoc, List.map_append, ← str_list, ih (by omega), pair_back s (2 * k) hlt (hd _ (by omega)) (hd _ hlt), show 2 * (k + 1) = 2 * k + 1 + 1 by omega, take_byte s (2 * k + 1) hlt, take_byte s (2 * k) (by omega), List.append_assoc]
      rfl
  have hl := key n (Nat.le_refl _)
  rw [List.take_of_length_le (by rw [← Lib.size_eq]; omega)] at hl
  apply ByteArray.ext
  exact Array.toList_inj.1 hl
def GotR (w : World) (ok : Bool) (n : Nat) (zs : List Int) (e : Ending) (w' : World) : Prop :=
  ∃ (a : Option Addr) (c : Nat), e = .returned (.tuple #[.slice a n c, .bool ok]) ∧ n ≤ c ∧ SrcAt w' a n c zs ∧ Below w.heap.size w w' ∧ (ok = true → ∃ g, a = some ⟨g, 0, none⟩)
theorem parse_got (s : ByteArray) (hs : (s.size : Int) ≤ 1048576) : ∃ (ok : Bool) (n : Nat) (zs : List Int), n ≤ 4000 ∧ Hid (zs.length = n) ∧ Hid (ok = true → strOfNums (bt zs) = s) ∧
    Hid (∀ w, Hid (Dig w) → Calls Tryd.prog 5 #[.string s] w (GotR w ok n zs)) ∧
    Hid (∀ w, Calls Tryd.prog 6 #[.string s] w (Got w ok n zs)) := by
  have none_ : ∀ w e w', GivesNoneB w e w' → Got w false 0 [] e w' := fun w e w' ⟨he, hb⟩ => ⟨none, 0, he, Nat.le_refl _, .inl ⟨rfl, rfl, rfl, rfl⟩, hb⟩
  have some_ : ∀ w n zs e w', (∀ c ∈ zs, 0 ≤ c ∧ c ≤ 255) → SpGives w n zs e w' → Got w true n zs e w' := fun w n zs e w' hr ⟨v, he, ho, hb⟩ => by
    obtain ⟨a, c, rfl⟩ := ho.shape
    exact ⟨a, c, he, SrcAt.len ho, (ho.src hr).2, hb⟩
  by_cases h : ∃ n, s.size = 2 * n ∧ (s.size : Int) ≤ 8000 ∧ AllHex s
  · obtain ⟨n, hn, h8, ha⟩ := h
    refine ⟨true, n, pb s n, by omega, pb_length s n, fun _ => text_back s n hn ha, fun w hD => (implParse_some s n w hD h8 hn ha).mono fun e w' ⟨g, c, he, ho, hb⟩ => ⟨some ⟨g, 0, none⟩, c, he, ho.cap, .inr ⟨g, rfl, ho.lt.2, ho.row (pb_range s n)⟩, hb, fun _ => ⟨g, rfl⟩⟩, fun w => ?_⟩
    exact (specParse_yes s n (pb s n) w fun w => (scParse_go s n w h8 hn).mono fun e w' h => by
      rcases h with ⟨_, h⟩ | ⟨h, _⟩
      · exact h
      · exact absurd ha h).mono fun e w' hg => some_ _ _ _ _ _ (pb_range s n) hg
  · have hno : 8000 < (s.size : Int) ∨ ((s.size : Int) ≤ 8000 ∧ (s.size : Int) % 2 ≠ 0) ∨ ((s.size : Int) ≤ 8000 ∧ (s.size : Int) % 2 = 0 ∧ ¬ AllHex s) := by
      by_cases h8 : (s.size : Int) ≤ 8000
      · by_cases h2 : (s.size : Int) % 2 = 0
        · exact .inr (.inr ⟨h8, h2, fun ha => h ⟨s.size / 2, by omega, h8, ha⟩⟩)
        · exact .inr (.inl ⟨h8, h2⟩)
      · exact .inl (by omega)
    refine ⟨false, 0, [], by omega, rfl, fun h => (by cases h), fun w hD => (implParse_no s w hD hno).mono fun e w' ⟨he, hb⟩ => ⟨none, 0, he, Nat.le_refl _, .inl ⟨rfl, rfl, rfl, rfl⟩, hb, fun h => (by cases h)⟩, fun w => (specParse_no s w fun w => ?_).mono fun e w' hg => none_ _ _ _ hg⟩
    rcases hno with h8 | ⟨h8, h2⟩ | ⟨h8, h2, ha⟩
    · by_cases h2 : (s.size : Int) % 2 = 0
      · exact scParse_long s w h2 h8 hs
      · exact scParse_odd s w h2
    · exact scParse_odd s w h2
    · obtain ⟨n, hn⟩ : ∃ n, s.size = 2 * n := ⟨s.size / 2, by omega⟩
      exact (scParse_go s n w h8 hn).mono fun e w' h => by
        rcases h with ⟨h, _⟩ | ⟨_, h⟩
        · exact absurd h ha
        · exact h

theorem btBack (a : Option Addr) (n c : Nat) (zs : List Int) (s : ByteArray) (w : World) (hf : ∃ g, a = some ⟨g, 0, none⟩) (HL : Hid (zs.length = n)) (hs : Hid (SrcAt w a n c zs)) (hD : Hid (Dig w)) (hn : n ≤ 4000) (he : strOfNums (bt zs) = s) :
    Calls Tryd.prog 23 #[.slice a n c] w (SaysStrB w s true) := by
  obtain ⟨g, rfl⟩ := hf
  rcases hs.out with ⟨h, _⟩ | ⟨g', h, _, hr⟩
  · cases h
  · cases h
    subst he
    exact implBytesText_some g 0 n c zs w HL hr hD (by omega)

/-! Hexadecimal numbers are read back. -/
def hx (m : Nat) : List UInt8 := (hexN m).map u8
theorem hexStr_list (m : Nat) : (hexStr m).data.toList = 48 :: 120 :: hx m := by rw [hexStr, str_list]; rfl
theorem hexN_le (c : Nat) : ∀ n : Nat, n < 16 ^ (c + 1) → (hexN n).length ≤ c + 1 := by
  induction c with
  | zero => intro n h; rw [hexN_small n (by simpa using h)]; simp
  | succ c ih =>
    intro n h
    by_cases h16 : n < 16
    · rw [hexN_small n h16]; simp
    · rw [hexN_big n (by omega)]
      have := ih (n / 16) (by rw [Nat.div_lt_iff_lt_mul (by omega), ← Nat.pow_succ]; exact h)
      simp
      omega
theorem hexN_pos (n : Nat) : 0 < (hexN n).length := by
  by_cases h : n < 16
  · rw [hexN_small n h]; simp
  · rw [hexN_big n (by omega)]; simp
theorem hd_u8 (k : Int) (h0 : 0 ≤ k) (h1 : k < 16) : dg 16 (((u8 (hdI k)).toNat : Nat) : Int) = k := by
  have hb := hdI_bd k h0 h1
  rw [u8_nat _ (by omega) (by omega), dg_hdI k h0 h1]
theorem hx_val (m : Nat) : (∀ c ∈ hx m, 0 ≤ dg 16 (c.toNat : Int)) ∧ dval 16 (hx m) = m := by
  induction m using Nat.strongRecOn with
  | _ m ih =>
    by_cases h : m < 16
    · have e := hd_u8 (m : Int) (by omega) (by omega)
      unfold hx
      rw [hexN_small m h]
      refine ⟨fun c hc => ?_, ?_⟩
      · simp at hc; subst hc; rw [e]; omega
      · have : dval 16 ([] ++ [u8 (hdI (m : Int))]) = m := by rw [dval_snoc, e]; simp [dval]
        simpa using this
    · have e := hd_u8 ((m : Int) % 16) (by omega) (by omega)
      obtain ⟨i1, i2⟩ := ih (m / 16) (by omega)
      unfold hx at i1 i2 ⊢
      rw [hexN_big m (by omega), List.map_append, List.map_cons, List.map_nil]
      refine ⟨fun c hc => ?_, ?_⟩
      · rcases List.mem_append.1 hc with hc | hc
        · exact i1 c hc
        · simp at hc; subst hc; rw [e]; omega
      · rw [dval_snoc, i2, e]
        omega
theorem hexBack (m : Nat) (hm : (m : Int) ≤ 4294967295) (w : World) (hD : Hid (Dig w)) : Calls Tryd.prog 11 #[.string (hexStr m), .int .i64 0] w (SaysThree w m (hexStr m).size true) := by
  have hl := hexStr_list m
  have hlen : (hx m).length = (hexN m).length := by simp [hx]
  have h8 := hexN_le 7 m (by omega)
  have h0 := hexN_pos m
  have hsz : (hexStr m).size = 2 + (hexN m).length := by rw [Lib.size_eq, hl]; simp [hlen]; omega
  have hdr : (hexStr m).data.toList.drop (0 + 2) = hx m := by rw [hl]; rfl
  have hv := hx_val m
  have hc : dlen 16 ((hexStr m).data.toList.drop (0 + 2)) = (hexN m).length := by
    rw [hdr, ← hlen]
    have := dlen_app 16 (hx m) [] hv.1
    simpa [dlen] using this
  have hp : Pfx (hexStr m) 0 := by unfold Pfx; rw [hl]; rfl
  have h := implHex_fine (hexStr m) 0 (hexN m).length w hD (by omega) (by omega) hp hc (by omega) h0 (by omega) (m : Int) (by unfold Hid; rw [hdr, ← dval_dvN 16 _ hv.1, hv.2])
  have e : ((0 : Nat) : Int) + 2 + ((hexN m).length : Int) = ((hexStr m).size : Int) := by omega
  rw [e] at h
  exact h
theorem hexOf_got (n : Int) : ∃ (s : ByteArray) (b : Bool), s.size ≤ 100000 ∧
    Hid (b = true → ∀ w, Hid (Dig w) → Calls Tryd.prog 11 #[.string s, .int .i64 0] w (SaysThree w n s.size true)) ∧
    Hid (∀ w, Hid (Dig w) → Calls Tryd.prog 17 #[.int .i64 n] w (SaysStrB w s b)) ∧
    Hid (∀ w, Calls Tryd.prog 18 #[.int .i64 n] w fun e w' => e = .returned (.tuple #[.string s, .bool b]) ∧ w = w') := by
  by_cases h : 0 ≤ n ∧ n ≤ 4294967295
  · obtain ⟨m, rfl⟩ := Int.eq_ofNat_of_zero_le h.1
    have h8 := hexN_le 7 m (by have := h.2; omega)
    refine ⟨hexStr m, true, ?_, fun _ w hD => hexBack m h.2 w hD, fun w hD => implHexOf_some m w hD h.2, fun w => specHexOf_some m w h.2⟩
    rw [Lib.size_eq, hexStr_list]
    simp [hx]
    omega
  · refine ⟨⟨#[]⟩, false, by rw [show (⟨#[]⟩ : ByteArray).size = 0 from rfl]; omega, fun h => (by cases h), fun w _ => (implHexOf_no n w (by omega)).mono fun e w' ⟨a, b⟩ => ⟨a, by rw [← b]; exact Below.refl _ _⟩, fun w => specHexOf_no n w (by omega)⟩

/-! What stands before a bad byte is plain. -/
theorem badL_take (l : List UInt8) : badL (l.take (badL l)) = badL l := by
  induction l with
  | nil => rfl
  | cons c r ih =>
    by_cases hc : plainB (c.toNat : Int) = true
    · have e : badL (c :: r) = badL r + 1 := by simp [badL, hc]
      have e2 : badL (c :: r.take (badL r)) = badL (r.take (badL r)) + 1 := by simp [badL, hc]
      rw [e, List.take_succ_cons, e2, ih]
    · have e : badL (c :: r) = 0 := by simp [badL, hc]
      rw [e]
      rfl
theorem badL_at (l : List UInt8) (h : badL l < l.length) : plainB ((l[badL l]'h).toNat : Int) = false := by
  induction l with
  | nil => simp at h
  | cons c r ih =>
    by_cases hc : plainB (c.toNat : Int) = true
    · have e : badL (c :: r) = badL r + 1 := by simp [badL, hc]
      have h' : badL r < r.length := by rw [e] at h; simpa using h
      have := ih h'
      simp only [e, List.getElem_cons_succ]
      exact this
    · have e : badL (c :: r) = 0 := by simp [badL, hc]
      simp only [e, List.getElem_cons_zero]
      simpa using hc
theorem firstBad_got (s : ByteArray) (hs : (s.size : Int) ≤ 1048576) : ∃ (r : Int) (ok : Bool), 0 ≤ r ∧
    Hid (ok = true → r < s.size → ∃ b : Int, (b == 10) = false ∧ (∀ w, (Instr.index 9 (.string s) (.int .i64 r)).run Tryd.prog w = .ok (.int .u8 b) w) ∧
      ∀ w, Calls Tryd.prog 14 #[.string (s.extract 0 r.toNat)] w fun e w' => e = .returned (.tuple #[.int .i64 r, .bool true]) ∧ w = w') ∧
    Hid (∀ w, Calls Tryd.prog 14 #[.string s] w fun e w' => e = .returned (.tuple #[.int .i64 r, .bool ok]) ∧ w = w') ∧
    Hid (∀ w, Calls Tryd.prog 15 #[.string s] w fun e w' => e = .returned (.tuple #[.int .i64 r, .bool ok]) ∧ w = w') := by
  refine ⟨badR s, badB s, by unfold badR; split <;> omega, fun hok hlt => ?_, fun w => implFirstBad_any s w hs, fun w => specFirstBad_any s w hs⟩
  have h4 : (s.size : Int) ≤ 4000 := by simpa [badB] using hok
  have hr : badR s = badL s.data.toList := if_pos h4
  rw [hr] at hlt ⊢
  have hlt' : badL s.data.toList < s.data.toList.length := by rw [← Lib.size_eq]; omega
  have hlt2 : badL s.data.toList < s.size := by omega
  obtain ⟨k, hk⟩ : ∃ k, badL s.data.toList = k := ⟨_, rfl⟩
  have hud : (s.extract 0 k).data.toList = s.data.toList.take k := by rw [Lib.extract_data, List.drop_zero, Nat.sub_zero]
  have hus : (s.extract 0 k).size = k := by simp; omega
  have hnp := badL_at _ hlt'
  have hbk := badL_take s.data.toList
  rw [hk] at hbk hlt hlt2
  refine ⟨((s.data.toList[badL s.data.toList]'hlt').toNat : Int), ?_, fun w => ?_, fun w => ?_⟩
  · have : ((s.data.toList[badL s.data.toList]'hlt').toNat : Int) ≠ 10 := fun e => by rw [e] at hnp; revert hnp; decide
    simpa using this
  · rw [run_index_string w 9 s .i64 _ Tryd.underlying9, dif_pos (by omega)]
    rfl
  · rw [hk, show ((k : Int)).toNat = k from rfl]
    have h := implFirstBad_any (s.extract 0 k) w (by omega)
    have e1 : badR (s.extract 0 k) = k := by unfold badR; rw [if_pos (by omega), hud, hbk]
    have e2 : badB (s.extract 0 k) = true := by unfold badB; exact decide_eq_true (by omega)
    rw [e1, e2] at h
    exact h
end Go.Proofs.YtniggnjnpapkeabDoor
