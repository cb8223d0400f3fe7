/- PlaceOf: contracts of both sides. -/
import Derived.Test.YtdfkehgkonadhaaDoorFlt
namespace Go.Proofs.YtdfkehgkonadhaaDoor
set_option maxRecDepth 100000
open Go.RowKit
set_option linter.unusedVariables false
set_option linter.unusedSimpArgs false

def okPl (s : ByteArray) (t c : Int) : Bool := okLt s t && inB c 1 ((resLt s t).size + 1 : Int)
def resPl (s : ByteArray) (t c : Int) : Int := if okPl s t c = true then (zsum ((scB 10 s).take (t - 1).toNat) : Int) + (c - 1) else 0
theorem pl_no {s : ByteArray} {t c : Int} (h : okPl s t c = false) : resPl s t c = 0 := by unfold resPl; rw [h]; rfl
theorem pl_yes {s : ByteArray} {m j : Nat} (h : okPl s ((m : Int) + 1) ((j : Int) + 1) = true) : resPl s ((m : Int) + 1) ((j : Int) + 1) = ((zsum ((scB 10 s).take m) + j : Nat) : Int) := by
  unfold resPl; rw [if_pos h, show ((m : Int) + 1 - 1).toNat = m by omega]; omega
theorem lt_parts {s : ByteArray} {t : Int} (h : okLt s t = true) : linB s = true ∧ ∃ m : Nat, t = (m : Int) + 1 ∧ m < (scB 10 s).length := by
  unfold okLt at h
  rw [Bool.and_eq_true] at h
  obtain ⟨m, e, hm⟩ := in_one h.2
  exact ⟨h.1, m, e, by omega⟩
theorem lt_not {s : ByteArray} {t : Int} (h : okLt s t = false) : linB s = false ∨ (linB s = true ∧ inB t 1 ((scB 10 s).length : Int) = false) := by
  unfold okLt at h
  cases hl : linB s
  · exact .inl rfl
  · rw [hl] at h; exact .inr ⟨rfl, by simpa using h⟩
set_option maxHeartbeats 3200000 in
theorem specPlaceOf_any (s : ByteArray) (t c : Int) (w : World) (hs : s.size ≤ 1048576) : Calls Tryd.prog 17 #[.string s, .int .i64 t, .int .i64 c] w (SaysT2 w (.int .i64 (resPl s t c)) (.bool (okPl s t c))) := by
  have HL := Lib.hid (fun w => erText_any s w)
  cases hok : okLt s t
  · have ho : okPl s t c = false := by unfold okPl; rw [hok]; rfl
    rw [pl_no ho, ho]
    clear ho
    rcases lt_not hok with hl | ⟨hl, hi⟩
    · rw [hl] at HL
      clear hok hl
      go_enter Tryd.func17, Tryd.ntmps17
      go_wp2_with (go_at_call 34; refine (HL.out _).mono ?_; rintro e w' ⟨rfl, rfl⟩)
      go_ret2
      exact ⟨rfl, Below.refl _ _⟩
    · have HE := Lib.hid (fun w => erStart_no s t w hs hi)
      rw [hl] at HL
      clear hok hl hi
      go_enter Tryd.func17, Tryd.ntmps17
      go_wp2_with (go_at_call 34; refine (HL.out _).mono ?_; rintro e w' ⟨rfl, rfl⟩)
      go_wp2_with (go_at_call 38; refine (HE.out _).mono ?_; rintro e w1 ⟨rfl, b⟩; have B1 := Lib.hid b; clear b)
      go_ret2
      exact ⟨rfl, B1.out⟩
  obtain ⟨hl, m, rfl, hm'⟩ := lt_parts hok
  have HE := Lib.hid (fun w => erStart_yes s m w hs hm')
  have HS := Lib.hid (fun w => l1SplitG_any 10 s w hs)
  have hp := pieces_of 10 s hs
  have hqs := pc_rng hp m hm'
  have hz := zs_rng hp m
  have hlen := hp.len
  have hrl := lt_yes hok
  have HI := Lib.hid (fun w => l1In_any c 1 ((resLt s ((m : Int) + 1)).size + 1 : Int) w)
  rw [hl] at HL
  clear hl
  cases hi : inB c 1 ((resLt s ((m : Int) + 1)).size + 1 : Int)
  · have ho : okPl s ((m : Int) + 1) c = false := by unfold okPl; rw [hok, hi]; rfl
    rw [pl_no ho, ho]
    rw [hi] at HI
    rw [hrl] at HI
    clear ho hi hok hrl
    generalize scB 10 s = P at HE HS HI hm' hqs hz hlen hp
    obtain ⟨N, hN⟩ : ∃ N, P.length = N := ⟨_, rfl⟩
    unfold SaysG at HS
    rw [hN] at HS hm' hlen
    have HN := Lib.hid hN
    generalize zsum (P.take m) = z at HE hz
    obtain ⟨q, hq⟩ : ∃ q, P.getD m ⟨#[]⟩ = q := ⟨_, rfl⟩
    have HQ := Lib.hid hq
    rw [hq] at hqs HI
    have dz := not_lt (show (0 : Int) ≤ (z : Int) by omega)
    clear hN hq hp
    go_enter Tryd.func17, Tryd.ntmps17
    go_wp2_with (go_at_call 34; refine (HL.out _).mono ?_; rintro e w' ⟨rfl, rfl⟩)
    go_wp2_with (go_at_call 38; refine (HE.out _).mono ?_; rintro e w1 ⟨rfl, b⟩; have B1 := Lib.hid b; clear b)
    go_wp2_with (go_at_call 39; refine (HS.out _).mono ?_; rintro e w2 ⟨g, cap, rfl, hc, T, hl, b⟩; have B2 := Lib.hid (BX.call B1.out b); have hcl := T m (by rw [HN.out]; exact hm'); rw [HQ.out] at hcl; clear b T)
    go_wp2_with (go_at_call 29; refine (HI.out _).mono ?_; rintro e w' ⟨rfl, rfl⟩)
    go_ret2
    exact ⟨rfl, B2.out⟩
  · have ho : okPl s ((m : Int) + 1) c = true := by unfold okPl; rw [hok, hi]; rfl
    obtain ⟨j, rfl, hj⟩ := in_one hi
    rw [pl_yes ho, ho]
    rw [hi] at HI
    rw [hrl] at HI hj
    clear ho hi hok hrl
    generalize scB 10 s = P at HE HS HI hm' hqs hz hlen hp hj ⊢
    obtain ⟨N, hN⟩ : ∃ N, P.length = N := ⟨_, rfl⟩
    unfold SaysG at HS
    rw [hN] at HS hm' hlen
    have HN := Lib.hid hN
    generalize zsum (P.take m) = z at HE hz ⊢
    obtain ⟨q, hq⟩ : ∃ q, P.getD m ⟨#[]⟩ = q := ⟨_, rfl⟩
    have HQ := Lib.hid hq
    rw [hq] at hqs HI hj
    have dz := not_lt (show (0 : Int) ≤ (z : Int) by omega)
    clear hN hq hp
    go_enter Tryd.func17, Tryd.ntmps17
    go_wp2_with (go_at_call 34; refine (HL.out _).mono ?_; rintro e w' ⟨rfl, rfl⟩)
    go_wp2_with (go_at_call 38; refine (HE.out _).mono ?_; rintro e w1 ⟨rfl, b⟩; have B1 := Lib.hid b; clear b; refine Hid.out ?_)
    refine Lib.hid ?_
    go_wp2_with (go_at_call 39; refine (HS.out _).mono ?_; rintro e w2 ⟨g, cap, rfl, hc, T, hl, b⟩; have B2 := Lib.hid (BX.call B1.out b); have hcl := T m (by rw [HN.out]; exact hm'); rw [HQ.out] at hcl; clear b T)
    go_wp2_with (go_at_call 29; refine (HI.out _).mono ?_; rintro e w' ⟨rfl, rfl⟩; refine Hid.out ?_)
    refine Lib.hid ?_
    go_wp2_with (go_at_call 38; refine (HE.out _).mono ?_; rintro e w3 ⟨rfl, b⟩; have B3 := Lib.hid (BX.call B2.out b); clear b)
    go_ret2
    exact ⟨ret_ib (by omega) rfl, B3.out⟩
def PzRel (P : List ByteArray) (m j : Nat) (A i : Value) : Prop := ∃ (k z : Nat), k ≤ m ∧ i = .int .i64 k ∧ A = .int .i64 ((z : Int) + j) ∧ z ≤ 1048577 ∧ Hid (zsum (P.take k) = z)
set_option maxHeartbeats 3200000 in
theorem implPlaceOf_any (s : ByteArray) (t c : Int) (w : World) (hM : Hid (MaxL w)) (hs : s.size ≤ 1048576) : Calls Tryd.prog 18 #[.string s, .int .i64 t, .int .i64 c] w (SaysT2 w (.int .i64 (resPl s t c)) (.bool (okPl s t c))) := by
  have HT := Lib.hid (implLineText_any s t w hM hs)
  cases hok : okLt s t
  · have ho : okPl s t c = false := by unfold okPl; rw [hok]; rfl
    rw [pl_no ho, ho]
    rw [hok, lt_no hok] at HT
    clear ho hok
    go_enter Tryd.func18, Tryd.ntmps18
    go_wp2_with (go_at_call 20; refine (HT.out).mono ?_; rintro e w1 ⟨rfl, b⟩; have B1 := Lib.hid b; clear b)
    go_ret2
    exact ⟨rfl, B1.out⟩
  obtain ⟨hl, m, rfl, hm'⟩ := lt_parts hok
  have hp := pieces_of 10 s hs
  have hqs := pc_rng hp m hm'
  have hz := zs_rng hp m
  have hlen := hp.len
  have hrl := lt_yes hok
  have HI := Lib.hid (fun w => isIn_any c 1 ((resLt s ((m : Int) + 1)).size + 1 : Int) w)
  rw [hok] at HT
  clear hl
  cases hi : inB c 1 ((resLt s ((m : Int) + 1)).size + 1 : Int)
  · have ho : okPl s ((m : Int) + 1) c = false := by unfold okPl; rw [hok, hi]; rfl
    rw [pl_no ho, ho]
    rw [hi] at HI
    rw [hrl] at HI HT
    clear ho hi hok hrl
    generalize (scB 10 s).getD m ⟨#[]⟩ = q at HI HT hqs
    go_enter Tryd.func18, Tryd.ntmps18
    go_wp2_with (go_at_call 20; refine (HT.out).mono ?_; rintro e w1 ⟨rfl, b⟩; have B1 := Lib.hid b; clear b)
    go_wp2_with (go_at_call 31; refine (HI.out _).mono ?_; rintro e w' ⟨rfl, rfl⟩)
    go_ret2
    exact ⟨rfl, B1.out⟩
  · have ho : okPl s ((m : Int) + 1) c = true := by unfold okPl; rw [hok, hi]; rfl
    obtain ⟨j, rfl, hj⟩ := in_one hi
    have HS := Lib.hid (fun w h => linesOf_any s w (Lib.hid (show MaxL w from h)) hs)
    rw [pl_yes ho, ho]
    rw [hi] at HI
    rw [hrl] at HI HT hj
    clear ho hi hok hrl
    generalize scB 10 s = P at HS HI HT hm' hqs hz hlen hp hj ⊢
    obtain ⟨N, hN⟩ : ∃ N, P.length = N := ⟨_, rfl⟩
    unfold SaysL at HS
    rw [hN] at HS hm' hlen
    have HN := Lib.hid hN
    have HP := Lib.hid hp
    obtain ⟨Z, hZ⟩ : ∃ Z, zsum (P.take m) = Z := ⟨_, rfl⟩
    have HZ := Lib.hid hZ
    rw [hZ]
    generalize P.getD m ⟨#[]⟩ = q at HI HT hqs hj
    have H0 : Hid (zsum (P.take 0) = 0) := Lib.hid (by rw [List.take_zero]; rfl)
    have dcap : (m : Int) ≤ (N : Int) := by omega
    have hcap : m ≤ N := by omega
    clear hN hp hZ hz
    go_enter Tryd.func18, Tryd.ntmps18
    go_wp2_with (go_at_call 20; refine (HT.out).mono ?_; rintro e w1 ⟨rfl, b⟩; have B1 := Lib.hid b; have M1 := Lib.hid (hM.out.below b); clear b)
    go_wp2_with (go_at_call 31; refine (HI.out _).mono ?_; rintro e w' ⟨rfl, rfl⟩)
    go_wp2_with (go_at_call 37; refine (HS.out _ M1.out).mono ?_; rintro e w2 ⟨rfl, T, l, b⟩; have B2 := Lib.hid (BX.call B1.out b); have HT2 := Lib.hid T; clear T l b)
    go_loop [10, 37] (fun A i => PzRel P m j A i) (fun _ i => m - (intOf i).toNat)
    case atStart => exact ⟨0, 0, Nat.zero_le _, rfl, by first | rfl | (congr 1; omega) | (simp; omega) | simp, Nat.zero_le _, H0⟩
    case round =>
      obtain ⟨k, z, hk, rfl, rfl, hz, HA⟩ := hrel
      by_cases hlt : k < m
      · have hkP : k < P.length := by rw [HN.out]; omega
        have hcl := HT2.out k hkP
        have hq := pc_rng HP.out k hkP
        have HMM := Lib.hid (zsum_more P k hkP)
        have hr := zs_rng HP.out (k + 1)
        rw [HMM.out, HA.out] at hr
        have HM2 : Hid (zsum (P.take (k + 1)) = z + ((P.getD k ⟨#[]⟩).size + 1)) := Lib.hid (by rw [HMM.out, HA.out])
        generalize P.getD k ⟨#[]⟩ = r at hcl hq hr HM2
        clear hkP HMM
        go_wp2
        go_round
        case rel => exact ⟨k + 1, z + (r.size + 1), by omega, by go_num, by go_num, by omega, HM2⟩
        case measure => simp [intOf]; omega
      · have e : k = m := by omega
        subst e
        have E : Hid (z = Z) := Lib.hid (HA.out.symm.trans HZ.out)
        clear hlt
        go_wp2
        go_ret2
        exact ⟨ret_ib (by have := E.out; omega) rfl, B2.out⟩
end Go.Proofs.YtdfkehgkonadhaaDoor
