/- Decimal texts read: contracts of ReadNumber, ReadAny and CompareTexts, programs and models. -/
import Derived.Test.YteogadbjnmcblaaDoorNur
import Derived.Test.YteogadbjnmcblaaDoorRdh
namespace Go.Proofs.YteogadbjnmcblaaDoor
set_option maxRecDepth 100000
open Go.RowKit

set_option maxHeartbeats 1600000 in
theorem implReadNumber_m (s : ByteArray) (w : World) (hD : Hid (Dig w)) (hU : Hid (Units w)) (hs : s.size ≤ 1048576) (h : Hid (Lib.hasSuffix s.data.toList [109] = true)) :
    Calls Tryd.prog 18 #[.string s] w (SaysRd w (rnr s.data.toList)) := by
  obtain ⟨u, hu⟩ : ∃ u : ByteArray, (⟨(Lib.trimSuffix s.data.toList [109]).toArray⟩ : ByteArray) = u := ⟨_, rfl⟩
  have hul : u.data.toList = initL s.data.toList := by rw [← hu, trim_yes h.out]
  have hus : u.size ≤ 1048576 := by rw [size_data, hul]; unfold initL; rw [List.length_take, ← size_data]; omega
  have HS := Lib.hid (fun w hU => splitUnit_m s u w hU hs h hu)
  have HR := Lib.hid (fun w hD => readDigits_dec u 1000 w hD hus (by omega) (by omega))
  rw [hul] at HR
  rw [rnr_m h.out]
  obtain ⟨o, ho⟩ : ∃ o, rdT 10 1000 (initL s.data.toList) = o := ⟨_, rfl⟩
  have h3 := opt_three o (fun v q => rdT_nonneg 10 1000 (by omega) _ v (ho.trans q))
  have HL : Hid (∀ v, o = Option.some v → v ≤ 1000) := Lib.hid (fun v q => rdT_le 10 1000 (by omega) _ v (ho.trans q))
  rw [ho] at HR ⊢
  clear ho hu hul hus
  rcases h3 with (rfl | rfl) | ⟨v, rfl, hv⟩
  · go_enter Tryd.func18, Tryd.ntmps18
    go_wp2_with (go_at_call 29; refine (HS.out _ hU).mono ?_; rintro e w1 ⟨rfl, b1⟩; have B1 := Lib.hid b1; have D1 := Lib.hid (hD.out.below b1); clear b1)
    go_wp2_with (go_at_call 30; refine (HR.out _ D1).mono ?_; rw [show SaysRd w1 none = SaysPair w1 0 false from rfl]; rintro e w2 ⟨rfl, b2⟩; have B2 := Lib.hid b2; clear b2)
    go_ret2
    exact ⟨rfl, B1.out.trans (B2.out.mono B1.out.size)⟩
  · go_enter Tryd.func18, Tryd.ntmps18
    go_wp2_with (go_at_call 29; refine (HS.out _ hU).mono ?_; rintro e w1 ⟨rfl, b1⟩; have B1 := Lib.hid b1; have D1 := Lib.hid (hD.out.below b1); clear b1)
    go_wp2_with (go_at_call 30; refine (HR.out _ D1).mono ?_; rw [show SaysRd w1 (Option.some 0) = SaysPair w1 0 true from rfl]; rintro e w2 ⟨rfl, b2⟩; have B2 := Lib.hid b2; clear b2)
    go_ret2
    exact ⟨rfl, B1.out.trans (B2.out.mono B1.out.size)⟩
  · have hv1 := HL.out v rfl
    have d0 : (v == 0) = false := by simp; omega
    rw [unitN_some 1000000 hv]
    go_enter Tryd.func18, Tryd.ntmps18
    go_wp2_with (go_at_call 29; refine (HS.out _ hU).mono ?_; rintro e w1 ⟨rfl, b1⟩; have B1 := Lib.hid b1; have D1 := Lib.hid (hD.out.below b1); clear b1)
    go_wp2_with (go_at_call 30; refine (HR.out _ D1).mono ?_; rw [show SaysRd w1 (Option.some v) = SaysPair w1 v true from rfl]; rintro e w2 ⟨rfl, b2⟩; have B2 := Lib.hid b2; clear b2)
    go_ret2
    exact ⟨rfl, B1.out.trans (B2.out.mono B1.out.size)⟩
set_option maxHeartbeats 1600000 in
theorem implReadNumber_k (s : ByteArray) (w : World) (hD : Hid (Dig w)) (hU : Hid (Units w)) (hs : s.size ≤ 1048576) (h : Hid (Lib.hasSuffix s.data.toList [109] = false)) (h2 : Hid (Lib.hasSuffix s.data.toList [107] = true)) :
    Calls Tryd.prog 18 #[.string s] w (SaysRd w (rnr s.data.toList)) := by
  obtain ⟨u, hu⟩ : ∃ u : ByteArray, (⟨(Lib.trimSuffix s.data.toList [107]).toArray⟩ : ByteArray) = u := ⟨_, rfl⟩
  have hul : u.data.toList = initL s.data.toList := by rw [← hu, trim_yes h2.out]
  have hus : u.size ≤ 1048576 := by rw [size_data, hul]; unfold initL; rw [List.length_take, ← size_data]; omega
  have HS := Lib.hid (fun w hU => splitUnit_k s u w hU hs h h2 hu)
  have HR := Lib.hid (fun w hD => readDigits_dec u 1000000 w hD hus (by omega) (by omega))
  rw [hul] at HR
  rw [rnr_k h.out h2.out]
  obtain ⟨o, ho⟩ : ∃ o, rdT 10 1000000 (initL s.data.toList) = o := ⟨_, rfl⟩
  have h3 := opt_three o (fun v q => rdT_nonneg 10 1000000 (by omega) _ v (ho.trans q))
  have HL : Hid (∀ v, o = Option.some v → v ≤ 1000000) := Lib.hid (fun v q => rdT_le 10 1000000 (by omega) _ v (ho.trans q))
  rw [ho] at HR ⊢
  clear ho hu hul hus
  rcases h3 with (rfl | rfl) | ⟨v, rfl, hv⟩
  · go_enter Tryd.func18, Tryd.ntmps18
    go_wp2_with (go_at_call 29; refine (HS.out _ hU).mono ?_; rintro e w1 ⟨rfl, b1⟩; have B1 := Lib.hid b1; have D1 := Lib.hid (hD.out.below b1); clear b1)
    go_wp2_with (go_at_call 30; refine (HR.out _ D1).mono ?_; rw [show SaysRd w1 none = SaysPair w1 0 false from rfl]; rintro e w2 ⟨rfl, b2⟩; have B2 := Lib.hid b2; clear b2)
    go_ret2
    exact ⟨rfl, B1.out.trans (B2.out.mono B1.out.size)⟩
  · go_enter Tryd.func18, Tryd.ntmps18
    go_wp2_with (go_at_call 29; refine (HS.out _ hU).mono ?_; rintro e w1 ⟨rfl, b1⟩; have B1 := Lib.hid b1; have D1 := Lib.hid (hD.out.below b1); clear b1)
    go_wp2_with (go_at_call 30; refine (HR.out _ D1).mono ?_; rw [show SaysRd w1 (Option.some 0) = SaysPair w1 0 true from rfl]; rintro e w2 ⟨rfl, b2⟩; have B2 := Lib.hid b2; clear b2)
    go_ret2
    exact ⟨rfl, B1.out.trans (B2.out.mono B1.out.size)⟩
  · have hv1 := HL.out v rfl
    have d0 : (v == 0) = false := by simp; omega
    rw [unitN_some 1000 hv]
    go_enter Tryd.func18, Tryd.ntmps18
    go_wp2_with (go_at_call 29; refine (HS.out _ hU).mono ?_; rintro e w1 ⟨rfl, b1⟩; have B1 := Lib.hid b1; have D1 := Lib.hid (hD.out.below b1); clear b1)
    go_wp2_with (go_at_call 30; refine (HR.out _ D1).mono ?_; rw [show SaysRd w1 (Option.some v) = SaysPair w1 v true from rfl]; rintro e w2 ⟨rfl, b2⟩; have B2 := Lib.hid b2; clear b2)
    go_ret2
    exact ⟨rfl, B1.out.trans (B2.out.mono B1.out.size)⟩
set_option maxHeartbeats 1600000 in
theorem implReadNumber_n (s : ByteArray) (w : World) (hD : Hid (Dig w)) (hU : Hid (Units w)) (hs : s.size ≤ 1048576) (h : Hid (Lib.hasSuffix s.data.toList [109] = false)) (h2 : Hid (Lib.hasSuffix s.data.toList [107] = false)) :
    Calls Tryd.prog 18 #[.string s] w (SaysRd w (rnr s.data.toList)) := by
  have HS := Lib.hid (fun w hU => splitUnit_n s w hU hs h h2)
  have HR := Lib.hid (fun w hD => readDigits_dec s 1000000000 w hD hs (by omega) (by omega))
  rw [rnr_n h.out h2.out]
  obtain ⟨o, ho⟩ : ∃ o, rdT 10 1000000000 s.data.toList = o := ⟨_, rfl⟩
  have h3 := opt_three o (fun v q => rdT_nonneg 10 1000000000 (by omega) _ v (ho.trans q))
  have HL : Hid (∀ v, o = Option.some v → v ≤ 1000000000) := Lib.hid (fun v q => rdT_le 10 1000000000 (by omega) _ v (ho.trans q))
  rw [ho] at HR ⊢
  clear ho
  rcases h3 with (rfl | rfl) | ⟨v, rfl, hv⟩
  · go_enter Tryd.func18, Tryd.ntmps18
    go_wp2_with (go_at_call 29; refine (HS.out _ hU).mono ?_; rintro e w1 ⟨rfl, b1⟩; have B1 := Lib.hid b1; have D1 := Lib.hid (hD.out.below b1); clear b1)
    go_wp2_with (go_at_call 30; refine (HR.out _ D1).mono ?_; rw [show SaysRd w1 none = SaysPair w1 0 false from rfl]; rintro e w2 ⟨rfl, b2⟩; have B2 := Lib.hid b2; clear b2)
    go_ret2
    exact ⟨rfl, B1.out.trans (B2.out.mono B1.out.size)⟩
  · go_enter Tryd.func18, Tryd.ntmps18
    go_wp2_with (go_at_call 29; refine (HS.out _ hU).mono ?_; rintro e w1 ⟨rfl, b1⟩; have B1 := Lib.hid b1; have D1 := Lib.hid (hD.out.below b1); clear b1)
    go_wp2_with (go_at_call 30; refine (HR.out _ D1).mono ?_; rw [show SaysRd w1 (Option.some 0) = SaysPair w1 0 true from rfl]; rintro e w2 ⟨rfl, b2⟩; have B2 := Lib.hid b2; clear b2)
    go_ret2
    exact ⟨rfl, B1.out.trans (B2.out.mono B1.out.size)⟩
  · have hv1 := HL.out v rfl
    have d0 : (v == 0) = false := by simp; omega
    go_enter Tryd.func18, Tryd.ntmps18
    go_wp2_with (go_at_call 29; refine (HS.out _ hU).mono ?_; rintro e w1 ⟨rfl, b1⟩; have B1 := Lib.hid b1; have D1 := Lib.hid (hD.out.below b1); clear b1)
    go_wp2_with (go_at_call 30; refine (HR.out _ D1).mono ?_; rw [show SaysRd w1 (Option.some v) = SaysPair w1 v true from rfl]; rintro e w2 ⟨rfl, b2⟩; have B2 := Lib.hid b2; clear b2)
    go_ret2
    exact ⟨rfl, B1.out.trans (B2.out.mono B1.out.size)⟩
theorem implReadNumber_any (s : ByteArray) (w : World) (hD : Hid (Dig w)) (hU : Hid (Units w)) (hs : s.size ≤ 1048576) :
    Calls Tryd.prog 18 #[.string s] w (SaysRd w (rnr s.data.toList)) := by
  rcases Bool.eq_false_or_eq_true (Lib.hasSuffix s.data.toList [109]) with h | h
  · exact implReadNumber_m s w hD hU hs h
  · rcases Bool.eq_false_or_eq_true (Lib.hasSuffix s.data.toList [107]) with h2 | h2
    · exact implReadNumber_k s w hD hU hs h h2
    · exact implReadNumber_n s w hD hU hs h h2
end Go.Proofs.YteogadbjnmcblaaDoor
