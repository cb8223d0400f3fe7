/- Decimal texts read: contracts of ReadNumber, ReadAny and CompareTexts, programs and models. Decimal texts and texts of any kind: contracts of ReadNumber and ReadAny of the model, and of ReadAny of the program. -/
import Derived.Test.YtdmcgjohpnojkaaDoorNur
import Derived.Test.YtdmcgjohpnojkaaDoorRdh
import Derived.Test.YtdmcgjohpnojkaaDoorNrd
namespace Go.Proofs.YtdmcgjohpnojkaaDoor
set_option maxRecDepth 100000
open Go.RowKit

set_option maxHeartbeats 1600000 in
theorem implReadNumber_m (s : ByteArray) (w : World) (hD : Hid (Dig w)) (hU : Hid (Units w)) (hs : s.size ≤ 1048576) (h : Hid (Lib.hasSuffix s.data.toList [109] = true)) :
    Calls Tryd.prog 111 #[.string s] w (SaysRd w (rnr s.data.toList)) := by
  obtain ⟨u, hu⟩ : ∃ u : ByteArray, (⟨(Lib.trimSuffix s.data.toList [109]).toArray⟩ : ByteArray) = u := ⟨_, rfl⟩
  have hul : u.data.toList = initL s.data.toList := by rw [← hu, trim_yes h.out]
  have hus : u.size ≤ 1048576 := by rw [size_data, hul]; unfold initL; rw [List.length_take, ← size_data]; omega
  have HS := Lib.hid (fun w hU => splitUnit_m s u w hU hs h hu)
  have HR := Lib.hid (fun w hD => readDigits_dec u 1000 w hD hus (by omega) (by omega))
  rw [hul] at HR
  rw [rnr_m h.out]
  obtain ⟨o, ho⟩ : ∃ o, rdT 10 1000 (initL s.data.toList) = o := ⟨_, rfl⟩
  have h3 := opt_three o (fun v q => rdT_nonneg 10 1000 (by omega) _ v (ho.trans q))
  have HL : Hid (∀ v, o = Option.some v → v ≤ 1000) := Lib.hid (fun v q => rdT_le 10 1000 (by omega) _ v (ho.trans q))
  rw [ho] at HR ⊢
  clear ho hu hul hus
  rcases h3 with (rfl | rfl) | ⟨v, rfl, hv⟩
  · go_enter Tryd.func111, Tryd.ntmps111
    go_wp2_with (go_at_call 135; refine (HS.out _ hU).mono ?_; rintro e w1 ⟨rfl, b1⟩; have B1 := Lib.hid b1; have D1 := Lib.hid (hD.out.below b1); clear b1)
    go_wp2_with (go_at_call 134; refine (HR.out _ D1).mono ?_; rw [show SaysRd w1 none = SaysPair w1 0 false from rfl]; rintro e w2 ⟨rfl, b2⟩; have B2 := Lib.hid b2; clear b2)
    go_ret2
    exact ⟨rfl, B1.out.trans (B2.out.mono B1.out.size)⟩
  · go_enter Tryd.func111, Tryd.ntmps111
    go_wp2_with (go_at_call 135; refine (HS.out _ hU).mono ?_; rintro e w1 ⟨rfl, b1⟩; have B1 := Lib.hid b1; have D1 := Lib.hid (hD.out.below b1); clear b1)
    go_wp2_with (go_at_call 134; refine (HR.out _ D1).mono ?_; rw [show SaysRd w1 (Option.some 0) = SaysPair w1 0 true from rfl]; rintro e w2 ⟨rfl, b2⟩; have B2 := Lib.hid b2; clear b2)
    go_ret2
    exact ⟨rfl, B1.out.trans (B2.out.mono B1.out.size)⟩
  · have hv1 := HL.out v rfl
    have d0 : (v == 0) = false := by simp; omega
    rw [unitN_some 1000000 hv]
    go_enter Tryd.func111, Tryd.ntmps111
    go_wp2_with (go_at_call 135; refine (HS.out _ hU).mono ?_; rintro e w1 ⟨rfl, b1⟩; have B1 := Lib.hid b1; have D1 := Lib.hid (hD.out.below b1); clear b1)
    go_wp2_with (go_at_call 134; refine (HR.out _ D1).mono ?_; rw [show SaysRd w1 (Option.some v) = SaysPair w1 v true from rfl]; rintro e w2 ⟨rfl, b2⟩; have B2 := Lib.hid b2; clear b2)
    go_ret2
    exact ⟨rfl, B1.out.trans (B2.out.mono B1.out.size)⟩
set_option maxHeartbeats 1600000 in
theorem implReadNumber_k (s : ByteArray) (w : World) (hD : Hid (Dig w)) (hU : Hid (Units w)) (hs : s.size ≤ 1048576) (h : Hid (Lib.hasSuffix s.data.toList [109] = false)) (h2 : Hid (Lib.hasSuffix s.data.toList [107] = true)) :
    Calls Tryd.prog 111 #[.string s] w (SaysRd w (rnr s.data.toList)) := by
  obtain ⟨u, hu⟩ : ∃ u : ByteArray, (⟨(Lib.trimSuffix s.data.toList [107]).toArray⟩ : ByteArray) = u := ⟨_, rfl⟩
  have hul : u.data.toList = initL s.data.toList := by rw [← hu, trim_yes h2.out]
  have hus : u.size ≤ 1048576 := by rw [size_data, hul]; unfold initL; rw [List.length_take, ← size_data]; omega
  have HS := Lib.hid (fun w hU => splitUnit_k s u w hU hs h h2 hu)
  have HR := Lib.hid (fun w hD => readDigits_dec u 1000000 w hD hus (by omega) (by omega))
  rw [hul] at HR
  rw [rnr_k h.out h2.out]
  obtain ⟨o, ho⟩ : ∃ o, rdT 10 1000000 (initL s.data.toList) = o := ⟨_, rfl⟩
  have h3 := opt_three o (fun v q => rdT_nonneg 10 1000000 (by omega) _ v (ho.trans q))
  have HL : Hid (∀ v, o = Option.some v → v ≤ 1000000) := Lib.hid (fun v q => rdT_le 10 1000000 (by omega) _ v (ho.trans q))
  rw [ho] at HR ⊢
  clear ho hu hul hus
  rcases h3 with (rfl | rfl) | ⟨v, rfl, hv⟩
  · go_enter Tryd.func111, Tryd.ntmps111
    go_wp2_with (go_at_call 135; refine (HS.out _ hU).mono ?_; rintro e w1 ⟨rfl, b1⟩; have B1 := Lib.hid b1; have D1 := Lib.hid (hD.out.below b1); clear b1)
    go_wp2_with (go_at_call 134; refine (HR.out _ D1).mono ?_; rw [show SaysRd w1 none = SaysPair w1 0 false from rfl]; rintro e w2 ⟨rfl, b2⟩; have B2 := Lib.hid b2; clear b2)
    go_ret2
    exact ⟨rfl, B1.out.trans (B2.out.mono B1.out.size)⟩
  · go_enter Tryd.func111, Tryd.ntmps111
    go_wp2_with (go_at_call 135; refine (HS.out _ hU).mono ?_; rintro e w1 ⟨rfl, b1⟩; have B1 := Lib.hid b1; have D1 := Lib.hid (hD.out.below b1); clear b1)
    go_wp2_with (go_at_call 134; refine (HR.out _ D1).mono ?_; rw [show SaysRd w1 (Option.some 0) = SaysPair w1 0 true from rfl]; rintro e w2 ⟨rfl, b2⟩; have B2 := Lib.hid b2; clear b2)
    go_ret2
    exact ⟨rfl, B1.out.trans (B2.out.mono B1.out.size)⟩
  · have hv1 := HL.out v rfl
    have d0 : (v == 0) = false := by simp; omega
    rw [unitN_some 1000 hv]
    go_enter Tryd.func111, Tryd.ntmps111
    go_wp2_with (go_at_call 135; refine (HS.out _ hU).mono ?_; rintro e w1 ⟨rfl, b1⟩; have B1 := Lib.hid b1; have D1 := Lib.hid (hD.out.below b1); clear b1)
    go_wp2_with (go_at_call 134; refine (HR.out _ D1).mono ?_; rw [show SaysRd w1 (Option.some v) = SaysPair w1 v true from rfl]; rintro e w2 ⟨rfl, b2⟩; have B2 := Lib.hid b2; clear b2)
    go_ret2
    exact ⟨rfl, B1.out.trans (B2.out.mono B1.out.size)⟩
set_option maxHeartbeats 1600000 in
theorem implReadNumber_n (s : ByteArray) (w : World) (hD : Hid (Dig w)) (hU : Hid (Units w)) (hs : s.size ≤ 1048576) (h : Hid (Lib.hasSuffix s.data.toList [109] = false)) (h2 : Hid (Lib.hasSuffix s.data.toList [107] = false)) :
    Calls Tryd.prog 111 #[.string s] w (SaysRd w (rnr s.data.toList)) := by
  have HS := Lib.hid (fun w hU => splitUnit_n s w hU hs h h2)
  have HR := Lib.hid (fun w hD => readDigits_dec s 1000000000 w hD hs (by omega) (by omega))
  rw [rnr_n h.out h2.out]
  obtain ⟨o, ho⟩ : ∃ o, rdT 10 1000000000 s.data.toList = o := ⟨_, rfl⟩
  have h3 := opt_three o (fun v q => rdT_nonneg 10 1000000000 (by omega) _ v (ho.trans q))
  have HL : Hid (∀ v, o = Option.some v → v ≤ 1000000000) := Lib.hid (fun v q => rdT_le 10 1000000000 (by omega) _ v (ho.trans q))
  rw [ho] at HR ⊢
  clear ho
  rcases h3 with (rfl | rfl) | ⟨v, rfl, hv⟩
  · go_enter Tryd.func111, Tryd.ntmps111
    go_wp2_with (go_at_call 135; refine (HS.out _ hU).mono ?_; rintro e w1 ⟨rfl, b1⟩; have B1 := Lib.hid b1; have D1 := Lib.hid (hD.out.below b1); clear b1)
    go_wp2_with (go_at_call 134; refine (HR.out _ D1).mono ?_; rw [show SaysRd w1 none = SaysPair w1 0 false from rfl]; rintro e w2 ⟨rfl, b2⟩; have B2 := Lib.hid b2; clear b2)
    go_ret2
    exact ⟨rfl, B1.out.trans (B2.out.mono B1.out.size)⟩
  · go_enter Tryd.func111, Tryd.ntmps111
    go_wp2_with (go_at_call 135; refine (HS.out _ hU).mono ?_; rintro e w1 ⟨rfl, b1⟩; have B1 := Lib.hid b1; have D1 := Lib.hid (hD.out.below b1); clear b1)
    go_wp2_with (go_at_call 134; refine (HR.out _ D1).mono ?_; rw [show SaysRd w1 (Option.some 0) = SaysPair w1 0 true from rfl]; rintro e w2 ⟨rfl, b2⟩; have B2 := Lib.hid b2; clear b2)
    go_ret2
    exact ⟨rfl, B1.out.trans (B2.out.mono B1.out.size)⟩
  · have hv1 := HL.out v rfl
    have d0 : (v == 0) = false := by simp; omega
    go_enter Tryd.func111, Tryd.ntmps111
    go_wp2_with (go_at_call 135; refine (HS.out _ hU).mono ?_; rintro e w1 ⟨rfl, b1⟩; have B1 := Lib.hid b1; have D1 := Lib.hid (hD.out.below b1); clear b1)
    go_wp2_with (go_at_call 134; refine (HR.out _ D1).mono ?_; rw [show SaysRd w1 (Option.some v) = SaysPair w1 v true from rfl]; rintro e w2 ⟨rfl, b2⟩; have B2 := Lib.hid b2; clear b2)
    go_ret2
    exact ⟨rfl, B1.out.trans (B2.out.mono B1.out.size)⟩
theorem implReadNumber_any (s : ByteArray) (w : World) (hD : Hid (Dig w)) (hU : Hid (Units w)) (hs : s.size ≤ 1048576) :
    Calls Tryd.prog 111 #[.string s] w (SaysRd w (rnr s.data.toList)) := by
  rcases Bool.eq_false_or_eq_true (Lib.hasSuffix s.data.toList [109]) with h | h
  · exact implReadNumber_m s w hD hU hs h
  · rcases Bool.eq_false_or_eq_true (Lib.hasSuffix s.data.toList [107]) with h2 | h2
    · exact implReadNumber_k s w hD hU hs h h2
    · exact implReadNumber_n s w hD hU hs h h2
end Go.Proofs.YtdmcgjohpnojkaaDoor

namespace Go.Proofs.YtdmcgjohpnojkaaDoor
open Go.RowKit

theorem unitN_range {o : Option Int} {f lim v : Int} (hf : 0 ≤ f) (hl : lim * f ≤ 1000000000) (h : ∀ v, o = Option.some v → 0 ≤ v) (h2 : ∀ v, o = Option.some v → v ≤ lim) (e : unitN o f = Option.some v) : 0 ≤ v ∧ v ≤ 1000000000 := by
  rcases opt_three o h with (rfl | rfl) | ⟨u, rfl, hu⟩
  · rw [unitN_none] at e; cases e
  · rw [unitN_zero] at e; cases e
  · rw [unitN_some f hu] at e
    obtain rfl := Option.some.inj e
    have g1 := h2 u rfl
    exact ⟨Int.mul_nonneg (by omega) hf, Int.le_trans (Int.mul_le_mul_of_nonneg_right g1 hf) hl⟩
theorem rnr_range (l : List UInt8) (v : Int) (h : rnr l = Option.some v) : 0 ≤ v ∧ v ≤ 1000000000 := by
  unfold rnr at h
  split at h
  · exact unitN_range (lim := 1000) (by omega) (by omega) (fun v q => rdT_nonneg 10 1000 (by omega) _ v q) (fun v q => rdT_le 10 1000 (by omega) _ v q) h
  · split at h
    · exact unitN_range (lim := 1000000) (by omega) (by omega) (fun v q => rdT_nonneg 10 1000000 (by omega) _ v q) (fun v q => rdT_le 10 1000000 (by omega) _ v q) h
    · exact ⟨rdT_nonneg 10 1000000000 (by omega) _ v h, rdT_le 10 1000000000 (by omega) _ v h⟩
/-- the value of a text of any kind -/
def ray (l : List UInt8) : Option Int := if Lib.hasPrefix l [48, 120] = true then rhx l else rnr l
theorem ray_hex {l : List UInt8} (h : Lib.hasPrefix l [48, 120] = true) : ray l = rhx l := by unfold ray; rw [if_pos h]
theorem ray_dec {l : List UInt8} (h : Lib.hasPrefix l [48, 120] = false) : ray l = rnr l := by unfold ray; rw [if_neg (by simp [h])]
theorem implReadAny_any (s : ByteArray) (w : World) (hD : Hid (Dig w)) (hU : Hid (Units w)) (hs : s.size ≤ 1048576) :
    Calls Tryd.prog 73 #[.string s] w (SaysRd w (ray s.data.toList)) := by
  rcases Bool.eq_false_or_eq_true (Lib.hasPrefix s.data.toList [48, 120]) with hp | hp
  · have HP := Lib.hid hp
    have HH := Lib.hid (fun w hD => implReadHex_any s w hD hs)
    rw [ray_hex hp]
    obtain ⟨o, ho⟩ : ∃ o, rhx s.data.toList = o := ⟨_, rfl⟩
    rw [ho] at HH ⊢
    clear hp ho
    go_enter Tryd.func73, Tryd.ntmps73
    go_wp2_with (first | (go_at_call 77; refine (Tryd.strings_HasPrefix s _ _).mono ?_; rw [show (ByteArray.mk #[48, 120]).data.toList = [48, 120] from rfl, HP.out]; rintro e w' ⟨rfl, rfl⟩) | (go_at_call 110; refine (HH.out _ hD).mono ?_; rintro e w1 ⟨rfl, b1⟩; have B1 := Lib.hid b1; clear b1))
    go_ret2
    exact ⟨rfl, B1.out⟩
  · have HP := Lib.hid hp
    have HN := Lib.hid (fun w hD hU => implReadNumber_any s w hD hU hs)
    rw [ray_dec hp]
    obtain ⟨o, ho⟩ : ∃ o, rnr s.data.toList = o := ⟨_, rfl⟩
    rw [ho] at HN ⊢
    clear hp ho
    go_enter Tryd.func73, Tryd.ntmps73
    go_wp2_with (first | (go_at_call 77; refine (Tryd.strings_HasPrefix s _ _).mono ?_; rw [show (ByteArray.mk #[48, 120]).data.toList = [48, 120] from rfl, HP.out]; rintro e w' ⟨rfl, rfl⟩) | (go_at_call 111; refine (HN.out _ hD hU).mono ?_; rintro e w1 ⟨rfl, b1⟩; have B1 := Lib.hid b1; clear b1))
    go_ret2
    exact ⟨rfl, B1.out⟩
theorem nuAny_any (s : ByteArray) (w : World) (hs : s.size ≤ 1048576) :
    Calls Tryd.prog 137 #[.string s] w (SaysSz w (optM (ray s.data.toList))) := by
  have HI := Lib.hid (fun w => nuIsHex_any s w)
  rcases Bool.eq_false_or_eq_true (Lib.hasPrefix s.data.toList [48, 120]) with hp | hp
  · have HH := Lib.hid (fun w => nuReadHex_any s w hs)
    rw [ray_hex hp]
    rw [hp] at HI
    obtain ⟨o, ho⟩ : ∃ o, optM (rhx s.data.toList) = o := ⟨_, rfl⟩
    rw [ho] at HH ⊢
    clear hp ho
    go_enter Tryd.func137, Tryd.ntmps137
    go_wp2_with (first | (go_at_call 144; refine (HI.out _).mono ?_; rintro e w' ⟨rfl, rfl⟩) | (go_at_call 145; refine (HH.out _).mono ?_; rintro e w' ⟨rfl, rfl⟩))
    go_ret
    exact ⟨rfl, Below.refl _ _⟩
  · have HN := Lib.hid (fun w => nuRead_any s w hs)
    rw [ray_dec hp]
    rw [hp] at HI
    obtain ⟨o, ho⟩ : ∃ o, optM (rnr s.data.toList) = o := ⟨_, rfl⟩
    rw [ho] at HN ⊢
    clear hp ho
    go_enter Tryd.func137, Tryd.ntmps137
    go_wp2_with (first | (go_at_call 144; refine (HI.out _).mono ?_; rintro e w' ⟨rfl, rfl⟩) | (go_at_call 146; refine (HN.out _).mono ?_; rintro e w1 ⟨rfl, b1⟩; have B1 := Lib.hid b1; clear b1))
    go_ret
    exact ⟨rfl, B1.out⟩
theorem ray_range (l : List UInt8) (v : Int) (h : ray l = Option.some v) : 0 ≤ v ∧ v ≤ 1000000000 := by
  rcases Bool.eq_false_or_eq_true (Lib.hasPrefix l [48, 120]) with hp | hp
  · rw [ray_hex hp, rhx_yes hp] at h
    have h2 := rdT_le 16 65535 (by omega) _ v h
    exact ⟨rdT_nonneg 16 65535 (by omega) _ v h, by omega⟩
  · rw [ray_dec hp] at h
    exact rnr_range l v h
theorem specReadAny_any (s : ByteArray) (w : World) (hs : s.size ≤ 1048576) :
    Calls Tryd.prog 117 #[.string s] w (SaysRd w (ray s.data.toList)) := by
  have HR := Lib.hid (fun w => nuAny_any s w hs)
  obtain ⟨o, ho⟩ : ∃ o, ray s.data.toList = o := ⟨_, rfl⟩
  have hn := opt_ways o (fun v h => (ray_range _ v (ho.trans h)).1)
  rw [ho] at HR ⊢
  clear ho
  rcases hn with rfl | ⟨v, rfl, hv⟩
  · go_enter Tryd.func117, Tryd.ntmps117
    go_wp2_with (go_at_call 137; refine (HR.out _).mono ?_; rw [show optM none = -1 from rfl]; rintro e w1 ⟨rfl, b1⟩; have B1 := Lib.hid b1; clear b1)
    go_ret2
    exact ⟨rfl, B1.out⟩
  · have d := not_lt hv
    go_enter Tryd.func117, Tryd.ntmps117
    go_wp2_with (go_at_call 137; refine (HR.out _).mono ?_; rw [show optM (Option.some v) = v from rfl]; rintro e w1 ⟨rfl, b1⟩; have B1 := Lib.hid b1; clear b1)
    go_ret2
    exact ⟨rfl, B1.out⟩
end Go.Proofs.YtdmcgjohpnojkaaDoor
