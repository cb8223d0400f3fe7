import Derived.Test.YtmmofchfafnkcaaGreatDoorPkd
import Derived.Test.YtmmofchfafnkcaaGreatDoorPka
import Derived.Test.YtmmofchfafnkcaaGreatDoorPkb
import Derived.Laws.RangeAny
import Derived.Laws.Runes
import Derived.LoopTactic
import Derived.WalkMore
import Derived.Deep.RegionWith
import Derived.Laws.Rows
/- Decimal texts read: contracts of ReadNumber, ReadAny and CompareTexts, programs and models. Decimal texts and texts of any kind: contracts of ReadNumber and ReadAny of the model, and of ReadAny of the program. -/
namespace Go.Proofs.YtmmofchfafnkcaaGreatDoor
set_option maxRecDepth 100000
open Go.RowKit

set_option maxHeartbeats 1600000 in
theorem implReadNumber_m (s : ByteArray) (w : World) (hD : Hid (Dig w)) (hU : Hid (Units w)) (hs : s.size ≤ 1048576) (h : Hid (Lib.hasSuffix s.data.toList [109] = true)) :
    Calls Tryz.prog 208 #[.string s] w (SaysRd w (rnr s.data.toList)) := by
  obtain ⟨u, hu⟩ : ∃ u : ByteArray, (⟨(Lib.trimSuffix s.data.toList [109]).toArray⟩ : ByteArray) = u := ⟨_, rfl⟩
  have hul : u.data.toList = initL s.data.toList := by rw [← hu, trim_yes h.out]
  have hus : u.size ≤ 1048576 := by rw [size_data, hul]; unfold initL; rw [List.length_take, ← size_data]; omega
  have HS := Lib.hid (fun w hU => splitUnit_m s u w hU hs h hu)
  have HR := Lib.hid (fun w hD => readDigits_dec u 1000 w hD hus (by omega) (by omega))
  rw [hul] at HR
  rw [rnr_m h.out]
  obtain ⟨o, ho⟩ : ∃ o, rdT 10 1000 (initL s.data.toList) = o := ⟨_, rfl⟩
  have h3 := opt_three o (fun v q => rdT_nonneg 10 1000 (by omega) _ v (ho.trans q))
  have HL : Hid (∀ v, o = Option.some v → v ≤ 1000) := Lib.hid (fun v q => rdT_le 10 1000 (by omega) _ v (ho.trans q))
  rw [ho] at HR ⊢
  clear ho hu hul hus
  rcases h3 with (rfl | rfl) | ⟨v, rfl, hv⟩
  · go_enter Tryz.func208, Tryz.ntmps208
    go_wp2_with (go_at_call 246; refine (HS.out _ hU).mono ?_; rintro e w1 ⟨rfl, b1⟩; have B1 := Lib.hid b1; have D1 := Lib.hid (hD.out.below b1); clear b1)
    go_wp2_with (go_at_call 245; refine (HR.out _ D1).mono ?_; rw [show SaysRd w1 none = SaysPair w1 0 false from rfl]; rintro e w2 ⟨rfl, b2⟩; have B2 := Lib.hid b2; clear b2)
    go_ret2
    exact ⟨rfl, B1.out.trans (B2.out.mono B1.out.size)⟩
  · go_enter Tryz.func208, Tryz.ntmps208
    go_wp2_with (go_at_call 246; refine (HS.out _ hU).mono ?_; rintro e w1 ⟨rfl, b1⟩; have B1 := Lib.hid b1; have D1 := Lib.hid (hD.out.below b1); clear b1)
    go_wp2_with (go_at_call 245; refine (HR.out _ D1).mono ?_; rw [show SaysRd w1 (Option.some 0) = SaysPair w1 0 true from rfl]; rintro e w2 ⟨rfl, b2⟩; have B2 := Lib.hid b2; clear b2)
    go_ret2
    exact ⟨rfl, B1.out.trans (B2.out.mono B1.out.size)⟩
  · have hv1 := HL.out v rfl
    have d0 : (v == 0) = false := by simp; omega
    rw [unitN_some 1000000 hv]
    go_enter Tryz.func208, Tryz.ntmps208
    go_wp2_with (go_at_call 246; refine (HS.out _ hU).mono ?_; rintro e w1 ⟨rfl, b1⟩; have B1 := Lib.hid b1; have D1 := Lib.hid (hD.out.below b1); clear b1)
    go_wp2_with (go_at_call 245; refine (HR.out _ D1).mono ?_; rw [show SaysRd w1 (Option.some v) = SaysPair w1 v true from rfl]; rintro e w2 ⟨rfl, b2⟩; have B2 := Lib.hid b2; clear b2)
    go_ret2
    exact ⟨rfl, B1.out.trans (B2.out.mono B1.out.size)⟩
set_option maxHeartbeats 1600000 in
theorem implReadNumber_k (s : ByteArray) (w : World) (hD : Hid (Dig w)) (hU : Hid (Units w)) (hs : s.size ≤ 1048576) (h : Hid (Lib.hasSuffix s.data.toList [109] = false)) (h2 : Hid (Lib.hasSuffix s.data.toList [107] = true)) :
    Calls Tryz.prog 208 #[.string s] w (SaysRd w (rnr s.data.toList)) := by
  obtain ⟨u, hu⟩ : ∃ u : ByteArray, (⟨(Lib.trimSuffix s.data.toList [107]).toArray⟩ : ByteArray) = u := ⟨_, rfl⟩
  have hul : u.data.toList = initL s.data.toList := by rw [← hu, trim_yes h2.out]
  have hus : u.size ≤ 1048576 := by rw [size_data, hul]; unfold initL; rw [List.length_take, ← size_data]; omega
  have HS := Lib.hid (fun w hU => splitUnit_k s u w hU hs h h2 hu)
  have HR := Lib.hid (fun w hD => readDigits_dec u 1000000 w hD hus (by omega) (by omega))
  rw [hul] at HR
  rw [rnr_k h.out h2.out]
  obtain ⟨o, ho⟩ : ∃ o, rdT 10 1000000 (initL s.data.toList) = o := ⟨_, rfl⟩
  have h3 := opt_three o (fun v q => rdT_nonneg 10 1000000 (by omega) _ v (ho.trans q))
  have HL : Hid (∀ v, o = Option.some v → v ≤ 1000000) := Lib.hid (fun v q => rdT_le 10 1000000 (by omega) _ v (ho.trans q))
  rw [ho] at HR ⊢
  clear ho hu hul hus
  rcases h3 with (rfl | rfl) | ⟨v, rfl, hv⟩
  · go_enter Tryz.func208, Tryz.ntmps208
    go_wp2_with (go_at_call 246; refine (HS.out _ hU).mono ?_; rintro e w1 ⟨rfl, b1⟩; have B1 := Lib.hid b1; have D1 := Lib.hid (hD.out.below b1); clear b1)
    go_wp2_with (go_at_call 245; refine (HR.out _ D1).mono ?_; rw [show SaysRd w1 none = SaysPair w1 0 false from rfl]; rintro e w2 ⟨rfl, b2⟩; have B2 := Lib.hid b2; clear b2)
    go_ret2
    exact ⟨rfl, B1.out.trans (B2.out.mono B1.out.size)⟩
  · go_enter Tryz.func208, Tryz.ntmps208
    go_wp2_with (go_at_call 246; refine (HS.out _ hU).mono ?_; rintro e w1 ⟨rfl, b1⟩; have B1 := Lib.hid b1; have D1 := Lib.hid (hD.out.below b1); clear b1)
    go_wp2_with (go_at_call 245; refine (HR.out _ D1).mono ?_; rw [show SaysRd w1 (Option.some 0) = SaysPair w1 0 true from rfl]; rintro e w2 ⟨rfl, b2⟩; have B2 := Lib.hid b2; clear b2)
    go_ret2
    exact ⟨rfl, B1.out.trans (B2.out.mono B1.out.size)⟩
  · have hv1 := HL.out v rfl
    have d0 : (v == 0) = false := by simp; omega
    rw [unitN_some 1000 hv]
    go_enter Tryz.func208, Tryz.ntmps208
    go_wp2_with (go_at_call 246; refine (HS.out _ hU).mono ?_; rintro e w1 ⟨rfl, b1⟩; have B1 := Lib.hid b1; have D1 := Lib.hid (hD.out.below b1); clear b1)
    go_wp2_with (go_at_call 245; refine (HR.out _ D1).mono ?_; rw [show SaysRd w1 (Option.some v) = SaysPair w1 v true from rfl]; rintro e w2 ⟨rfl, b2⟩; have B2 := Lib.hid b2; clear b2)
    go_ret2
    exact ⟨rfl, B1.out.trans (B2.out.mono B1.out.size)⟩
set_option maxHeartbeats 1600000 in
theorem implReadNumber_n (s : ByteArray) (w : World) (hD : Hid (Dig w)) (hU : Hid (Units w)) (hs : s.size ≤ 1048576) (h : Hid (Lib.hasSuffix s.data.toList [109] = false)) (h2 : Hid (Lib.hasSuffix s.data.toList [107] = false)) :
    Calls Tryz.prog 208 #[.string s] w (SaysRd w (rnr s.data.toList)) := by
  have HS := Lib.hid (fun w hU => splitUnit_n s w hU hs h h2)
  have HR := Lib.hid (fun w hD => readDigits_dec s 1000000000 w hD hs (by omega) (by omega))
  rw [rnr_n h.out h2.out]
  obtain ⟨o, ho⟩ : ∃ o, rdT 10 1000000000 s.data.toList = o := ⟨_, rfl⟩
  have h3 := opt_three o (fun v q => rdT_nonneg 10 1000000000 (by omega) _ v (ho.trans q))
  have HL : Hid (∀ v, o = Option.some v → v ≤ 1000000000) := Lib.hid (fun v q => rdT_le 10 1000000000 (by omega) _ v (ho.trans q))
  rw [ho] at HR ⊢
  clear ho
  rcases h3 with (rfl | rfl) | ⟨v, rfl, hv⟩
  · go_enter Tryz.func208, Tryz.ntmps208
    go_wp2_with (go_at_call 246; refine (HS.out _ hU).mono ?_; rintro e w1 ⟨rfl, b1⟩; have B1 := Lib.hid b1; have D1 := Lib.hid (hD.out.below b1); clear b1)
    go_wp2_with (go_at_call 245; refine (HR.out _ D1).mono ?_; rw [show SaysRd w1 none = SaysPair w1 0 false from rfl]; rintro e w2 ⟨rfl, b2⟩; have B2 := Lib.hid b2; clear b2)
    go_ret2
    exact ⟨rfl, B1.out.trans (B2.out.mono B1.out.size)⟩
  · go_enter Tryz.func208, Tryz.ntmps208
    go_wp2_with (go_at_call 246; refine (HS.out _ hU).mono ?_; rintro e w1 ⟨rfl, b1⟩; have B1 := Lib.hid b1; have D1 := Lib.hid (hD.out.below b1); clear b1)
    go_wp2_with (go_at_call 245; refine (HR.out _ D1).mono ?_; rw [show SaysRd w1 (Option.some 0) = SaysPair w1 0 true from rfl]; rintro e w2 ⟨rfl, b2⟩; have B2 := Lib.hid b2; clear b2)
    go_ret2
    exact ⟨rfl, B1.out.trans (B2.out.mono B1.out.size)⟩
  · have hv1 := HL.out v rfl
    have d0 : (v == 0) = false := by simp; omega
    go_enter Tryz.func208, Tryz.ntmps208
    go_wp2_with (go_at_call 246; refine (HS.out _ hU).mono ?_; rintro e w1 ⟨rfl, b1⟩; have B1 := Lib.hid b1; have D1 := Lib.hid (hD.out.below b1); clear b1)
    go_wp2_with (go_at_call 245; refine (HR.out _ D1).mono ?_; rw [show SaysRd w1 (Option.some v) = SaysPair w1 v true from rfl]; rintro e w2 ⟨rfl, b2⟩; have B2 := Lib.hid b2; clear b2)
    go_ret2
    exact ⟨rfl, B1.out.trans (B2.out.mono B1.out.size)⟩
theorem implReadNumber_any (s : ByteArray) (w : World) (hD : Hid (Dig w)) (hU : Hid (Units w)) (hs : s.size ≤ 1048576) :
    Calls Tryz.prog 208 #[.string s] w (SaysRd w (rnr s.data.toList)) := by
  rcases Bool.eq_false_or_eq_true (Lib.hasSuffix s.data.toList [109]) with h | h
  · exact implReadNumber_m s w hD hU hs h
  · rcases Bool.eq_false_or_eq_true (Lib.hasSuffix s.data.toList [107]) with h2 | h2
    · exact implReadNumber_k s w hD hU hs h h2
    · exact implReadNumber_n s w hD hU hs h h2
end Go.Proofs.YtmmofchfafnkcaaGreatDoor

namespace Go.Proofs.YtmmofchfafnkcaaGreatDoor
open Go.RowKit

theorem unitN_range {o : Option Int} {f lim v : Int} (hf : 0 ≤ f) (hl : lim * f ≤ 1000000000) (h : ∀ v, o = Option.some v → 0 ≤ v) (h2 : ∀ v, o = Option.some v → v ≤ lim) (e : unitN o f = Option.some v) : 0 ≤ v ∧ v ≤ 1000000000 := by
  rcases opt_three o h with (rfl | rfl) | ⟨u, rfl, hu⟩
  · rw [unitN_none] at e; cases e
  · rw [unitN_zero] at e; cases e
  · rw [unitN_some f hu] at e
    obtain rfl := Option.some.inj e
    have g1 := h2 u rfl
    exact ⟨Int.mul_nonneg (by omega) hf, Int.le_trans (Int.mul_le_mul_of_nonneg_right g1 hf) hl⟩
theorem rnr_range (l : List UInt8) (v : Int) (h : rnr l = Option.some v) : 0 ≤ v ∧ v ≤ 1000000000 := by
  unfold rnr at h
  split at h
  · exact unitN_range (lim := 1000) (by omega) (by omega) (fun v q => rdT_nonneg 10 1000 (by omega) _ v q) (fun v q => rdT_le 10 1000 (by omega) _ v q) h
  · split at h
    · exact unitN_range (lim := 1000000) (by omega) (by omega) (fun v q => rdT_nonneg 10 1000000 (by omega) _ v q) (fun v q => rdT_le 10 1000000 (by omega) _ v q) h
    · exact ⟨rdT_nonneg 10 1000000000 (by omega) _ v h, rdT_le 10 1000000000 (by omega) _ v h⟩
/-- the value of a text of any kind -/
def ray (l : List UInt8) : Option Int := if Lib.hasPrefix l [48, 120] = true then rhx l else rnr l
theorem ray_hex {l : List UInt8} (h : Lib.hasPrefix l [48, 120] = true) : ray l = rhx l := by unfold ray; rw [if_pos h]
theorem ray_dec {l : List UInt8} (h : Lib.hasPrefix l [48, 120] = false) : ray l = rnr l := by unfold ray; rw [if_neg (by simp [h])]
theorem implReadAny_any (s : ByteArray) (w : World) (hD : Hid (Dig w)) (hU : Hid (Units w)) (hs : s.size ≤ 1048576) :
    Calls Tryz.prog 151 #[.string s] w (SaysRd w (ray s.data.toList)) := by
  rcases Bool.eq_false_or_eq_true (Lib.hasPrefix s.data.toList [48, 120]) with hp | hp
  · have HP := Lib.hid hp
    have HH := Lib.hid (fun w hD => implReadHex_any s w hD hs)
    rw [ray_hex hp]
    obtain ⟨o, ho⟩ : ∃ o, rhx s.data.toList = o := ⟨_, rfl⟩
    rw [ho] at HH ⊢
    clear hp ho
    go_enter Tryz.func151, Tryz.ntmps151
    go_wp2_with (first | (go_at_call 154; refine (Tryz.strings_HasPrefix s _ _).mono ?_; rw [show (ByteArray.mk #[48, 120]).data.toList = [48, 120] from rfl, HP.out]; rintro e w' ⟨rfl, rfl⟩) | (go_at_call 207; refine (HH.out _ hD).mono ?_; rintro e w1 ⟨rfl, b1⟩; have B1 := Lib.hid b1; clear b1))
    go_ret2
    exact ⟨rfl, B1.out⟩
  · have HP := Lib.hid hp
    have HN := Lib.hid (fun w hD hU => implReadNumber_any s w hD hU hs)
    rw [ray_dec hp]
    obtain ⟨o, ho⟩ : ∃ o, rnr s.data.toList = o := ⟨_, rfl⟩
    rw [ho] at HN ⊢
    clear hp ho
    go_enter Tryz.func151, Tryz.ntmps151
    go_wp2_with (first | (go_at_call 154; refine (Tryz.strings_HasPrefix s _ _).mono ?_; rw [show (ByteArray.mk #[48, 120]).data.toList = [48, 120] from rfl, HP.out]; rintro e w' ⟨rfl, rfl⟩) | (go_at_call 208; refine (HN.out _ hD hU).mono ?_; rintro e w1 ⟨rfl, b1⟩; have B1 := Lib.hid b1; clear b1))
    go_ret2
    exact ⟨rfl, B1.out⟩
theorem nuAny_any (s : ByteArray) (w : World) (hs : s.size ≤ 1048576) :
    Calls Tryz.prog 242 #[.string s] w (SaysSz w (optM (ray s.data.toList))) := by
  have HI := Lib.hid (fun w => nuIsHex_any s w)
  rcases Bool.eq_false_or_eq_true (Lib.hasPrefix s.data.toList [48, 120]) with hp | hp
  · have HH := Lib.hid (fun w => nuReadHex_any s w hs)
    rw [ray_hex hp]
    rw [hp] at HI
    obtain ⟨o, ho⟩ : ∃ o, optM (rhx s.data.toList) = o := ⟨_, rfl⟩
    rw [ho] at HH ⊢
    clear hp ho
    go_enter Tryz.func242, Tryz.ntmps242
    go_wp2_with (first | (go_at_call 258; refine (HI.out _).mono ?_; rintro e w' ⟨rfl, rfl⟩) | (go_at_call 259; refine (HH.out _).mono ?_; rintro e w' ⟨rfl, rfl⟩))
    go_ret
    exact ⟨rfl, Below.refl _ _⟩
  · have HN := Lib.hid (fun w => nuRead_any s w hs)
    rw [ray_dec hp]
    rw [hp] at HI
    obtain ⟨o, ho⟩ : ∃ o, optM (rnr s.data.toList) = o := ⟨_, rfl⟩
    rw [ho] at HN ⊢
    clear hp ho
    go_enter Tryz.func242, Tryz.ntmps242
    go_wp2_with (first | (go_at_call 258; refine (HI.out _).mono ?_; rintro e w' ⟨rfl, rfl⟩) | (go_at_call 260; refine (HN.out _).mono ?_; rintro e w1 ⟨rfl, b1⟩; have B1 := Lib.hid b1; clear b1))
    go_ret
    exact ⟨rfl, B1.out⟩
theorem ray_range (l : List UInt8) (v : Int) (h : ray l = Option.some v) : 0 ≤ v ∧ v ≤ 1000000000 := by
  rcases Bool.eq_false_or_eq_true (Lib.hasPrefix l [48, 120]) with hp | hp
  · rw [ray_hex hp, rhx_yes hp] at h
    have h2 := rdT_le 16 65535 (by omega) _ v h
    exact ⟨rdT_nonneg 16 65535 (by omega) _ v h, by omega⟩
  · rw [ray_dec hp] at h
    exact rnr_range l v h
theorem specReadAny_any (s : ByteArray) (w : World) (hs : s.size ≤ 1048576) :
    Calls Tryz.prog 204 #[.string s] w (SaysRd w (ray s.data.toList)) := by
  have HR := Lib.hid (fun w => nuAny_any s w hs)
  obtain ⟨o, ho⟩ : ∃ o, ray s.data.toList = o := ⟨_, rfl⟩
  have hn := opt_ways o (fun v h => (ray_range _ v (ho.trans h)).1)
  rw [ho] at HR ⊢
  clear ho
  rcases hn with rfl | ⟨v, rfl, hv⟩
  · go_enter Tryz.func204, Tryz.ntmps204
    go_wp2_with (go_at_call 242; refine (HR.out _).mono ?_; rw [show optM none = -1 from rfl]; rintro e w1 ⟨rfl, b1⟩; have B1 := Lib.hid b1; clear b1)
    go_ret2
    exact ⟨rfl, B1.out⟩
  · have d := not_lt hv
    go_enter Tryz.func204, Tryz.ntmps204
    go_wp2_with (go_at_call 242; refine (HR.out _).mono ?_; rw [show optM (Option.some v) = v from rfl]; rintro e w1 ⟨rfl, b1⟩; have B1 := Lib.hid b1; clear b1)
    go_ret2
    exact ⟨rfl, B1.out⟩
end Go.Proofs.YtmmofchfafnkcaaGreatDoor

/- Letters and digits, signs, words and tokens of a list of bytes: plain functions and facts. -/
namespace Go.Proofs.YtmmofchfafnkcaaGreatDoor
set_option maxRecDepth 100000
open Go.RowKit

/-- the first byte, -1 if there is none -/
def tkHd : List UInt8 → Int
  | [] => -1
  | c :: _ => (c.toNat : Int)
/-- what a text is: the kind of its fault (0: none), its kind, its value -/
def tkFa (s : ByteArray) : Int :=
  if tkHd s.data.toList < 0 then 1
  else if digB (tkHd s.data.toList) then (if (ray s.data.toList).isSome then 0 else 3)
  else if letB (tkHd s.data.toList) then (if wdB s.data.toList then 0 else 7)
  else 0
def tkKi (s : ByteArray) : Int :=
  if tkHd s.data.toList < 0 then 0
  else if digB (tkHd s.data.toList) then (if (ray s.data.toList).isSome then 3 else 0)
  else if letB (tkHd s.data.toList) then (if wdB s.data.toList then (if isKw s then 1 else 2) else 0)
  else 4
def tkVa (s : ByteArray) : Int :=
  if tkHd s.data.toList < 0 then 0
  else if digB (tkHd s.data.toList) then optR (ray s.data.toList)
  else 0
theorem hd_at (s : ByteArray) (h : 0 < s.size) : tkHd s.data.toList = ((s[0]'h).toNat : Int) := by
  have := drop_at s 0 h
  rw [List.drop_zero] at this
  rw [this]; rfl
theorem hd_none (s : ByteArray) (h : s.size = 0) : tkHd s.data.toList = -1 := by
  have e : s.data.toList = [] := List.eq_nil_of_length_eq_zero (by rw [← size_list]; exact h)
  rw [e]; rfl
/-- what a text that is not empty is, by its first byte -/
inductive TkWay (s : ByteArray) (c : Int) : Prop
  | num (v : Int) (d : digB c = true) (r : ray s.data.toList = Option.some v) (e : tkFa s = 0) (k : tkKi s = 3) (x : tkVa s = v)
  | bad (d : digB c = true) (r : ray s.data.toList = Option.none) (e : tkFa s = 3)
  | sign (d : digB c = false) (l : letB c = false) (e : tkFa s = 0) (k : tkKi s = 4) (x : tkVa s = 0)
  | word (d : digB c = false) (l : letB c = true) (q : wdB s.data.toList = false) (e : tkFa s = 7)
  | key (d : digB c = false) (l : letB c = true) (q : wdB s.data.toList = true) (i : isKw s = true) (e : tkFa s = 0) (k : tkKi s = 1) (x : tkVa s = 0)
  | name (d : digB c = false) (l : letB c = true) (q : wdB s.data.toList = true) (i : isKw s = false) (e : tkFa s = 0) (k : tkKi s = 2) (x : tkVa s = 0)
theorem tk_way (s : ByteArray) (h : 0 < s.size) : TkWay s ((s[0]'h).toNat : Int) := by
  have hh := hd_at s h
  obtain ⟨c, hc⟩ : ∃ c : Int, ((s[0]'h).toNat : Int) = c := ⟨_, rfl⟩
  have h0 : ¬ c < 0 := by omega
  rw [hc] at hh ⊢
  rcases Bool.eq_false_or_eq_true (digB c) with hd | hd
  · cases hr : ray s.data.toList with
    | none => exact .bad hd hr (by unfold tkFa; rw [hh, if_neg h0, if_pos hd, hr]; rfl)
    | some v => exact .num v hd hr (by unfold tkFa; rw [hh, if_neg h0, if_pos hd, hr]; rfl) (by unfold tkKi; rw [hh, if_neg h0, if_pos hd, hr]; rfl) (by unfold tkVa; rw [hh, if_neg h0, if_pos hd, hr]; rfl)
  · have nd : ¬ digB c = true := by rw [hd]; simp
    rcases Bool.eq_false_or_eq_true (letB c) with hl | hl
    · rcases Bool.eq_false_or_eq_true (wdB s.data.toList) with hw | hw
      · have hv : tkVa s = 0 := by unfold tkVa; rw [hh, if_neg h0, if_neg nd]
        have hf : tkFa s = 0 := by unfold tkFa; rw [hh, if_neg h0, if_neg nd, if_pos hl, if_pos hw]
        rcases Bool.eq_false_or_eq_true (isKw s) with hk | hk
        · exact .key hd hl hw hk hf (by unfold tkKi; rw [hh, if_neg h0, if_neg nd, if_pos hl, if_pos hw, if_pos hk]) hv
        · exact .name hd hl hw hk hf (by unfold tkKi; rw [hh, if_neg h0, if_neg nd, if_pos hl, if_pos hw, if_neg (by rw [hk]; simp)]) hv
      · exact .word hd hl hw (by unfold tkFa; rw [hh, if_neg h0, if_neg nd, if_pos hl, if_neg (by rw [hw]; simp)])
    · have nl : ¬ letB c = true := by rw [hl]; simp
      exact .sign hd hl (by unfold tkFa; rw [hh, if_neg h0, if_neg nd, if_neg nl]) (by unfold tkKi; rw [hh, if_neg h0, if_neg nd, if_neg nl]) (by unfold tkVa; rw [hh, if_neg h0, if_neg nd])
theorem tk_nil (s : ByteArray) (h : s.size = 0) : tkFa s = 1 := by unfold tkFa; rw [hd_none s h, if_pos (by omega)]
/-- the first text of a list, as a text -/
def ftL (l : List UInt8) : ByteArray := if sgOf l = ⟨#[]⟩ then ⟨(l.take (runN l)).toArray⟩ else sgOf l
/-- a token, a fault -/
def tokV (k a : Int) (s : ByteArray) (v : Int) : Value := .agg #[.int .i64 k, .int .i64 a, .string s, .int .i64 v]
def fauV (k a : Int) : Value := .agg #[.int .i64 k, .int .i64 a]
def tokR (s : ByteArray) (a : Int) : Value := if tkFa s = 0 then tokV (tkKi s) a s (tkVa s) else tokV 0 0 ⟨#[]⟩ 0
def fauR (s : ByteArray) (a : Int) : Value := if tkFa s = 0 then fauV 0 0 else fauV (tkFa s) a
theorem tokR_yes {s : ByteArray} (a : Int) {k v : Int} (e : tkFa s = 0) (hk : tkKi s = k) (hv : tkVa s = v) : tokR s a = tokV k a s v ∧ fauR s a = fauV 0 0 := by
  unfold tokR fauR; rw [if_pos e, if_pos e, hk, hv]; exact ⟨rfl, rfl⟩
theorem tokR_no {s : ByteArray} (a : Int) {k : Int} (e : tkFa s = k) (h : k ≠ 0) : tokR s a = tokV 0 0 ⟨#[]⟩ 0 ∧ fauR s a = fauV k a := by
  unfold tokR fauR; rw [if_neg (by rw [e]; exact h), if_neg (by rw [e]; exact h), e]; exact ⟨rfl, rfl⟩
end Go.Proofs.YtmmofchfafnkcaaGreatDoor

/- Space skipped: contracts of spaceSize and SkipSpace, program and model. -/
namespace Go.Proofs.YtmmofchfafnkcaaGreatDoor
set_option maxRecDepth 100000
open Go.RowKit
set_option linter.unusedVariables false

/-- a number, memory made -/
def SaysN (w : World) (n : Int) (e : Ending) (w' : World) : Prop := e = .returned (.int .i64 n) ∧ Below w.heap.size w w'
theorem byte_at (s : ByteArray) (k : Nat) (h : k < s.size) (m : Int) (hm : m = k) (w : World) : (Instr.index 9 (.string s) (.int .i64 m)).run Tryz.prog w = .ok (.int .u8 (s[k]'h).toNat) w := by
  subst hm
  rw [run_index_string w 9 s .i64 (k : Int) Tryz.underlying9, dif_pos (by omega)]
  rfl
/-- what stands from an index on -/
theorem rest_at (s : ByteArray) (k : Nat) (h : k ≤ s.size) : ∃ u : ByteArray, u.data.toList = s.data.toList.drop k ∧ u.size + k = s.size ∧ (∀ w, (Instr.slice 9 (.string s) (some (.int .i64 (k : Int))) none none).run Tryz.prog w = .ok (.string u) w) := by
  refine ⟨s.extract k s.size, ?_, ?_, fun w => ?_⟩
  · rw [Lib.extract_data, List.take_of_length_le]
    simp
  · simp; omega
  · rw [run_slice_string_l w 9 s Tryz.underlying9 .i64 (k : Int) (by omega) (by omega)]
    rfl
def SpRel (w : World) (s : ByteArray) (N : Nat) (c : Value) (wr : World) : Prop :=
  ∃ (k : Nat) (b : Bool), k ≤ s.size ∧ c = .bool b ∧ wr = w.iter s k ∧ Hid (k + skL b (s.data.toList.drop k) = N)
theorem below_iter (w : World) (s : ByteArray) (k : Nat) : Below w.heap.size w (w.iter s k) := (Below.refl _ _).alloc (Nat.le_refl _) _
set_option maxHeartbeats 3200000 in
theorem spaceSize_any (s : ByteArray) (w : World) (hs : s.size ≤ 1048576) :
    Calls Tryz.prog 210 #[.string s] w (SaysN w (skL false s.data.toList)) := by
  obtain ⟨N, hN⟩ : ∃ N, skL false s.data.toList = N := ⟨_, rfl⟩
  have H0 : Hid (0 + skL false (s.data.toList.drop 0) = N) := Lib.hid (by rw [← hN]; simp)
  rw [hN]
  clear hN
  go_enter Tryz.func210, Tryz.ntmps210
  go_wp2_with fail
  go_loopw [3] (fun c wr => SpRel w s N c wr) (fun _ wr => s.size - wr.iterPos w.heap.size)
  case atStart => exact ⟨0, false, Nat.zero_le _, rfl, rfl, H0⟩
  case round =>
    obtain ⟨k, b, hk, rfl, hw, HP⟩ := hrel
    subst hw
    by_cases hlt : k < s.size
    · obtain ⟨y, hy⟩ : ∃ y : Nat, (s[k]'hlt).toNat = y := ⟨_, rfl⟩
      have HY := Lib.hid hy
      have hix := byte_at s k hlt (k : Int) rfl
      rw [hy] at hix
      rcases Nat.lt_or_ge y 128 with ha | ha
      · have hnx := fun ty => run_next_ascii (P := Tryz.prog) w s k ty hlt (by rw [hy]; exact ha)
        rw [hy] at hnx
        clear hy
        by_cases c10 : y = 10
        · have HE := Lib.hid (sk_nl b s k hlt (HY.out.trans c10))
          subst c10
          go_wp2_with fail
          go_roundw
          case rel => exact ⟨k + 1, false, by omega, rfl, rfl, by unfold Hid; have := HP.out; have := HE.out; omega⟩
          case measure => simp; omega
        · have t10 : ((y : Int) == 10) = false := by simp; omega
          cases b
          · rcases (show y = 35 ∨ y = 92 ∨ y = 32 ∨ y = 9 ∨ (y ≠ 35 ∧ y ≠ 92 ∧ y ≠ 32 ∧ y ≠ 9) by omega) with e | e | e | e | e
            · have HE := Lib.hid (sk_hash s k hlt (HY.out.trans e))
              subst e
              clear t10 c10
              go_wp2_with fail
              go_roundw
              case rel => exact ⟨k + 1, true, by omega, rfl, rfl, by unfold Hid; have := HP.out; have := HE.out; omega⟩
              case measure => simp; omega
            · have HE2 := Lib.hid (two_prefix s k hlt (HY.out.trans e))
              obtain ⟨u, hu, hus, hsl⟩ := rest_at s k hk
              have HU := Lib.hid hu
              rcases Bool.eq_false_or_eq_true (Lib.hasPrefix (s.data.toList.drop (k + 1)) [10]) with hp | hp
              · have HE := Lib.hid (sk_back s k hlt (HY.out.trans e) hp)
                have HX : Hid (Lib.hasPrefix u.data.toList [92, 10] = true) := Lib.hid (by rw [hu, HE2.out, hp])
                subst e
                clear t10 c10 hp hu hus
                go_wp2_with (go_at_call 154; refine (Tryz.strings_HasPrefix u _ _).mono ?_; rw [show (ByteArray.mk #[92, 10]).data.toList = [92, 10] from rfl, HX.out]; rintro e w' ⟨rfl, rfl⟩)
                go_roundw
                case rel => exact ⟨k + 1, false, by omega, rfl, rfl, by unfold Hid; have := HP.out; have := HE.out; omega⟩
                case measure => simp; omega
              · have HE := Lib.hid (sk_lone s k hlt (HY.out.trans e) hp)
                have HX : Hid (Lib.hasPrefix u.data.toList [92, 10] = false) := Lib.hid (by rw [hu, HE2.out, hp])
                subst e
                clear t10 c10 hp hu hus
                go_wp2_with (go_at_call 154; refine (Tryz.strings_HasPrefix u _ _).mono ?_; rw [show (ByteArray.mk #[92, 10]).data.toList = [92, 10] from rfl, HX.out]; rintro e w' ⟨rfl, rfl⟩)
                go_ret
                exact ⟨ret_int (by have := HP.out; have := HE.out; omega), below_iter _ _ _⟩
            · have HE := Lib.hid (sk_blank s k hlt (.inl (HY.out.trans e)))
              subst e
              clear t10 c10
              go_wp2_with fail
              go_roundw
              case rel => exact ⟨k + 1, false, by omega, rfl, rfl, by unfold Hid; have := HP.out; have := HE.out; omega⟩
              case measure => simp; omega
            · have HE := Lib.hid (sk_blank s k hlt (.inr (HY.out.trans e)))
              subst e
              clear t10 c10
              go_wp2_with fail
              go_roundw
              case rel => exact ⟨k + 1, false, by omega, rfl, rfl, by unfold Hid; have := HP.out; have := HE.out; omega⟩
              case measure => simp; omega
            · obtain ⟨e1, e2, e3, e4⟩ := e
              have HE := Lib.hid (sk_stop s k hlt (by rw [HY.out]; exact ⟨c10, e3, e4, e2, e1⟩))
              have t35 : ((y : Int) == 35) = false := by simp; omega
              have t92 : ((y : Int) == 92) = false := by simp; omega
              have t32 : ((y : Int) != 32) = true := by simp; omega
              have t9 : ((y : Int) != 9) = true := by simp; omega
              go_wp2_with fail
              go_ret
              exact ⟨ret_int (by have := HP.out; have := HE.out; omega), below_iter _ _ _⟩
          · by_cases hp : plainB (y : Int) = true
            · have HX := Lib.hid hp
              have HE := Lib.hid (sk_in s k hlt (by rw [HY.out]; exact c10) (by rw [HY.out]; exact hp))
              clear hp
              go_wp2_with (go_at_call 247; refine (isPlain_true _ _ HX.out).mono ?_; rintro e w' ⟨rfl, rfl⟩)
              go_roundw
              case rel => exact ⟨k + 1, true, by omega, rfl, rfl, by unfold Hid; have := HP.out; have := HE.out; omega⟩
              case measure => simp; omega
            · have hp' := Bool.eq_false_iff.2 hp
              have HX := Lib.hid hp'
              have HE := Lib.hid (sk_out s k hlt (by rw [HY.out]; exact hp'))
              clear hp hp'
              go_wp2_with (go_at_call 247; refine (isPlain_false _ _ HX.out).mono ?_; rintro e w' ⟨rfl, rfl⟩)
              go_ret
              exact ⟨ret_int (by have := HP.out; have := HE.out; omega), below_iter _ _ _⟩
      · obtain ⟨r0, h0⟩ : ∃ r0 : Nat, (Utf8.decode s k).1 = r0 := ⟨_, rfl⟩
        obtain ⟨wd, h1⟩ : ∃ wd : Nat, (Utf8.decode s k).2 = wd := ⟨_, rfl⟩
        have hnx := fun ty => run_next_any (P := Tryz.prog) w s k ty hlt
        have hh := (decode_high s k hlt (by rw [hy]; exact ha)).1
        rw [h0] at hh
        rw [h0, h1] at hnx
        have t10 : ((r0 : Int) == 10) = false := by simp; omega
        have t35 : ((r0 : Int) == 35) = false := by simp; omega
        have t92 : ((r0 : Int) == 92) = false := by simp; omega
        have t32 : ((r0 : Int) != 32) = true := by simp; omega
        have t9 : ((r0 : Int) != 9) = true := by simp; omega
        have hp : plainB (y : Int) = false := by unfold plainB; simp; omega
        have HX := Lib.hid hp
        have HE : Hid (skL b (s.data.toList.drop k) = 0) := Lib.hid (by
          cases b
          · exact sk_stop s k hlt (by omega)
          · exact sk_out s k hlt (by rw [hy]; exact hp))
        clear hy h0 h1 hh hp
        cases b
        · go_wp2_with fail
          go_ret
          exact ⟨ret_int (by have := HP.out; have := HE.out; omega), below_iter _ _ _⟩
        · go_wp2_with (go_at_call 247; refine (isPlain_false _ _ HX.out).mono ?_; rintro e w' ⟨rfl, rfl⟩)
          go_ret
          exact ⟨ret_int (by have := HP.out; have := HE.out; omega), below_iter _ _ _⟩
    · have hnx := fun ty => run_next_end (P := Tryz.prog) w s k ty hlt
      have HE := Lib.hid (sk_end b s k (by omega))
      go_wp2_with fail
      go_ret
      exact ⟨ret_int (by have := HP.out; have := HE.out; omega), below_iter _ _ _⟩

def SkRel (s : ByteArray) (N : Nat) (v : Value) : Prop := ∃ k : Nat, k ≤ s.size ∧ v = .int .i64 k ∧ Hid (k + skL false (s.data.toList.drop k) = N)
def SkIn (s : ByteArray) (N k0 : Nat) (v : Value) : Prop := ∃ k : Nat, k0 ≤ k ∧ k ≤ s.size ∧ v = .int .i64 k ∧ Hid (k + skL true (s.data.toList.drop k) = N)
theorem plain35 : plainB 35 = true := by decide
set_option maxHeartbeats 3200000 in
theorem tkSkip_any (s : ByteArray) (at0 : Nat) (w : World) (hs : s.size ≤ 1048576) (h0 : at0 ≤ s.size) :
    Calls Tryz.prog 205 #[.string s, .int .i64 at0] w fun e w' => e = .returned (.int .i64 ((at0 + skL false (s.data.toList.drop at0) : Nat) : Int)) ∧ w = w' := by
  obtain ⟨N, hN⟩ : ∃ N, at0 + skL false (s.data.toList.drop at0) = N := ⟨_, rfl⟩
  have H0 := Lib.hid hN
  rw [hN]
  clear hN
  go_enter Tryz.func205, Tryz.ntmps205
  go_wp2_with fail
  go_loop [1] (fun v => SkRel s N v) (fun v => s.size - (intOf v).toNat)
  case atStart => exact ⟨at0, h0, rfl, H0⟩
  case round =>
    obtain ⟨k, hk, rfl, HP⟩ := hrel
    by_cases hlt : k < s.size
    · obtain ⟨y, hy⟩ : ∃ y : Nat, (s[k]'hlt).toNat = y := ⟨_, rfl⟩
      have HY := Lib.hid hy
      have hix := byte_at s k hlt (k : Int) rfl
      rw [hy] at hix
      clear hy
      rcases (show y = 32 ∨ y = 9 ∨ y = 10 ∨ y = 92 ∨ y = 35 ∨ (y ≠ 32 ∧ y ≠ 9 ∧ y ≠ 10 ∧ y ≠ 92 ∧ y ≠ 35) by omega) with e | e | e | e | e | e
      · have HE := Lib.hid (sk_blank s k hlt (.inl (HY.out.trans e)))
        subst e
        go_wp2_with fail
        go_round
        case rel => exact ⟨k + 1, by omega, by go_num, by unfold Hid; have := HP.out; have := HE.out; omega⟩
        case measure => simp [intOf]; omega
      · have HE := Lib.hid (sk_blank s k hlt (.inr (HY.out.trans e)))
        subst e
        go_wp2_with fail
        go_round
        case rel => exact ⟨k + 1, by omega, by go_num, by unfold Hid; have := HP.out; have := HE.out; omega⟩
        case measure => simp [intOf]; omega
      · have HE := Lib.hid (sk_nl false s k hlt (HY.out.trans e))
        subst e
        go_wp2_with fail
        go_round
        case rel => exact ⟨k + 1, by omega, by go_num, by unfold Hid; have := HP.out; have := HE.out; omega⟩
        case measure => simp [intOf]; omega
      · by_cases hlt2 : k + 1 < s.size
        · obtain ⟨z, hz⟩ : ∃ z : Nat, (s[k + 1]'hlt2).toNat = z := ⟨_, rfl⟩
          have hix2 := byte_at s (k + 1) hlt2 ((k : Int) + 1) (by omega)
          rw [hz] at hix2
          have hn := next_nl s k hlt2
          rw [hz] at hn
          have d : decide ((k : Int) + 1 < s.size) = true := by simp; omega
          by_cases e10 : z = 10
          · have hp : Lib.hasPrefix (s.data.toList.drop (k + 1)) [10] = true := by rw [hn]; simp [e10]
            have HE := Lib.hid (sk_back s k hlt (HY.out.trans e) hp)
            have HE2 := Lib.hid (sk_nl false s (k + 1) hlt2 (hz.trans e10))
            clear hp hn hz
            subst e10
            subst e
            go_wp2_with fail
            go_round
            case rel => exact ⟨k + 1 + 1, by omega, by go_num, by unfold Hid; have := HP.out; have := HE.out; have := HE2.out; omega⟩
            case measure => simp [intOf]; omega
          · have hp : Lib.hasPrefix (s.data.toList.drop (k + 1)) [10] = false := by rw [hn]; simp [e10]
            have HE := Lib.hid (sk_lone s k hlt (HY.out.trans e) hp)
            have t10 : ((z : Int) == 10) = false := by simp; omega
            clear hp hn hz
            subst e
            go_wp2_with fail
            go_ret
            exact ⟨ret_int (by have := HP.out; have := HE.out; omega), rfl⟩
        · have HE := Lib.hid (sk_lone s k hlt (HY.out.trans e) (next_none s k (by omega)))
          have d : decide ((k : Int) + 1 < s.size) = false := by simp; omega
          subst e
          go_wp2_with fail
          go_ret
          exact ⟨ret_int (by have := HP.out; have := HE.out; omega), rfl⟩
      · have HE := Lib.hid (sk_hash s k hlt (HY.out.trans e))
        have HE2 : Hid (skL true (s.data.toList.drop k) = skL true (s.data.toList.drop (k + 1)) + 1) := Lib.hid (sk_in s k hlt (by rw [HY.out]; omega) (by rw [HY.out, e]; exact plain35))
        have HK : Hid (∀ h : k < s.size, (s[k]'h).toNat = 35) := Lib.hid (fun _ => HY.out.trans e)
        subst e
        go_wp2_with fail
        go_loop [1] (fun v => SkIn s N k v) (fun v => s.size - (intOf v).toNat)
        case atStart => exact ⟨k, Nat.le_refl _, hk, rfl, by unfold Hid; have := HP.out; have := HE.out; have := HE2.out; omega⟩
        case round =>
          clear hix
          obtain ⟨j, hkj, hj, rfl, HQ⟩ := hrel
          by_cases hjt : j < s.size
          · obtain ⟨z, hz⟩ : ∃ z : Nat, (s[j]'hjt).toNat = z := ⟨_, rfl⟩
            have HZ := Lib.hid hz
            have hix3 := byte_at s j hjt (j : Int) rfl
            rw [hz] at hix3
            clear hz
            have HJ : Hid (j = k → z = 35) := Lib.hid (by intro q; subst q; rw [← HZ.out]; exact HK.out _)
            by_cases c10 : z = 10
            · have hne : k < j := by have := HJ.out; omega
              have HF := Lib.hid (sk_nl true s j hjt (HZ.out.trans c10))
              have HG := Lib.hid (sk_nl false s j hjt (HZ.out.trans c10))
              have t10 : ((z : Int) != 10) = false := by simp; omega
              go_wp2_with fail
              go_round
              case rel => exact ⟨j, by omega, rfl, by unfold Hid; have := HQ.out; have := HF.out; have := HG.out; omega⟩
              case measure => simp [intOf]; omega
            · have t10 : ((z : Int) != 10) = true := by simp; omega
              by_cases hp : plainB (z : Int) = true
              · have HX := Lib.hid hp
                have HF := Lib.hid (sk_in s j hjt (by rw [HZ.out]; exact c10) (by rw [HZ.out]; exact hp))
                clear hp
                go_wp2_with (go_at_call 243; refine (scPlain_true _ _ HX.out).mono ?_; rintro e w' ⟨rfl, rfl⟩)
                go_round
                case rel => exact ⟨j + 1, by omega, by omega, by go_num, by unfold Hid; have := HQ.out; have := HF.out; omega⟩
                case measure => simp [intOf]; omega
              · have hp' := Bool.eq_false_iff.2 hp
                have hne : k < j := by
                  rcases Nat.lt_or_eq_of_le hkj with q | q
                  · exact q
                  · exfalso; rw [HJ.out q.symm] at hp'; cases hp'
                have HX := Lib.hid hp'
                have HF := Lib.hid (sk_out s j hjt (by rw [HZ.out]; exact hp'))
                have HG := Lib.hid (sk_stop s j hjt (by rw [HZ.out]; unfold plainB at hp'; simp at hp'; omega))
                clear hp hp'
                go_wp2_with (go_at_call 243; refine (scPlain_false _ _ HX.out).mono ?_; rintro e w' ⟨rfl, rfl⟩)
                go_round
                case rel => exact ⟨j, by omega, rfl, by unfold Hid; have := HQ.out; have := HF.out; have := HG.out; omega⟩
                case measure => simp [intOf]; omega
          · have HF := Lib.hid (sk_end true s j (by omega))
            have HG := Lib.hid (sk_end false s j (by omega))
            go_wp2_with fail
            go_round
            case rel => exact ⟨j, by omega, rfl, by unfold Hid; have := HQ.out; have := HF.out; have := HG.out; omega⟩
            case measure => simp [intOf]; omega
      · obtain ⟨e1, e2, e3, e4, e5⟩ := e
        have HE := Lib.hid (sk_stop s k hlt (by rw [HY.out]; exact ⟨e3, e1, e2, e4, e5⟩))
        have t32 : ((y : Int) == 32) = false := by simp; omega
        have t9 : ((y : Int) == 9) = false := by simp; omega
        have t10 : ((y : Int) == 10) = false := by simp; omega
        have t92 : ((y : Int) == 92) = false := by simp; omega
        have t35 : ((y : Int) == 35) = false := by simp; omega
        go_wp2_with fail
        go_ret
        exact ⟨ret_int (by have := HP.out; have := HE.out; omega), rfl⟩
    · have HE := Lib.hid (sk_end false s k (by omega))
      go_wp2_with fail
      go_ret
      exact ⟨ret_int (by have := HP.out; have := HE.out; omega), rfl⟩
end Go.Proofs.YtmmofchfafnkcaaGreatDoor

/- Key words, letters, words: contracts of IsKey and of the small functions, program and model. -/
namespace Go.Proofs.YtmmofchfafnkcaaGreatDoor
set_option maxRecDepth 100000
open Go.RowKit
set_option linter.unusedVariables false

theorem oneOf_at (s : ByteArray) (l : List ByteArray) (k : Nat) (h : k < l.length) : oneOf s (l.drop k) = (((l.getD k ⟨#[]⟩).toList == s.toList) || oneOf s (l.drop (k + 1))) := by
  rw [List.drop_eq_getElem_cons h, oneOf]
  simp [List.getD_eq_getElem?_getD, h]
theorem oneOf_end (s : ByteArray) (l : List ByteArray) (k : Nat) (h : l.length ≤ k) : oneOf s (l.drop k) = false := by
  rw [List.drop_eq_nil_of_le h]; rfl
/-- some texts lie from the start of a block on -/
def TextsAt (w : World) (g : Nat) (l : List ByteArray) : Prop := ∀ k, k < l.length → w.cell? ⟨g, k, none⟩ = some (.string (l.getD k ⟨#[]⟩))
theorem TextsAt.below {w w' : World} {g B : Nat} {l : List ByteArray} (h : TextsAt w g l) (hb : Below B w w') (hg : g < B) : TextsAt w' g l := fun k hk => (hb.cell (p := ⟨g, k, none⟩) hg).trans (h k hk)
theorem texts_new (w : World) (l : List ByteArray) (cs : Array Value) (hc : cs.toList = l.map Value.string) (ty : TypeId) : TextsAt (w.alloc (.cells cs ty)) w.heap.size l := by
  intro k hk
  rw [World.cell?_alloc_at _ _ _ _ rfl]
  have e : cs[k]? = (l.map Value.string)[k]? := by rw [← hc]; simp
  rw [e]
  simp [hk]
def HasRel (s : ByteArray) (l : List ByteArray) (b : Bool) (v : Value) : Prop := ∃ k : Nat, k ≤ l.length ∧ v = .int .i64 k ∧ Hid (oneOf s (l.drop k) = b)
set_option maxHeartbeats 800000 in
theorem l1HasS_any (g n c : Nat) (l : List ByteArray) (s : ByteArray) (w : World) (HT : Hid (TextsAt w g l)) (hn : Hid (n = l.length)) (hm : n ≤ 1048576) :
    Calls Tryz.prog 83 #[.slice (some ⟨g, 0, none⟩) n c, .string s] w fun e w' => e = .returned (.bool (oneOf s l)) ∧ w = w' := by
  obtain ⟨b, hb⟩ : ∃ b, oneOf s l = b := ⟨_, rfl⟩
  have H0 : Hid (oneOf s (l.drop 0) = b) := Lib.hid (by rw [← hb]; rfl)
  rw [hb]
  clear hb
  go_enter Tryz.func83, Tryz.ntmps83
  go_wp2_with fail
  go_loop [9] (fun v => HasRel s l b v) (fun v => n - (intOf v).toNat)
  case atStart => exact ⟨0, Nat.zero_le _, rfl, H0⟩
  case round =>
    obtain ⟨k, hk, rfl, HP⟩ := hrel
    by_cases hlt : k < n
    · have hc := HT.out k (by rw [← hn.out]; exact hlt)
      have HE := Lib.hid (oneOf_at s l k (by rw [← hn.out]; exact hlt))
      obtain ⟨x, hx⟩ : ∃ x, l.getD k ⟨#[]⟩ = x := ⟨_, rfl⟩
      rw [hx] at hc HE
      clear hx
      rcases Bool.eq_false_or_eq_true (x.toList == s.toList) with he | he
      · have HX : Hid (b = true) := Lib.hid (by rw [← HP.out, HE.out, he]; rfl)
        go_wp2_with fail
        go_ret
        exact ⟨ret_bool HX.out.symm, rfl⟩
      · have HX : Hid (oneOf s (l.drop (k + 1)) = b) := Lib.hid (by rw [← HP.out, HE.out, he]; rfl)
        have hk2 : k + 1 ≤ l.length := by rw [← hn.out]; exact hlt
        go_wp2_with fail
        go_round
        case rel => exact ⟨k + 1, hk2, by go_num, HX⟩
        case measure => simp [intOf]; omega
    · have HX : Hid (b = false) := Lib.hid (by rw [← HP.out, oneOf_end s l k (by rw [← hn.out]; omega)])
      go_wp2_with fail
      go_ret
      exact ⟨ret_bool HX.out.symm, rfl⟩
/-- a truth value, memory made -/
def SaysB (w : World) (b : Bool) (e : Ending) (w' : World) : Prop := e = .returned (.bool b) ∧ Below w.heap.size w w'
theorem tkKeys_any (w : World) :
    Calls Tryz.prog 84 #[] w fun e w' => e = .returned (.slice (some ⟨w.heap.size, 0, none⟩) 14 14) ∧ TextsAt w' w.heap.size kwA ∧ Below w.heap.size w w' := by
  go_enter Tryz.func84, Tryz.ntmps84
  go_wp2
  go_ret
  exact ⟨rfl, texts_new _ kwA _ rfl _, (Below.refl _ _).alloc (Nat.le_refl _) _⟩
theorem specIsKey_any (s : ByteArray) (w : World) : Calls Tryz.prog 24 #[.string s] w (SaysB w (isKw s)) := by
  have HL := Lib.hid (fun (g : Nat) (w : World) HT => l1HasS_any g 14 14 kwA s w HT (Lib.hid rfl) (by omega))
  obtain ⟨b, hb⟩ : ∃ b, isKw s = b := ⟨_, rfl⟩
  rw [show oneOf s kwA = isKw s from rfl, hb] at HL
  rw [hb]
  clear hb
  go_enter Tryz.func24, Tryz.ntmps24
  go_wp2_with (first | (go_at_call 84; refine (tkKeys_any _).mono ?_; rintro e w1 ⟨rfl, ht, b1⟩; have HT := Lib.hid ht; have B1 := Lib.hid b1; clear ht b1) | (go_at_call 83; refine (HL.out _ _ HT).mono ?_; rintro e w' ⟨rfl, rfl⟩))
  go_ret
  exact ⟨rfl, B1.out⟩
/-- the table of key words is in its place -/
def Kwt (w : World) : Prop := ∃ (t : TypeId) (fr : Nat × Nat), w.heap[0]? = some (.cells (kwA.map Value.string).toArray t fr)
theorem Kwt.below {w w' : World} (h : Kwt w) (hb : Below w.heap.size w w') : Kwt w' := by
  obtain ⟨t, fr, h⟩ := h
  refine ⟨t, fr, ?_⟩
  have hlt : 0 < w.heap.size := by
    rcases Nat.lt_or_ge 0 w.heap.size with q | q
    · exact q
    · rw [Array.getElem?_eq_none q] at h; cases h
  rw [hb.block _ hlt]; exact h
theorem kw_at (k : Nat) (h : k < 14) (w : World) : (Instr.index 98 (.agg (kwA.map Value.string).toArray) (.int .i64 (k : Int))).run Tryz.prog w = .ok (.string (kwA.getD k ⟨#[]⟩)) w := by
  rcases (show k = 0 ∨ k = 1 ∨ k = 2 ∨ k = 3 ∨ k = 4 ∨ k = 5 ∨ k = 6 ∨ k = 7 ∨ k = 8 ∨ k = 9 ∨ k = 10 ∨ k = 11 ∨ k = 12 ∨ k = 13 by omega) with rfl | rfl | rfl | rfl | rfl | rfl | rfl | rfl | rfl | rfl | rfl | rfl | rfl | rfl <;> kernel_rfl
theorem kw_len : kwA.length = 14 := rfl
set_option maxHeartbeats 800000 in
theorem implIsKey_any (s : ByteArray) (w : World) (hK : Hid (Kwt w)) :
    Calls Tryz.prog 23 #[.string s] w fun e w' => e = .returned (.bool (isKw s)) ∧ w = w' := by
  obtain ⟨b, hb⟩ : ∃ b, isKw s = b := ⟨_, rfl⟩
  have H0 : Hid (oneOf s (kwA.drop 0) = b) := Lib.hid (by rw [← hb]; rfl)
  rw [hb]
  clear hb
  obtain ⟨t, fr, hg⟩ := hK.out
  have HG := Lib.hid hg
  obtain ⟨arr, harr⟩ : ∃ arr, (kwA.map Value.string).toArray = arr := ⟨_, rfl⟩
  have HA := Lib.hid kw_at
  have hsz : Hid (14 = arr.size) := Lib.hid (by rw [← harr]; rfl)
  rw [harr] at HG HA
  clear harr hg
  go_enter Tryz.func23, Tryz.ntmps23
  go_wp2_with (refine wpList_load_row rfl 98 _ rfl 0 rfl t arr fr _ HG.out Tryz.underlying98 rfl (by rw [← hsz.out]; kernel_rfl) ?_)
  go_loop [6] (fun v => HasRel s kwA b v) (fun v => 14 - (intOf v).toNat)
  case atStart => exact ⟨0, Nat.zero_le _, rfl, H0⟩
  case round =>
    obtain ⟨k, hk, rfl, HP⟩ := hrel
    rw [kw_len] at hk
    by_cases hlt : k < 14
    · have hix := HA.out k hlt
      have HE := Lib.hid (oneOf_at s kwA k hlt)
      obtain ⟨x, hx⟩ : ∃ x, kwA.getD k ⟨#[]⟩ = x := ⟨_, rfl⟩
      rw [hx] at hix HE
      clear hx
      rcases Bool.eq_false_or_eq_true (x.toList == s.toList) with he | he
      · have HX : Hid (b = true) := Lib.hid (by rw [← HP.out, HE.out, he]; rfl)
        go_wp2_with fail
        go_ret
        exact ⟨ret_bool HX.out.symm, rfl⟩
      · have HX : Hid (oneOf s (kwA.drop (k + 1)) = b) := Lib.hid (by rw [← HP.out, HE.out, he]; rfl)
        have hk2 : k + 1 ≤ kwA.length := hlt
        go_wp2_with fail
        go_round
        case rel => exact ⟨k + 1, hk2, by go_num, HX⟩
        case measure => simp [intOf]; omega
    · have HX : Hid (b = false) := Lib.hid (by rw [← HP.out, oneOf_end s kwA k (by rw [kw_len]; omega)])
      go_wp2_with fail
      go_ret
      exact ⟨ret_bool HX.out.symm, rfl⟩
theorem let_cases (c : Int) : (97 ≤ c ∧ c ≤ 122 ∧ letB c = true) ∨ (c < 97 ∧ letB c = false) ∨ (97 ≤ c ∧ 122 < c ∧ letB c = false) := by
  unfold letB
  rcases Int.lt_or_le c 97 with h | h
  · exact .inr (.inl ⟨h, by simp; omega⟩)
  · rcases Int.lt_or_le 122 c with h2 | h2
    · exact .inr (.inr ⟨h, h2, by simp; omega⟩)
    · exact .inl ⟨h, h2, by simp; omega⟩
theorem dig_cases (c : Int) : (48 ≤ c ∧ c ≤ 57 ∧ digB c = true) ∨ (c < 48 ∧ digB c = false) ∨ (48 ≤ c ∧ 57 < c ∧ digB c = false) := by
  unfold digB
  rcases Int.lt_or_le c 48 with h | h
  · exact .inr (.inl ⟨h, by simp; omega⟩)
  · rcases Int.lt_or_le 57 c with h2 | h2
    · exact .inr (.inr ⟨h, h2, by simp; omega⟩)
    · exact .inl ⟨h, h2, by simp; omega⟩
theorem isLetter_any (c : Int) (w : World) : Calls Tryz.prog 152 #[.int .i32 c] w fun e w' => e = .returned (.bool (letB c)) ∧ w = w' := by
  rcases let_cases c with ⟨a, b, e⟩ | ⟨a, e⟩ | ⟨a, b, e⟩
  · rw [e]
    have d1 := is_le a
    have d2 := is_le b
    clear e
    go_enter Tryz.func152, Tryz.ntmps152
    go_wp2
    go_ret
    exact ⟨rfl, rfl⟩
  · rw [e]
    have d1 := not_le a
    clear e
    go_enter Tryz.func152, Tryz.ntmps152
    go_wp2
    go_ret
    exact ⟨rfl, rfl⟩
  · rw [e]
    have d1 := is_le a
    have d2 := not_le b
    clear e
    go_enter Tryz.func152, Tryz.ntmps152
    go_wp2
    go_ret
    exact ⟨rfl, rfl⟩
theorem isDigit_any (c : Int) (w : World) : Calls Tryz.prog 150 #[.int .i32 c] w fun e w' => e = .returned (.bool (digB c)) ∧ w = w' := by
  rcases dig_cases c with ⟨a, b, e⟩ | ⟨a, e⟩ | ⟨a, b, e⟩
  · rw [e]
    have d1 := is_le a
    have d2 := is_le b
    clear e
    go_enter Tryz.func150, Tryz.ntmps150
    go_wp2
    go_ret
    exact ⟨rfl, rfl⟩
  · rw [e]
    have d1 := not_le a
    clear e
    go_enter Tryz.func150, Tryz.ntmps150
    go_wp2
    go_ret
    exact ⟨rfl, rfl⟩
  · rw [e]
    have d1 := is_le a
    have d2 := not_le b
    clear e
    go_enter Tryz.func150, Tryz.ntmps150
    go_wp2
    go_ret
    exact ⟨rfl, rfl⟩
theorem tkLetter_any (c : Int) (w : World) : Calls Tryz.prog 201 #[.int .u8 c] w fun e w' => e = .returned (.bool (letB c)) ∧ w = w' := by
  rcases let_cases c with ⟨a, b, e⟩ | ⟨a, e⟩ | ⟨a, b, e⟩
  · rw [e]
    have d1 := is_le a
    have d2 := is_le b
    clear e
    go_enter Tryz.func201, Tryz.ntmps201
    go_wp2
    go_ret
    exact ⟨rfl, rfl⟩
  · rw [e]
    have d1 := not_le a
    clear e
    go_enter Tryz.func201, Tryz.ntmps201
    go_wp2
    go_ret
    exact ⟨rfl, rfl⟩
  · rw [e]
    have d1 := is_le a
    have d2 := not_le b
    clear e
    go_enter Tryz.func201, Tryz.ntmps201
    go_wp2
    go_ret
    exact ⟨rfl, rfl⟩
/-- only letters -/
def alB (l : List UInt8) : Bool := l.all (fun c => letB (c.toNat : Int))
theorem al_more (s : ByteArray) (k : Nat) (h : k < s.size) (hp : letB ((s[k]'h).toNat : Int) = true) : alB (s.data.toList.drop k) = alB (s.data.toList.drop (k + 1)) := by
  rw [drop_at s k h]; unfold alB; rw [List.all_cons, hp]; rfl
theorem al_stop (s : ByteArray) (k : Nat) (h : k < s.size) (hp : letB ((s[k]'h).toNat : Int) = false) : alB (s.data.toList.drop k) = false := by
  rw [drop_at s k h]; unfold alB; rw [List.all_cons, hp]; rfl
theorem al_end (s : ByteArray) (k : Nat) (h : s.size ≤ k) : alB (s.data.toList.drop k) = true := by
  rw [List.drop_eq_nil_of_le (by simpa using h)]; rfl
theorem wd_al (s : ByteArray) : wdB s.data.toList = (alB s.data.toList && decide (s.size ≤ 12)) := by unfold wdB alB; rw [size_list]
def AlRelW (w : World) (s : ByteArray) (b : Bool) (wr : World) : Prop := ∃ k : Nat, k ≤ s.size ∧ wr = w.iter s k ∧ Hid (alB (s.data.toList.drop k) = b)
def AlRel (s : ByteArray) (b : Bool) (v : Value) : Prop := ∃ k : Nat, k ≤ s.size ∧ v = .int .i64 k ∧ Hid (alB (s.data.toList.drop k) = b)
theorem and_false' {a b : Bool} (h : a = false) : (a && b) = false := by rw [h]; rfl
theorem and_true' {a b : Bool} (h : a = true) : (a && b) = b := by rw [h]; rfl
set_option maxHeartbeats 1600000 in
theorem isWord_any (s : ByteArray) (w : World) (hs : s.size ≤ 1048576) :
    Calls Tryz.prog 153 #[.string s] w (SaysB w (wdB s.data.toList)) := by
  rw [wd_al]
  obtain ⟨b, hb⟩ : ∃ b, alB s.data.toList = b := ⟨_, rfl⟩
  have H0 : Hid (alB (s.data.toList.drop 0) = b) := Lib.hid (by rw [← hb]; rfl)
  rw [hb]
  clear hb
  have d12 : decide ((s.size : Int) ≤ 12) = decide (s.size ≤ 12) := by rw [decide_eq_decide]; omega
  have D12 := Lib.hid d12
  clear d12
  go_enter Tryz.func153, Tryz.ntmps153
  go_wp2_with fail
  go_loopw [] (fun wr => AlRelW w s b wr) (fun wr => s.size - wr.iterPos w.heap.size)
  case atStart => exact ⟨0, Nat.zero_le _, rfl, H0⟩
  case round =>
    obtain ⟨k, hk, hw, HP⟩ := hrel
    subst hw
    by_cases hlt : k < s.size
    · obtain ⟨y, hy⟩ : ∃ y : Nat, (s[k]'hlt).toNat = y := ⟨_, rfl⟩
      have HY := Lib.hid hy
      rcases Nat.lt_or_ge y 128 with ha | ha
      · have hnx := fun ty => run_next_ascii (P := Tryz.prog) w s k ty hlt (by rw [hy]; exact ha)
        rw [hy] at hnx
        clear hy
        have HL := Lib.hid (fun w => isLetter_any (y : Int) w)
        rcases Bool.eq_false_or_eq_true (letB (y : Int)) with hl | hl
        · have HX : Hid (alB (s.data.toList.drop (k + 1)) = b) := Lib.hid ((al_more s k hlt (by rw [HY.out]; exact hl)).symm.trans HP.out)
          rw [hl] at HL
          clear hl
          go_wp2_with (go_at_call 152; refine (HL.out _).mono ?_; rintro e w' ⟨rfl, rfl⟩)
          go_roundw
          case rel => exact ⟨k + 1, by omega, rfl, HX⟩
          case measure => simp; omega
        · have HX : Hid (b = false) := Lib.hid (HP.out.symm.trans (al_stop s k hlt (by rw [HY.out]; exact hl)))
          rw [hl] at HL
          clear hl
          go_wp2_with (go_at_call 152; refine (HL.out _).mono ?_; rintro e w' ⟨rfl, rfl⟩)
          go_ret
          exact ⟨ret_bool (and_false' HX.out).symm, below_iter _ _ _⟩
      · obtain ⟨r0, h0⟩ : ∃ r0 : Nat, (Utf8.decode s k).1 = r0 := ⟨_, rfl⟩
        obtain ⟨wd, h1⟩ : ∃ wd : Nat, (Utf8.decode s k).2 = wd := ⟨_, rfl⟩
        have hnx := fun ty => run_next_any (P := Tryz.prog) w s k ty hlt
        have hh := (decode_high s k hlt (by rw [hy]; exact ha)).1
        rw [h0] at hh
        rw [h0, h1] at hnx
        have HL := Lib.hid (fun w => isLetter_any (r0 : Int) w)
        have hl : letB (r0 : Int) = false := by unfold letB; simp; omega
        have hl2 : letB (y : Int) = false := by unfold letB; simp; omega
        have HX : Hid (b = false) := Lib.hid (HP.out.symm.trans (al_stop s k hlt (by rw [hy]; exact hl2)))
        rw [hl] at HL
        clear hl hl2 hy h0 h1 hh
        go_wp2_with (go_at_call 152; refine (HL.out _).mono ?_; rintro e w' ⟨rfl, rfl⟩)
        go_ret
        exact ⟨ret_bool (and_false' HX.out).symm, below_iter _ _ _⟩
    · have hnx := fun ty => run_next_end (P := Tryz.prog) w s k ty hlt
      have HX : Hid (b = true) := Lib.hid (HP.out.symm.trans (al_end s k (by omega)))
      go_wp2_with fail
      go_ret
      exact ⟨ret_bool (by rw [and_true' HX.out]; exact D12.out), below_iter _ _ _⟩
theorem bcell {W w1 : World} (hb : Below W.heap.size W w1) : (∀ b o, b < W.heap.size → w1.cell? ⟨b, o, none⟩ = W.cell? ⟨b, o, none⟩) ∧ (∀ b o, b < W.heap.size → w1.frozen? ⟨b, o, none⟩ = W.frozen? ⟨b, o, none⟩) :=
  ⟨fun b o h => hb.cell (p := ⟨b, o, none⟩) h, fun b o h => hb.frozen (p := ⟨b, o, none⟩) h⟩
/-- any results, memory made -/
def SaysV (w : World) (v : Value) (e : Ending) (w' : World) : Prop := e = .returned v ∧ Below w.heap.size w w'
theorem one_new2 (w : World) (o : Obj) : Below w.heap.size w (w.alloc o) := (Below.refl _ _).alloc (Nat.le_refl _) _
theorem two_new (w : World) (o o' : Obj) : Below w.heap.size w ((w.alloc o).alloc o') := ((Below.refl _ _).alloc (Nat.le_refl _) _).alloc (by simp) _
theorem two_size {w w1 : World} {o o' : Obj} (b : Below ((w.alloc o).alloc o').heap.size ((w.alloc o).alloc o') w1) : w.heap.size + 1 < w1.heap.size := by have := b.size; simp at this; omega
theorem two_below {w w1 : World} {o o' : Obj} (b : Below ((w.alloc o).alloc o').heap.size ((w.alloc o).alloc o') w1) : Below w.heap.size w w1 := (two_new w o o').trans (b.mono (by simp; omega))
/-- a boxed token keeps its cells -/
def FourIs (w : World) (g : Nat) (a0 a1 a2 a3 : Value) : Prop := w.cell? ⟨g, 0, none⟩ = some a0 ∧ w.cell? ⟨g, 1, none⟩ = some a1 ∧ w.cell? ⟨g, 2, none⟩ = some a2 ∧ w.cell? ⟨g, 3, none⟩ = some a3 ∧ g < w.heap.size
theorem FourIs.on {w w1 : World} {g : Nat} {a0 a1 a2 a3 : Value} (h : FourIs w g a0 a1 a2 a3) (b : Below w.heap.size w w1) : FourIs w1 g a0 a1 a2 a3 := by
  obtain ⟨h0, h1, h2, h3, hg⟩ := h
  have hc := (bcell b).1
  exact ⟨(hc _ _ hg).trans h0, (hc _ _ hg).trans h1, (hc _ _ hg).trans h2, (hc _ _ hg).trans h3, Nat.lt_of_lt_of_le hg b.size⟩
theorem box_four {w w1 : World} {a0 a1 a2 a3 : Value} {t : TypeId} (b : Below (w.alloc (.cells #[a0, a1, a2, a3] t)).heap.size (w.alloc (.cells #[a0, a1, a2, a3] t)) w1) : FourIs w1 w.heap.size a0 a1 a2 a3 ∧ Below w.heap.size w w1 := by
  have h : FourIs (w.alloc (.cells #[a0, a1, a2, a3] t)) w.heap.size a0 a1 a2 a3 := by
    refine ⟨?_, ?_, ?_, ?_, ?_⟩ <;> simp [go_sem]
  exact ⟨h.on b, (one_new2 w _).trans (b.mono (by simp))⟩
def SaysI (w : World) (n : Int) (e : Ending) (w' : World) : Prop := e = .returned (.int .i64 n) ∧ Below w.heap.size w w'
/-- the cells of two tokens of the call's own are there -/
def Four (w1 : World) (b : Nat) : Prop := (w1.cell? ⟨b, 0, none⟩).isSome = true ∧ (w1.cell? ⟨b, 1, none⟩).isSome = true ∧ (w1.cell? ⟨b, 2, none⟩).isSome = true ∧ (w1.cell? ⟨b, 3, none⟩).isSome = true
theorem four_set {w1 : World} {b : Nat} (h : Four w1 b) (p : Addr) (v : Value) : Four (w1.setCell p v) b := by
  obtain ⟨h0, h1, h2, h3⟩ := h
  have q : ∀ a : Addr, (w1.cell? a).isSome = true → ((w1.setCell p v).cell? a).isSome = true := fun a ha => by
    by_cases e : p = a
    · subst e; rw [World.cell?_setCell_same' _ _ _ ha]; rfl
    · rw [World.cell?_setCell_other _ _ _ _ e]; exact ha
  exact ⟨q _ h0, q _ h1, q _ h2, q _ h3⟩
theorem read4 {w1 : World} {b : Nat} (h : Four w1 b) (v0 v1 v2 v3 : Value) (W : World) (hW : W = (((w1.setCell ⟨b, 0, none⟩ v0).setCell ⟨b, 1, none⟩ v1).setCell ⟨b, 2, none⟩ v2).setCell ⟨b, 3, none⟩ v3) :
    W.cell? ⟨b, 0, none⟩ = some v0 ∧ W.cell? ⟨b, 1, none⟩ = some v1 ∧ W.cell? ⟨b, 2, none⟩ = some v2 ∧ W.cell? ⟨b, 3, none⟩ = some v3 := by
  obtain ⟨h0, h1, h2, h3⟩ := h
  subst hW
  refine ⟨?_, ?_, ?_, ?_⟩ <;> simp [go_sem, World.cell?_setCell_other, World.cell?_setCell_same', h0, h1, h2, h3]
theorem set4 {n : Nat} {w w1 : World} (h : Below n w w1) (b : Nat) (hb : n ≤ b) (v0 v1 v2 v3 : Value) : Below n w ((((w1.setCell ⟨b, 0, none⟩ v0).setCell ⟨b, 1, none⟩ v1).setCell ⟨b, 2, none⟩ v2).setCell ⟨b, 3, none⟩ v3) :=
  (((h.setCell hb _).setCell hb _).setCell hb _).setCell hb _
theorem set2 {n : Nat} {w w1 : World} (h : Below n w w1) (b : Nat) (hb : n ≤ b) (v0 v1 : Value) : Below n w ((w1.setCell ⟨b, 0, none⟩ v0).setCell ⟨b, 1, none⟩ v1) :=
  (h.setCell hb _).setCell hb _
end Go.Proofs.YtmmofchfafnkcaaGreatDoor
