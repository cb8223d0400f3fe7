/- Texts compared: contracts of CompareTexts, program and model. -/
import Derived.Test.YtniggnjnpapkeaaDoorRns
namespace Go.Proofs.YtniggnjnpapkeaaDoor
set_option maxRecDepth 100000
open Go.RowKit

/-- the sign of a number -/
def sgn (n : Int) : Int := if 0 < n then 1 else if n < 0 then -1 else 0
theorem l1Sign_any (n : Int) (w : World) : Calls Tryd.prog 30 #[.int .i64 n] w fun e w' => e = .returned (.int .i64 (sgn n)) ∧ w = w' := by
  rcases Int.lt_trichotomy n 0 with h | h | h
  · have d1 := not_lt (Int.le_of_lt h)
    have d2 := is_lt h
    have e : sgn n = -1 := by unfold sgn; rw [if_neg (by omega), if_pos h]
    rw [e]
    clear h
    go_enter Tryd.func30, Tryd.ntmps30
    go_wp2
    go_ret
    exact ⟨rfl, rfl⟩
  · subst h
    go_enter Tryd.func30, Tryd.ntmps30
    go_wp2
    go_ret
    exact ⟨rfl, rfl⟩
  · have d1 := is_lt h
    have e : sgn n = 1 := by unfold sgn; rw [if_pos h]
    rw [e]
    clear h
    go_enter Tryd.func30, Tryd.ntmps30
    go_wp2
    go_ret
    exact ⟨rfl, rfl⟩
theorem sgn_compare (x y : Int) : Lib.compareInt x y = sgn (x - y) := by
  unfold Lib.compareInt sgn
  repeat' split
  all_goals first | rfl | omega
/-- what comparing two read values gives -/
def cmpN (o p : Option Int) : Int × Bool := match o, p with | Option.some x, Option.some y => (sgn (x - y), true) | _, _ => (0, false)
theorem implCompare_any (s t : ByteArray) (hs : s.size ≤ 1048576) (ht : t.size ≤ 1048576) (w : World) (hD : Hid (Dig w)) (hU : Hid (Units w)) :
    Calls Tryd.prog 14 #[.string s, .string t] w (SaysPair w (cmpN (ray s.data.toList) (ray t.data.toList)).1 (cmpN (ray s.data.toList) (ray t.data.toList)).2) := by
  have HA := Lib.hid (fun w hD hU => implReadAny_any s w hD hU hs)
  have HB := Lib.hid (fun w hD hU => implReadAny_any t w hD hU ht)
  obtain ⟨o, hoa⟩ : ∃ o, ray s.data.toList = o := ⟨_, rfl⟩
  obtain ⟨p, hob⟩ : ∃ p, ray t.data.toList = p := ⟨_, rfl⟩
  have ra := fun v h => ray_range _ v (hoa.trans h)
  have rb := fun v h => ray_range _ v (hob.trans h)
  rw [hoa] at HA ⊢
  rw [hob] at HB ⊢
  cases o with
  | none =>
    cases p with
    | none =>
      clear hoa hob ra rb
      go_enter Tryd.func14, Tryd.ntmps14
      go_wp2_with (go_at_call 12; refine (HA.out _ hD hU).mono ?_; rw [show SaysRd w none = SaysPair w 0 false from rfl]; rintro e w1 ⟨rfl, b1⟩; have B1 := Lib.hid b1; have D1 := Lib.hid (hD.out.below b1); have U1 := Lib.hid (hU.out.below b1); clear b1; refine Hid.out ?_)
      refine Lib.hid ?_
      go_wp2_with (go_at_call 12; refine (HB.out _ D1 U1).mono ?_; rw [show SaysRd w1 none = SaysPair w1 0 false from rfl]; rintro e w2 ⟨rfl, b2⟩; have B2 := Lib.hid b2; clear b2)
      go_ret2
      exact ⟨rfl, B1.out.trans (B2.out.mono B1.out.size)⟩
    | some y =>
      clear hoa hob ra rb
      go_enter Tryd.func14, Tryd.ntmps14
      go_wp2_with (go_at_call 12; refine (HA.out _ hD hU).mono ?_; rw [show SaysRd w none = SaysPair w 0 false from rfl]; rintro e w1 ⟨rfl, b1⟩; have B1 := Lib.hid b1; have D1 := Lib.hid (hD.out.below b1); have U1 := Lib.hid (hU.out.below b1); clear b1; refine Hid.out ?_)
      refine Lib.hid ?_
      go_wp2_with (go_at_call 12; refine (HB.out _ D1 U1).mono ?_; rw [show SaysRd w1 (Option.some y) = SaysPair w1 y true from rfl]; rintro e w2 ⟨rfl, b2⟩; have B2 := Lib.hid b2; clear b2)
      go_ret2
      exact ⟨rfl, B1.out.trans (B2.out.mono B1.out.size)⟩
  | some x =>
    cases p with
    | none =>
      clear hoa hob ra rb
      go_enter Tryd.func14, Tryd.ntmps14
      go_wp2_with (go_at_call 12; refine (HA.out _ hD hU).mono ?_; rw [show SaysRd w (Option.some x) = SaysPair w x true from rfl]; rintro e w1 ⟨rfl, b1⟩; have B1 := Lib.hid b1; have D1 := Lib.hid (hD.out.below b1); have U1 := Lib.hid (hU.out.below b1); clear b1; refine Hid.out ?_)
      refine Lib.hid ?_
      go_wp2_with (go_at_call 12; refine (HB.out _ D1 U1).mono ?_; rw [show SaysRd w1 none = SaysPair w1 0 false from rfl]; rintro e w2 ⟨rfl, b2⟩; have B2 := Lib.hid b2; clear b2)
      go_ret2
      exact ⟨rfl, B1.out.trans (B2.out.mono B1.out.size)⟩
    | some y =>
      clear hoa hob ra rb
      go_enter Tryd.func14, Tryd.ntmps14
      go_wp2_with (go_at_call 12; refine (HA.out _ hD hU).mono ?_; rw [show SaysRd w (Option.some x) = SaysPair w x true from rfl]; rintro e w1 ⟨rfl, b1⟩; have B1 := Lib.hid b1; have D1 := Lib.hid (hD.out.below b1); have U1 := Lib.hid (hU.out.below b1); clear b1; refine Hid.out ?_)
      refine Lib.hid ?_
      go_wp2_with (go_at_call 12; refine (HB.out _ D1 U1).mono ?_; rw [show SaysRd w1 (Option.some y) = SaysPair w1 y true from rfl]; rintro e w2 ⟨rfl, b2⟩; have B2 := Lib.hid b2; clear b2)
      go_wp2_with (go_at_call 31; refine (Tryd.cmp_Compare_int x y _).mono ?_; rw [sgn_compare]; rintro e w' ⟨rfl, rfl⟩)
      go_ret2
      exact ⟨rfl, B1.out.trans (B2.out.mono B1.out.size)⟩
theorem specCompare_any (s t : ByteArray) (hs : s.size ≤ 1048576) (ht : t.size ≤ 1048576) (w : World) :
    Calls Tryd.prog 13 #[.string s, .string t] w (SaysPair w (cmpN (ray s.data.toList) (ray t.data.toList)).1 (cmpN (ray s.data.toList) (ray t.data.toList)).2) := by
  have HA := Lib.hid (fun w => nuAny_any s w hs)
  have HB := Lib.hid (fun w => nuAny_any t w ht)
  obtain ⟨o, hoa⟩ : ∃ o, ray s.data.toList = o := ⟨_, rfl⟩
  obtain ⟨p, hob⟩ : ∃ p, ray t.data.toList = p := ⟨_, rfl⟩
  have ra := fun v h => ray_range _ v (hoa.trans h)
  have rb := fun v h => ray_range _ v (hob.trans h)
  rw [hoa] at HA ⊢
  rw [hob] at HB ⊢
  cases o with
  | none =>
    cases p with
    | none =>
      rw [show optM none = -1 from rfl] at HA
      rw [show optM none = -1 from rfl] at HB
      clear hoa hob ra rb
      go_enter Tryd.func13, Tryd.ntmps13
      go_wp2_with (go_at_call 27; refine (HA.out _).mono ?_; rintro e w1 ⟨rfl, b1⟩; have B1 := Lib.hid b1; clear b1; refine Hid.out ?_)
      refine Lib.hid ?_
      go_wp2_with (go_at_call 27; refine (HB.out _).mono ?_; rintro e w2 ⟨rfl, b2⟩; have B2 := Lib.hid b2; clear b2)
      go_ret2
      exact ⟨rfl, B1.out.trans (B2.out.mono B1.out.size)⟩
    | some y =>
      rw [show optM none = -1 from rfl] at HA
      rw [show optM (Option.some y) = y from rfl] at HB
      have dy := not_lt (rb y rfl).1
      have hy := (rb y rfl).2
      have hy0 := (rb y rfl).1
      clear hoa hob ra rb
      go_enter Tryd.func13, Tryd.ntmps13
      go_wp2_with (go_at_call 27; refine (HA.out _).mono ?_; rintro e w1 ⟨rfl, b1⟩; have B1 := Lib.hid b1; clear b1; refine Hid.out ?_)
      refine Lib.hid ?_
      go_wp2_with (go_at_call 27; refine (HB.out _).mono ?_; rintro e w2 ⟨rfl, b2⟩; have B2 := Lib.hid b2; clear b2)
      go_ret2
      exact ⟨rfl, B1.out.trans (B2.out.mono B1.out.size)⟩
  | some x =>
    cases p with
    | none =>
      rw [show optM (Option.some x) = x from rfl] at HA
      rw [show optM none = -1 from rfl] at HB
      have dx := not_lt (ra x rfl).1
      have hx := (ra x rfl).2
      have hx0 := (ra x rfl).1
      clear hoa hob ra rb
      go_enter Tryd.func13, Tryd.ntmps13
      go_wp2_with (go_at_call 27; refine (HA.out _).mono ?_; rintro e w1 ⟨rfl, b1⟩; have B1 := Lib.hid b1; clear b1; refine Hid.out ?_)
      refine Lib.hid ?_
      go_wp2_with (go_at_call 27; refine (HB.out _).mono ?_; rintro e w2 ⟨rfl, b2⟩; have B2 := Lib.hid b2; clear b2)
      go_ret2
      exact ⟨rfl, B1.out.trans (B2.out.mono B1.out.size)⟩
    | some y =>
      rw [show optM (Option.some x) = x from rfl] at HA
      rw [show optM (Option.some y) = y from rfl] at HB
      have dx := not_lt (ra x rfl).1
      have hx := (ra x rfl).2
      have hx0 := (ra x rfl).1
      have dy := not_lt (rb y rfl).1
      have hy := (rb y rfl).2
      have hy0 := (rb y rfl).1
      clear hoa hob ra rb
      go_enter Tryd.func13, Tryd.ntmps13
      go_wp2_with (go_at_call 27; refine (HA.out _).mono ?_; rintro e w1 ⟨rfl, b1⟩; have B1 := Lib.hid b1; clear b1; refine Hid.out ?_)
      refine Lib.hid ?_
      go_wp2_with (go_at_call 27; refine (HB.out _).mono ?_; rintro e w2 ⟨rfl, b2⟩; have B2 := Lib.hid b2; clear b2)
      go_wp2_with (go_at_call 30; refine (l1Sign_any (x - y) _).mono ?_; rintro e w' ⟨rfl, rfl⟩)
      go_ret2
      exact ⟨rfl, B1.out.trans (B2.out.mono B1.out.size)⟩
end Go.Proofs.YtniggnjnpapkeaaDoor
