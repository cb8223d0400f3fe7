/- SameTokens: contracts, program and model. -/
import Derived.Test.YtnenfpbiobmlcaaDoorTku
namespace Go.Proofs.YtnenfpbiobmlcaaDoor
set_option maxRecDepth 100000
open Go.RowKit
set_option linter.unusedVariables false

/-- what SameTokens answers -/
def smO (s t : ByteArray) : Bool := flO s && flO t
def smR (s t : ByteArray) : Bool := smO s t && sameL (tkT s).l (tkT t).l
theorem smR_no {s t : ByteArray} (h : smO s t = false) : smR s t = false := by unfold smR; rw [h]; rfl
theorem smR_yes {s t : ByteArray} (h : smO s t = true) : smR s t = sameL (tkT s).l (tkT t).l := by unfold smR; rw [h]; rfl
def SaysBB (w : World) (a b : Bool) (e : Ending) (w' : World) : Prop := e = .returned (.tuple #[.bool a, .bool b]) ∧ Below w.heap.size w w'
set_option maxHeartbeats 1600000 in
theorem implSame_any (s t : ByteArray) (w : World) (hT : Hid (Tabs w)) : Calls Tryd.prog 39 #[.string s, .string t] w (SaysBB w (smR s t) (smO s t)) := by
  have HA := Lib.hid (fun w hT => faultless_any s w hT)
  have HB := Lib.hid (fun w hT => faultless_any t w hT)
  have hl1 := tkT_len s
  have HO : Hid (smO s t = (flO s && flO t)) := Lib.hid rfl
  have HN := Lib.hid (fun h => smR_no (s := s) (t := t) h)
  have HY := Lib.hid (fun h => smR_yes (s := s) (t := t) h)
  obtain ⟨l, hl⟩ : ∃ l, (tkT s).l = l := ⟨_, rfl⟩
  obtain ⟨m, hm⟩ : ∃ m, (tkT t).l = m := ⟨_, rfl⟩
  obtain ⟨o, ho⟩ : ∃ o, flO s = o := ⟨_, rfl⟩
  obtain ⟨o', ho'⟩ : ∃ o, flO t = o := ⟨_, rfl⟩
  rw [hl] at HA HY hl1
  rw [hm] at HB HY
  rw [ho] at HA HO
  rw [ho'] at HB HO
  clear ho ho' hl hm
  have hl2 : l.length ≤ 1048576 := Nat.le_trans hl1 (by omega)
  have HE := Lib.hid (fun v v' w h h' => equalFunc_any v v' l m w h h' hl2)
  cases o
  · have HX : Hid (smR s t = false ∧ smO s t = false) := Lib.hid ⟨HN.out (by rw [HO.out]; rfl), by rw [HO.out]; rfl⟩
    go_enter Tryd.func39, Tryd.ntmps39
    go_wp2_with (go_at_call 58; refine (HA.out _ hT).mono ?_; rintro e w1 ⟨v, rfl, o1, b1⟩; have B1 := Lib.hid b1; have O1 := Lib.hid o1; have T1 := Lib.hid (hT.out.below b1); clear b1 o1; refine Hid.out ?_)
    refine Lib.hid ?_
    go_wp2_with (go_at_call 58; refine (HB.out _ T1).mono ?_; rintro e w2 ⟨v', rfl, o2, b2⟩; have B2 := Lib.hid b2; have O2 := Lib.hid o2; clear b2 o2)
    go_ret2
    exact ⟨ret_pair (by rw [HX.out.1]; rfl) (by rw [HX.out.2]; rfl), B1.out.trans (B2.out.mono B1.out.size)⟩
  · cases o'
    · have HX : Hid (smR s t = false ∧ smO s t = false) := Lib.hid ⟨HN.out (by rw [HO.out]; rfl), by rw [HO.out]; rfl⟩
      go_enter Tryd.func39, Tryd.ntmps39
      go_wp2_with (go_at_call 58; refine (HA.out _ hT).mono ?_; rintro e w1 ⟨v, rfl, o1, b1⟩; have B1 := Lib.hid b1; have O1 := Lib.hid o1; have T1 := Lib.hid (hT.out.below b1); clear b1 o1; refine Hid.out ?_)
      refine Lib.hid ?_
      go_wp2_with (go_at_call 58; refine (HB.out _ T1).mono ?_; rintro e w2 ⟨v', rfl, o2, b2⟩; have B2 := Lib.hid b2; have O2 := Lib.hid o2; clear b2 o2)
      go_ret2
      exact ⟨ret_pair (by rw [HX.out.1]; rfl) (by rw [HX.out.2]; rfl), B1.out.trans (B2.out.mono B1.out.size)⟩
    · have HX : Hid (smR s t = sameL l m ∧ smO s t = true) := Lib.hid ⟨HY.out (by rw [HO.out]; rfl), by rw [HO.out]; rfl⟩
      obtain ⟨r, hr⟩ : ∃ r, sameL l m = r := ⟨_, rfl⟩
      rw [hr] at HX HE
      clear hr
      go_enter Tryd.func39, Tryd.ntmps39
      go_wp2_with (go_at_call 58; refine (HA.out _ hT).mono ?_; rintro e w1 ⟨v, rfl, o1, b1⟩; have B1 := Lib.hid b1; have O1 := Lib.hid o1; have T1 := Lib.hid (hT.out.below b1); clear b1 o1; refine Hid.out ?_)
      refine Lib.hid ?_
      go_wp2_with (go_at_call 58; refine (HB.out _ T1).mono ?_; rintro e w2 ⟨v', rfl, o2, b2⟩; have B2 := Lib.hid b2; have S2 := Lib.hid (O1.out.slt.below b2); have S2' := Lib.hid o2.slt; clear b2 o2)
      go_wp2_with (go_at_call 60; refine (HE.out v v' _ S2 S2').mono ?_; rintro e w3 ⟨rfl, b3⟩; have B3 := Lib.hid b3; clear b3)
      go_ret2
      exact ⟨ret_pair (by rw [HX.out.1]; rfl) (by rw [HX.out.2]; rfl), (B1.out.trans (B2.out.mono B1.out.size)).trans (B3.out.mono (Nat.le_trans B1.out.size B2.out.size))⟩
set_option maxHeartbeats 3200000 in
theorem specSame_any (s t : ByteArray) (w : World) : Calls Tryd.prog 38 #[.string s, .string t] w (SaysBB w (smR s t) (smO s t)) := by
  have HA := Lib.hid (fun w => specTokensOf_any s w)
  have HB := Lib.hid (fun w => specTokensOf_any t w)
  have hl1 := tkT_len s
  have HO : Hid (smO s t = ((tkO s && ((tkT s).f == 0)) && (tkO t && ((tkT t).f == 0)))) := Lib.hid rfl
  have HN := Lib.hid (fun h => smR_no (s := s) (t := t) h)
  have HY := Lib.hid (fun h => smR_yes (s := s) (t := t) h)
  obtain ⟨R, hR⟩ : ∃ R, tkT s = R := ⟨_, rfl⟩
  obtain ⟨R', hR'⟩ : ∃ R, tkT t = R := ⟨_, rfl⟩
  obtain ⟨o, ho⟩ : ∃ o, tkO s = o := ⟨_, rfl⟩
  obtain ⟨o', ho'⟩ : ∃ o, tkO t = o := ⟨_, rfl⟩
  rw [hR] at HA HY hl1 HO
  rw [hR'] at HB HY HO
  rw [ho] at HA HO
  rw [ho'] at HB HO
  clear ho ho' hR hR'
  obtain ⟨l, f, g⟩ := R
  obtain ⟨m, f', g'⟩ := R'
  have hl2 : l.length ≤ 1048576 := Nat.le_trans hl1 (by omega)
  have HE := Lib.hid (fun v v' w h h' => tkSame_any v v' l m w h h' hl2)
  by_cases hgo : o = true ∧ o' = true ∧ f = 0 ∧ f' = 0
  · obtain ⟨rfl, rfl, rfl, rfl⟩ := hgo
    have HX : Hid (smR s t = sameL l m ∧ smO s t = true) := Lib.hid ⟨HY.out (by rw [HO.out]; rfl), by rw [HO.out]; rfl⟩
    obtain ⟨r, hr⟩ : ∃ r, sameL l m = r := ⟨_, rfl⟩
    rw [hr] at HX HE
    clear hr
    go_enter Tryd.func38, Tryd.ntmps38
    go_wp2_with (go_at_call 18; refine (HA.out _).mono ?_; rintro e w1 ⟨v, rfl, o1, b1⟩; have B1 := Lib.hid b1; have O1 := Lib.hid o1; clear b1 o1; refine Hid.out ?_)
    refine Lib.hid ?_
    go_wp2_with fail
    obtain ⟨wa, hwa⟩ : ∃ wa, w1.alloc (.cells #[.int .i64 0, .int .i64 g] 26) = wa := ⟨_, rfl⟩
    rw [hwa]
    have PA := Lib.hid (two_cells hwa)
    have BA := Lib.hid (B1.out.trans (PA.out.2.1.mono B1.out.size))
    have SA := Lib.hid (O1.out.slt.below PA.out.2.1)
    clear hwa
    go_wp2_with (go_at_call 18; refine (HB.out _).mono ?_; rintro e w2 ⟨v', rfl, o2, b2⟩; obtain ⟨c0, c1⟩ := PA.out.1.below b2 PA.out.2.2; have B2 := Lib.hid (BA.out.trans (b2.mono BA.out.size)); have S2 := Lib.hid (SA.out.below b2); have O2 := Lib.hid o2.slt; have C2 := bcell (one_new2 w2 (.cells #[.int .i64 0, .int .i64 g'] 26)); have e0 := (C2.1 w1.heap.size 0 (Nat.lt_of_lt_of_le PA.out.2.2 b2.size)).trans c0; clear C2 b2 o2)
    go_wp2_with (go_at_call 59; refine (HE.out v v' _ (S2.out.below (one_new2 _ _)) (O2.out.below (one_new2 _ _))).mono ?_; rintro e w3 ⟨rfl, b3⟩; have B3 := Lib.hid ((one_new2 _ _).trans (b3.mono (one_new2 _ _).size)); clear b3)
    go_ret2
    exact ⟨ret_pair (by rw [HX.out.1]; rfl) (by rw [HX.out.2]; rfl), B2.out.trans (B3.out.mono B2.out.size)⟩
  · have HG := Lib.hid hgo
    have HX : Hid (smR s t = false ∧ smO s t = false) := Lib.hid (by
      have h0 : smO s t = false := by
        rw [HO.out, Bool.eq_false_iff]
        intro q
        simp at q
        exact hgo ⟨q.1.1, q.2.1, q.1.2, q.2.2⟩
      exact ⟨HN.out h0, h0⟩)
    clear hgo HN HY HE HO
    cases o
    · skip
      go_enter Tryd.func38, Tryd.ntmps38
      go_wp2_with (go_at_call 18; refine (HA.out _).mono ?_; rintro e w1 ⟨v, rfl, o1, b1⟩; have B1 := Lib.hid b1; clear b1 o1; refine Hid.out ?_)
      refine Lib.hid ?_
      go_wp2_with fail
      obtain ⟨wa, hwa⟩ : ∃ wa, w1.alloc (.cells #[.int .i64 f, .int .i64 g] 26) = wa := ⟨_, rfl⟩
      rw [hwa]
      have PA := Lib.hid (two_cells hwa)
      have BA := Lib.hid (B1.out.trans (PA.out.2.1.mono B1.out.size))
      clear hwa
      go_wp2_with (go_at_call 18; refine (HB.out _).mono ?_; rintro e w2 ⟨v', rfl, o2, b2⟩; obtain ⟨c0, c1⟩ := PA.out.1.below b2 PA.out.2.2; have B2 := Lib.hid (BA.out.trans (b2.mono BA.out.size)); have C2 := bcell (one_new2 w2 (.cells #[.int .i64 f', .int .i64 g'] 26)); have e0 := (C2.1 w1.heap.size 0 (Nat.lt_of_lt_of_le PA.out.2.2 b2.size)).trans c0; clear C2 b2 o2)
      go_ret2
      exact ⟨ret_pair (by rw [HX.out.1]; rfl) (by rw [HX.out.2]; rfl), B2.out.alloc B2.out.size _⟩
    · cases o'
      · skip
        go_enter Tryd.func38, Tryd.ntmps38
        go_wp2_with (go_at_call 18; refine (HA.out _).mono ?_; rintro e w1 ⟨v, rfl, o1, b1⟩; have B1 := Lib.hid b1; clear b1 o1; refine Hid.out ?_)
        refine Lib.hid ?_
        go_wp2_with fail
        obtain ⟨wa, hwa⟩ : ∃ wa, w1.alloc (.cells #[.int .i64 f, .int .i64 g] 26) = wa := ⟨_, rfl⟩
        rw [hwa]
        have PA := Lib.hid (two_cells hwa)
        have BA := Lib.hid (B1.out.trans (PA.out.2.1.mono B1.out.size))
        clear hwa
        go_wp2_with (go_at_call 18; refine (HB.out _).mono ?_; rintro e w2 ⟨v', rfl, o2, b2⟩; obtain ⟨c0, c1⟩ := PA.out.1.below b2 PA.out.2.2; have B2 := Lib.hid (BA.out.trans (b2.mono BA.out.size)); have C2 := bcell (one_new2 w2 (.cells #[.int .i64 f', .int .i64 g'] 26)); have e0 := (C2.1 w1.heap.size 0 (Nat.lt_of_lt_of_le PA.out.2.2 b2.size)).trans c0; clear C2 b2 o2)
        go_ret2
        exact ⟨ret_pair (by rw [HX.out.1]; rfl) (by rw [HX.out.2]; rfl), B2.out.alloc B2.out.size _⟩
      · by_cases hf : f = 0
        · have df : (f' != 0) = true := by
            have := HG.out
            by_cases q : f' = 0
            · exact absurd ⟨rfl, rfl, hf, q⟩ this
            · simpa using q
          subst hf
          clear HG
          go_enter Tryd.func38, Tryd.ntmps38
          go_wp2_with (go_at_call 18; refine (HA.out _).mono ?_; rintro e w1 ⟨v, rfl, o1, b1⟩; have B1 := Lib.hid b1; clear b1 o1; refine Hid.out ?_)
          refine Lib.hid ?_
          go_wp2_with fail
          obtain ⟨wa, hwa⟩ : ∃ wa, w1.alloc (.cells #[.int .i64 0, .int .i64 g] 26) = wa := ⟨_, rfl⟩
          rw [hwa]
          have PA := Lib.hid (two_cells hwa)
          have BA := Lib.hid (B1.out.trans (PA.out.2.1.mono B1.out.size))
          clear hwa
          go_wp2_with (go_at_call 18; refine (HB.out _).mono ?_; rintro e w2 ⟨v', rfl, o2, b2⟩; obtain ⟨c0, c1⟩ := PA.out.1.below b2 PA.out.2.2; have B2 := Lib.hid (BA.out.trans (b2.mono BA.out.size)); have C2 := bcell (one_new2 w2 (.cells #[.int .i64 f', .int .i64 g'] 26)); have e0 := (C2.1 w1.heap.size 0 (Nat.lt_of_lt_of_le PA.out.2.2 b2.size)).trans c0; clear C2 b2 o2)
          go_ret2
          exact ⟨ret_pair (by rw [HX.out.1]; rfl) (by rw [HX.out.2]; rfl), B2.out.alloc B2.out.size _⟩
        · have df : (f != 0) = true := by simpa using hf
          clear hf HG
          go_enter Tryd.func38, Tryd.ntmps38
          go_wp2_with (go_at_call 18; refine (HA.out _).mono ?_; rintro e w1 ⟨v, rfl, o1, b1⟩; have B1 := Lib.hid b1; clear b1 o1; refine Hid.out ?_)
          refine Lib.hid ?_
          go_wp2_with fail
          obtain ⟨wa, hwa⟩ : ∃ wa, w1.alloc (.cells #[.int .i64 f, .int .i64 g] 26) = wa := ⟨_, rfl⟩
          rw [hwa]
          have PA := Lib.hid (two_cells hwa)
          have BA := Lib.hid (B1.out.trans (PA.out.2.1.mono B1.out.size))
          clear hwa
          go_wp2_with (go_at_call 18; refine (HB.out _).mono ?_; rintro e w2 ⟨v', rfl, o2, b2⟩; obtain ⟨c0, c1⟩ := PA.out.1.below b2 PA.out.2.2; have B2 := Lib.hid (BA.out.trans (b2.mono BA.out.size)); have C2 := bcell (one_new2 w2 (.cells #[.int .i64 f', .int .i64 g'] 26)); have e0 := (C2.1 w1.heap.size 0 (Nat.lt_of_lt_of_le PA.out.2.2 b2.size)).trans c0; clear C2 b2 o2)
          go_ret2
          exact ⟨ret_pair (by rw [HX.out.1]; rfl) (by rw [HX.out.2]; rfl), B2.out.alloc B2.out.size _⟩
end Go.Proofs.YtnenfpbiobmlcaaDoor
