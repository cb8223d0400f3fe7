/- SameTokens: contracts, program and model. -/
import Derived.Test.YtdmcgjohpnojkaaDoorTku
namespace Go.Proofs.YtdmcgjohpnojkaaDoor
set_option maxRecDepth 100000
open Go.RowKit
set_option linter.unusedVariables false

/-- what SameTokens answers -/
def smO (s t : ByteArray) : Bool := flO s && flO t
def smR (s t : ByteArray) : Bool := smO s t && sameL (tkT s).l (tkT t).l
theorem smR_no {s t : ByteArray} (h : smO s t = false) : smR s t = false := by unfold smR; rw [h]; rfl
theorem smR_yes {s t : ByteArray} (h : smO s t = true) : smR s t = sameL (tkT s).l (tkT t).l := by unfold smR; rw [h]; rfl
def SaysBB (w : World) (a b : Bool) (e : Ending) (w' : World) : Prop := e = .returned (.tuple #[.bool a, .bool b]) ∧ Below w.heap.size w w'
set_option maxHeartbeats 1600000 in
theorem implSame_any (s t : ByteArray) (w : World) (hT : Hid (Tabs w)) : Calls Tryd.prog 17 #[.string s, .string t] w (SaysBB w (smR s t) (smO s t)) := by
  have HA := Lib.hid (fun w hT => faultless_any s w hT)
  have HB := Lib.hid (fun w hT => faultless_any t w hT)
  have hl1 := tkT_len s
  have HO : Hid (smO s t = (flO s && flO t)) := Lib.hid rfl
  have HN := Lib.hid (fun h => smR_no (s := s) (t := t) h)
  have HY := Lib.hid (fun h => smR_yes (s := s) (t := t) h)
  obtain ⟨l, hl⟩ : ∃ l, (tkT s).l = l := ⟨_, rfl⟩
  obtain ⟨m, hm⟩ : ∃ m, (tkT t).l = m := ⟨_, rfl⟩
  obtain ⟨o, ho⟩ : ∃ o, flO s = o := ⟨_, rfl⟩
  obtain ⟨o', ho'⟩ : ∃ o, flO t = o := ⟨_, rfl⟩
  rw [hl] at HA HY hl1
  rw [hm] at HB HY
  rw [ho] at HA HO
  rw [ho'] at HB HO
  clear ho ho' hl hm
  have hl2 : l.length ≤ 1048576 := Nat.le_trans hl1 (by omega)
  have HE := Lib.hid (fun v v' w h h' => equalFunc_any v v' l m w h h' hl2)
  cases o
  · have HX : Hid (smR s t = false ∧ smO s t = false) := Lib.hid ⟨HN.out (by rw [HO.out]; rfl), by rw [HO.out]; rfl⟩
    go_enter Tryd.func17, Tryd.ntmps17
    go_wp2_with (go_at_call 45; refine (HA.out _ hT).mono ?_; rintro e w1 ⟨v, rfl, o1, b1⟩; have B1 := Lib.hid b1; have O1 := Lib.hid o1; have T1 := Lib.hid (hT.out.below b1); clear b1 o1; refine Hid.out ?_)
    refine Lib.hid ?_
    go_wp2_with (go_at_call 45; refine (HB.out _ T1).mono ?_; rintro e w2 ⟨v', rfl, o2, b2⟩; have B2 := Lib.hid b2; have O2 := Lib.hid o2; clear b2 o2)
    go_ret2
    exact ⟨ret_pair (by rw [HX.out.1]; rfl) (by rw [HX.out.2]; rfl), B1.out.trans (B2.out.mono B1.out.size)⟩
  · cases o'
    · have HX : Hid (smR s t = false ∧ smO s t = false) := Lib.hid ⟨HN.out (by rw [HO.out]; rfl), by rw [HO.out]; rfl⟩
      go_enter Tryd.func17, Tryd.ntmps17
      go_wp2_with (go_at_call 45; refine (HA.out _ hT).mono ?_; rintro e w1 ⟨v, rfl, o1, b1⟩; have B1 := Lib.hid b1; have O1 := Lib.hid o1; have T1 := Lib.hid (hT.out.below b1); clear b1 o1; refine Hid.out ?_)
      refine Lib.hid ?_
      go_wp2_with (go_at_call 45; refine (HB.out _ T1).mono ?_; rintro e w2 ⟨v', rfl, o2, b2⟩; have B2 := Lib.hid b2; have O2 := Lib.hid o2; clear b2 o2)
      go_ret2
      exact ⟨ret_pair (by rw [HX.out.1]; rfl) (by rw [HX.out.2]; rfl), B1.out.trans (B2.out.mono B1.out.size)⟩
    · have HX : Hid (smR s t = sameL l m ∧ smO s t = true) := Lib.hid ⟨HY.out (by rw [HO.out]; rfl), by rw [HO.out]; rfl⟩
      obtain ⟨r, hr⟩ : ∃ r, sameL l m = r := ⟨_, rfl⟩
      rw [hr] at HX HE
      clear hr
      go_enter Tryd.func17, Tryd.ntmps17
      go_wp2_with (go_at_call 45; refine (HA.out _ hT).mono ?_; rintro e w1 ⟨v, rfl, o1, b1⟩; have B1 := Lib.hid b1; have O1 := Lib.hid o1; have T1 := Lib.hid (hT.out.below b1); clear b1 o1; refine Hid.out ?_)
      refine Lib.hid ?_
      go_wp2_with (go_at_call 45; refine (HB.out _ T1).mono ?_; rintro e w2 ⟨v', rfl, o2, b2⟩; have B2 := Lib.hid b2; have S2 := Lib.hid (O1.out.slt.below b2); have S2' := Lib.hid o2.slt; clear b2 o2)
      go_wp2_with (go_at_call 48; refine (HE.out v v' _ S2 S2').mono ?_; rintro e w3 ⟨rfl, b3⟩; have B3 := Lib.hid b3; clear b3)
      go_ret2
      exact ⟨ret_pair (by rw [HX.out.1]; rfl) (by rw [HX.out.2]; rfl), (B1.out.trans (B2.out.mono B1.out.size)).trans (B3.out.mono (Nat.le_trans B1.out.size B2.out.size))⟩
end Go.Proofs.YtdmcgjohpnojkaaDoor
