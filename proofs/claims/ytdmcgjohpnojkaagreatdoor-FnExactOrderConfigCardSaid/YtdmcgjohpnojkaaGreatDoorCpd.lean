/- The program's checks: the tree of the classes, the marks of parents, limits, targets, and all at once. -/
import Derived.Test.YtdmcgjohpnojkaaGreatDoorCpc
import Derived.Test.YtdmcgjohpnojkaaGreatDoorKwl
import Derived.Laws.Rows
namespace Go.Proofs.YtdmcgjohpnojkaaGreatDoor
set_option maxRecDepth 100000
open Go.RowKit
set_option linter.unusedVariables false

def TopRel (w : World) (n : Nat) (cs : List Cls) (B : Bool) (t i : Value) (wr : World) : Prop :=
  ∃ k : Nat, k ≤ n ∧ i = .int .i64 k ∧ t = .int .i64 (cT (cs.take k) : Nat) ∧ Below w.heap.size w wr ∧ Hid (fromK (fun k => parOk cs (cs.getD k cls0)) n k = B)
theorem par_top {cs : List Cls} {x : Cls} (h : x.p = 0) : parOk cs x = true := by unfold parOk; rw [h]; rfl
theorem par_found {cs : List Cls} {x : Cls} {j : Nat} (h : fnd cs x.p = Option.some j) : parOk cs x = true := by unfold parOk; rw [h]; simp
theorem par_lost {cs : List Cls} {x : Cls} (hz : x.p ≠ 0) (h : fnd cs x.p = Option.none) : parOk cs x = false := by unfold parOk; rw [h]; simp [hz]
theorem cT_take_le (cs : List Cls) (k : Nat) : cT (cs.take k) ≤ k := Nat.le_trans (cT_le _) (List.length_take_le _ _)
set_option maxHeartbeats 3200000 in
theorem isTree_any (ac : Option Addr) (n cc : Nat) (cs : List Cls) (w : World) (HI : Hid (InX w ac n (clsCs cs))) (hn : Hid (cs.length = n)) (hm : n ≤ 1048576) (hi : Hid (IncC cs)) (h24 : n ≤ 24) :
    Calls Tryz.prog 102 #[(.slice ac n cc)] w (SaysB w (itG cs)) := by
  obtain ⟨B, hB⟩ : ∃ B, fromK (fun k => parOk cs (cs.getD k cls0)) n 0 = B := ⟨_, rfl⟩
  obtain ⟨B2, hB2⟩ : ∃ B2, fromK (fun k => reach cs 7 (cs.getD k cls0)) n 0 = B2 := ⟨_, rfl⟩
  have H0 := Lib.hid hB
  have H2 := Lib.hid hB2
  have HA : Hid (itG cs = (B && ((cT cs == 1) && B2))) := Lib.hid (by unfold itG; rw [hn.out, hB, hB2])
  have HPL := Lib.hid (fun id w HI => placeOf_any ac n cc cs id w HI hn hm hi)
  have HRT := Lib.hid (fun y w HI HPA hy => reachesTop_any ac n cc cs y w HI hn hm hi HPA hy)
  generalize itG cs = R at HA ⊢
  clear hB hB2
  have HC0 : Hid (cT (cs.take 0) = 0) := Lib.hid rfl
  go_enter Tryz.func102, Tryz.ntmps102
  go_wp2_with fail
  go_loopw [3, 12] (fun t i wr => TopRel w n cs B t i wr) (fun _ i _ => n - (intOf i).toNat)
  case atStart => exact ⟨0, Nat.zero_le _, rfl, by rw [HC0.out]; rfl, Below.refl _ _, H0⟩
  case round =>
    obtain ⟨k, hk, rfl, rfl, hb, HP⟩ := hrel
    have HB := Lib.hid hb
    by_cases hlt : k < n
    · obtain ⟨g, rfl, ht, hg⟩ := HI.out (by omega)
      obtain ⟨x, hx⟩ : ∃ x, cs.getD k cls0 = x := ⟨_, rfl⟩
      have hl1 : k < cs.length := by rw [hn.out]; exact hlt
      obtain ⟨a0, a1, a2, a3, a4, a5, a6, a7⟩ := (ht.below hb hg).cls k hl1 x hx
      have HE := Lib.hid (fromK_at (fun k => parOk cs (cs.getD k cls0)) n k hlt)
      have HEx : Hid (parOk cs (cs.getD k cls0) = parOk cs x) := Lib.hid (by rw [hx])
      have HM := Lib.hid (cT_more cs k hl1 x hx)
      have hct := cT_take_le cs k
      have HT := Lib.hid (fun w => isTop_any x w)
      have HPx := Lib.hid (HPL.out x.p)
      have BA := Lib.hid (hb.trans ((one_new2 wr (Obj.cells #[.int .i64 x.i, .int .i64 x.p, .int .i64 x.r, .int .i64 x.e, .int .i64 x.b, .int .i64 x.u, .int .i64 x.o, .int .i64 x.l] 63)).mono hb.size))
      generalize cT (cs.take k) = tk at HM hct
      by_cases hz : x.p = 0
      · have HX := Lib.hid (show fromK (fun k => parOk cs (cs.getD k cls0)) n (k + 1) = B by rw [← HP.out, HE.out, HEx.out, par_top hz, Bool.true_and])
        have HTK : Hid (cT (cs.take (k + 1)) = tk + 1) := Lib.hid (by rw [HM.out, if_pos hz])
        rw [show (x.p == 0) = true by rw [hz]; rfl] at HT
        obtain ⟨xi, xp, xr, xe, xb, xu, xo, xl⟩ := x
        unfold clsV at HT
        simp only at a0 a1 a2 a3 a4 a5 a6 a7 HT BA
        clear hb hx hl1 ht hz
        go_wp2_with (go_at_call 149; refine (HT.out _).mono ?_; rintro e w1 ⟨rfl, b1⟩; have B1 := Lib.hid (BA.out.trans (b1.mono BA.out.size)); clear b1)
        go_roundw
        case rel => exact ⟨k + 1, by omega, by go_num, by rw [HTK.out]; go_num, B1.out, HX⟩
        case measure => simp [intOf]; omega
      · have HTK : Hid (cT (cs.take (k + 1)) = tk) := Lib.hid (by rw [HM.out, if_neg hz]; rfl)
        rw [show (x.p == 0) = false from beq_eq_false_iff_ne.2 hz] at HT
        cases hf : fnd cs x.p with
        | none =>
          have HX : Hid (R = false) := Lib.hid (by rw [HA.out, ← HP.out, HE.out, HEx.out, par_lost hz hf]; rfl)
          rw [plc_of_none hi.out hf] at HPx
          generalize plc cs x.p = pl at HPx
          obtain ⟨xi, xp, xr, xe, xb, xu, xo, xl⟩ := x
          unfold clsV at HT
          simp only at a0 a1 a2 a3 a4 a5 a6 a7 HT BA HPx
          clear hb hx hl1 ht hz hf
          go_wp2_with (go_at_call 149; refine (HT.out _).mono ?_; rintro e w1 ⟨rfl, b1⟩; have B1 := Lib.hid (BA.out.trans (b1.mono BA.out.size)); obtain ⟨c0, c1, c2, c3, c4, c5, c6, c7⟩ := (box_eight b1).1; clear b1)
          go_wp2_with (go_at_call 76; refine (HPx.out _ (Lib.hid (HI.out.below B1.out))).mono ?_; rintro e w2 ⟨rfl, b2⟩; have B2' := Lib.hid (B1.out.trans (b2.mono B1.out.size)); clear b2)
          go_ret
          exact ⟨ret_bool HX.out.symm, B2'.out⟩
        | some j =>
          have HX := Lib.hid (show fromK (fun k => parOk cs (cs.getD k cls0)) n (k + 1) = B by rw [← HP.out, HE.out, HEx.out, par_found hf, Bool.true_and])
          rw [(plc_of_fnd hi.out hf).1, (plc_of_fnd hi.out hf).2] at HPx
          obtain ⟨xi, xp, xr, xe, xb, xu, xo, xl⟩ := x
          unfold clsV at HT
          simp only at a0 a1 a2 a3 a4 a5 a6 a7 HT BA HPx
          clear hb hx hl1 ht hz hf
          go_wp2_with (go_at_call 149; refine (HT.out _).mono ?_; rintro e w1 ⟨rfl, b1⟩; have B1 := Lib.hid (BA.out.trans (b1.mono BA.out.size)); obtain ⟨c0, c1, c2, c3, c4, c5, c6, c7⟩ := (box_eight b1).1; clear b1)
          go_wp2_with (go_at_call 76; refine (HPx.out _ (Lib.hid (HI.out.below B1.out))).mono ?_; rintro e w2 ⟨rfl, b2⟩; have B2' := Lib.hid (B1.out.trans (b2.mono B1.out.size)); clear b2)
          go_roundw
          case rel => exact ⟨k + 1, by omega, by go_num, by rw [HTK.out], B2'.out, HX⟩
          case measure => simp [intOf]; omega
    · have hkn : k = n := by omega
      subst hkn
      have HPA : Hid (B = true) := Lib.hid (by rw [← HP.out, fromK_end _ k k (Nat.le_refl _)])
      have HPB : Hid (ParAll cs) := Lib.hid (fun j hj => (fromK_iff _ k).1 (by rw [H0.out, HPA.out]) j (by rw [← hn.out]; exact hj))
      have hcl := cT_take_le cs k
      have HCT : Hid (cT (cs.take k) = cT cs) := Lib.hid (by rw [List.take_of_length_le (by rw [hn.out]; exact Nat.le_refl _)])
      generalize cT (cs.take k) = tk at HCT hcl
      clear hb hk
      by_cases h1 : tk = 1
      · have d1 : ((tk : Int) == 1) = true := by simp [h1]
        have d1n : ((tk : Int) != 1) = false := by simp [h1]
        have HRR : Hid (R = B2) := Lib.hid (by rw [HA.out, HPA.out, ← HCT.out, h1]; rfl)
        clear h1
        go_wp2_with fail
        go_loopw [34] (fun i wr => AllRel w k (fun k => reach cs 7 (cs.getD k cls0)) B2 i wr) (fun i _ => k - (intOf i).toNat)
        case atStart => exact ⟨0, Nat.zero_le _, rfl, HB.out, H2⟩
        case round =>
          obtain ⟨q, hq, rfl, hb, HP2⟩ := hrel
          have HB2 := Lib.hid hb
          by_cases hlt : q < k
          · obtain ⟨g, rfl, ht, hg⟩ := HI.out (by omega)
            obtain ⟨x, hx⟩ : ∃ x, cs.getD q cls0 = x := ⟨_, rfl⟩
            have hl1 : q < cs.length := by rw [hn.out]; exact hlt
            obtain ⟨a0, a1, a2, a3, a4, a5, a6, a7⟩ := (ht.below hb hg).cls q hl1 x hx
            have HE := Lib.hid (fromK_at (fun k => reach cs 7 (cs.getD k cls0)) k q hlt)
            have HEx : Hid (reach cs 7 (cs.getD q cls0) = reach cs 7 x) := Lib.hid (by rw [hx])
            have HPX : Hid (parOk cs x = true) := Lib.hid (by rw [← hx]; exact HPB.out q hl1)
            have HS := Lib.hid (fun w HI => HRT.out x w HI HPB HPX.out)
            have BA := Lib.hid (hb.trans ((one_new2 wr (Obj.cells #[.int .i64 x.i, .int .i64 x.p, .int .i64 x.r, .int .i64 x.e, .int .i64 x.b, .int .i64 x.u, .int .i64 x.o, .int .i64 x.l] 63)).mono hb.size))
            clear hb hx hl1 ht
            rcases Bool.eq_false_or_eq_true (reach cs 7 x) with hr | hr
            · have HX := Lib.hid (show fromK (fun k => reach cs 7 (cs.getD k cls0)) k (q + 1) = B2 by rw [← HP2.out, HE.out, HEx.out, hr, Bool.true_and])
              rw [hr] at HS
              obtain ⟨xi, xp, xr, xe, xb, xu, xo, xl⟩ := x
              unfold clsV at HS
              simp only at a0 a1 a2 a3 a4 a5 a6 a7 HS BA
              clear hr HE HEx
              go_wp2_with (go_at_call 150; refine (HS.out _ (Lib.hid (HI.out.below BA.out))).mono ?_; rintro e w1 ⟨rfl, b1⟩; have B1 := Lib.hid (BA.out.trans (b1.mono BA.out.size)); clear b1)
              go_roundw
              case rel => exact ⟨q + 1, by omega, by go_num, B1.out, HX⟩
              case measure => simp [intOf]; omega
            · have HX : Hid (R = false) := Lib.hid (by rw [HRR.out, ← HP2.out, HE.out, HEx.out, hr, Bool.false_and])
              rw [hr] at HS
              obtain ⟨xi, xp, xr, xe, xb, xu, xo, xl⟩ := x
              unfold clsV at HS
              simp only at a0 a1 a2 a3 a4 a5 a6 a7 HS BA
              clear hr HE HEx
              go_wp2_with (go_at_call 150; refine (HS.out _ (Lib.hid (HI.out.below BA.out))).mono ?_; rintro e w1 ⟨rfl, b1⟩; have B1 := Lib.hid (BA.out.trans (b1.mono BA.out.size)); clear b1)
              go_ret
              exact ⟨ret_bool HX.out.symm, B1.out⟩
          · have HX : Hid (true = R) := Lib.hid (by rw [HRR.out, ← HP2.out, fromK_end _ k q (by omega)])
            clear hb
            go_wp2_with fail
            go_ret
            exact ⟨ret_bool HX.out, HB2.out⟩
      · have d1 : ((tk : Int) == 1) = false := by simp; omega
        have HX : Hid (R = false) := Lib.hid (by rw [HA.out, ← HCT.out, beq_eq_false_iff_ne.2 h1, Bool.false_and, Bool.and_false])
        clear h1
        go_wp2_with fail
        go_ret
        exact ⟨ret_bool HX.out.symm, HB.out⟩
end Go.Proofs.YtdmcgjohpnojkaaGreatDoor
