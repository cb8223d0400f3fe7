/- For every bytes that FnTrees draws from: ways up lead to the top, children and ways agree, spare Rates and the children's are the Rate, and of two classes one at most is below the other: the law FnTrees returns true. The table of key words starts as the program's text lays it (the card ties it). No other condition. -/
import Derived.Test.YthgbhnedfdnfpaaDoorCards
import Derived.Test.YthgbhnedfdnfpaaDoorTie
import Derived.Test.YthgbhnedfdnfpaaDoorPkb
import Derived.Test.YthgbhnedfdnfpaaDoorPkzi
import Derived.Test.YthgbhnedfdnfpaaDoorPkzl
import Derived.Test.YthgbhnedfdnfpaaDoorPkzp
import Derived.ProofKit
import Derived.OpenShut
import Derived.ShutString
import Derived.ChangeOld
import Derived.ChangeVars
import Derived.Deep.DeepHandedRow
import Derived.Deep.CutRange
import Derived.Deep.RegionHeld3
namespace Go.Proofs.YthgbhnedfdnfpaaDoor.fnTrees
set_option maxRecDepth 100000
open Go.ChangeShapes Go.WideShapes Go.ChangeAt Go.RowKit
set_option linter.unusedVariables false
set_option linter.unusedSimpArgs false

theorem four_new (w : World) (a0 a1 a2 a3 : Value) (T : TypeId) : FourIs (w.alloc (.cells #[a0, a1, a2, a3] T)) w.heap.size a0 a1 a2 a3 := (box_four (Below.refl _ _)).1
set_option maxRecDepth 100000 in
set_option maxHeartbeats 25600000 in
theorem walk_in (a0 a1 : Option Addr) (n0 n1 cap0 cap1 : Nat) (ys0 ys1 : List Int) (w : World) (HT : Hid (Kwt w)) (HL0 : Hid (ys0.length = n0)) (HI0 : Hid (In w a0 ys0)) (HL1 : Hid (ys1.length = n1)) (HI1 : Hid (In w a1 ys1)) (h0 : n0 ≤ 9223372036854775807) (h1 : n1 ≤ 9223372036854775807) (d : decide ((1048576 : Int) < wrap64 ((n0 : Int) + n1)) = false) :
    Calls Tryd.prog 3 #[.slice a0 n0 cap0, .slice a1 n1 cap1] w fun e w' => e = .returned (.bool true) ∧ Below w.heap.size w w' := by
  go_enter Tryd.func3, Tryd.ntmps3
  go_upto_region 4 with (go_at_call 4; refine (drawWayUp_any _ _ _ _ _ HL0 HI0 h0).mono ?_; rintro e v1 ⟨v, c, q, rfl, oc, hc25, hf17, hs9, hq0, hq1, b⟩; obtain ⟨ac, cc, af, cf, rfl, _, _, _⟩ := own_cfg_parts oc; have T := Lib.hid b; have CV := Lib.hid oc.cfg; clear oc b)
  obtain ⟨s, L, F, d⟩ := c
  simp only at CV hc25 hf17 hs9 hq1
  simp only
  obtain ⟨wa, hwa⟩ : ∃ u, v1.alloc (.cells #[.string s, .slice ac L.length cc, .slice af F.length cf, .int .i64 d] 26) = u := ⟨_, rfl⟩
  have bn : Below v1.heap.size v1 wa := by rw [← hwa]; exact one_new2 _ _
  have BO : Hid (FourIs wa v1.heap.size (.string s) (.slice ac L.length cc) (.slice af F.length cf) (.int .i64 d)) := Lib.hid (by rw [← hwa]; exact four_new _ _ _ _ _ _)
  rw [hwa]
  have T := Lib.hid (T.out.trans (bn.mono T.out.size))
  have CV := Lib.hid (CV.out.below bn)
  obtain ⟨bx, hbx⟩ : ∃ u, v1.heap.size = u := ⟨_, rfl⟩
  rw [hbx] at BO ⊢
  clear hwa bn hbx
  have M : Hid (CfgM ⟨s, L, F, d⟩) := Lib.hid ⟨by simp only; omega, by simp only; omega, by simp only; omega⟩
  have I0 := Lib.hid (fun w hk h => implWayUp_any (.agg #[.string s, .slice ac L.length cc, .slice af F.length cf, .int .i64 d]) ⟨s, L, F, d⟩ q w hk h M)
  have S0 := Lib.hid (fun w h => specWayUp_any (.agg #[.string s, .slice ac L.length cc, .slice af F.length cf, .int .i64 d]) ⟨s, L, F, d⟩ q w h M)
  have I1 := Lib.hid (fun w hk h => implChildClasses_any (.agg #[.string s, .slice ac L.length cc, .slice af F.length cf, .int .i64 d]) ⟨s, L, F, d⟩ q w hk h M)
  have S1 := Lib.hid (fun w h => specChildClasses_any (.agg #[.string s, .slice ac L.length cc, .slice af F.length cf, .int .i64 d]) ⟨s, L, F, d⟩ q w h M)
  have I2 := Lib.hid (fun w hk h => implSpareRate_any (.agg #[.string s, .slice ac L.length cc, .slice af F.length cf, .int .i64 d]) ⟨s, L, F, d⟩ q w hk h M)
  have S2 := Lib.hid (fun w h => specSpareRate_any (.agg #[.string s, .slice ac L.length cc, .slice af F.length cf, .int .i64 d]) ⟨s, L, F, d⟩ q w h M)
  have I3 := Lib.hid (fun w hk h => implLeavesOf_any (.agg #[.string s, .slice ac L.length cc, .slice af F.length cf, .int .i64 d]) ⟨s, L, F, d⟩ w hk h M)
  have S3 := Lib.hid (fun w h => specLeavesOf_any (.agg #[.string s, .slice ac L.length cc, .slice af F.length cf, .int .i64 d]) ⟨s, L, F, d⟩ w h M)
  have I4 := Lib.hid (fun w hk h => implTopOf_any (.agg #[.string s, .slice ac L.length cc, .slice af F.length cf, .int .i64 d]) ⟨s, L, F, d⟩ w hk h M)
  have S4 := Lib.hid (fun w h => specTopOf_any (.agg #[.string s, .slice ac L.length cc, .slice af F.length cf, .int .i64 d]) ⟨s, L, F, d⟩ w h M)
  unfold SaysTS resWayUp2 at I0 S0
  unfold SaysTS resChildClasses2 at I1 S1
  unfold resSpareRate2 at I2 S2
  unfold SaysTS resLeavesOf2 at I3 S3
  unfold resTopOf2 at I4 S4
  have HF := Lib.hid (fun (k : Nat) (e : q = (k : Int)) (h : hasI ⟨s, L, F, d⟩ q = true) => And.intro (way_facts (c := ⟨s, L, F, d⟩) (by rw [← e]; exact h)) (kid_facts (c := ⟨s, L, F, d⟩) (by rw [← e]; exact h)))
  have HX := Lib.hid (fun (h : hasI ⟨s, L, F, d⟩ q = true) => has_tree h)
  have hl0 := lenWayUp ⟨s, L, F, d⟩ q
  have hl1 := lenChildClasses ⟨s, L, F, d⟩ q
  have hl3 := lenLeavesOf ⟨s, L, F, d⟩
  obtain ⟨K0, hK0⟩ : ∃ u, resWayUp1 ⟨s, L, F, d⟩ q = u := ⟨_, rfl⟩
  obtain ⟨K1, hK1⟩ : ∃ u, resChildClasses1 ⟨s, L, F, d⟩ q = u := ⟨_, rfl⟩
  obtain ⟨sp, hsp⟩ : ∃ u, resSpareRate1 ⟨s, L, F, d⟩ q = u := ⟨_, rfl⟩
  obtain ⟨K3, hK3⟩ : ∃ u, resLeavesOf1 ⟨s, L, F, d⟩ = u := ⟨_, rfl⟩
  obtain ⟨tp, htp⟩ : ∃ u, resTopOf1 ⟨s, L, F, d⟩ = u := ⟨_, rfl⟩
  obtain ⟨hh, hhh⟩ : ∃ u, hasI ⟨s, L, F, d⟩ q = u := ⟨_, rfl⟩
  obtain ⟨gd, hgd⟩ : ∃ u, goodC ⟨s, L, F, d⟩ = u := ⟨_, rfl⟩
  rw [hK0] at I0 S0 hl0
  rw [hK1] at I1 S1 hl1
  rw [hsp] at I2 S2
  rw [hK3] at I3 S3 hl3
  rw [htp] at I4 S4
  rw [hhh] at I0 S0 I1 S1 I2 S2
  rw [hgd] at I3 S3 I4 S4
  have E0 := Lib.hid hK0
  have E1 := Lib.hid hK1
  have E2 := Lib.hid hsp
  have E3 := Lib.hid hK3
  have E4 := Lib.hid htp
  have EH := Lib.hid hhh
  clear hK0 hK1 hsp hK3 htp hhh hgd
  obtain ⟨y0, y1, y2, y3, _⟩ := BO.out
  have T1 := Lib.hid (HT.out.below T.out)
  go_upto_region 5 with (go_at_call 5; refine (I0.out _ T1 CV).mono ?_; rintro e w1 ⟨r1, rfl, o, b⟩; have T := Lib.hid (T.out.trans (b.mono T.out.size)); have CV := Lib.hid (CV.out.below b); have BO := Lib.hid (BO.out.on b); have T1 := Lib.hid (HT.out.below T.out); have R1 := Lib.hid (Nat0V.own o); clear y0 y1 y2 y3; obtain ⟨y0, y1, y2, y3, _⟩ := BO.out; clear b o)
  go_upto_region 6 with (go_at_call 6; refine (S0.out _ CV).mono ?_; rintro e w2 ⟨r2, rfl, o, b⟩; have T := Lib.hid (T.out.trans (b.mono T.out.size)); have CV := Lib.hid (CV.out.below b); have R1 := Lib.hid (R1.out.below b); have BO := Lib.hid (BO.out.on b); have T1 := Lib.hid (HT.out.below T.out); have R2 := Lib.hid (Nat0V.own o); clear y0 y1 y2 y3; obtain ⟨y0, y1, y2, y3, _⟩ := BO.out; clear b o)
  go_upto_region 7 with (go_at_call 7; refine (I1.out _ T1 CV).mono ?_; rintro e w3 ⟨r3, rfl, o, b⟩; have T := Lib.hid (T.out.trans (b.mono T.out.size)); have CV := Lib.hid (CV.out.below b); have R1 := Lib.hid (R1.out.below b); have R2 := Lib.hid (R2.out.below b); have BO := Lib.hid (BO.out.on b); have T1 := Lib.hid (HT.out.below T.out); have R3 := Lib.hid (Nat0V.own o); clear y0 y1 y2 y3; obtain ⟨y0, y1, y2, y3, _⟩ := BO.out; clear b o)
  go_upto_region 8 with (go_at_call 8; refine (S1.out _ CV).mono ?_; rintro e w4 ⟨r4, rfl, o, b⟩; have T := Lib.hid (T.out.trans (b.mono T.out.size)); have CV := Lib.hid (CV.out.below b); have R1 := Lib.hid (R1.out.below b); have R2 := Lib.hid (R2.out.below b); have R3 := Lib.hid (R3.out.below b); have BO := Lib.hid (BO.out.on b); have T1 := Lib.hid (HT.out.below T.out); have R4 := Lib.hid (Nat0V.own o); clear y0 y1 y2 y3; obtain ⟨y0, y1, y2, y3, _⟩ := BO.out; clear b o)
  go_upto_region 9 with (go_at_call 9; refine (I2.out _ T1 CV).mono ?_; rintro e w5 ⟨rfl, b⟩; have T := Lib.hid (T.out.trans (b.mono T.out.size)); have CV := Lib.hid (CV.out.below b); have R1 := Lib.hid (R1.out.below b); have R2 := Lib.hid (R2.out.below b); have R3 := Lib.hid (R3.out.below b); have R4 := Lib.hid (R4.out.below b); have BO := Lib.hid (BO.out.on b); have T1 := Lib.hid (HT.out.below T.out); clear y0 y1 y2 y3; obtain ⟨y0, y1, y2, y3, _⟩ := BO.out; clear b)
  go_upto_region 10 with (go_at_call 10; refine (S2.out _ CV).mono ?_; rintro e w6 ⟨rfl, b⟩; have T := Lib.hid (T.out.trans (b.mono T.out.size)); have CV := Lib.hid (CV.out.below b); have R1 := Lib.hid (R1.out.below b); have R2 := Lib.hid (R2.out.below b); have R3 := Lib.hid (R3.out.below b); have R4 := Lib.hid (R4.out.below b); have BO := Lib.hid (BO.out.on b); have T1 := Lib.hid (HT.out.below T.out); clear y0 y1 y2 y3; obtain ⟨y0, y1, y2, y3, _⟩ := BO.out; clear b)
  go_upto_region 11 with (go_at_call 11; refine (I3.out _ T1 CV).mono ?_; rintro e w7 ⟨r7, rfl, o, b⟩; have T := Lib.hid (T.out.trans (b.mono T.out.size)); have CV := Lib.hid (CV.out.below b); have R1 := Lib.hid (R1.out.below b); have R2 := Lib.hid (R2.out.below b); have R3 := Lib.hid (R3.out.below b); have R4 := Lib.hid (R4.out.below b); have BO := Lib.hid (BO.out.on b); have T1 := Lib.hid (HT.out.below T.out); have R7 := Lib.hid (Nat0V.own o); clear y0 y1 y2 y3; obtain ⟨y0, y1, y2, y3, _⟩ := BO.out; clear b o)
  go_upto_region 12 with (go_at_call 12; refine (S3.out _ CV).mono ?_; rintro e w8 ⟨r8, rfl, o, b⟩; have T := Lib.hid (T.out.trans (b.mono T.out.size)); have CV := Lib.hid (CV.out.below b); have R1 := Lib.hid (R1.out.below b); have R2 := Lib.hid (R2.out.below b); have R3 := Lib.hid (R3.out.below b); have R4 := Lib.hid (R4.out.below b); have R7 := Lib.hid (R7.out.below b); have BO := Lib.hid (BO.out.on b); have T1 := Lib.hid (HT.out.below T.out); have R8 := Lib.hid (Nat0V.own o); clear y0 y1 y2 y3; obtain ⟨y0, y1, y2, y3, _⟩ := BO.out; clear b o)
  go_upto_region 13 with (go_at_call 13; refine (I4.out _ T1 CV).mono ?_; rintro e w9 ⟨rfl, b⟩; have T := Lib.hid (T.out.trans (b.mono T.out.size)); have CV := Lib.hid (CV.out.below b); have R1 := Lib.hid (R1.out.below b); have R2 := Lib.hid (R2.out.below b); have R3 := Lib.hid (R3.out.below b); have R4 := Lib.hid (R4.out.below b); have R7 := Lib.hid (R7.out.below b); have R8 := Lib.hid (R8.out.below b); have BO := Lib.hid (BO.out.on b); have T1 := Lib.hid (HT.out.below T.out); clear y0 y1 y2 y3; obtain ⟨y0, y1, y2, y3, _⟩ := BO.out; clear b)
  go_upto_region 14 with (go_at_call 14; refine (S4.out _ CV).mono ?_; rintro e w10 ⟨rfl, b⟩; have T := Lib.hid (T.out.trans (b.mono T.out.size)); have CV := Lib.hid (CV.out.below b); have R1 := Lib.hid (R1.out.below b); have R2 := Lib.hid (R2.out.below b); have R3 := Lib.hid (R3.out.below b); have R4 := Lib.hid (R4.out.below b); have R7 := Lib.hid (R7.out.below b); have R8 := Lib.hid (R8.out.below b); have BO := Lib.hid (BO.out.on b); have T1 := Lib.hid (HT.out.below T.out); clear y0 y1 y2 y3; obtain ⟨y0, y1, y2, y3, _⟩ := BO.out; clear b)
  clear I1 S1 I2 S2 I3 S3 I4 S4
  go_upto_region 15 with (go_at_call 15; refine (drawIsBelow_any _ _ _ _ _ HL1 (Lib.hid (HI1.out.below T.out)) h1).mono ?_; rintro e w11 ⟨v, c2, p2, q2, rfl, oc, hd25, hg17, ht9, _, _, _, _, b⟩; obtain ⟨ac2, cc2, af2, cf2, rfl, _, _, _⟩ := own_cfg_parts oc; have T := Lib.hid (T.out.trans (b.mono T.out.size)); have CV := Lib.hid (CV.out.below b); have R1 := Lib.hid (R1.out.below b); have R2 := Lib.hid (R2.out.below b); have R3 := Lib.hid (R3.out.below b); have R4 := Lib.hid (R4.out.below b); have R7 := Lib.hid (R7.out.below b); have R8 := Lib.hid (R8.out.below b); have BO := Lib.hid (BO.out.on b); have T1 := Lib.hid (HT.out.below T.out); have CW := Lib.hid oc.cfg; clear oc b)
  obtain ⟨s2, L2, F2, d2⟩ := c2
  simp only at CW hd25 hg17 ht9
  simp only
  obtain ⟨wb, hwb⟩ : ∃ u, w11.alloc (.cells #[.string s2, .slice ac2 L2.length cc2, .slice af2 F2.length cf2, .int .i64 d2] 26) = u := ⟨_, rfl⟩
  have b : Below w11.heap.size w11 wb := by rw [← hwb]; exact one_new2 _ _
  have BD : Hid (FourIs wb w11.heap.size (.string s2) (.slice ac2 L2.length cc2) (.slice af2 F2.length cf2) (.int .i64 d2)) := Lib.hid (by rw [← hwb]; exact four_new _ _ _ _ _ _)
  rw [hwb]
  have T := Lib.hid (T.out.trans (b.mono T.out.size))
  have CV := Lib.hid (CV.out.below b)
  have R1 := Lib.hid (R1.out.below b)
  have R2 := Lib.hid (R2.out.below b)
  have R3 := Lib.hid (R3.out.below b)
  have R4 := Lib.hid (R4.out.below b)
  have R7 := Lib.hid (R7.out.below b)
  have R8 := Lib.hid (R8.out.below b)
  have BO := Lib.hid (BO.out.on b)
  have T1 := Lib.hid (HT.out.below T.out)
  have CW := Lib.hid (CW.out.below b)
  obtain ⟨by_, hby⟩ : ∃ u, w11.heap.size = u := ⟨_, rfl⟩
  rw [hby] at BD ⊢
  clear hwb b hby y0 y1 y2 y3
  have M2 : Hid (CfgM ⟨s2, L2, F2, d2⟩) := Lib.hid ⟨by simp only; omega, by simp only; omega, by simp only; omega⟩
  have I5 := Lib.hid (fun w hk h => implIsBelow_any (.agg #[.string s2, .slice ac2 L2.length cc2, .slice af2 F2.length cf2, .int .i64 d2]) ⟨s2, L2, F2, d2⟩ p2 q2 w hk h M2)
  have S5 := Lib.hid (fun w h => specIsBelow_any (.agg #[.string s2, .slice ac2 L2.length cc2, .slice af2 F2.length cf2, .int .i64 d2]) ⟨s2, L2, F2, d2⟩ p2 q2 w h M2)
  have I6 := Lib.hid (fun w hk h => implIsBelow_any (.agg #[.string s2, .slice ac2 L2.length cc2, .slice af2 F2.length cf2, .int .i64 d2]) ⟨s2, L2, F2, d2⟩ q2 p2 w hk h M2)
  have HB := Lib.hid (fun h2 h1 hne => below_facts (c := ⟨s2, L2, F2, d2⟩) (a := p2) (b := q2) h2 h1 hne)
  generalize resIsBelow1 ⟨s2, L2, F2, d2⟩ p2 q2 = bl at I5 S5 HB
  generalize resIsBelow2 ⟨s2, L2, F2, d2⟩ p2 q2 = hb at I5 S5 HB
  generalize resIsBelow1 ⟨s2, L2, F2, d2⟩ q2 p2 = bl2 at I6 HB
  generalize resIsBelow2 ⟨s2, L2, F2, d2⟩ q2 p2 = hb2 at I6 HB
  obtain ⟨z0, z1, z2, z3, _⟩ := BD.out
  go_upto_region 16 with (go_at_call 16; refine (I5.out _ T1 CW).mono ?_; rintro e w12 ⟨rfl, b⟩; have T := Lib.hid (T.out.trans (b.mono T.out.size)); have CV := Lib.hid (CV.out.below b); have R1 := Lib.hid (R1.out.below b); have R2 := Lib.hid (R2.out.below b); have R3 := Lib.hid (R3.out.below b); have R4 := Lib.hid (R4.out.below b); have R7 := Lib.hid (R7.out.below b); have R8 := Lib.hid (R8.out.below b); have CW := Lib.hid (CW.out.below b); have BO := Lib.hid (BO.out.on b); have BD := Lib.hid (BD.out.on b); have T1 := Lib.hid (HT.out.below T.out); clear z0 z1 z2 z3; obtain ⟨z0, z1, z2, z3, _⟩ := BD.out; clear b)
  go_upto_region 17 with (go_at_call 17; refine (S5.out _ CW).mono ?_; rintro e w13 ⟨rfl, b⟩; have T := Lib.hid (T.out.trans (b.mono T.out.size)); have CV := Lib.hid (CV.out.below b); have R1 := Lib.hid (R1.out.below b); have R2 := Lib.hid (R2.out.below b); have R3 := Lib.hid (R3.out.below b); have R4 := Lib.hid (R4.out.below b); have R7 := Lib.hid (R7.out.below b); have R8 := Lib.hid (R8.out.below b); have CW := Lib.hid (CW.out.below b); have BO := Lib.hid (BO.out.on b); have BD := Lib.hid (BD.out.on b); have T1 := Lib.hid (HT.out.below T.out); clear z0 z1 z2 z3; obtain ⟨z0, z1, z2, z3, _⟩ := BD.out; clear b)
  clear I5 S5
  have QW := Lib.hid (fun w h h' => qNats_any r1 r2 K0 w h h' (by omega))
  have QK := Lib.hid (fun w h h' => qNats_any r3 r4 K1 w h h' (by omega))
  have QL := Lib.hid (fun w h h' => qNats_any r7 r8 K3 w h h' (by omega))
  go_cut [200] from 43 to 200 (fun c wx => c = .bool false ∧ Below w13.heap.size w13 wx)
  case first =>
    clear z0 z1 z2 z3
    have Z : Hid (Below w13.heap.size w13 w13) := Lib.hid (Below.refl _ _)
    go_wp2_with (first | (go_at_call 18; (with_reducible refine (QW.out _ (Lib.hid R1.out.natv) (Lib.hid R2.out.natv)).mono ?_); rintro e w14 ⟨rfl, b⟩; have Z := Lib.hid (Z.out.trans (b.mono Z.out.size)); have R3 := Lib.hid (R3.out.below b); have R4 := Lib.hid (R4.out.below b); have R7 := Lib.hid (R7.out.below b); have R8 := Lib.hid (R8.out.below b); clear b) | (go_at_call 18; (with_reducible refine (QK.out _ (Lib.hid R3.out.natv) (Lib.hid R4.out.natv)).mono ?_); rintro e w15 ⟨rfl, b⟩; have Z := Lib.hid (Z.out.trans (b.mono Z.out.size)); have R7 := Lib.hid (R7.out.below b); have R8 := Lib.hid (R8.out.below b); clear b) | (go_at_call 18; (with_reducible refine (QL.out _ (Lib.hid R7.out.natv) (Lib.hid R8.out.natv)).mono ?_); rintro e w16 ⟨rfl, b⟩; have Z := Lib.hid (Z.out.trans (b.mono Z.out.size)); clear b))
    go_meet
    exact ⟨rfl, Z.out⟩
  case rest =>
  obtain ⟨rfl, b⟩ := hcut
  obtain ⟨W1, rfl⟩ : ∃ u, u = wc := ⟨_, rfl⟩
  have T := Lib.hid (T.out.trans (b.mono T.out.size))
  have CV := Lib.hid (CV.out.below b)
  have R2 := Lib.hid (R2.out.below b)
  have R4 := Lib.hid (R4.out.below b)
  have R8 := Lib.hid (R8.out.below b)
  have CW := Lib.hid (CW.out.below b)
  have BO := Lib.hid (BO.out.on b)
  have BD := Lib.hid (BD.out.on b)
  have T1 := Lib.hid (HT.out.below T.out)
  clear b
  clear QW QK QL R1 R3 R7 z0 z1 z2 z3
  obtain ⟨z0, z1, z2, z3, _⟩ := BD.out
  go_upto_region 19 with fail
  go_cut [209] from 201 to 209 (fun c wx => c = .bool (hb && (bl && decide (p2 ≠ q2))) ∧ wx = W1)
  case first =>
    cases hb
    · go_wp2_with fail
      go_meet
      exact ⟨rfl, rfl⟩
    · cases bl
      · go_wp2_with fail
        go_meet
        exact ⟨rfl, rfl⟩
      · by_cases hpq : p2 = q2
        · have hp1 : (p2 != q2) = false := by simp [hpq]
          have hp2 : (true && (true && decide (p2 ≠ q2))) = false := by simp [hpq]
          have HP2 := Lib.hid hp2
          clear hpq hp2
          go_wp2_with fail
          go_meet
          exact ⟨by rw [HP2.out], rfl⟩
        · have hp1 : (p2 != q2) = true := by simp [hpq]
          have hp2 : (true && (true && decide (p2 ≠ q2))) = true := by simp [hpq]
          have HP2 := Lib.hid hp2
          clear hpq hp2
          go_wp2_with fail
          go_meet
          exact ⟨by rw [HP2.out], rfl⟩
  case rest =>
  obtain ⟨rfl, hwc⟩ := hcut
  subst hwc
  go_upto_if 209 with fail
  go_cut [209] from 34 to 221 (fun c wx => True ∧ Below wc.heap.size wc wx)
  case first =>
    rcases Bool.eq_false_or_eq_true (hb && (bl && decide (p2 ≠ q2))) with hc | hc
    · have hc' := hc
      simp only [Bool.and_eq_true, decide_eq_true_eq] at hc'
      obtain ⟨e1, e2, e3⟩ := hc'
      obtain ⟨f1, f2⟩ := HB.out e1 e2 e3
      rw [hc]
      rw [f1, f2] at I6
      clear hc e1 e2 e3 f1 f2
      go_wp2_with (go_at_call 16; refine (I6.out _ T1 CW).mono ?_; rintro e w18 ⟨rfl, b⟩; have Z := Lib.hid b; clear b)
      go_meet
      exact ⟨trivial, Z.out⟩
    · rw [hc]
      clear hc
      go_wp2_with fail
      go_meet
      exact ⟨trivial, Below.refl _ _⟩
  case rest =>
  obtain ⟨_, b⟩ := hcut
  obtain ⟨W2, rfl⟩ : ∃ u, u = wc := ⟨_, rfl⟩
  have T := Lib.hid (T.out.trans (b.mono T.out.size))
  have CV := Lib.hid (CV.out.below b)
  have R2 := Lib.hid (R2.out.below b)
  have R4 := Lib.hid (R4.out.below b)
  have R8 := Lib.hid (R8.out.below b)
  have BO := Lib.hid (BO.out.on b)
  have T1 := Lib.hid (HT.out.below T.out)
  clear b
  clear HB I6 CW BD z0 z1 z2 z3
  cases hh
  · go_wp2_with fail
    go_ret
    exact ⟨rfl, T.out⟩
  obtain ⟨k, rfl, hkL, hgood, TR, htop, h24⟩ := HX.out EH.out
  obtain ⟨⟨f0, f1, f2, f3, f4⟩, g0, g1, g2, g3, g4, g5⟩ := HF.out k rfl EH.out
  try dsimp only at hkL TR f0 f1 f2 f3 f4 g0 g1 g2 g3 g4 g5
  have e0 := E0.out.symm.trans f0
  have e1 := E1.out.symm.trans g0
  rw [E4.out] at f4
  rw [E3.out] at g3
  rw [E2.out] at g4 g5
  rw [← e0] at f1 f2 f3 f4
  rw [← e1] at g1 g2 g3 g5
  have HKD : Hid (∀ n ∈ K1, n < L.length ∧ hasI ⟨s, L, F, d⟩ (n : Int) = true ∧ resWayUp1 ⟨s, L, F, d⟩ (n : Int) = n :: K0) := Lib.hid (fun n hn => by rw [e0]; exact g2 n hn)
  have HRP : Hid (∀ n, n < L.length → 1 ≤ (L.getD n cls0).r ∧ (L.getD n cls0).r ≤ 100000) := Lib.hid (fun n hn => rateOk_r (okL_ids L 0 TR.ok n hn).2.2)
  have HKM : Hid (∀ n ∈ K1, n < L.length) := Lib.hid (fun n hn => (g2 n hn).1)
  have HG5 := Lib.hid g5
  clear HF HX E0 E1 E2 E3 E4 EH g2 g5 e0 e1 f0 g0 htop TR hgood
  have hkK : k < L.length := hkL
  obtain ⟨ac', cc', af', cf', ecfg, iC, iF⟩ := CV.out
  injection ecfg with ecfg
  injection ecfg with ecfg
  injection ecfg with _ ecfg
  injection ecfg with ec ecfg
  injection ec with ec1 _ ec2
  subst ec1
  obtain ⟨gC, rfl, hAt, hgC⟩ := iC (Nat.lt_of_le_of_lt (Nat.zero_le _) hkL)
  clear iF ecfg ec2
  obtain ⟨m, hm⟩ : ∃ m, K0.length = m + 1 := ⟨K0.length - 1, by omega⟩
  rw [hm] at f2 f4 hl0
  rw [Nat.add_sub_cancel] at f4
  obtain ⟨ad2, cp2, rfl, hcap2, hv2⟩ := R2.out
  obtain ⟨gw, rfl, hgw, hcw⟩ := hv2 (by omega)
  have a0 := hcw 0 (by omega)
  have am := hcw m (by omega)
  rw [f3] at a0
  rw [f4] at am
  obtain ⟨ad4, cp4, rfl, hcap4, hv4⟩ := R4.out
  have HV4 := Lib.hid hv4
  have HMZ := Lib.hid hm
  rw [hm]
  have hwm : IntKind.i64.wrap ((m : Int) + 1 - 1) = (m : Int) := by rw [Int.add_sub_cancel]; exact IntWalk.i64_in _ (by omega)
  have d8 : decide ((8 : Int) < (m : Int) + 1) = false := not_lt (by omega)
  have dsp : decide (sp < 0) = false := not_lt (by omega)
  have QH := Lib.hid (fun w h => qHas_any r8 K3 (k : Int) w h (by omega))
  obtain ⟨B, hB⟩ : ∃ B, K3.any (fun j => ((j : Int) == (k : Int))) = B := ⟨_, rfl⟩
  rw [hB] at QH g3
  clear hB hcw hv2 hv4 f1 f3 f4 hm
  have R8n := Lib.hid R8.out.natv
  have HSP : Hid (0 ≤ sp) := Lib.hid g4
  obtain ⟨hk1, hk2⟩ := HRP.out k hkK
  have HAt := Lib.hid hAt
  have HSB : Hid (sp ≤ 100000) := Lib.hid (by
    have := sum_nn (fun n => (L.getD n cls0).r) K1 (fun n hn => by have := (HRP.out n (HKM.out n hn)).1; omega)
    have := HG5.out
    omega)
  clear g4 hAt
  go_upto_if 256 with (go_at_call 19; refine (QH.out _ R8n).mono ?_; rintro e w19 ⟨rfl, b⟩; have Z := Lib.hid b; clear b)
  clear a0 am g3 d8 dsp hwm QH R8 R8n
  go_wp2_with fail
  go_loopw [260, 36] (fun i rv wr => ∃ (j : Nat) (x : Int), j ≤ K1.length ∧ i = .int .i64 j ∧ rv = .int .i64 x ∧ 0 ≤ x ∧ x ≤ 100000 ∧ Below W2.heap.size W2 wr ∧ Hid (x + ((K1.drop j).map (fun n => (L.getD n cls0).r)).sum = (L.getD k cls0).r)) (fun i _ _ => K1.length - (intOf i).toNat)
  case atStart => exact ⟨0, sp, Nat.zero_le _, rfl, rfl, HSP.out, HSB.out, Z.out, by rw [List.drop_zero]; exact HG5⟩
  case round =>
    obtain ⟨j, x, hj, rfl, rfl, hx0, hx1, hbl, HS⟩ := hrel
    have BW := Lib.hid hbl
    clear hbl Z
    by_cases hlt : j < K1.length
    · have hji : (j : Int) < K1.length := by omega
      obtain ⟨n, hn⟩ : ∃ n, K1.getD j 0 = n := ⟨_, rfl⟩
      have hmem : n ∈ K1 := by
        rw [← hn, List.getD_eq_getElem?_getD, List.getElem?_eq_getElem hlt]
        exact List.getElem_mem hlt
      obtain ⟨p1, p2', p3⟩ := HKD.out n hmem
      obtain ⟨q1, q2'⟩ := HRP.out n p1
      have hs2 := sum_take (fun n => (L.getD n cls0).r) K1 j hlt x _ HS.out
      rw [hn] at hs2
      have hs3 := sum_nn (fun n => (L.getD n cls0).r) (K1.drop (j + 1)) (fun n hn => by have := (HRP.out n (HKM.out n (List.mem_of_mem_drop hn))).1; omega)
      have HS2 := Lib.hid hs2
      obtain ⟨rn, hrn⟩ : ∃ z, (L.getD n cls0).r = z := ⟨_, rfl⟩
      have HRN := Lib.hid hrn
      have hx2 : x + rn ≤ 100000 := by rw [← hrn]; (try dsimp only at hs2); omega
      rw [hrn] at q1 q2'
      obtain ⟨g4, rfl, hg4, hc4⟩ := HV4.out (by omega)
      have c4 : wr.cell? ⟨g4, j, none⟩ = some (.int .i64 (n : Int)) := by
        have := (BW.out.cell (p := ⟨g4, j, none⟩) hg4).trans (hc4 j hlt)
        rw [hn] at this
        exact this
      obtain ⟨y0, y1, y2, y3, _⟩ := BO.out.on BW.out
      have IN := Lib.hid (fun w hk h => implWayUp_any (.agg #[.string s, .slice (some ⟨gC, 0, none⟩) L.length cc, .slice af F.length cf, .int .i64 d]) ⟨s, L, F, d⟩ (n : Int) w hk h M)
      have SN := Lib.hid (fun w h => specWayUp_any (.agg #[.string s, .slice (some ⟨gC, 0, none⟩) L.length cc, .slice af F.length cf, .int .i64 d]) ⟨s, L, F, d⟩ (n : Int) w h M)
      unfold SaysTS resWayUp2 at IN SN
      rw [p2', p3] at IN SN
      have hnL : (n : Int) < L.length := by omega
      clear hc4 hs2 hs3 hn hmem p2' p3 hrn
      go_upto_region 32 with (go_at_call 5; refine (IN.out _ (Lib.hid (HT.out.below (T.out.trans (BW.out.mono T.out.size)))) (Lib.hid (CV.out.below BW.out))).mono ?_; rintro e w20 ⟨ru, rfl, o, b⟩; have BW := Lib.hid (BW.out.trans (b.mono BW.out.size)); have RU := Lib.hid (Nat0V.own o); clear y0 y1 y2 y3 c4 b o; obtain ⟨y0, y1, y2, y3, _⟩ := BO.out.on BW.out)
      go_upto_region 33 with (go_at_call 6; refine (SN.out _ (Lib.hid (CV.out.below BW.out))).mono ?_; rintro e w21 ⟨rk, rfl, o, b⟩; have BW := Lib.hid (BW.out.trans (b.mono BW.out.size)); have RU := Lib.hid (RU.out.below b); have RK := Lib.hid (Nat0V.own o); clear y0 y1 y2 y3 b o)
      clear IN SN
      obtain ⟨adk, ck, rfl, hck, hvk⟩ := RK.out
      obtain ⟨gk, rfl, _, _⟩ := hvk (by simp)
      have hlk : (n :: K0).length = m + 1 + 1 := by rw [List.length_cons, HMZ.out]
      have hsl : ∀ w, (Instr.slice 29 (.slice (some ⟨gk, 0, none⟩) (m + 1 + 1) ck) (some (.int .i64 1)) none none).run Tryd.prog w = .ok (.slice (some ⟨gk, 1, none⟩) (m + 1) (ck - 1)) w := fun w => slice_tl gk (m + 1 + 1) ck (by omega) (by omega) w
      have QA := Lib.hid (fun w h h' => qNats_any ru (.slice (some ⟨gk, 0, none⟩) (n :: K0).length ck) (n :: K0) w h h' (by omega))
      have RT : Hid (NatV w21 (.slice (some ⟨gk, 0 + 1, none⟩) K0.length (ck - 1)) K0) := Lib.hid (NatV.tail (o := 0) RK.out.natv (ck - 1))
      have RW := Lib.hid (R2.out.natv.below BW.out)
      have QB := Lib.hid (fun w h h' => qNats_any (.slice (some ⟨gk, 0 + 1, none⟩) K0.length (ck - 1)) (.slice (some ⟨gw, 0, none⟩) K0.length cp2) K0 w h h' (by rw [HMZ.out]; omega))
      have RUn := Lib.hid RU.out.natv
      have RKn := Lib.hid RK.out.natv
      rw [HMZ.out, Nat.zero_add] at QB RT
      rw [HMZ.out] at RW
      rw [hlk] at QA RKn ⊢
      clear hvk
      go_upto_if 302 with (first | (go_at_call 18; (with_reducible refine (QA.out _ RUn RKn).mono ?_); rintro e w22 ⟨rfl, b⟩; have BW := Lib.hid (BW.out.trans (b.mono BW.out.size)); have RT := Lib.hid (RT.out.below b); have RW := Lib.hid (RW.out.below b); clear b) | (go_at_call 18; (with_reducible refine (QB.out _ RT RW).mono ?_); rintro e w23 ⟨rfl, b⟩; have BW := Lib.hid (BW.out.trans (b.mono BW.out.size)); clear b))
      clear QA QB RT RW RUn RKn RU hsl hlk
      obtain ⟨y0, y1, y2, y3, _⟩ := BO.out.on BW.out
      obtain ⟨_, _, ar, _, _, _, _, _⟩ := (HAt.out.below BW.out hgC).cls n p1 _ rfl
      rw [HRN.out] at ar
      clear RK
      go_wp2_with fail
      go_roundw
      case rel => exact ⟨j + 1, x + rn, by omega, by go_num, by go_num, by omega, hx2, BW.out, by rw [← HRN.out]; exact HS2⟩
      case measure => simp [intOf]; omega
    · have hji : ¬ (j : Int) < K1.length := by omega
      have hxx : (L.getD k cls0).r = x := by
        have := HS.out
        rw [List.drop_eq_nil_of_le (by omega)] at this
        simpa using this.symm
      obtain ⟨y0, y1, y2, y3, _⟩ := BO.out.on BW.out
      obtain ⟨_, _, ar, _, _, _, _, _⟩ := (HAt.out.below BW.out hgC).cls k hkK _ rfl
      rw [hxx] at ar
      have hkI : (k : Int) < L.length := by omega
      clear HS hxx
      go_wp2_with fail
      go_ret
      exact ⟨by simp, T.out.trans (BW.out.mono T.out.size)⟩
theorem walk (a0 : Option Addr) (len0 cap0 : Nat) (z0 : List Int) (a1 : Option Addr) (len1 cap1 : Nat) (z1 : List Int) (w : World) (w0 : IsRow .u8 w a0 len0 cap0 z0) (w1 : IsRow .u8 w a1 len1 cap1 z1) (hD : Kwt w) :
    Calls Tryd.prog 3 #[.slice a0 len0 cap0, .slice a1 len1 cap1] w fun e w' => e = .returned (.bool true) ∧ Below w.heap.size w w' := by
  obtain ⟨hm0, ys0, HL0, HI0⟩ := w0.view
  obtain ⟨hm1, ys1, HL1, HI1⟩ := w1.view
  unfold maxLen at hm0 hm1
  rcases Bool.eq_false_or_eq_true (decide ((1048576 : Int) < wrap64 ((len0 : Int) + len1))) with d | d
  · clear HL0 HI0 HL1 HI1 hm0 hm1
    go_enter Tryd.func3, Tryd.ntmps3
    go_wp2
    go_ret
    exact ⟨rfl, Below.refl _ _⟩
  · exact walk_in a0 a1 len0 len1 cap0 cap1 ys0 ys1 w (Lib.hid hD) HL0 HI0 HL1 HI1 (by omega) (by omega) d

theorem contract (H : Type) (enc : TypeId × Value → H) (W : World) (base : Nat) (args : Array Value) (ds gs : List (DataW H)) (before : List MemPlace)
    (hval : ∀ (j : Nat) t v, Tryd.f3.params[j]? = some t → args[j]? = some v → Value.okWide Tryd.prog W .any base t v)
    (hW : DataW.Whole enc Tryd.prog Tryd.f3.params.toList Rows.fnTreesSpec.vars false W args.toList ds gs before) (hL : laidMetH Tryd.prog Rows.fnTreesRow.laid W) :
    Calls Tryd.prog 3 args W fun e W' => ∃ v, e = .returned v ∧ Rows.fnTreesSpec.post enc Tryd.prog Tryd.f3 false true false false W args v W' := by
  have hW' := hW
  obtain ⟨p, q, hA0, hV, rfl, hfz, hnd⟩ := hW
  have hA : DataW.TrodAll enc Tryd.prog W 0 (fun _ => true) true Tryd.f3.params.toList args.toList ds p := hA0
  rw [Tryd.params3] at hA hval
  obtain ⟨v0, vs0, d0, ds0, p0, q0, hargs, rfl, rfl, h0, r0⟩ := trodAll_cons hA
  obtain ⟨v1, vs1, d1, ds1, p1, q1, rfl, rfl, rfl, h1, r1⟩ := trodAll_cons r0
  obtain ⟨rfl, rfl, rfl⟩ := trodAll_nil r1
  obtain rfl : args = #[v0, v1] := by cases args; simp_all
  have hV2 := hV
  obtain ⟨gV, tV, cV, fV, dV, pV, rfl, _, _, _, _, rfl⟩ := trodVars_one hV
  obtain ⟨a0, len0, cap0, rfl⟩ := okWide_slice Tryd.underlying22 (hval 0 22 v0 rfl rfl)
  have k0 := h0
  have lt0 : ∀ x ∈ p0, x.block < W.heap.size := by obtain ⟨m, hm⟩ := k0; exact DataW.trod_lt m _ _ _ hm
  obtain ⟨z0, w0⟩ : ∃ zs, IsRow .u8 W a0 len0 cap0 zs := by
    obtain ⟨fuel, hf⟩ := h0
    rcases open_ints Tryd.underlying22 Tryd.underlying5 (by kernel_rfl) hf with ⟨hcs, _⟩ | ⟨x, l, c, zs, hcs, _, hl, hm, hz, _, hcell, hwz⟩
    · simp [Value.cells] at hcs
      obtain ⟨rfl, rfl, rfl⟩ := hcs
      exact ⟨[], .inl ⟨rfl, rfl, rfl, rfl⟩⟩
    · simp [Value.cells] at hcs
      obtain ⟨rfl, rfl, rfl⟩ := hcs
      exact ⟨zs, .inr ⟨_, rfl, hl, hm, by simpa using hz, hcell, hwz⟩⟩
  obtain ⟨a1, len1, cap1, rfl⟩ := okWide_slice Tryd.underlying22 (hval 1 22 v1 rfl rfl)
  have k1 := h1
  have lt1 : ∀ x ∈ p1, x.block < W.heap.size := by obtain ⟨m, hm⟩ := k1; exact DataW.trod_lt m _ _ _ hm
  obtain ⟨z1, w1⟩ : ∃ zs, IsRow .u8 W a1 len1 cap1 zs := by
    obtain ⟨fuel, hf⟩ := h1
    rcases open_ints Tryd.underlying22 Tryd.underlying5 (by kernel_rfl) hf with ⟨hcs, _⟩ | ⟨x, l, c, zs, hcs, _, hl, hm, hz, _, hcell, hwz⟩
    · simp [Value.cells] at hcs
      obtain ⟨rfl, rfl, rfl⟩ := hcs
      exact ⟨[], .inl ⟨rfl, rfl, rfl, rfl⟩⟩
    · simp [Value.cells] at hcs
      obtain ⟨rfl, rfl, rfl⟩ := hcs
      exact ⟨zs, .inr ⟨_, rfl, hl, hm, by simpa using hz, hcell, hwz⟩⟩
  clear hA0
  refine (walk a0 len0 cap0 z0 a1 len1 cap1 z1 W w0 w1 (kwt_of_head hL)).mono fun e W' ⟨he, bel⟩ => ?_
  subst he
  exact ⟨_, rfl, _, _, _, [], _, _, hW', trodAll_mk1 (shut_bool Tryd.underlying4 _), (trodAll_cons_mk (Below.trod laidOut (by kernel_rfl) (of_decide_eq_true (by kernel_rfl)) k0 bel lt0) (trodAll_cons_mk (Below.trod laidOut (by kernel_rfl) (of_decide_eq_true (by kernel_rfl)) k1 bel lt1) trodAll_mk0)), Below.trodVars laidOut bel (by kernel_rfl) hV2, bel.frame _, fun h => by cases h⟩

theorem laid_met (os : Os) : laidMet Tryd.prog Rows.fnTreesRow.laid ((laidWorldK os).forCall (fun _ _ => 0) ⟨#[], #[.slice none 0 0, .slice none 0 0], []⟩).memory :=
  laidMet_of_run' 8 (by kernel_rfl) (by kernel_rfl)
theorem reads (os : Os) {H : Type} (enc : TypeId × Value → H) : ∃ places, DataW.whole enc Tryd.prog ((laidWorldK os).forCall (fun _ _ => 0) ⟨#[], #[.slice none 0 0, .slice none 0 0], []⟩).memory Tryd.f3.params.toList Rows.fnTreesSpec.vars false (#[.slice none 0 0, .slice none 0 0] : Array Value).toList 8 = some ([.nil, .nil], [Rows.laid_loop_example_g00838_impl_keyWords], places) :=
  ⟨[.cell 0 0, .cell 0 1, .cell 0 2, .cell 0 3, .cell 0 4, .cell 0 5, .cell 0 6, .cell 0 7, .cell 0 8, .cell 0 9, .cell 0 10, .cell 0 11, .cell 0 12, .cell 0 13], by kernel_rfl⟩

set_option maxRecDepth 100000 in
theorem lifted (os : Os) (started : os.Started) (H : Type) (enc : TypeId × Value → H) (F : Stop.Interp) :
    ReturnsInHanded {} Tryd.checked os 3 .any ((OpenSpec.ofChange Rows.fnTreesSpec).preRow enc Tryd.prog Tryd.f3 Rows.fnTreesRow.domain false Rows.fnTreesRow.laid) (((OpenSpec.ofChange Rows.fnTreesSpec).at F).post enc Tryd.prog Tryd.f3 false true false false) := by
  obtain ⟨places, hx⟩ := reads os enc
  refine returnsInHanded_of_row (C := Tryd.checked) (s := OpenSpec.ofChange Rows.fnTreesSpec) own started (by kernel_rfl) Tryd.func3
    (witness_row_at (enc := enc) (C := Tryd.checked) false (laidWorldK os) #[.slice none 0 0, .slice none 0 0] rfl (by kernel_rfl) (by kernel_rfl) (by kernel_rfl)
      (OpenSpec.preRow_of_cond 8 hx (by kernel_rfl) (fun k hk => by cases hk) (by kernel_rfl) (laid_met os))) ?_
  intro W base args ds gs before hval hW _ _ _ hL _ _
  exact contract H enc W base args ds gs before hval hW hL

theorem said : Rows.FnTreesSaid :=
  OpenClaim.holds_of_cond 3 Tryd.f3 rfl rfl rfl rfl rfl rfl rfl ⟨rfl, rfl, rfl, rfl, rfl⟩ rfl rfl rfl rfl rfl (by kernel_rfl) Tryd.func3 (by kernel_rfl)
    (of_decide_eq_true (by kernel_rfl)) (by unfold Func.isWrapper; first | (rw [if_pos (by decide +kernel)]; kernel_rfl) | (rw [if_neg (by decide +kernel)]; exact ⟨rfl, rfl⟩))
    (fun os started H enc _ F => by rw [OpenClaim.pre_eq_preRow]; exact lifted os started H enc F)

theorem plain (f : FuncId) (fn : Func) (hf : Tryd.pinned.checked.prog.funcNamed "loop.example/g00838/laws.FnTrees" = some f) (hfn : Tryd.pinned.checked.prog.funcs[f]? = some fn) :
    false = Tryd.pinned.checked.prog.looks [] ∧ ∀ (j : Nat) t, fn.params[j]? = some t → Tryd.pinned.checked.prog.wantsStandIn t = false := by
  obtain rfl : f = 3 := Option.some.inj ((show Tryd.prog.funcNamed "loop.example/g00838/laws.FnTrees" = some 3 by kernel_rfl).symm.trans hf) |>.symm
  obtain rfl : fn = Tryd.f3 := (Option.some.inj (Tryd.func3.symm.trans hfn)).symm
  refine ⟨by kernel_rfl, fun j t ht => ?_⟩
  rw [Tryd.params3] at ht
  have hm : t ∈ [22, 22] := by simpa using Array.mem_of_getElem? ht
  have hall : ([22, 22].all fun u => !Tryd.prog.wantsStandIn u) = true := by kernel_rfl
  exact (show Tryd.prog.wantsStandIn t = false by simpa using List.all_eq_true.1 hall t hm)

theorem proved : Rows.FnTreesCardSaid :=
  Claim7.holds_tied_plain_at .later [] _ _ _ _ said (fun _ h => by cases h) (by kernel_rfl) (fun _ h => by cases h) fnTrees_row_tie rfl ⟨rfl, rfl⟩ (by kernel_rfl) rfl plain (by kernel_rfl)
end Go.Proofs.YthgbhnedfdnfpaaDoor.fnTrees
