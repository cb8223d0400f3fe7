/- For every bytes that FnPlacesOfLines draws from: the line of a class begins with its head, parts nest as classes do, and all classes are walked: the law FnPlacesOfLines returns true. The tables that the row lists start as the program's text lays them (the card ties them). No other condition. -/
import Derived.Test.YthgbhnedfdnfpaaGreatDoorCards
import Derived.Test.YthgbhnedfdnfpaaGreatDoorTie
import Derived.Test.YthgbhnedfdnfpaaGreatDoorPkc
import Derived.Test.YthgbhnedfdnfpaaGreatDoorPkn
import Derived.Test.YthgbhnedfdnfpaaGreatDoorPkze
import Derived.Test.YthgbhnedfdnfpaaGreatDoorPkzk
import Derived.Test.YthgbhnedfdnfpaaGreatDoorPkzp
import Derived.Test.YthgbhnedfdnfpaaGreatDoorPkzr
import Derived.ProofKit
import Derived.OpenShut
import Derived.ShutString
import Derived.ChangeOld
import Derived.ChangeVars
import Derived.Deep.DeepHandedRow
import Derived.Deep.CutRange
namespace Go.Proofs.YthgbhnedfdnfpaaGreatDoor.fnPlacesOfLines
set_option maxRecDepth 100000
open Go.ChangeShapes Go.WideShapes Go.ChangeAt Go.RowKit
set_option linter.unusedVariables false
set_option linter.unusedSimpArgs false

theorem four_new (w : World) (a0 a1 a2 a3 : Value) (T : TypeId) : FourIs (w.alloc (.cells #[a0, a1, a2, a3] T)) w.heap.size a0 a1 a2 a3 := (box_four (Below.refl _ _)).1
set_option maxRecDepth 100000 in
set_option maxHeartbeats 25600000 in
theorem walk_in (a0 a1 : Option Addr) (n0 n1 cap0 cap1 : Nat) (ys0 : List Int) (w : World) (HT : Hid (Kwt w)) (hU : Hid (Units w)) (hP : Hid (Pow w)) (hW : Hid (FwW w)) (hD : Hid (Dig w)) (HL0 : Hid (ys0.length = n0)) (HI0 : Hid (In w a0 ys0)) (h0 : n0 ≤ 9223372036854775807) (h1 : n1 ≤ 9223372036854775807) (d : decide ((1048576 : Int) < wrap64 ((n0 : Int) + n1)) = false) :
    Calls Tryz.prog 3 #[.slice a0 n0 cap0, .slice a1 n1 cap1] w fun e w' => e = .returned (.bool true) ∧ Below w.heap.size w w' := by
  go_enter Tryz.func3, Tryz.ntmps3
  go_upto_region 4 with (go_at_call 4; refine (drawLines_any _ _ _ _ _ HL0 HI0 h0).mono ?_; rintro e v1 ⟨v, c, q, rfl, oc, hc25, hf17, hs9, hq0, hq1, b⟩; obtain ⟨ac, cc, af, cf, rfl, _, _, _⟩ := own_cfg_parts oc; have T := Lib.hid b; have CV := Lib.hid oc.cfg; clear oc b)
  obtain ⟨s, L, F, d⟩ := c
  simp only at CV hc25 hf17 hs9 hq1
  simp only
  obtain ⟨wa, hwa⟩ : ∃ u, v1.alloc (.cells #[.string s, .slice ac L.length cc, .slice af F.length cf, .int .i64 d] 26) = u := ⟨_, rfl⟩
  have bn : Below v1.heap.size v1 wa := by rw [← hwa]; exact one_new2 _ _
  have BO : Hid (FourIs wa v1.heap.size (.string s) (.slice ac L.length cc) (.slice af F.length cf) (.int .i64 d)) := Lib.hid (by rw [← hwa]; exact four_new _ _ _ _ _ _)
  rw [hwa]
  have T := Lib.hid (T.out.trans (bn.mono T.out.size))
  have CV := Lib.hid (CV.out.below bn)
  obtain ⟨bx, hbx⟩ : ∃ u, v1.heap.size = u := ⟨_, rfl⟩
  rw [hbx] at BO ⊢
  clear hwa bn hbx
  have M : Hid (CfgM ⟨s, L, F, d⟩) := Lib.hid ⟨by simp only; omega, by simp only; omega, by simp only; omega⟩
  have I0 := Lib.hid (fun w' (h : Below w.heap.size w w') hc => implLinesOfPart_any (.agg #[.string s, .slice ac L.length cc, .slice af F.length cf, .int .i64 d]) ⟨s, L, F, d⟩ q w' (Lib.hid (HT.out.below h)) hc M (Lib.hid (hU.out.below h)) (Lib.hid (hP.out.below h)) (Lib.hid (hW.out.below h)) (Lib.hid (hD.out.below h)))
  have S0 := Lib.hid (fun w h => specLinesOfPart_any (.agg #[.string s, .slice ac L.length cc, .slice af F.length cf, .int .i64 d]) ⟨s, L, F, d⟩ q w h M)
  have I1 := Lib.hid (fun w' (h : Below w.heap.size w w') hc => implLineOfClass_any (.agg #[.string s, .slice ac L.length cc, .slice af F.length cf, .int .i64 d]) ⟨s, L, F, d⟩ q w' (Lib.hid (HT.out.below h)) hc M (Lib.hid (hU.out.below h)) (Lib.hid (hP.out.below h)) (Lib.hid (hW.out.below h)) (Lib.hid (hD.out.below h)))
  have S1 := Lib.hid (fun w h => specLineOfClass_any (.agg #[.string s, .slice ac L.length cc, .slice af F.length cf, .int .i64 d]) ⟨s, L, F, d⟩ q w h M)
  have I2 := Lib.hid (fun w' (h : Below w.heap.size w w') hc => implWalkClasses_any (.agg #[.string s, .slice ac L.length cc, .slice af F.length cf, .int .i64 d]) ⟨s, L, F, d⟩ w' (Lib.hid (HT.out.below h)) hc M (Lib.hid (hU.out.below h)) (Lib.hid (hP.out.below h)) (Lib.hid (hW.out.below h)) (Lib.hid (hD.out.below h)))
  have S2 := Lib.hid (fun w h => specWalkClasses_any (.agg #[.string s, .slice ac L.length cc, .slice af F.length cf, .int .i64 d]) ⟨s, L, F, d⟩ w h M)
  have I3 := Lib.hid (fun w' (h : Below w.heap.size w w') hc => implTreeText_any (.agg #[.string s, .slice ac L.length cc, .slice af F.length cf, .int .i64 d]) ⟨s, L, F, d⟩ w' (Lib.hid (HT.out.below h)) hc M (Lib.hid (hP.out.below h)))
  have S3 := Lib.hid (fun w h => specTreeText_any (.agg #[.string s, .slice ac L.length cc, .slice af F.length cf, .int .i64 d]) ⟨s, L, F, d⟩ w h M)
  unfold resLinesOfPart3 at I0 S0
  unfold resLineOfClass2 at I1 S1
  rw [show resLineOfClass1 ⟨s, L, F, d⟩ q = resLinesOfPart1 ⟨s, L, F, d⟩ q from rfl] at I1 S1
  unfold SaysTS resWalkClasses2 at I2 S2
  have HX := Lib.hid (fun (h : hasI ⟨s, L, F, d⟩ q = true) => has_tree h)
  have HR1 : Hid (resLinesOfPart1 ⟨s, L, F, d⟩ q = if hasI ⟨s, L, F, d⟩ q then (lineP L 9 q.toNat : Int) else 0) := Lib.hid rfl
  have HR2 : Hid (resLinesOfPart2 ⟨s, L, F, d⟩ q = if hasI ⟨s, L, F, d⟩ q then (lineP L 9 q.toNat : Int) + (sizeP L 9 q.toNat : Int) - 1 else 0) := Lib.hid rfl
  have HWK : Hid (goodC ⟨s, L, F, d⟩ = true → (resWalkClasses1 ⟨s, L, F, d⟩).length = L.length) := Lib.hid (fun h => by
    rw [(wc_good h).1]
    exact walk_all (good_of h).tree (good_of h).top)
  have hl2 : (resWalkClasses1 ⟨s, L, F, d⟩).length ≤ 1048576 := by
    by_cases h : goodC ⟨s, L, F, d⟩ = true
    · have := HWK.out h
      omega
    · rw [(wc_bad (by simpa using h)).1]
      simp
  obtain ⟨r1, hr1⟩ : ∃ u, resLinesOfPart1 ⟨s, L, F, d⟩ q = u := ⟨_, rfl⟩
  obtain ⟨r2, hr2⟩ : ∃ u, resLinesOfPart2 ⟨s, L, F, d⟩ q = u := ⟨_, rfl⟩
  obtain ⟨K, hK⟩ : ∃ u, resWalkClasses1 ⟨s, L, F, d⟩ = u := ⟨_, rfl⟩
  obtain ⟨tt, htt⟩ : ∃ u, resTreeText1 ⟨s, L, F, d⟩ = u := ⟨_, rfl⟩
  obtain ⟨hh, hhh⟩ : ∃ u, hasI ⟨s, L, F, d⟩ q = u := ⟨_, rfl⟩
  obtain ⟨gd, hgd⟩ : ∃ u, goodC ⟨s, L, F, d⟩ = u := ⟨_, rfl⟩
  rw [hr1, hr2, hhh] at I0 S0
  rw [hr1, hhh] at I1 S1
  rw [hK, hgd] at I2 S2
  rw [htt, hgd] at I3 S3
  rw [hK] at hl2 HWK
  rw [hgd] at HWK
  rw [hr1, hhh] at HR1
  rw [hr2, hhh] at HR2
  have EH := Lib.hid hhh
  have EG := Lib.hid hgd
  clear hr1 hr2 hK htt hhh hgd
  obtain ⟨y0, y1, y2, y3, _⟩ := BO.out
  go_upto_region 5 with (go_at_call 5; refine (I0.out _ T.out CV).mono ?_; rintro e w1 ⟨rfl, b⟩; have T := Lib.hid (T.out.trans (b.mono T.out.size)); have CV := Lib.hid (CV.out.below b); have BO := Lib.hid (BO.out.on b); clear y0 y1 y2 y3; obtain ⟨y0, y1, y2, y3, _⟩ := BO.out; clear b)
  go_upto_region 6 with (go_at_call 6; refine (S0.out _ CV).mono ?_; rintro e w2 ⟨rfl, b⟩; have T := Lib.hid (T.out.trans (b.mono T.out.size)); have CV := Lib.hid (CV.out.below b); have BO := Lib.hid (BO.out.on b); clear y0 y1 y2 y3; obtain ⟨y0, y1, y2, y3, _⟩ := BO.out; clear b)
  go_upto_region 7 with (go_at_call 7; refine (I1.out _ T.out CV).mono ?_; rintro e w3 ⟨rfl, b⟩; have T := Lib.hid (T.out.trans (b.mono T.out.size)); have CV := Lib.hid (CV.out.below b); have BO := Lib.hid (BO.out.on b); clear y0 y1 y2 y3; obtain ⟨y0, y1, y2, y3, _⟩ := BO.out; clear b)
  go_upto_region 8 with (go_at_call 8; refine (S1.out _ CV).mono ?_; rintro e w4 ⟨rfl, b⟩; have T := Lib.hid (T.out.trans (b.mono T.out.size)); have CV := Lib.hid (CV.out.below b); have BO := Lib.hid (BO.out.on b); clear y0 y1 y2 y3; obtain ⟨y0, y1, y2, y3, _⟩ := BO.out; clear b)
  go_upto_region 9 with (go_at_call 9; refine (I2.out _ T.out CV).mono ?_; rintro e w5 ⟨x5, rfl, o, b⟩; have T := Lib.hid (T.out.trans (b.mono T.out.size)); have CV := Lib.hid (CV.out.below b); have BO := Lib.hid (BO.out.on b); have X5 := Lib.hid (Nat0V.own o); clear y0 y1 y2 y3; obtain ⟨y0, y1, y2, y3, _⟩ := BO.out; clear b o)
  go_upto_region 10 with (go_at_call 10; refine (S2.out _ CV).mono ?_; rintro e w6 ⟨x6, rfl, o, b⟩; have T := Lib.hid (T.out.trans (b.mono T.out.size)); have CV := Lib.hid (CV.out.below b); have X5 := Lib.hid (X5.out.below b); have BO := Lib.hid (BO.out.on b); have X6 := Lib.hid (Nat0V.own o); clear y0 y1 y2 y3; obtain ⟨y0, y1, y2, y3, _⟩ := BO.out; clear b o)
  go_upto_region 11 with (go_at_call 11; refine (I3.out _ T.out CV).mono ?_; rintro e w7 ⟨rfl, b⟩; have T := Lib.hid (T.out.trans (b.mono T.out.size)); have CV := Lib.hid (CV.out.below b); have X5 := Lib.hid (X5.out.below b); have X6 := Lib.hid (X6.out.below b); have BO := Lib.hid (BO.out.on b); clear y0 y1 y2 y3; obtain ⟨y0, y1, y2, y3, _⟩ := BO.out; clear b)
  go_upto_region 12 with (go_at_call 12; refine (S3.out _ CV).mono ?_; rintro e w8 ⟨rfl, b⟩; have T := Lib.hid (T.out.trans (b.mono T.out.size)); have CV := Lib.hid (CV.out.below b); have X5 := Lib.hid (X5.out.below b); have X6 := Lib.hid (X6.out.below b); have BO := Lib.hid (BO.out.on b); clear y0 y1 y2 y3; obtain ⟨y0, y1, y2, y3, _⟩ := BO.out; clear b)
  clear I0 S0 I1 S1 I2 S2 I3 S3
  have QW := Lib.hid (fun w h h' => qNats_any x5 x6 K w h h' hl2)
  go_cut [143] from 38 to 143 (fun c wx => c = .bool false ∧ Below w8.heap.size w8 wx)
  case first =>
    go_wp2_with (go_at_call 13; refine (QW.out _ (Lib.hid X5.out.natv) (Lib.hid X6.out.natv)).mono ?_; rintro e w9 ⟨rfl, b⟩; have Z := Lib.hid b; clear b)
    go_meet
    exact ⟨rfl, Z.out⟩
  case rest =>
  obtain ⟨rfl, b⟩ := hcut
  obtain ⟨W1, rfl⟩ : ∃ u, u = wc := ⟨_, rfl⟩
  have T := Lib.hid (T.out.trans (b.mono T.out.size))
  have CV := Lib.hid (CV.out.below b)
  have X5 := Lib.hid (X5.out.below b)
  have X6 := Lib.hid (X6.out.below b)
  have BO := Lib.hid (BO.out.on b)
  clear b
  clear QW X5 y0 y1 y2 y3
  obtain ⟨y0, y1, y2, y3, _⟩ := BO.out
  obtain ⟨adx, cx, rfl, _, _⟩ := X6.out
  go_upto_region 14 with fail
  go_cut [152] from 144 to 152 (fun c wx => c = .bool false ∧ wx = W1)
  case first =>
    cases gd
    · go_wp2_with fail
      go_meet
      exact ⟨rfl, rfl⟩
    · have hw : ((K.length : Int) != (L.length : Int)) = false := by rw [HWK.out rfl]; simp
      go_wp2_with fail
      go_meet
      exact ⟨rfl, rfl⟩
  case rest =>
  obtain ⟨rfl, hwc⟩ := hcut
  subst hwc
  clear X6 HWK
  cases hh
  · go_wp2_with fail
    go_ret
    exact ⟨rfl, T.out⟩
  obtain ⟨k, rfl, hkL, hgood, TR, htop, h24⟩ := HX.out EH.out
  try dsimp only at hkL TR htop
  have hh := EH.out
  have e1 : r1 = (lineP L 9 k : Int) := by have := HR1.out; rw [if_pos rfl] at this; exact this
  have e2 : r2 = (lineP L 9 k : Int) + (sizeP L 9 k : Int) - 1 := by have := HR2.out; rw [if_pos rfl] at this; exact this
  have hsp : 1 ≤ sizeP L 9 k := size_pos 8 k
  have hnm : nmG s = true := by have := hgood; unfold goodC at this; exact (Bool.and_eq_true_iff.1 this).1
  obtain ⟨l', f0, q1, q2, q3, q4, q5, q6, q7, q8⟩ := class_line (goodP hgood) hnm hkL
  try dsimp only at q1 q2 q3 q4 q5 q6 q7 q8
  have hSelf := cls_own hh
  have HPF := Lib.hid (fun hf => part_facts hh hf)
  have htz : (textP ⟨s, L, F, d⟩).size ≤ 100000000000000 := by have := text_size ⟨s, L, F, d⟩; rw [linL_text, pc_good hgood] at this; exact this
  have IP := Lib.hid (fun w' (h : Below w.heap.size w w') hc => implPrintConfig_any (.agg #[.string s, .slice ac L.length cc, .slice af F.length cf, .int .i64 d]) ⟨s, L, F, d⟩ w' (Lib.hid (HT.out.below h)) hc M (Lib.hid (hU.out.below h)) (Lib.hid (hP.out.below h)) (Lib.hid (hW.out.below h)) (Lib.hid (hD.out.below h)))
  have SP := Lib.hid (fun w h => specPrintConfig_any (.agg #[.string s, .slice ac L.length cc, .slice af F.length cf, .int .i64 d]) ⟨s, L, F, d⟩ w h M)
  rw [pc_good hgood, hgood] at IP SP
  obtain ⟨ac', cc', af', cf', ecfg, iC, iF⟩ := CV.out
  injection ecfg with ecfg
  injection ecfg with ecfg
  injection ecfg with _ ecfg
  injection ecfg with ec ecfg
  injection ec with ec1 _ ec2
  subst ec1
  obtain ⟨gC, rfl, hAt, hgC⟩ := iC (Nat.lt_of_le_of_lt (Nat.zero_le _) hkL)
  clear iF ecfg ec2
  have HAt := Lib.hid hAt
  clear hAt
  obtain ⟨ln, hln⟩ : ∃ u, lineP L 9 k = u := ⟨_, rfl⟩
  obtain ⟨sz, hsz⟩ : ∃ u, sizeP L 9 k = u := ⟨_, rfl⟩
  obtain ⟨tx, htx⟩ : ∃ u, textP ⟨s, L, F, d⟩ = u := ⟨_, rfl⟩
  obtain ⟨x, hx⟩ : ∃ u, L.getD k cls0 = u := ⟨_, rfl⟩
  obtain ⟨of_, hof⟩ : ∃ u, (fun j => offT (allT ⟨s, L, F, d⟩) j) = u := ⟨_, rfl⟩
  have hof' := fun j => congrFun hof j
  try dsimp only at hof'
  have HLS : Hid (∀ j, j + 1 < ln → ∃ z : Nat, 1 ≤ z ∧ of_ (j + 1) = of_ j + z ∧ of_ j + z ≤ tx.size ∧ byT tx (of_ j + (z - 1)) = 10 ∧ ∀ m, m < z - 1 → byT tx (of_ j + m) ≠ 10) := Lib.hid (fun j hj => by
    obtain ⟨t, ht, hq⟩ := q1 j (by rw [hln]; exact hj)
    have := line_scan _ j t ht hq
    rw [allT_text, htx, hof', hof'] at this
    exact ⟨t.size, this⟩)
  have hof0 : of_ 0 = 0 := by rw [← hof']; exact offT_zero _
  rw [hln] at q2 q3
  rw [hof'] at q3
  rw [htx] at q4 q5 q6 q7 IP SP htz
  rw [hx] at q6 q7 q8 hSelf
  rw [hln, hsz] at e2
  rw [hln] at e1
  have HPF : Hid (resFindClass2 ⟨s, L, F, d⟩ x.p = true → ∃ p : Nat, resFindClass1 ⟨s, L, F, d⟩ x.p = (p : Int) ∧ hasI ⟨s, L, F, d⟩ (p : Int) = true ∧ lineP L 9 p < ln ∧ ln + sz < lineP L 9 p + sizeP L 9 p) := Lib.hid (fun h => by
    have := HPF.out (by rw [show (({ s := s, cs := L, fs := F, d := d } : Cfg).cs.getD k cls0) = x from hx]; exact h)
    rw [show (({ s := s, cs := L, fs := F, d := d } : Cfg).cs.getD k cls0) = x from hx] at this
    obtain ⟨p, a1, a2, a3, a4⟩ := this
    try dsimp only at a3 a4
    rw [hln] at a3 a4
    rw [hsz] at a4
    exact ⟨p, a1, a2, a3, a4⟩)
  have HX2 := Lib.hid hx
  have hlsz : 1 ≤ sz := by rw [← hsz]; exact hsp
  subst e1 e2
  clear hln hsz htx hx hof hof' q1 HX HR1 HR2 EH EG hh hnm hsp TR htop hgood y0 y1 y2 y3
  obtain ⟨y0, y1, y2, y3, _⟩ := BO.out
  go_upto_region 19 with (go_at_call 14; refine (IP.out _ T.out CV).mono ?_; rintro e w10 ⟨rfl, b⟩; have T := Lib.hid (T.out.trans (b.mono T.out.size)); have CV := Lib.hid (CV.out.below b); have BO := Lib.hid (BO.out.on b); clear y0 y1 y2 y3; obtain ⟨y0, y1, y2, y3, _⟩ := BO.out; have HAt := Lib.hid (HAt.out.below b hgC); have hgC := Nat.lt_of_lt_of_le hgC b.size; clear b)
  go_upto_region 20 with (go_at_call 15; refine (SP.out _ CV).mono ?_; rintro e w11 ⟨rfl, b⟩; have T := Lib.hid (T.out.trans (b.mono T.out.size)); have CV := Lib.hid (CV.out.below b); have BO := Lib.hid (BO.out.on b); clear y0 y1 y2 y3; obtain ⟨y0, y1, y2, y3, _⟩ := BO.out; have HAt := Lib.hid (HAt.out.below b hgC); have hgC := Nat.lt_of_lt_of_le hgC b.size; clear b)
  clear IP SP
  have IH := Lib.hid (fun w' (h : Below w.heap.size w w') => implClassHead_any x w' (Lib.hid (hU.out.below h)) (Lib.hid (hP.out.below h)))
  rw [rh_yes hSelf, hSelf] at IH
  obtain ⟨hd, hhd⟩ : ∃ u, headT x = u := ⟨_, rfl⟩
  rw [show headN x.i.toNat x.r.toNat x.e.toNat x.b.toNat x.u.toNat x.o.toNat = hd from hhd] at IH
  rw [hhd] at q6 q7 q8
  clear hhd hSelf
  obtain ⟨z0, z1, z2, z3, z4, z5, z6, z7⟩ := HAt.out.cls k hkL x HX2.out
  obtain ⟨xi, xp, xr, xe, xb, xu, xo, xl⟩ := x
  unfold clsV at IH
  simp only at IH z0 z1 z2 z3 z4 z5 z6 z7
  have hkI : (k : Int) < L.length := by omega
  go_upto_region 21 with (go_at_call 16; refine (IH.out _ T.out).mono ?_; rintro e w12 ⟨rfl, b⟩; have T := Lib.hid (T.out.trans (b.mono T.out.size)); have CV := Lib.hid (CV.out.below b); have BO := Lib.hid (BO.out.on b); clear y0 y1 y2 y3; obtain ⟨y0, y1, y2, y3, _⟩ := BO.out; have HAt := Lib.hid (HAt.out.below b hgC); have hgC := Nat.lt_of_lt_of_le hgC b.size; clear b)
  clear z0 z1 z2 z3 z4 z5 z6 z7 IH
  have dl : decide ((ln : Int) + (sz : Int) - 1 < (ln : Int)) = false := not_lt (by omega)
  go_upto_if 198 with fail
  clear dl
  obtain ⟨m0, hm0⟩ : ∃ u, 2 * l' = u := ⟨_, rfl⟩
  rw [hm0] at q4 q5 q6 q7
  have Q3 := Lib.hid q3
  have Q4 := Lib.hid q4
  have Q5 := Lib.hid q5
  have Q7 := Lib.hid q7
  have HO := Lib.hid hof0
  clear q3 q4 q5 q7 hof0 hm0
  go_wp2_with fail
  go_loopw [31, 32] (fun fv kv wr => ∃ j : Nat, 1 ≤ j ∧ j ≤ ln ∧ j ≤ of_ (j - 1) + 1 ∧ kv = .int .i64 (j : Int) ∧ fv = .int .i64 ((of_ (j - 1) : Nat) : Int) ∧ Hid (wr = w12)) (fun _ kv _ => ln - (intOf kv).toNat)
  case atStart => exact ⟨1, Nat.le_refl _, by omega, by omega, rfl, by rw [Nat.sub_self, HO.out]; rfl, Lib.hid rfl⟩
  case round =>
    obtain ⟨j, hj1, hjl, hjf, rfl, rfl, hw⟩ := hrel
    have hwe := hw.out
    subst hwe
    clear hw
    obtain ⟨f, hf⟩ : ∃ f, of_ (j - 1) = f := ⟨_, rfl⟩
    rw [hf] at hjf
    by_cases hlt : j < ln
    · have hji : (j : Int) < ln := by omega
      obtain ⟨z, hz1, hz2, hz3, hz4, hz5⟩ := HLS.out (j - 1) (by omega)
      rw [show j - 1 + 1 = j by omega] at hz2
      rw [hf] at hz2 hz3 hz4 hz5 ⊢
      have HZ2 := Lib.hid hz2
      have HZ4 := Lib.hid hz4
      have HZ5 := Lib.hid hz5
      clear hf hz2 hz4 hz5
      go_wp2_with fail
      go_loopw [31] (fun fv wr' => ∃ m : Nat, m ≤ z - 1 ∧ fv = .int .i64 ((f : Int) + m) ∧ Hid (wr' = wr)) (fun fv _ => f + z - (intOf fv).toNat)
      case atStart => exact ⟨0, Nat.zero_le _, by simp, Lib.hid rfl⟩
      case round =>
        obtain ⟨m, hm, rfl, hw⟩ := hrel
        have hwe := hw.out
        subst hwe
        clear hw
        have hms : f + m < tx.size := by omega
        have hmi : (f : Int) + m < tx.size := by omega
        have hix := byte_at tx (f + m) hms ((f : Int) + m) (by omega)
        obtain ⟨y, hy⟩ : ∃ y : Nat, (tx[f + m]'hms).toNat = y := ⟨_, rfl⟩
        have hby : byT tx (f + m) = y := (byT_eq hms).trans hy
        rw [hy] at hix
        clear hy
        by_cases hml : m < z - 1
        · have dz : ((y : Int) != 10) = true := by
            have := HZ5.out m hml
            rw [hby] at this
            simp
            omega
          clear hby hm
          go_wp2_with fail
          go_roundw
          case rel => exact ⟨m + 1, by omega, by go_num, (by first | exact Lib.hid rfl | exact Lib.hid trivial)⟩
          case measure => simp [intOf]; omega
        · have hme : m = z - 1 := by omega
          have dz : ((y : Int) != 10) = false := by
            have := HZ4.out
            rw [← hme, hby] at this
            simp
            omega
          have HN : Hid (of_ (j + 1 - 1) = f + m + 1) := Lib.hid (by rw [Nat.add_sub_cancel, HZ2.out]; omega)
          clear hby hm hme
          go_wp2_with fail
          go_roundw
          case rel => exact ⟨j + 1, by omega, by omega, by rw [HN.out]; omega, by go_num, by rw [HN.out]; go_num, (by first | exact Lib.hid rfl | exact Lib.hid trivial)⟩
          case measure => simp [intOf]; omega
    · have hjn : j = ln := by omega
      have hji : ¬ (j : Int) < ln := by omega
      rw [hjn] at hf
      have Q3' : Hid (f0 = f) := Lib.hid (by rw [Q3.out, hf])
      rw [show of_ (j - 1) = f by rw [hjn]; exact hf]
      obtain rfl := Q3'.out
      clear hf Q3' Q3 HLS HO hjn
      go_wp2_with fail
      go_loopw [31] (fun fv wr' => ∃ m : Nat, m ≤ m0 ∧ fv = .int .i64 ((f0 : Int) + m) ∧ Hid (wr' = wr)) (fun fv _ => f0 + m0 + 1 - (intOf fv).toNat)
      case atStart => exact ⟨0, Nat.zero_le _, by simp, Lib.hid rfl⟩
      case round =>
        obtain ⟨m, hm, rfl, hw⟩ := hrel
        have hwe := hw.out
        subst hwe
        clear hw
        by_cases hml : m < m0
        · obtain ⟨hms, hby⟩ := Q4.out m hml
          have hmi : (f0 : Int) + m < tx.size := by omega
          have hix := byte_at tx (f0 + m) hms ((f0 : Int) + m) (by omega)
          rw [← byT_eq hms, hby] at hix
          clear hby
          go_wp2_with fail
          go_roundw
          case rel => exact ⟨m + 1, by omega, by go_num, (by first | exact Lib.hid rfl | exact Lib.hid trivial)⟩
          case measure => simp [intOf]; omega
        · obtain rfl : m = m0 := by omega
          have dsz : decide ((tx.size : Int) < (f0 : Int) + m + hd.size) = false := not_lt (by omega)
          have hwk : IntKind.i64.wrap ((f0 : Int) + m + hd.size) = (f0 : Int) + m + hd.size := IntWalk.i64_in _ (by omega)
          have hsl : ∀ w, (Instr.slice 9 (.string tx) (some (.int .i64 ((f0 : Int) + m))) (some (.int .i64 ((f0 : Int) + m + hd.size))) none).run Tryz.prog w = .ok (.string hd) w := fun w => by
            have := run_slice_string (P := Tryz.prog) w 9 tx .i64 .i64 ((f0 : Int) + m) ((f0 : Int) + m + hd.size) Tryz.underlying9 (by omega) (by omega) (by omega)
            rw [this, show ((f0 : Int) + m).toNat = f0 + m by omega, show ((f0 : Int) + m + hd.size).toNat = f0 + m + hd.size by omega, Q7.out]
          have hmi : (f0 : Int) + m < tx.size := by omega
          have hsp : f0 + m < tx.size := by omega
          have hix := byte_at tx (f0 + m) hsp ((f0 : Int) + m) (by omega)
          obtain ⟨y, hy⟩ : ∃ y : Nat, (tx[f0 + m]'hsp).toNat = y := ⟨_, rfl⟩
          have dz : ((y : Int) == 32) = false := by
            have := Q5.out
            rw [byT_eq hsp, hy] at this
            simp
            omega
          rw [hy] at hix
          clear hy Q5 hsp
          go_upto_region 34 with fail
          have HQ : Hid (∀ w', BX wr w' → w'.cell? ⟨bx, 0, none⟩ = some (.string s) ∧ w'.cell? ⟨bx, 1, none⟩ = some (.slice (some ⟨gC, 0, none⟩) L.length cc) ∧ w'.cell? ⟨bx, 2, none⟩ = some (.slice af F.length cf) ∧ w'.cell? ⟨bx, 3, none⟩ = some (.int .i64 d) ∧ w'.cell? ⟨gC, k * 8 + 1, none⟩ = some (.int .i64 xp) ∧ BX wr w') := Lib.hid (fun w' h => by
            have hb : Below wr.heap.size wr w' := h
            obtain ⟨e0, e1, e2, e3, _⟩ := BO.out.on hb
            obtain ⟨_, f1, _, _, _, _, _, _⟩ := (HAt.out.below hb hgC).cls k hkL _ HX2.out
            exact ⟨e0, e1, e2, e3, f1, h⟩)
          have IFC := Lib.hid (fun w' (h : BX wr w') => implFindClass_any (.agg #[.string s, .slice (some ⟨gC, 0, none⟩) L.length cc, .slice af F.length cf, .int .i64 d]) ⟨s, L, F, d⟩ xp w' (Lib.hid (HT.out.below (T.out.trans (Below.mono h T.out.size)))) (Lib.hid (CV.out.below h)) M)
          have ILP := Lib.hid (fun a w' (h : Below w.heap.size w w') hc => implLinesOfPart_any (.agg #[.string s, .slice (some ⟨gC, 0, none⟩) L.length cc, .slice af F.length cf, .int .i64 d]) ⟨s, L, F, d⟩ a w' (Lib.hid (HT.out.below h)) hc M (Lib.hid (hU.out.below h)) (Lib.hid (hP.out.below h)) (Lib.hid (hW.out.below h)) (Lib.hid (hD.out.below h)))
          have HPG := Lib.hid HPF.out
          obtain ⟨fi, hfi⟩ : ∃ u, resFindClass1 ⟨s, L, F, d⟩ xp = u := ⟨_, rfl⟩
          obtain ⟨fo, hfo⟩ : ∃ u, resFindClass2 ⟨s, L, F, d⟩ xp = u := ⟨_, rfl⟩
          rw [hfi, hfo] at IFC
          try simp only at HPG
          rw [hfi, hfo] at HPG
          clear hfi hfo HPF y0 y1 y2 y3
          go_cut [33, 34] from 248 to 258 (fun c1 c2 wx => c1 = .int .i64 fi ∧ c2 = .bool fo ∧ Below wr.heap.size wr wx)
          case first =>
            refine wp_region_held_drew (S := fun w' => w'.cell? ⟨bx, 0, none⟩ = some (.string s) ∧ w'.cell? ⟨bx, 1, none⟩ = some (.slice (some ⟨gC, 0, none⟩) L.length cc) ∧ w'.cell? ⟨bx, 2, none⟩ = some (.slice af F.length cf) ∧ w'.cell? ⟨bx, 3, none⟩ = some (.int .i64 d) ∧ w'.cell? ⟨gC, k * 8 + 1, none⟩ = some (.int .i64 xp) ∧ BX wr w') (by kernel_rfl) ?_ (fun hHeld => ?_)
            · (try dsimp only)
              (first | (go_split_ands; refine HQ.out _ ?_; repeat' (with_reducible first | exact BX.drew0 _ | exact BX.refl _ | assumption | refine BX.call' (by assumption) ?_ | refine BX.drew ?_)))
            refine held_take (i := 0) (d := 249) (v := ?_) rfl rfl (by kernel_rfl) (by kernel_rfl) (by kernel_rfl) (fun _ _ _ h => h) (by rfl) ?_ (by assumption) ?_
            rotate_left
            · intro w hSw
              (try dsimp only at hSw)
              go_simp
              try with_reducible rfl
            try simp only [Act.put, List.setIfInBounds_toArray, List.set_cons_zero, List.set_cons_succ]
            refine held_take (i := 1) (d := 250) (v := ?_) rfl rfl (by kernel_rfl) (by kernel_rfl) (by kernel_rfl) (fun _ _ _ h => h) (by rfl) ?_ (by assumption) ?_
            rotate_left
            · intro w hSw
              (try dsimp only at hSw)
              go_simp
              try with_reducible rfl
            try simp only [Act.put, List.setIfInBounds_toArray, List.set_cons_zero, List.set_cons_succ]
            refine held_take (i := 2) (d := 251) (v := ?_) rfl rfl (by kernel_rfl) (by kernel_rfl) (by kernel_rfl) (fun _ _ _ h => h) (by rfl) ?_ (by assumption) ?_
            rotate_left
            · intro w hSw
              (try dsimp only at hSw)
              go_simp
              try with_reducible rfl
            try simp only [Act.put, List.setIfInBounds_toArray, List.set_cons_zero, List.set_cons_succ]
            refine held_take (i := 3) (d := 252) (v := ?_) rfl rfl (by kernel_rfl) (by kernel_rfl) (by kernel_rfl) (fun _ _ _ h => h) (by rfl) ?_ (by assumption) ?_
            rotate_left
            · intro w hSw
              (try dsimp only at hSw)
              go_simp
              try with_reducible rfl
            try simp only [Act.put, List.setIfInBounds_toArray, List.set_cons_zero, List.set_cons_succ]
            refine held_take (i := 4) (d := 253) (v := ?_) rfl rfl (by kernel_rfl) (by kernel_rfl) (by kernel_rfl) (fun _ _ _ h => h) (by rfl) ?_ (by assumption) ?_
            rotate_left
            · intro w hSw
              (try dsimp only at hSw)
              go_simp
              try with_reducible rfl
            try simp only [Act.put, List.setIfInBounds_toArray, List.set_cons_zero, List.set_cons_succ]
            refine held_take (i := 5) (d := 254) (v := ?_) rfl rfl (by kernel_rfl) (by kernel_rfl) (by kernel_rfl) (fun _ _ _ h => h) (by rfl) ?_ (by assumption) ?_
            rotate_left
            · intro w hSw
              (try dsimp only at hSw)
              go_simp
              try with_reducible rfl
            try simp only [Act.put, List.setIfInBounds_toArray, List.set_cons_zero, List.set_cons_succ]
            refine held_take (i := 6) (d := 255) (v := ?_) rfl rfl (by kernel_rfl) (by kernel_rfl) (by kernel_rfl) (fun _ _ _ h => h) (by rfl) ?_ (by assumption) ?_
            rotate_left
            · intro w hSw
              (try dsimp only at hSw)
              go_simp
              try with_reducible rfl
            try simp only [Act.put, List.setIfInBounds_toArray, List.set_cons_zero, List.set_cons_succ]
            refine wpAnyH_ready (rs := [7]) (by kernel_rfl) (by simp) ?_
            refine AllReadyH.cons rfl (fun K' hK => ?_) AllReadyH.nil
            go_simp
            (go_at_call 17; go_split_ands; (with_reducible refine (IFC.out _ (by assumption)).mono ?_); rintro e u3 ⟨rfl, b3'⟩)
            refine hK.out _ _ ?_ (fun hHeld => ?_)
            · (try dsimp only)
              (first | (go_split_ands; refine HQ.out _ ?_; repeat' (with_reducible first | exact BX.drew0 _ | exact BX.refl _ | assumption | refine BX.call' (by assumption) ?_ | refine BX.drew ?_)))
            clear hK K'
            try simp only [Act.put, List.setIfInBounds_toArray, List.set_cons_zero, List.set_cons_succ]
            refine held_take (i := 8) (d := 248) (v := ?_) rfl rfl (by kernel_rfl) (by kernel_rfl) (by kernel_rfl) (fun _ _ _ h => h) (by rfl) ?_ (by assumption) ?_
            rotate_left
            · intro w hSw
              (try dsimp only at hSw)
              go_simp
              try with_reducible rfl
            try simp only [Act.put, List.setIfInBounds_toArray, List.set_cons_zero, List.set_cons_succ]
            refine held_take (i := 9) (d := 257) (v := ?_) rfl rfl (by kernel_rfl) (by kernel_rfl) (by kernel_rfl) (fun _ _ _ h => h) (by rfl) ?_ (by assumption) ?_
            rotate_left
            · intro w hSw
              (try dsimp only at hSw)
              go_simp
              try with_reducible rfl
            try simp only [Act.put, List.setIfInBounds_toArray, List.set_cons_zero, List.set_cons_succ]
            refine held_take (i := 10) (d := 258) (v := ?_) rfl rfl (by kernel_rfl) (by kernel_rfl) (by kernel_rfl) (fun _ _ _ h => h) (by rfl) ?_ (by assumption) ?_
            rotate_left
            · intro w hSw
              (try dsimp only at hSw)
              go_simp
              try with_reducible rfl
            try simp only [Act.put, List.setIfInBounds_toArray, List.set_cons_zero, List.set_cons_succ]
            refine held_take (i := 11) (d := 33) (v := ?_) rfl rfl (by kernel_rfl) (by kernel_rfl) (by kernel_rfl) (fun _ _ _ h => h) (by rfl) ?_ (by assumption) ?_
            rotate_left
            · intro w hSw
              (try dsimp only at hSw)
              go_simp
              try with_reducible rfl
            try simp only [Act.put, List.setIfInBounds_toArray, List.set_cons_zero, List.set_cons_succ]
            refine held_take (i := 12) (d := 34) (v := ?_) rfl rfl (by kernel_rfl) (by kernel_rfl) (by kernel_rfl) (fun _ _ _ h => h) (by rfl) ?_ (by assumption) ?_
            rotate_left
            · intro w hSw
              (try dsimp only at hSw)
              go_simp
              try with_reducible rfl
            try simp only [Act.put, List.setIfInBounds_toArray, List.set_cons_zero, List.set_cons_succ]
            refine wpAnyH_done (by kernel_rfl) ?_ _
            go_split_ands
            go_wp2_with fail
            go_meet
            exact ⟨rfl, rfl, by assumption⟩
          case rest =>
          obtain ⟨rfl, rfl, hb⟩ := hcut
          have BW := Lib.hid hb
          clear hb IFC HQ
          obtain ⟨y0, y1, y2, y3, _⟩ := BO.out.on BW.out
          have T9 := Lib.hid (T.out.trans (BW.out.mono T.out.size))
          cases fo
          · have IL := Lib.hid (ILP.out fi _ T9.out (Lib.hid (CV.out.below BW.out)))
            generalize resLinesOfPart1 ⟨s, L, F, d⟩ fi = g1 at IL
            generalize resLinesOfPart2 ⟨s, L, F, d⟩ fi = g2 at IL
            generalize resLinesOfPart3 ⟨s, L, F, d⟩ fi = g3 at IL
            clear HPG ILP
            go_upto_region 36 with (go_at_call 5; refine (IL.out).mono ?_; rintro e w14 ⟨rfl, b⟩; have Z := Lib.hid (T9.out.trans (b.mono T9.out.size)); clear b)
            clear IL
            go_wp2_with fail
            go_ret
            exact ⟨rfl, Z.out⟩
          · obtain ⟨p, hp1, hp2, hp3, hp4⟩ := HPG.out rfl
            subst hp1
            have IL := Lib.hid (ILP.out (p : Int) _ T9.out (Lib.hid (CV.out.below BW.out)))
            rw [show resLinesOfPart1 ⟨s, L, F, d⟩ (p : Int) = (lineP L 9 p : Int) by unfold resLinesOfPart1; rw [if_pos hp2]; rfl, show resLinesOfPart2 ⟨s, L, F, d⟩ (p : Int) = (lineP L 9 p : Int) + (sizeP L 9 p : Int) - 1 by unfold resLinesOfPart2; rw [if_pos hp2]; rfl, show resLinesOfPart3 ⟨s, L, F, d⟩ (p : Int) = true from hp2] at IL
            obtain ⟨a, ha⟩ : ∃ a, lineP L 9 p = a := ⟨_, rfl⟩
            obtain ⟨c, hc⟩ : ∃ c, sizeP L 9 p = c := ⟨_, rfl⟩
            rw [ha, hc] at IL hp4
            rw [ha] at hp3
            have d1 : decide ((a : Int) < ln) = true := is_lt (by omega)
            have d2 : decide ((ln : Int) + sz - 1 < (a : Int) + c - 1) = true := is_lt (by omega)
            have d3 : decide ((ln : Int) + sz < (a : Int) + c) = true := is_lt (by omega)
            have p1 : (a : Int) < ln := by omega
            have p2 : (ln : Int) + sz - 1 < (a : Int) + c - 1 := by omega
            have p3 : (ln : Int) + sz < (a : Int) + c := by omega
            clear HPG ILP ha hc hp2
            go_upto_region 36 with (go_at_call 5; refine (IL.out).mono ?_; rintro e w14 ⟨rfl, b⟩; have Z := Lib.hid (T9.out.trans (b.mono T9.out.size)); clear b)
            clear IL
            go_wp2_with fail
            go_ret
            exact ⟨rfl, Z.out⟩
theorem walk (a0 : Option Addr) (len0 cap0 : Nat) (z0 : List Int) (a1 : Option Addr) (len1 cap1 : Nat) (z1 : List Int) (w : World) (w0 : IsRow .u8 w a0 len0 cap0 z0) (w1 : IsRow .u8 w a1 len1 cap1 z1) (hD : Kwt w) (hU : Units w) (hP : Pow w) (hW : FwW w) (hG : Dig w) :
    Calls Tryz.prog 3 #[.slice a0 len0 cap0, .slice a1 len1 cap1] w fun e w' => e = .returned (.bool true) ∧ Below w.heap.size w w' := by
  obtain ⟨hm0, ys0, HL0, HI0⟩ := w0.view
  obtain ⟨hm1, ys1, HL1, HI1⟩ := w1.view
  unfold maxLen at hm0 hm1
  rcases Bool.eq_false_or_eq_true (decide ((1048576 : Int) < wrap64 ((len0 : Int) + len1))) with d | d
  · clear HL0 HI0 HL1 HI1 hm0 hm1
    go_enter Tryz.func3, Tryz.ntmps3
    go_wp2
    go_ret
    exact ⟨rfl, Below.refl _ _⟩
  · exact walk_in a0 a1 len0 len1 cap0 cap1 ys0 w (Lib.hid hD) (Lib.hid hU) (Lib.hid hP) (Lib.hid hW) (Lib.hid hG) HL0 HI0 (by omega) (by omega) d

theorem contract (H : Type) (enc : TypeId × Value → H) (W : World) (base : Nat) (args : Array Value) (ds gs : List (DataW H)) (before : List MemPlace)
    (hval : ∀ (j : Nat) t v, Tryz.f3.params[j]? = some t → args[j]? = some v → Value.okWide Tryz.prog W .any base t v)
    (hW : DataW.Whole enc Tryz.prog Tryz.f3.params.toList Rows.fnPlacesOfLinesSpec.vars false W args.toList ds gs before) (hL : laidMetH Tryz.prog Rows.fnPlacesOfLinesRow.laid W) :
    Calls Tryz.prog 3 args W fun e W' => ∃ v, e = .returned v ∧ Rows.fnPlacesOfLinesSpec.post enc Tryz.prog Tryz.f3 false true false false W args v W' := by
  have hW' := hW
  obtain ⟨p, q, hA0, hV, rfl, hfz, hnd⟩ := hW
  have hA : DataW.TrodAll enc Tryz.prog W 0 (fun _ => true) true Tryz.f3.params.toList args.toList ds p := hA0
  rw [Tryz.params3] at hA hval
  obtain ⟨v0, vs0, d0, ds0, p0, q0, hargs, rfl, rfl, h0, r0⟩ := trodAll_cons hA
  obtain ⟨v1, vs1, d1, ds1, p1, q1, rfl, rfl, rfl, h1, r1⟩ := trodAll_cons r0
  obtain ⟨rfl, rfl, rfl⟩ := trodAll_nil r1
  obtain rfl : args = #[v0, v1] := by cases args; simp_all
  obtain ⟨a0, len0, cap0, rfl⟩ := okWide_slice Tryz.underlying22 (hval 0 22 v0 rfl rfl)
  have k0 := h0
  have lt0 : ∀ x ∈ p0, x.block < W.heap.size := by obtain ⟨m, hm⟩ := k0; exact DataW.trod_lt m _ _ _ hm
  obtain ⟨z0, w0⟩ : ∃ zs, IsRow .u8 W a0 len0 cap0 zs := by
    obtain ⟨fuel, hf⟩ := h0
    rcases open_ints Tryz.underlying22 Tryz.underlying5 (by kernel_rfl) hf with ⟨hcs, _⟩ | ⟨x, l, c, zs, hcs, _, hl, hm, hz, _, hcell, hwz⟩
    · simp [Value.cells] at hcs
      obtain ⟨rfl, rfl, rfl⟩ := hcs
      exact ⟨[], .inl ⟨rfl, rfl, rfl, rfl⟩⟩
    · simp [Value.cells] at hcs
      obtain ⟨rfl, rfl, rfl⟩ := hcs
      exact ⟨zs, .inr ⟨_, rfl, hl, hm, by simpa using hz, hcell, hwz⟩⟩
  obtain ⟨a1, len1, cap1, rfl⟩ := okWide_slice Tryz.underlying22 (hval 1 22 v1 rfl rfl)
  have k1 := h1
  have lt1 : ∀ x ∈ p1, x.block < W.heap.size := by obtain ⟨m, hm⟩ := k1; exact DataW.trod_lt m _ _ _ hm
  obtain ⟨z1, w1⟩ : ∃ zs, IsRow .u8 W a1 len1 cap1 zs := by
    obtain ⟨fuel, hf⟩ := h1
    rcases open_ints Tryz.underlying22 Tryz.underlying5 (by kernel_rfl) hf with ⟨hcs, _⟩ | ⟨x, l, c, zs, hcs, _, hl, hm, hz, _, hcell, hwz⟩
    · simp [Value.cells] at hcs
      obtain ⟨rfl, rfl, rfl⟩ := hcs
      exact ⟨[], .inl ⟨rfl, rfl, rfl, rfl⟩⟩
    · simp [Value.cells] at hcs
      obtain ⟨rfl, rfl, rfl⟩ := hcs
      exact ⟨zs, .inr ⟨_, rfl, hl, hm, by simpa using hz, hcell, hwz⟩⟩
  have hV2 := hV
  obtain ⟨dV0, dV1, dV2, dV3, rfl⟩ := trodVars_four hV
  clear hA0
  refine (walk a0 len0 cap0 z0 a1 len1 cap1 z1 W w0 w1 (kwt_of_head (laidMet.tail (laidMet.tail (laidMet.tail (laidMet.tail (laidMet.tail hL)))))) (units_of_head (laidMet.tail (laidMet.tail (laidMet.tail (laidMet.tail hL))))) (pow10_of_head (laidMet.tail (laidMet.tail hL))) (fww_of_head (laidMet.tail (laidMet.tail (laidMet.tail (laidMet.tail (laidMet.tail (laidMet.tail hL))))))) (dig_of_head (laidMet.tail (laidMet.tail (laidMet.tail hL))))).mono fun e W' ⟨he, bel⟩ => ?_
  subst he
  exact ⟨_, rfl, _, _, _, [], _, _, hW', trodAll_mk1 (shut_bool Tryz.underlying4 _), (trodAll_cons_mk (Below.trod laidOut (by kernel_rfl) (of_decide_eq_true (by kernel_rfl)) k0 bel lt0) (trodAll_cons_mk (Below.trod laidOut (by kernel_rfl) (of_decide_eq_true (by kernel_rfl)) k1 bel lt1) trodAll_mk0)), Below.trodVars laidOut bel (by kernel_rfl) hV2, bel.frame _, fun h => by cases h⟩

theorem laid_met (os : Os) : laidMet Tryz.prog Rows.fnPlacesOfLinesRow.laid ((laidG os).forCall (fun _ _ => 0) ⟨#[], #[.slice none 0 0, .slice none 0 0], []⟩).memory :=
  laidMet_of_run' 8 (by kernel_rfl) (by kernel_rfl)
theorem reads (os : Os) {H : Type} (enc : TypeId × Value → H) : ∃ places, DataW.whole enc Tryz.prog ((laidG os).forCall (fun _ _ => 0) ⟨#[], #[.slice none 0 0, .slice none 0 0], []⟩).memory Tryz.f3.params.toList Rows.fnPlacesOfLinesSpec.vars false (#[.slice none 0 0, .slice none 0 0] : Array Value).toList 8 = some ([.nil, .nil], [Rows.laid_loop_example_g00838_impl_keyWords, Rows.laid_loop_example_g00838_impl_units, Rows.laid_loop_example_g00838_impl_fieldWords, Rows.laid_loop_example_g00838_impl_digits], places) :=
  ⟨[.cell 2 0, .cell 2 1, .cell 2 2, .cell 2 3, .cell 2 4, .cell 2 5, .cell 2 6, .cell 2 7, .cell 2 8, .cell 2 9, .cell 2 10, .cell 2 11, .cell 2 12, .cell 2 13, .cell 0 0, .cell 0 1, .cell 0 2, .cell 0 3, .cell 1 0, .cell 1 1, .cell 1 2, .cell 1 3, .cell 5 0, .cell 5 1], by kernel_rfl⟩

set_option maxRecDepth 100000 in
theorem lifted (os : Os) (started : os.Started) (H : Type) (enc : TypeId × Value → H) (F : Stop.Interp) :
    ReturnsInHanded {} Tryz.checked os 3 .any ((OpenSpec.ofChange Rows.fnPlacesOfLinesSpec).preRow enc Tryz.prog Tryz.f3 Rows.fnPlacesOfLinesRow.domain false Rows.fnPlacesOfLinesRow.laid) (((OpenSpec.ofChange Rows.fnPlacesOfLinesSpec).at F).post enc Tryz.prog Tryz.f3 false true false false) := by
  obtain ⟨places, hx⟩ := reads os enc
  refine returnsInHanded_of_row (C := Tryz.checked) (s := OpenSpec.ofChange Rows.fnPlacesOfLinesSpec) own started (by kernel_rfl) Tryz.func3
    (witness_row_at (enc := enc) (C := Tryz.checked) false (laidG os) #[.slice none 0 0, .slice none 0 0] rfl (by kernel_rfl) (by kernel_rfl) (by kernel_rfl)
      (OpenSpec.preRow_of_cond 8 hx (by kernel_rfl) (fun k hk => by cases hk) (by kernel_rfl) (laid_met os))) ?_
  intro W base args ds gs before hval hW _ _ _ hL _ _
  exact contract H enc W base args ds gs before hval hW hL

theorem said : Rows.FnPlacesOfLinesSaid :=
  OpenClaim.holds_of_cond 3 Tryz.f3 rfl rfl rfl rfl rfl rfl rfl ⟨rfl, rfl, rfl, rfl, rfl⟩ rfl rfl rfl rfl rfl (by kernel_rfl) Tryz.func3 (by kernel_rfl)
    (of_decide_eq_true (by kernel_rfl)) (by unfold Func.isWrapper; first | (rw [if_pos (by decide +kernel)]; kernel_rfl) | (rw [if_neg (by decide +kernel)]; exact ⟨rfl, rfl⟩))
    (fun os started H enc _ F => by rw [OpenClaim.pre_eq_preRow]; exact lifted os started H enc F)

theorem plain (f : FuncId) (fn : Func) (hf : Tryz.pinned.checked.prog.funcNamed "loop.example/g00838/laws.FnPlacesOfLines" = some f) (hfn : Tryz.pinned.checked.prog.funcs[f]? = some fn) :
    false = Tryz.pinned.checked.prog.looks [] ∧ ∀ (j : Nat) t, fn.params[j]? = some t → Tryz.pinned.checked.prog.wantsStandIn t = false := by
  obtain rfl : f = 3 := Option.some.inj ((show Tryz.prog.funcNamed "loop.example/g00838/laws.FnPlacesOfLines" = some 3 by kernel_rfl).symm.trans hf) |>.symm
  obtain rfl : fn = Tryz.f3 := (Option.some.inj (Tryz.func3.symm.trans hfn)).symm
  refine ⟨by kernel_rfl, fun j t ht => ?_⟩
  rw [Tryz.params3] at ht
  have hm : t ∈ [22, 22] := by simpa using Array.mem_of_getElem? ht
  have hall : ([22, 22].all fun u => !Tryz.prog.wantsStandIn u) = true := by kernel_rfl
  exact (show Tryz.prog.wantsStandIn t = false by simpa using List.all_eq_true.1 hall t hm)

theorem proved : Rows.FnPlacesOfLinesCardSaid :=
  Claim7.holds_tied_plain_at .later [] _ _ _ _ said (fun _ h => by cases h) (by kernel_rfl) (fun _ h => by cases h) fnPlacesOfLines_row_tie rfl ⟨rfl, rfl⟩ (by kernel_rfl) rfl plain (by kernel_rfl)
end Go.Proofs.YthgbhnedfdnfpaaGreatDoor.fnPlacesOfLines
