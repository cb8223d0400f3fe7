/- The model's check of a whole configuration. -/
import Derived.Test.YtdmcgjohpnojkaaGreatDoorCfx
import Derived.Test.YtdmcgjohpnojkaaGreatDoorCfl
namespace Go.Proofs.YtdmcgjohpnojkaaGreatDoor
set_option maxRecDepth 100000
open Go.RowKit
set_option linter.unusedVariables false

set_option maxHeartbeats 6400000 in
theorem cfGood_any (v : Value) (c : Cfg) (w : World) (HV : Hid (CfgV w v c)) (HM : Hid (CfgM c)) :
    Calls Tryz.prog 77 #[v] w (SaysB w (goodC c)) := by
  obtain ⟨ac, cc, af, cf, rfl, ic, if_⟩ := HV.out
  have HG : Hid (goodC c = (nmG c.s && ((decide (1 ≤ c.cs.length) && decide (c.cs.length ≤ 24)) && (treeG c.cs && (fltG c.cs c.fs && dfG c.cs c.d))))) := Lib.hid rfl
  obtain ⟨B, hB⟩ : ∃ B, goodC c = B := ⟨_, rfl⟩
  rw [hB] at HG ⊢
  clear hB HV
  obtain ⟨s, cs, fs, d⟩ := c
  obtain ⟨n, hn⟩ : ∃ n, cs.length = n := ⟨_, rfl⟩
  obtain ⟨m, hm⟩ : ∃ m, fs.length = m := ⟨_, rfl⟩
  have HNN := Lib.hid hn
  have HMM := Lib.hid hm
  have hM := HM.out
  unfold CfgM at hM
  simp only [hn, hm] at ic if_ hM HG ⊢
  obtain ⟨q0, q1, q2⟩ := hM
  have HI := Lib.hid ic
  have HJ := Lib.hid if_
  clear hn hm ic if_ HM
  have A0 := Lib.hid (Aft.refl w (Obj.cells #[.string s, .slice ac n cc, .slice af m cf, .int .i64 d] 54))
  have HN := Lib.hid (fun w => cfName_any s w q0)
  have HIN := Lib.hid (fun w => l1In_any (n : Int) 1 24 w)
  cases h1 : nmG s
  · have HX : Hid (B = false) := Lib.hid (by rw [HG.out, h1]; rfl)
    rw [h1] at HN
    clear h1
    go_enter Tryz.func77, Tryz.ntmps77
    go_wp2_with (go_at_call 136; refine (HN.out _).mono ?_; rintro e w1 ⟨rfl, b1⟩; have A1 := Lib.hid (A0.out.on b1);  clear b1)
    go_ret
    exact ⟨ret_bool HX.out.symm, A1.out.all.2⟩
  rw [h1] at HN
  have e2 : inB (n : Int) 1 24 = (decide (1 ≤ n) && decide (n ≤ 24)) := by
    unfold inB
    congr 1
    · apply Bool.eq_iff_iff.2; simp; omega
    · apply Bool.eq_iff_iff.2; simp; omega
  rw [e2] at HIN
  clear e2
  cases h2 : (decide (1 ≤ n) && decide (n ≤ 24))
  · have HX : Hid (B = false) := Lib.hid (by rw [HG.out, h1, h2]; rfl)
    rw [h2] at HIN
    clear h1 h2
    go_enter Tryz.func77, Tryz.ntmps77
    go_wp2_with (go_at_call 136; refine (HN.out _).mono ?_; rintro e w1 ⟨rfl, b1⟩; have A1 := Lib.hid (A0.out.on b1); obtain ⟨c0, c1, c2, c3, _⟩ := A1.out.all.1; clear b1)
    go_wp2_with (go_at_call 121; refine (HIN.out _).mono ?_; rintro e w' ⟨rfl, rfl⟩)
    go_ret
    exact ⟨ret_bool HX.out.symm, A1.out.all.2⟩
  have h2' := h2
  rw [h2] at HIN
  simp only [Bool.and_eq_true, decide_eq_true_eq] at h2'
  have HT := Lib.hid (fun w HI => cfTree_any s ac af n cc m cf d cs w HI HNN q1 h2'.2 h2'.1)
  have HF := Lib.hid (fun w HI HJ => cfFilters_any s ac af n cc m cf d cs fs w HI HNN q1 HJ HMM q2)
  have HTG := Lib.hid (fun w HI => cfTarget_any s ac af n cc m cf d cs d w HI HNN q1)
  cases h3 : treeG cs
  · have HX : Hid (B = false) := Lib.hid (by rw [HG.out, h1, h2, h3]; rfl)
    rw [h3] at HT
    clear h1 h2 h2' h3
    go_enter Tryz.func77, Tryz.ntmps77
    go_wp2_with (go_at_call 136; refine (HN.out _).mono ?_; rintro e w1 ⟨rfl, b1⟩; have A1 := Lib.hid (A0.out.on b1); obtain ⟨c0, c1, c2, c3, _⟩ := A1.out.all.1; clear b1)
    go_wp2_with (go_at_call 121; refine (HIN.out _).mono ?_; rintro e w' ⟨rfl, rfl⟩)
    go_wp2_with (go_at_call 137; refine (HT.out _ (Lib.hid (HI.out.below A1.out.all.2))).mono ?_; rintro e w2 ⟨rfl, b2⟩; have A2 := Lib.hid (A1.out.on b2);  clear b2)
    go_ret
    exact ⟨ret_bool HX.out.symm, A2.out.all.2⟩
  rw [h3] at HT
  cases h4 : fltG cs fs
  · have HX : Hid (B = false) := Lib.hid (by rw [HG.out, h1, h2, h3, h4]; rfl)
    rw [h4] at HF
    clear h1 h2 h2' h3 h4
    go_enter Tryz.func77, Tryz.ntmps77
    go_wp2_with (go_at_call 136; refine (HN.out _).mono ?_; rintro e w1 ⟨rfl, b1⟩; have A1 := Lib.hid (A0.out.on b1); obtain ⟨c0, c1, c2, c3, _⟩ := A1.out.all.1; clear b1)
    go_wp2_with (go_at_call 121; refine (HIN.out _).mono ?_; rintro e w' ⟨rfl, rfl⟩)
    go_wp2_with (go_at_call 137; refine (HT.out _ (Lib.hid (HI.out.below A1.out.all.2))).mono ?_; rintro e w2 ⟨rfl, b2⟩; have A2 := Lib.hid (A1.out.on b2); obtain ⟨c0, c1, c2, c3, _⟩ := A2.out.all.1; clear b2)
    go_wp2_with (go_at_call 138; refine (HF.out _ (Lib.hid (HI.out.below A2.out.all.2)) (Lib.hid (HJ.out.below A2.out.all.2))).mono ?_; rintro e w3 ⟨rfl, b3⟩; have A3 := Lib.hid (A2.out.on b3);  clear b3)
    go_ret
    exact ⟨ret_bool HX.out.symm, A3.out.all.2⟩
  rw [h4] at HF
  have HD : Hid (B = dfG cs d) := Lib.hid (by rw [HG.out, h1, h2, h3, h4]; rfl)
  clear h1 h2 h2' h3 h4
  by_cases hd : d = 0
  · have d0 : (d == 0) = true := by simpa using hd
    have HX : Hid (B = true) := Lib.hid (by rw [HD.out]; unfold dfG; rw [d0]; rfl)
    clear hd
    go_enter Tryz.func77, Tryz.ntmps77
    go_wp2_with (go_at_call 136; refine (HN.out _).mono ?_; rintro e w1 ⟨rfl, b1⟩; have A1 := Lib.hid (A0.out.on b1); obtain ⟨c0, c1, c2, c3, _⟩ := A1.out.all.1; clear b1)
    go_wp2_with (go_at_call 121; refine (HIN.out _).mono ?_; rintro e w' ⟨rfl, rfl⟩)
    go_wp2_with (go_at_call 137; refine (HT.out _ (Lib.hid (HI.out.below A1.out.all.2))).mono ?_; rintro e w2 ⟨rfl, b2⟩; have A2 := Lib.hid (A1.out.on b2); obtain ⟨c0, c1, c2, c3, _⟩ := A2.out.all.1; clear b2)
    go_wp2_with (go_at_call 138; refine (HF.out _ (Lib.hid (HI.out.below A2.out.all.2)) (Lib.hid (HJ.out.below A2.out.all.2))).mono ?_; rintro e w3 ⟨rfl, b3⟩; have A3 := Lib.hid (A2.out.on b3); obtain ⟨c0, c1, c2, c3, _⟩ := A3.out.all.1; clear b3)
    go_ret
    exact ⟨ret_bool HX.out.symm, A3.out.all.2⟩
  · have d0 : (d == 0) = false := by simpa using hd
    have HX : Hid (B = leafB cs d) := Lib.hid (by rw [HD.out]; unfold dfG; rw [d0]; rfl)
    generalize leafB cs d = q at HX HTG
    clear hd HD
    go_enter Tryz.func77, Tryz.ntmps77
    go_wp2_with (go_at_call 136; refine (HN.out _).mono ?_; rintro e w1 ⟨rfl, b1⟩; have A1 := Lib.hid (A0.out.on b1); obtain ⟨c0, c1, c2, c3, _⟩ := A1.out.all.1; clear b1)
    go_wp2_with (go_at_call 121; refine (HIN.out _).mono ?_; rintro e w' ⟨rfl, rfl⟩)
    go_wp2_with (go_at_call 137; refine (HT.out _ (Lib.hid (HI.out.below A1.out.all.2))).mono ?_; rintro e w2 ⟨rfl, b2⟩; have A2 := Lib.hid (A1.out.on b2); obtain ⟨c0, c1, c2, c3, _⟩ := A2.out.all.1; clear b2)
    go_wp2_with (go_at_call 138; refine (HF.out _ (Lib.hid (HI.out.below A2.out.all.2)) (Lib.hid (HJ.out.below A2.out.all.2))).mono ?_; rintro e w3 ⟨rfl, b3⟩; have A3 := Lib.hid (A2.out.on b3); obtain ⟨c0, c1, c2, c3, _⟩ := A3.out.all.1; clear b3)
    go_wp2_with (go_at_call 96; refine (HTG.out _ (Lib.hid (HI.out.below A3.out.all.2))).mono ?_; rintro e w4 ⟨rfl, b4⟩; have A4 := Lib.hid (A3.out.on b4); clear b4)
    go_ret
    exact ⟨ret_bool HX.out.symm, A4.out.all.2⟩
theorem specIsConfig_any (v : Value) (c : Cfg) (w : World) (HV : Hid (CfgV w v c)) (HM : Hid (CfgM c)) :
    Calls Tryz.prog 45 #[v] w (SaysB w (goodC c)) := by
  obtain ⟨ac, cc, af, cf, rfl, ic, if_⟩ := HV.out
  have HC := Lib.hid (fun w HV => cfGood_any (.agg #[.string c.s, .slice ac c.cs.length cc, .slice af c.fs.length cf, .int .i64 c.d]) c w HV HM)
  have HB := Lib.hid (fun w' (b : Below w.heap.size w w') => Lib.hid (HV.out.below b))
  generalize goodC c = B at HC ⊢
  clear HV ic if_
  go_enter Tryz.func45, Tryz.ntmps45
  go_wp2_with (go_at_call 77; refine (HC.out _ (HB.out _ (one_new2 _ _))).mono ?_; rintro e w1 ⟨rfl, b1⟩; have B1 := Lib.hid (box_four b1).2; clear b1)
  go_ret
  exact ⟨rfl, B1.out⟩
end Go.Proofs.YtdmcgjohpnojkaaGreatDoor
