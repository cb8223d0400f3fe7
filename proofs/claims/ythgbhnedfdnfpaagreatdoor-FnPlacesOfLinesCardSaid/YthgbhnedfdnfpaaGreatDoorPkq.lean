import Derived.Test.YthgbhnedfdnfpaaGreatDoorPkp
/- The program's check of all targets, of a name, and of a whole configuration. -/
namespace Go.Proofs.YthgbhnedfdnfpaaGreatDoor
set_option maxRecDepth 100000
open Go.RowKit
set_option linter.unusedVariables false

def LdRel (w : World) (M m n : Nat) (a0 a1 a2 a3 : Value) (cs : List Cls) (fs : List Flt) (L : Bool) (i : Value) (wr : World) : Prop :=
  ∃ k : Nat, k ≤ m ∧ i = .int .i64 k ∧ FourIs wr w.heap.size a0 a1 a2 a3 ∧ MarkA wr w.heap.size M (mkX cs n) ∧ Below w.heap.size w wr ∧ Hid (lvF cs (fs.drop k) = L)
set_option maxHeartbeats 3200000 in
theorem leadToLeaves_any (s : ByteArray) (ac af : Option Addr) (n cc m cf : Nat) (d : Int) (cs : List Cls) (fs : List Flt) (w : World) (HI : Hid (InX w ac n (clsCs cs))) (hn : Hid (cs.length = n)) (hm : n ≤ 1048576) (HJ : Hid (InX w af m (fltCs fs))) (hf : Hid (fs.length = m)) (hmf : m ≤ 1048576) (hi : Hid (IncC cs)) (h24 : n ≤ 24) :
    Calls Tryz.prog 62 #[(.agg #[.string s, .slice ac n cc, .slice af m cf, .int .i64 d])] w (SaysB w (lvF cs fs && dfG cs d)) := by
  obtain ⟨L, hL⟩ : ∃ L, lvF cs fs = L := ⟨_, rfl⟩
  have H0 : Hid (lvF cs (fs.drop 0) = L) := Lib.hid hL
  have HMK := Lib.hid (fun w HI => parentMarks_any ac n cc cs w HI hn hm hi h24)
  have HLF := Lib.hid (fun c0 B M id w HI HF HM => isLeaf_any s ac (.slice af m cf) n cc d cs c0 B M id w HI hn hm hi h24 HF HM)
  have HD : Hid (dfG cs d = ((d == 0) || leafB cs d)) := Lib.hid rfl
  rw [hL]
  generalize dfG cs d = D at HD ⊢
  clear hL
  go_enter Tryz.func62, Tryz.ntmps62
  go_wp2_with (go_at_call 89; refine (HMK.out _ (Lib.hid (HI.out.below (one_new2 _ _)))).mono ?_; rintro e w1 ⟨rfl, b1⟩; have B1 := Lib.hid (box_four b1).2; have F1 := Lib.hid (box_four b1).1; have hst := marks_store w1 cs n; have hz1 : w.heap.size < w1.heap.size := (box_four b1).1.2.2.2.2; have ce := fun o => ((bcell (one_new2 w1 o)).1 _ 2 hz1).trans (box_four b1).1.2.2.1; clear b1)
  go_loopw [14] (fun i wr => LdRel w w1.heap.size m n (.string s) (.slice ac n cc) (.slice af m cf) (.int .i64 d) cs fs L i wr) (fun i _ => m - (intOf i).toNat)
  case atStart => exact ⟨0, Nat.zero_le _, rfl, F1.out.on (one_new2 _ _), marks_lit w1 _ B1.out.size cs n, B1.out.alloc B1.out.size _, H0⟩
  case round =>
    obtain ⟨k, hk, rfl, hfo, hmk, hb, HP⟩ := hrel
    have HB := Lib.hid hb
    have HM := Lib.hid hmk
    have HFO := Lib.hid hfo
    obtain ⟨e0, e1, e2, e3, hgc⟩ := hfo
    clear hmk hst ce
    by_cases hlt : k < m
    · obtain ⟨g, rfl, ht, hg⟩ := HJ.out (by omega)
      have hl1 : k < fs.length := by rw [hf.out]; exact hlt
      obtain ⟨x, hx⟩ : ∃ x, fs.getD k flt0 = x := ⟨_, rfl⟩
      obtain ⟨a0, a1, a2, a3, a4⟩ := (ht.below hb hg).flt k hl1 x hx
      have HE := Lib.hid (lvF_at cs fs k hl1 x hx)
      have BA := Lib.hid (one_new2 wr (Obj.cells #[.int .i64 x.o, .int .i64 x.f, .int .i64 x.m, .int .i64 x.v, .int .i64 x.t] 82))
      have HLx := Lib.hid (HLF.out w.heap.size w.heap.size w1.heap.size x.t)
      have hgm : w1.heap.size < wr.heap.size := (World.ownsRow.lt HM.out _ rfl).2
      rcases Bool.eq_false_or_eq_true (leafB cs x.t) with hl | hl
      · have HX := Lib.hid (show lvF cs (fs.drop (k + 1)) = L by rw [← HP.out, HE.out, hl, Bool.true_and])
        rw [hl] at HLx
        obtain ⟨xo, xf, xm, xv, xt⟩ := x
        simp only at a0 a1 a2 a3 a4 BA HLx
        clear hb hx hl1 ht hl
        go_wp2_with (go_at_call 91; refine (HLx.out _ (Lib.hid (HI.out.below (HB.out.trans (BA.out.mono HB.out.size)))) (Lib.hid (HFO.out.on BA.out)) (Lib.hid (HM.out.low BA.out hgm))).mono ?_; rintro e w2 ⟨rfl, b2⟩; have B2 := Lib.hid (BA.out.trans (b2.mono BA.out.size)); clear b2)
        go_roundw
        case rel => exact ⟨k + 1, by omega, by go_num, HFO.out.on B2.out, HM.out.low B2.out hgm, HB.out.trans (B2.out.mono HB.out.size), HX⟩
        case measure => simp [intOf]; omega
      · have HX : Hid (L = false) := Lib.hid (by rw [← HP.out, HE.out, hl, Bool.false_and])
        rw [hl] at HLx
        obtain ⟨xo, xf, xm, xv, xt⟩ := x
        simp only at a0 a1 a2 a3 a4 BA HLx
        clear hb hx hl1 ht hl
        go_wp2_with (go_at_call 91; refine (HLx.out _ (Lib.hid (HI.out.below (HB.out.trans (BA.out.mono HB.out.size)))) (Lib.hid (HFO.out.on BA.out)) (Lib.hid (HM.out.low BA.out hgm))).mono ?_; rintro e w2 ⟨rfl, b2⟩; have B2 := Lib.hid (BA.out.trans (b2.mono BA.out.size)); clear b2)
        go_ret
        exact ⟨ret_bool (by rw [HX.out]; rfl), HB.out.trans (B2.out.mono HB.out.size)⟩
    · have HX : Hid (L = true) := Lib.hid (by rw [← HP.out, lvF_end cs fs k (by rw [hf.out]; omega)])
      have HLx := Lib.hid (HLF.out w.heap.size w.heap.size w1.heap.size d)
      clear hb
      by_cases hd : d = 0
      · have d0 : (d == 0) = true := by simpa using hd
        have HY : Hid (D = true) := Lib.hid (by rw [HD.out, d0]; rfl)
        clear hd
        go_wp2_with fail
        go_ret
        exact ⟨ret_bool (by rw [HX.out, HY.out]; rfl), HB.out⟩
      · have d0 : (d == 0) = false := by simpa using hd
        have HY : Hid (D = leafB cs d) := Lib.hid (by rw [HD.out, d0]; rfl)
        generalize leafB cs d = q at HY HLx
        clear hd
        go_wp2_with (go_at_call 91; refine (HLx.out _ (Lib.hid (HI.out.below HB.out)) HFO HM).mono ?_; rintro e w2 ⟨rfl, b2⟩; have B2 := Lib.hid (HB.out.trans (b2.mono HB.out.size)); clear b2)
        go_ret
        exact ⟨ret_bool (by rw [HX.out, HY.out]; rfl), B2.out⟩
end Go.Proofs.YthgbhnedfdnfpaaGreatDoor

/- The program's check of a name and of a whole configuration. -/
namespace Go.Proofs.YthgbhnedfdnfpaaGreatDoor
set_option maxRecDepth 100000
open Go.RowKit
set_option linter.unusedVariables false

theorem nm_empty {s : ByteArray} (h : s.size = 0) : s = ⟨#[]⟩ := by
  obtain ⟨⟨l⟩⟩ := s
  simp [ByteArray.size] at h
  rw [h]
theorem nm_full {s : ByteArray} (h : 0 < s.size) : (s.toList == []) = false ∧ s.toList.isEmpty = false := by
  have e : s.toList ≠ [] := by
    rw [ByteArray.toList_eq]
    intro e
    have q : s.data.size = 0 := by rw [← Array.length_toList, e]; rfl
    have q2 : s.size = s.data.size := rfl
    omega
  cases hl : s.toList with
  | nil => exact absurd hl e
  | cons a r => exact ⟨rfl, rfl⟩
set_option maxHeartbeats 1600000 in
theorem isConfigName_any (s : ByteArray) (w : World) (hs : s.size ≤ 1048576) (hK : Hid (Kwt w)) :
    Calls Tryz.prog 56 #[.string s] w (SaysB w (nmG s)) := by
  have HX : Hid (nmG s = ((alB s.data.toList && (decide (1 ≤ s.size) && decide (s.size ≤ 8))) && !isKw s)) := Lib.hid rfl
  have HW := Lib.hid (fun w => isWord_any s w hs)
  have HKW := Lib.hid (fun w hK => implIsKey_any s w hK)
  rw [wd_al] at HW
  generalize nmG s = R at HX ⊢
  rcases Nat.eq_zero_or_pos s.size with h0 | h0
  · have HR : Hid (R = false) := Lib.hid (by rw [HX.out, decide_eq_false (show ¬ 1 ≤ s.size by omega)]; simp)
    have e := nm_empty h0
    subst e
    clear HX HW HKW h0 hs
    go_enter Tryz.func56, Tryz.ntmps56
    go_wp2_with fail
    go_ret
    exact ⟨ret_bool HR.out.symm, Below.refl _ _⟩
  obtain ⟨q1, q2⟩ := nm_full h0
  by_cases h8 : 8 < s.size
  · have HR : Hid (R = false) := Lib.hid (by rw [HX.out, decide_eq_false (show ¬ s.size ≤ 8 by omega)]; simp)
    have d8 := not_le (show (8 : Int) < (s.size : Int) by omega)
    clear HX HW HKW h0 hs h8
    go_enter Tryz.func56, Tryz.ntmps56
    go_wp2_with fail
    go_ret
    exact ⟨ret_bool HR.out.symm, Below.refl _ _⟩
  have d8 := is_le (show (s.size : Int) ≤ 8 by omega)
  rw [decide_eq_true (show s.size ≤ 12 by omega), Bool.and_true] at HW
  have HY : Hid (R = (alB s.data.toList && !isKw s)) := Lib.hid (by rw [HX.out, decide_eq_true (show 1 ≤ s.size by omega), decide_eq_true (show s.size ≤ 8 by omega)]; simp)
  generalize alB s.data.toList = b1 at HY HW
  generalize isKw s = b2 at HY HKW
  clear HX h0 h8
  cases b1
  · have HR : Hid (R = false) := Lib.hid (by rw [HY.out]; rfl)
    go_enter Tryz.func56, Tryz.ntmps56
    go_wp2_with (go_at_call 84; refine (HW.out _).mono ?_; rintro e w1 ⟨rfl, b1⟩; have B1 := Lib.hid b1; clear b1)
    go_ret
    exact ⟨ret_bool HR.out.symm, B1.out⟩
  · have HR : Hid (R = !b2) := Lib.hid (by rw [HY.out]; rfl)
    go_enter Tryz.func56, Tryz.ntmps56
    go_wp2_with (go_at_call 84; refine (HW.out _).mono ?_; rintro e w1 ⟨rfl, b1⟩; have B1 := Lib.hid b1; clear b1)
    go_wp2_with (go_at_call 85; refine (HKW.out _ (Lib.hid (hK.out.below B1.out))).mono ?_; rintro e w2 ⟨rfl, rfl⟩)
    go_ret
    exact ⟨ret_bool HR.out.symm, B1.out⟩
set_option maxHeartbeats 6400000 in
theorem implIsConfig_any (v : Value) (c : Cfg) (w : World) (HK : Hid (Kwt w)) (HV : Hid (CfgV w v c)) (HM : Hid (CfgM c)) :
    Calls Tryz.prog 27 #[v] w (SaysB w (goodC c)) := by
  obtain ⟨ac, cc, af, cf, rfl, ic, if_⟩ := HV.out
  have HG := Lib.hid (goodC_prog c)
  obtain ⟨B, hB⟩ : ∃ B, goodC c = B := ⟨_, rfl⟩
  rw [hB] at HG ⊢
  clear hB HV
  obtain ⟨s, cs, fs, d⟩ := c
  obtain ⟨n, hn⟩ : ∃ n, cs.length = n := ⟨_, rfl⟩
  obtain ⟨m, hm⟩ : ∃ m, fs.length = m := ⟨_, rfl⟩
  have HNN := Lib.hid hn
  have HMM := Lib.hid hm
  have hM := HM.out
  unfold CfgM at hM
  simp only [hn, hm] at ic if_ hM HG ⊢
  obtain ⟨q0, q1, q2⟩ := hM
  have HI := Lib.hid ic
  have HJ := Lib.hid if_
  clear hn hm ic if_ HM
  have A0 := Lib.hid (Aft.refl w (Obj.cells #[.string s, .slice ac n cc, .slice af m cf, .int .i64 d] 26))
  have HN := Lib.hid (fun w hK => isConfigName_any s w q0 (Lib.hid hK))
  have HA := Lib.hid (fun w HI => areClasses_any ac n cc cs w HI HNN q1)
  have HF := Lib.hid (fun w HJ => areFilters_any af m cf fs w HJ HMM q2)
  cases h1 : nmG s
  · have HX : Hid (B = false) := Lib.hid (by rw [HG.out, h1]; rfl)
    rw [h1] at HN
    clear h1
    go_enter Tryz.func27, Tryz.ntmps27
    go_wp2_with (go_at_call 56; refine (HN.out _ (HK.out.below A0.out.all.2)).mono ?_; rintro e w1 ⟨rfl, b1⟩; have A1 := Lib.hid (A0.out.on b1); clear b1)
    go_ret
    exact ⟨ret_bool HX.out.symm, A1.out.all.2⟩
  rw [h1] at HN
  cases h2 : arG cs
  · have HX : Hid (B = false) := Lib.hid (by rw [HG.out, h1, h2]; rfl)
    rw [h2] at HA
    clear h1 h2
    go_enter Tryz.func27, Tryz.ntmps27
    go_wp2_with (go_at_call 56; refine (HN.out _ (HK.out.below A0.out.all.2)).mono ?_; rintro e w1 ⟨rfl, b1⟩; have A1 := Lib.hid (A0.out.on b1); obtain ⟨c0, c1, c2, c3, _⟩ := A1.out.all.1; clear b1)
    go_wp2_with (go_at_call 57; refine (HA.out _ (Lib.hid (HI.out.below A1.out.all.2))).mono ?_; rintro e w2 ⟨rfl, b2⟩; have A2 := Lib.hid (A1.out.on b2); clear b2)
    go_ret
    exact ⟨ret_bool HX.out.symm, A2.out.all.2⟩
  rw [h2] at HA
  have h24 : n ≤ 24 := by
    unfold arG at h2
    simp only [Bool.and_eq_true, decide_eq_true_eq] at h2
    rw [← HNN.out]; exact h2.1.2
  have HO : Hid (okL 0 cs = true) := Lib.hid (by
    unfold arG at h2
    simp only [Bool.and_eq_true] at h2
    exact h2.2)
  have hi := Lib.hid (okL_inc cs 0 HO.out)
  have HRI := Lib.hid (okL_rates HO.out)
  have HT := Lib.hid (fun w HI => isTree_any ac n cc cs w HI HNN q1 hi h24)
  have HR := Lib.hid (fun w HI => ratesFit_any ac n cc cs w HI HNN q1 h24 HRI)
  have HL := Lib.hid (fun w HI => limitsFit_any ac n cc cs w HI HNN q1 hi h24)
  have HD := Lib.hid (fun w HI HJ => leadToLeaves_any s ac af n cc m cf d cs fs w HI HNN q1 HJ HMM q2 hi h24)
  cases h3 : itG cs
  · have HX : Hid (B = false) := Lib.hid (by rw [HG.out, h1, h2, h3]; rfl)
    rw [h3] at HT
    clear h1 h2 h3
    go_enter Tryz.func27, Tryz.ntmps27
    go_wp2_with (go_at_call 56; refine (HN.out _ (HK.out.below A0.out.all.2)).mono ?_; rintro e w1 ⟨rfl, b1⟩; have A1 := Lib.hid (A0.out.on b1); obtain ⟨c0, c1, c2, c3, _⟩ := A1.out.all.1; clear b1)
    go_wp2_with (go_at_call 57; refine (HA.out _ (Lib.hid (HI.out.below A1.out.all.2))).mono ?_; rintro e w2 ⟨rfl, b2⟩; have A2 := Lib.hid (A1.out.on b2); obtain ⟨c0, c1, c2, c3, _⟩ := A2.out.all.1; clear b2)
    go_wp2_with (go_at_call 58; refine (HT.out _ (Lib.hid (HI.out.below A2.out.all.2))).mono ?_; rintro e w3 ⟨rfl, b3⟩; have A3 := Lib.hid (A2.out.on b3); clear b3)
    go_ret
    exact ⟨ret_bool HX.out.symm, A3.out.all.2⟩
  rw [h3] at HT
  cases h4 : rfG cs
  · have HX : Hid (B = false) := Lib.hid (by rw [HG.out, h1, h2, h3, h4]; rfl)
    rw [h4] at HR
    clear h1 h2 h3 h4
    go_enter Tryz.func27, Tryz.ntmps27
    go_wp2_with (go_at_call 56; refine (HN.out _ (HK.out.below A0.out.all.2)).mono ?_; rintro e w1 ⟨rfl, b1⟩; have A1 := Lib.hid (A0.out.on b1); obtain ⟨c0, c1, c2, c3, _⟩ := A1.out.all.1; clear b1)
    go_wp2_with (go_at_call 57; refine (HA.out _ (Lib.hid (HI.out.below A1.out.all.2))).mono ?_; rintro e w2 ⟨rfl, b2⟩; have A2 := Lib.hid (A1.out.on b2); obtain ⟨c0, c1, c2, c3, _⟩ := A2.out.all.1; clear b2)
    go_wp2_with (go_at_call 58; refine (HT.out _ (Lib.hid (HI.out.below A2.out.all.2))).mono ?_; rintro e w3 ⟨rfl, b3⟩; have A3 := Lib.hid (A2.out.on b3); obtain ⟨c0, c1, c2, c3, _⟩ := A3.out.all.1; clear b3)
    go_wp2_with (go_at_call 59; refine (HR.out _ (Lib.hid (HI.out.below A3.out.all.2))).mono ?_; rintro e w4 ⟨rfl, b4⟩; have A4 := Lib.hid (A3.out.on b4); clear b4)
    go_ret
    exact ⟨ret_bool HX.out.symm, A4.out.all.2⟩
  rw [h4] at HR
  cases h5 : lfG cs
  · have HX : Hid (B = false) := Lib.hid (by rw [HG.out, h1, h2, h3, h4, h5]; rfl)
    rw [h5] at HL
    clear h1 h2 h3 h4 h5
    go_enter Tryz.func27, Tryz.ntmps27
    go_wp2_with (go_at_call 56; refine (HN.out _ (HK.out.below A0.out.all.2)).mono ?_; rintro e w1 ⟨rfl, b1⟩; have A1 := Lib.hid (A0.out.on b1); obtain ⟨c0, c1, c2, c3, _⟩ := A1.out.all.1; clear b1)
    go_wp2_with (go_at_call 57; refine (HA.out _ (Lib.hid (HI.out.below A1.out.all.2))).mono ?_; rintro e w2 ⟨rfl, b2⟩; have A2 := Lib.hid (A1.out.on b2); obtain ⟨c0, c1, c2, c3, _⟩ := A2.out.all.1; clear b2)
    go_wp2_with (go_at_call 58; refine (HT.out _ (Lib.hid (HI.out.below A2.out.all.2))).mono ?_; rintro e w3 ⟨rfl, b3⟩; have A3 := Lib.hid (A2.out.on b3); obtain ⟨c0, c1, c2, c3, _⟩ := A3.out.all.1; clear b3)
    go_wp2_with (go_at_call 59; refine (HR.out _ (Lib.hid (HI.out.below A3.out.all.2))).mono ?_; rintro e w4 ⟨rfl, b4⟩; have A4 := Lib.hid (A3.out.on b4); obtain ⟨c0, c1, c2, c3, _⟩ := A4.out.all.1; clear b4)
    go_wp2_with (go_at_call 60; refine (HL.out _ (Lib.hid (HI.out.below A4.out.all.2))).mono ?_; rintro e w5 ⟨rfl, b5⟩; have A5 := Lib.hid (A4.out.on b5); clear b5)
    go_ret
    exact ⟨ret_bool HX.out.symm, A5.out.all.2⟩
  rw [h5] at HL
  cases h6 : afG fs
  · have HX : Hid (B = false) := Lib.hid (by rw [HG.out, h1, h2, h3, h4, h5, h6]; rfl)
    rw [h6] at HF
    clear h1 h2 h3 h4 h5 h6
    go_enter Tryz.func27, Tryz.ntmps27
    go_wp2_with (go_at_call 56; refine (HN.out _ (HK.out.below A0.out.all.2)).mono ?_; rintro e w1 ⟨rfl, b1⟩; have A1 := Lib.hid (A0.out.on b1); obtain ⟨c0, c1, c2, c3, _⟩ := A1.out.all.1; clear b1)
    go_wp2_with (go_at_call 57; refine (HA.out _ (Lib.hid (HI.out.below A1.out.all.2))).mono ?_; rintro e w2 ⟨rfl, b2⟩; have A2 := Lib.hid (A1.out.on b2); obtain ⟨c0, c1, c2, c3, _⟩ := A2.out.all.1; clear b2)
    go_wp2_with (go_at_call 58; refine (HT.out _ (Lib.hid (HI.out.below A2.out.all.2))).mono ?_; rintro e w3 ⟨rfl, b3⟩; have A3 := Lib.hid (A2.out.on b3); obtain ⟨c0, c1, c2, c3, _⟩ := A3.out.all.1; clear b3)
    go_wp2_with (go_at_call 59; refine (HR.out _ (Lib.hid (HI.out.below A3.out.all.2))).mono ?_; rintro e w4 ⟨rfl, b4⟩; have A4 := Lib.hid (A3.out.on b4); obtain ⟨c0, c1, c2, c3, _⟩ := A4.out.all.1; clear b4)
    go_wp2_with (go_at_call 60; refine (HL.out _ (Lib.hid (HI.out.below A4.out.all.2))).mono ?_; rintro e w5 ⟨rfl, b5⟩; have A5 := Lib.hid (A4.out.on b5); obtain ⟨c0, c1, c2, c3, _⟩ := A5.out.all.1; clear b5)
    go_wp2_with (go_at_call 61; refine (HF.out _ (Lib.hid (HJ.out.below A5.out.all.2))).mono ?_; rintro e w6 ⟨rfl, b6⟩; have A6 := Lib.hid (A5.out.on b6); clear b6)
    go_ret
    exact ⟨ret_bool HX.out.symm, A6.out.all.2⟩
  rw [h6] at HF
  have HX : Hid (B = (lvF cs fs && dfG cs d)) := Lib.hid (by rw [HG.out, h1, h2, h3, h4, h5, h6]; rfl)
  generalize (lvF cs fs && dfG cs d) = b7 at HX HD
  clear h1 h2 h3 h4 h5 h6
  go_enter Tryz.func27, Tryz.ntmps27
  go_wp2_with (go_at_call 56; refine (HN.out _ (HK.out.below A0.out.all.2)).mono ?_; rintro e w1 ⟨rfl, b1⟩; have A1 := Lib.hid (A0.out.on b1); obtain ⟨c0, c1, c2, c3, _⟩ := A1.out.all.1; clear b1)
  go_wp2_with (go_at_call 57; refine (HA.out _ (Lib.hid (HI.out.below A1.out.all.2))).mono ?_; rintro e w2 ⟨rfl, b2⟩; have A2 := Lib.hid (A1.out.on b2); obtain ⟨c0, c1, c2, c3, _⟩ := A2.out.all.1; clear b2)
  go_wp2_with (go_at_call 58; refine (HT.out _ (Lib.hid (HI.out.below A2.out.all.2))).mono ?_; rintro e w3 ⟨rfl, b3⟩; have A3 := Lib.hid (A2.out.on b3); obtain ⟨c0, c1, c2, c3, _⟩ := A3.out.all.1; clear b3)
  go_wp2_with (go_at_call 59; refine (HR.out _ (Lib.hid (HI.out.below A3.out.all.2))).mono ?_; rintro e w4 ⟨rfl, b4⟩; have A4 := Lib.hid (A3.out.on b4); obtain ⟨c0, c1, c2, c3, _⟩ := A4.out.all.1; clear b4)
  go_wp2_with (go_at_call 60; refine (HL.out _ (Lib.hid (HI.out.below A4.out.all.2))).mono ?_; rintro e w5 ⟨rfl, b5⟩; have A5 := Lib.hid (A4.out.on b5); obtain ⟨c0, c1, c2, c3, _⟩ := A5.out.all.1; clear b5)
  go_wp2_with (go_at_call 61; refine (HF.out _ (Lib.hid (HJ.out.below A5.out.all.2))).mono ?_; rintro e w6 ⟨rfl, b6⟩; have A6 := Lib.hid (A5.out.on b6); obtain ⟨c0, c1, c2, c3, _⟩ := A6.out.all.1; clear b6)
  go_wp2_with (go_at_call 62; refine (HD.out _ (Lib.hid (HI.out.below A6.out.all.2)) (Lib.hid (HJ.out.below A6.out.all.2))).mono ?_; rintro e w7 ⟨rfl, b7⟩; have A7 := Lib.hid (A6.out.on b7); clear b7)
  go_ret
  exact ⟨ret_bool HX.out.symm, A7.out.all.2⟩
end Go.Proofs.YthgbhnedfdnfpaaGreatDoor
