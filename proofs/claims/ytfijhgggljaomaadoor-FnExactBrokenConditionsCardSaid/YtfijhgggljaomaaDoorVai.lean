/- Chapter 8: the table of the ten conditions; ConditionHolds and BrokenConditions, both sides. -/
import Derived.Test.YtfijhgggljaomaaDoorVah
import Derived.Test.YtfijhgggljaomaaDoorCfi
namespace Go.Proofs.YtfijhgggljaomaaDoor
set_option maxRecDepth 100000
open Go.RowKit
set_option linter.unusedVariables false

theorem sel_none (P : Nat → Bool) (n : Nat) : (((selF P n 0).length : Int) == 0) = fromK (fun k => !P k) n 0 := by
  apply Bool.eq_iff_iff.2
  rw [fromK_iff, beq_iff_eq]
  unfold selF
  constructor
  · intro h k hk
    have h0 : ((List.range' 0 (n - 0)).filter P) = [] := List.length_eq_zero_iff.1 (by omega)
    have := List.filter_eq_nil_iff.1 h0 k (List.mem_range'_1.2 ⟨by omega, by omega⟩)
    simpa using this
  · intro h
    have h0 : ((List.range' 0 (n - 0)).filter P) = [] := List.filter_eq_nil_iff.2 (fun k hk => by
      have := List.mem_range'_1.1 hk
      have := h k (by omega)
      simpa using this)
    rw [h0]; rfl
theorem vw_end (cs : List Cls) : ∀ (f c k : Nat), vwN cs f c k ≠ -1 → nx cs (vwL cs f k) = Option.none
  | 0, c, k, h => absurd rfl h
  | f + 1, c, k, h => by
    cases hn : nx cs k with
    | none => rw [vwL_none hn]; exact hn
    | some j => rw [vwL_some hn]; rw [vwN_some hn] at h; exact vw_end cs f (c + 1) j h
theorem bad_q3 (c : Cfg) (k : Nat) : (!badP c k) = Q3 c.cs k := by
  unfold badP Q3 parOk
  generalize (c.cs.getD k cls0).p = p
  cases fnd c.cs p with
  | none => cases hp : (p == 0) <;> simp [bne, hp]
  | some j => cases hp : (p == 0) <;> simp [bne, hp]
theorem bad_none {c : Cfg} (h : rawC c = true) : (((selC badP c).length : Int) == 0) = fromK (Q3 c.cs) c.cs.length 0 := by
  rw [selC_ok h, sel_none]
  congr 1
  funext k
  exact bad_q3 c k
theorem deep_bad_none {c : Cfg} (h : rawC c = true) : ((((selC deepQ c).length : Int) == 0) && (((selC badP c).length : Int) == 0)) = fromK (Q4 c.cs) c.cs.length 0 := by
  rw [bad_none h, selC_ok h, sel_none]
  apply Bool.eq_iff_iff.2
  rw [Bool.and_eq_true, fromK_iff, fromK_iff, fromK_iff]
  constructor
  · rintro ⟨h1, h2⟩ k hk
    have hd := h1 k hk
    unfold deepQ at hd
    rw [Bool.not_not] at hd
    have hv := inBR_iff.1 hd
    have he := vw_end c.cs c.cs.length 1 k (by omega)
    have hl := vwL_lt c.cs c.cs.length k hk
    have hp := h2 _ hl
    unfold Q3 parOk at hp
    unfold nx at he
    rw [he] at hp
    unfold Q4
    rw [hd, Bool.true_and]
    simpa using hp
  · intro h4
    refine ⟨fun k hk => ?_, fun k hk => ?_⟩
    · have := h4 k hk
      unfold Q4 at this
      unfold deepQ
      rw [Bool.not_not]
      exact (Bool.and_eq_true_iff.1 this).1
    · have := h4 k hk
      unfold Q4 at this
      have hp := (Bool.and_eq_true_iff.1 this).2
      unfold Q3 parOk
      cases hf : fnd c.cs (c.cs.getD k cls0).p with
      | some j => simp
      | none =>
        rw [show c.cs.length = (c.cs.length - 1) + 1 by omega, vwL_none (show nx c.cs k = Option.none from hf)] at hp
        simpa using hp
theorem over_none {c : Cfg} (h : rawC c = true) : ((rawC c && ratesC c) && (((selO c).length : Int) == 0)) = holdP c 6 := by
  show _ = (ratesC c && (((selF (overP c) c.cs.length 0).length : Int) == 0))
  cases hr : ratesC c
  · rw [h]; rfl
  · rw [selO_ok h hr, h]; rfl
theorem tgt_none {c : Cfg} (h : rawC c = true) : (((selT tgtP c).length : Int) == 0) = lvF c.cs c.fs := by
  rw [selT_ok h, sel_none]
  apply Bool.eq_iff_iff.2
  rw [fromK_iff]
  unfold lvF tgtP
  rw [List.all_eq_true]
  constructor
  · intro h x hx
    obtain ⟨k, hk, rfl⟩ := List.mem_iff_getElem.1 hx
    have := h k hk
    rw [Bool.not_not] at this
    simpa [List.getD_eq_getElem?_getD, hk] using this
  · intro h k hk
    have := h (c.fs[k]) (List.getElem_mem hk)
    rw [Bool.not_not]
    simpa [List.getD_eq_getElem?_getD, hk] using this
theorem flt_none {c : Cfg} (h : rawC c = true) : (afG c.fs && (((selT tgtP c).length : Int) == 0)) = fltG c.cs c.fs := by
  rw [tgt_none h]
  unfold afG fltG
  rw [mdF_eq]
  cases okF 0 c.fs <;> cases lvF c.cs c.fs <;> cases decide (c.fs.length ≤ 16) <;> rfl
set_option maxHeartbeats 3200000 in
theorem cond1_cl (s : ByteArray) (ac af : Option Addr) (cc cf : Nat) (d : Int) (cs : List Cls) (fs : List Flt) (c0 : Nat) (w : World) (HK : Hid (Kwt w)) (HI : Hid (InX w ac cs.length (clsCs cs))) (HJ : Hid (InX w af fs.length (fltCs fs))) (HM : Hid (CfgM ⟨s, cs, fs, d⟩)) (hr : Hid (rawC ⟨s, cs, fs, d⟩ = true)) (HFo : Hid (FourIs w c0 (.string s) (.slice ac cs.length cc) (.slice af fs.length cf) (.int .i64 d))) :
    Calls Tryd.prog 38 #[.pointer (some ⟨c0, 0, none⟩)] w (SaysB w (holdP ⟨s, cs, fs, d⟩ 1)) := by
  have q0 : s.size ≤ 1048576 := HM.out.1
  have q1 : cs.length ≤ 1048576 := HM.out.2.1
  have q2 : fs.length ≤ 1048576 := HM.out.2.2
  have h40 : cs.length ≤ 40 := (raw_of hr.out).1
  have HV := Lib.hid (fun w' (b : Below w.heap.size w w') => Lib.hid (show CfgV w' (.agg #[.string s, .slice ac cs.length cc, .slice af fs.length cf, .int .i64 d]) ⟨s, cs, fs, d⟩ from ⟨ac, cc, af, cf, rfl, HI.out.below b, HJ.out.below b⟩))
  obtain ⟨e0, e1, e2, e3, hgw⟩ := HFo.out
  have HC := Lib.hid (show Calls Tryd.prog 39 _ w (SaysB w (holdP ⟨s, cs, fs, d⟩ 1)) from isConfigName_any s w q0 HK)
  generalize holdP ⟨s, cs, fs, d⟩ 1 = R at HC ⊢
  go_enter Tryd.func38, Tryd.ntmps38
  go_wp2_with (go_at_call 39; refine HC.out.mono ?_; rintro e w1 ⟨rfl, b1⟩; have B1 := Lib.hid b1; clear b1)
  go_ret
  exact ⟨rfl, B1.out⟩
set_option maxHeartbeats 3200000 in
theorem cond2_cl (s : ByteArray) (ac af : Option Addr) (cc cf : Nat) (d : Int) (cs : List Cls) (fs : List Flt) (c0 : Nat) (w : World) (HK : Hid (Kwt w)) (HI : Hid (InX w ac cs.length (clsCs cs))) (HJ : Hid (InX w af fs.length (fltCs fs))) (HM : Hid (CfgM ⟨s, cs, fs, d⟩)) (hr : Hid (rawC ⟨s, cs, fs, d⟩ = true)) (HFo : Hid (FourIs w c0 (.string s) (.slice ac cs.length cc) (.slice af fs.length cf) (.int .i64 d))) :
    Calls Tryd.prog 40 #[.pointer (some ⟨c0, 0, none⟩)] w (SaysB w (holdP ⟨s, cs, fs, d⟩ 2)) := by
  have q0 : s.size ≤ 1048576 := HM.out.1
  have q1 : cs.length ≤ 1048576 := HM.out.2.1
  have q2 : fs.length ≤ 1048576 := HM.out.2.2
  have h40 : cs.length ≤ 40 := (raw_of hr.out).1
  have HV := Lib.hid (fun w' (b : Below w.heap.size w w') => Lib.hid (show CfgV w' (.agg #[.string s, .slice ac cs.length cc, .slice af fs.length cf, .int .i64 d]) ⟨s, cs, fs, d⟩ from ⟨ac, cc, af, cf, rfl, HI.out.below b, HJ.out.below b⟩))
  obtain ⟨e0, e1, e2, e3, hgw⟩ := HFo.out
  have HC := Lib.hid (show Calls Tryd.prog 41 _ w (SaysB w (holdP ⟨s, cs, fs, d⟩ 2)) from haveIds_any ac cs.length cc cs w HI (Lib.hid rfl) q1)
  generalize holdP ⟨s, cs, fs, d⟩ 2 = R at HC ⊢
  go_enter Tryd.func40, Tryd.ntmps40
  go_wp2_with (go_at_call 41; refine HC.out.mono ?_; rintro e w1 ⟨rfl, b1⟩; have B1 := Lib.hid b1; clear b1)
  go_ret
  exact ⟨rfl, B1.out⟩
set_option maxHeartbeats 3200000 in
theorem cond5_cl (s : ByteArray) (ac af : Option Addr) (cc cf : Nat) (d : Int) (cs : List Cls) (fs : List Flt) (c0 : Nat) (w : World) (HK : Hid (Kwt w)) (HI : Hid (InX w ac cs.length (clsCs cs))) (HJ : Hid (InX w af fs.length (fltCs fs))) (HM : Hid (CfgM ⟨s, cs, fs, d⟩)) (hr : Hid (rawC ⟨s, cs, fs, d⟩ = true)) (HFo : Hid (FourIs w c0 (.string s) (.slice ac cs.length cc) (.slice af fs.length cf) (.int .i64 d))) :
    Calls Tryd.prog 48 #[.pointer (some ⟨c0, 0, none⟩)] w (SaysB w (holdP ⟨s, cs, fs, d⟩ 5)) := by
  have q0 : s.size ≤ 1048576 := HM.out.1
  have q1 : cs.length ≤ 1048576 := HM.out.2.1
  have q2 : fs.length ≤ 1048576 := HM.out.2.2
  have h40 : cs.length ≤ 40 := (raw_of hr.out).1
  have HV := Lib.hid (fun w' (b : Below w.heap.size w w') => Lib.hid (show CfgV w' (.agg #[.string s, .slice ac cs.length cc, .slice af fs.length cf, .int .i64 d]) ⟨s, cs, fs, d⟩ from ⟨ac, cc, af, cf, rfl, HI.out.below b, HJ.out.below b⟩))
  obtain ⟨e0, e1, e2, e3, hgw⟩ := HFo.out
  have HC := Lib.hid (show Calls Tryd.prog 49 _ w (SaysB w (holdP ⟨s, cs, fs, d⟩ 5)) from allOf_rc ac cs.length cc cs w HI (Lib.hid rfl) q1 (Lib.hid (fun x w' => hasRateAndCeil_any x w')))
  generalize holdP ⟨s, cs, fs, d⟩ 5 = R at HC ⊢
  go_enter Tryd.func48, Tryd.ntmps48
  go_wp2_with (go_at_call 49; refine HC.out.mono ?_; rintro e w1 ⟨rfl, b1⟩; have B1 := Lib.hid b1; clear b1)
  go_ret
  exact ⟨rfl, B1.out⟩
set_option maxHeartbeats 3200000 in
theorem cond7_cl (s : ByteArray) (ac af : Option Addr) (cc cf : Nat) (d : Int) (cs : List Cls) (fs : List Flt) (c0 : Nat) (w : World) (HK : Hid (Kwt w)) (HI : Hid (InX w ac cs.length (clsCs cs))) (HJ : Hid (InX w af fs.length (fltCs fs))) (HM : Hid (CfgM ⟨s, cs, fs, d⟩)) (hr : Hid (rawC ⟨s, cs, fs, d⟩ = true)) (HFo : Hid (FourIs w c0 (.string s) (.slice ac cs.length cc) (.slice af fs.length cf) (.int .i64 d))) :
    Calls Tryd.prog 53 #[.pointer (some ⟨c0, 0, none⟩)] w (SaysB w (holdP ⟨s, cs, fs, d⟩ 7)) := by
  have q0 : s.size ≤ 1048576 := HM.out.1
  have q1 : cs.length ≤ 1048576 := HM.out.2.1
  have q2 : fs.length ≤ 1048576 := HM.out.2.2
  have h40 : cs.length ≤ 40 := (raw_of hr.out).1
  have HV := Lib.hid (fun w' (b : Below w.heap.size w w') => Lib.hid (show CfgV w' (.agg #[.string s, .slice ac cs.length cc, .slice af fs.length cf, .int .i64 d]) ⟨s, cs, fs, d⟩ from ⟨ac, cc, af, cf, rfl, HI.out.below b, HJ.out.below b⟩))
  obtain ⟨e0, e1, e2, e3, hgw⟩ := HFo.out
  have HC := Lib.hid (show Calls Tryd.prog 49 _ w (SaysB w (holdP ⟨s, cs, fs, d⟩ 7)) from allOf_bp ac cs.length cc cs w HI (Lib.hid rfl) q1 (Lib.hid (fun x w' => hasBurstsAndPrio_any x w')))
  generalize holdP ⟨s, cs, fs, d⟩ 7 = R at HC ⊢
  go_enter Tryd.func53, Tryd.ntmps53
  go_wp2_with (go_at_call 49; refine HC.out.mono ?_; rintro e w1 ⟨rfl, b1⟩; have B1 := Lib.hid b1; clear b1)
  go_ret
  exact ⟨rfl, B1.out⟩
set_option maxHeartbeats 3200000 in
theorem cond8_cl (s : ByteArray) (ac af : Option Addr) (cc cf : Nat) (d : Int) (cs : List Cls) (fs : List Flt) (c0 : Nat) (w : World) (HK : Hid (Kwt w)) (HI : Hid (InX w ac cs.length (clsCs cs))) (HJ : Hid (InX w af fs.length (fltCs fs))) (HM : Hid (CfgM ⟨s, cs, fs, d⟩)) (hr : Hid (rawC ⟨s, cs, fs, d⟩ = true)) (HFo : Hid (FourIs w c0 (.string s) (.slice ac cs.length cc) (.slice af fs.length cf) (.int .i64 d))) :
    Calls Tryd.prog 55 #[.pointer (some ⟨c0, 0, none⟩)] w (SaysB w (holdP ⟨s, cs, fs, d⟩ 8)) := by
  have q0 : s.size ≤ 1048576 := HM.out.1
  have q1 : cs.length ≤ 1048576 := HM.out.2.1
  have q2 : fs.length ≤ 1048576 := HM.out.2.2
  have h40 : cs.length ≤ 40 := (raw_of hr.out).1
  have HV := Lib.hid (fun w' (b : Below w.heap.size w w') => Lib.hid (show CfgV w' (.agg #[.string s, .slice ac cs.length cc, .slice af fs.length cf, .int .i64 d]) ⟨s, cs, fs, d⟩ from ⟨ac, cc, af, cf, rfl, HI.out.below b, HJ.out.below b⟩))
  obtain ⟨e0, e1, e2, e3, hgw⟩ := HFo.out
  have HC := Lib.hid (show Calls Tryd.prog 56 _ w (SaysB w (holdP ⟨s, cs, fs, d⟩ 8)) from haveLimits_any ac cs.length cc cs w HI (Lib.hid rfl) q1)
  generalize holdP ⟨s, cs, fs, d⟩ 8 = R at HC ⊢
  go_enter Tryd.func55, Tryd.ntmps55
  go_wp2_with (go_at_call 56; refine HC.out.mono ?_; rintro e w1 ⟨rfl, b1⟩; have B1 := Lib.hid b1; clear b1)
  go_ret
  exact ⟨rfl, B1.out⟩
set_option maxHeartbeats 3200000 in
theorem cond6_cl (s : ByteArray) (ac af : Option Addr) (cc cf : Nat) (d : Int) (cs : List Cls) (fs : List Flt) (c0 : Nat) (w : World) (HK : Hid (Kwt w)) (HI : Hid (InX w ac cs.length (clsCs cs))) (HJ : Hid (InX w af fs.length (fltCs fs))) (HM : Hid (CfgM ⟨s, cs, fs, d⟩)) (hr : Hid (rawC ⟨s, cs, fs, d⟩ = true)) (HFo : Hid (FourIs w c0 (.string s) (.slice ac cs.length cc) (.slice af fs.length cf) (.int .i64 d))) :
    Calls Tryd.prog 51 #[.pointer (some ⟨c0, 0, none⟩)] w (SaysB w (holdP ⟨s, cs, fs, d⟩ 6)) := by
  have q0 : s.size ≤ 1048576 := HM.out.1
  have q1 : cs.length ≤ 1048576 := HM.out.2.1
  have q2 : fs.length ≤ 1048576 := HM.out.2.2
  have h40 : cs.length ≤ 40 := (raw_of hr.out).1
  have HV := Lib.hid (fun w' (b : Below w.heap.size w w') => Lib.hid (show CfgV w' (.agg #[.string s, .slice ac cs.length cc, .slice af fs.length cf, .int .i64 d]) ⟨s, cs, fs, d⟩ from ⟨ac, cc, af, cf, rfl, HI.out.below b, HJ.out.below b⟩))
  obtain ⟨e0, e1, e2, e3, hgw⟩ := HFo.out
  have HC := Lib.hid (show Calls Tryd.prog 44 _ w (SaysB w (holdP ⟨s, cs, fs, d⟩ 6)) from (by have := hasNone_OverfullClasses (.agg #[.string s, .slice ac cs.length cc, .slice af fs.length cf, .int .i64 d]) ⟨s, cs, fs, d⟩ w (HV.out w (Below.refl _ _)) HM; rw [over_none hr.out] at this; exact this))
  generalize holdP ⟨s, cs, fs, d⟩ 6 = R at HC ⊢
  go_enter Tryd.func51, Tryd.ntmps51
  go_wp2_with (go_at_call 44; refine HC.out.mono ?_; rintro e w1 ⟨rfl, b1⟩; have B1 := Lib.hid b1; clear b1)
  go_ret
  exact ⟨rfl, B1.out⟩
set_option maxHeartbeats 3200000 in
theorem cond3_cl (s : ByteArray) (ac af : Option Addr) (cc cf : Nat) (d : Int) (cs : List Cls) (fs : List Flt) (c0 : Nat) (w : World) (HK : Hid (Kwt w)) (HI : Hid (InX w ac cs.length (clsCs cs))) (HJ : Hid (InX w af fs.length (fltCs fs))) (HM : Hid (CfgM ⟨s, cs, fs, d⟩)) (hr : Hid (rawC ⟨s, cs, fs, d⟩ = true)) (HFo : Hid (FourIs w c0 (.string s) (.slice ac cs.length cc) (.slice af fs.length cf) (.int .i64 d))) :
    Calls Tryd.prog 42 #[.pointer (some ⟨c0, 0, none⟩)] w (SaysB w (holdP ⟨s, cs, fs, d⟩ 3)) := by
  have q0 : s.size ≤ 1048576 := HM.out.1
  have q1 : cs.length ≤ 1048576 := HM.out.2.1
  have q2 : fs.length ≤ 1048576 := HM.out.2.2
  have h40 : cs.length ≤ 40 := (raw_of hr.out).1
  have HV := Lib.hid (fun w' (b : Below w.heap.size w w') => Lib.hid (show CfgV w' (.agg #[.string s, .slice ac cs.length cc, .slice af fs.length cf, .int .i64 d]) ⟨s, cs, fs, d⟩ from ⟨ac, cc, af, cf, rfl, HI.out.below b, HJ.out.below b⟩))
  obtain ⟨e0, e1, e2, e3, hgw⟩ := HFo.out
  have HC := Lib.hid (countTops_any ac cs.length cc cs w HI (Lib.hid rfl) q1 h40)
  have HN := Lib.hid (fun w' (b : Below w.heap.size w w') => hasNone_BadParents (.agg #[.string s, .slice ac cs.length cc, .slice af fs.length cf, .int .i64 d]) ⟨s, cs, fs, d⟩ w' (HV.out w' b) HM)
  have HX : Hid (holdP ⟨s, cs, fs, d⟩ 3 = _) := Lib.hid ((by rw [show holdP ⟨s, cs, fs, d⟩ 3 = (fromK (Q3 cs) cs.length 0 && ((cT cs : Int) == 1)) from rfl, ← bad_none hr.out, Bool.and_comm] : holdP ⟨s, cs, fs, d⟩ 3 = (((cT cs : Int) == 1) && (((selC badP ⟨s, cs, fs, d⟩).length : Int) == 0))))
  rw [hr.out, Bool.true_and] at HN
  generalize (((selC badP ⟨s, cs, fs, d⟩).length : Int) == 0) = nb at HN HX
  obtain ⟨bq, hbq⟩ : ∃ b, (((cT cs : Nat) : Int) == 1) = b := ⟨_, rfl⟩
  rw [hbq] at HX
  generalize ((cT cs : Nat) : Int) = t at HC hbq
  generalize holdP ⟨s, cs, fs, d⟩ 3 = R at HX ⊢
  cases bq
  · go_enter Tryd.func42, Tryd.ntmps42
    go_wp2_with (go_at_call 43; refine HC.out.mono ?_; rintro e w1 ⟨rfl, b1⟩; have B1 := Lib.hid b1; clear b1)
    go_ret
    exact ⟨ret_bool (by rw [HX.out]; rfl), B1.out⟩
  · go_enter Tryd.func42, Tryd.ntmps42
    go_wp2_with (go_at_call 43; refine HC.out.mono ?_; rintro e w1 ⟨rfl, b1⟩; have B1 := Lib.hid b1; obtain ⟨f0, f1, f2, f3, _⟩ := HFo.out.on b1; clear b1; refine Hid.out ?_)
    refine Lib.hid ?_
    go_wp2_with (go_at_call 44; refine (HN.out _ B1.out).mono ?_; rintro e w2 ⟨rfl, b2⟩; have B2 := Lib.hid (B1.out.trans (b2.mono B1.out.size)); clear b2)
    go_ret
    exact ⟨ret_bool (by rw [HX.out]; rfl), B2.out⟩
set_option maxHeartbeats 3200000 in
theorem cond4_cl (s : ByteArray) (ac af : Option Addr) (cc cf : Nat) (d : Int) (cs : List Cls) (fs : List Flt) (c0 : Nat) (w : World) (HK : Hid (Kwt w)) (HI : Hid (InX w ac cs.length (clsCs cs))) (HJ : Hid (InX w af fs.length (fltCs fs))) (HM : Hid (CfgM ⟨s, cs, fs, d⟩)) (hr : Hid (rawC ⟨s, cs, fs, d⟩ = true)) (HFo : Hid (FourIs w c0 (.string s) (.slice ac cs.length cc) (.slice af fs.length cf) (.int .i64 d))) :
    Calls Tryd.prog 46 #[.pointer (some ⟨c0, 0, none⟩)] w (SaysB w (holdP ⟨s, cs, fs, d⟩ 4)) := by
  have q0 : s.size ≤ 1048576 := HM.out.1
  have q1 : cs.length ≤ 1048576 := HM.out.2.1
  have q2 : fs.length ≤ 1048576 := HM.out.2.2
  have h40 : cs.length ≤ 40 := (raw_of hr.out).1
  have HV := Lib.hid (fun w' (b : Below w.heap.size w w') => Lib.hid (show CfgV w' (.agg #[.string s, .slice ac cs.length cc, .slice af fs.length cf, .int .i64 d]) ⟨s, cs, fs, d⟩ from ⟨ac, cc, af, cf, rfl, HI.out.below b, HJ.out.below b⟩))
  obtain ⟨e0, e1, e2, e3, hgw⟩ := HFo.out
  have HC := Lib.hid ((by have := hasNone_DeepClasses (.agg #[.string s, .slice ac cs.length cc, .slice af fs.length cf, .int .i64 d]) ⟨s, cs, fs, d⟩ w (HV.out w (Below.refl _ _)) HM; rw [hr.out, Bool.true_and] at this; exact this : Calls Tryd.prog 44 #[(.agg #[.string s, .slice ac cs.length cc, .slice af fs.length cf, .int .i64 d]), .func (Fn.func 47) #[] #[]] w (SaysB w (((selC deepQ ⟨s, cs, fs, d⟩).length : Int) == 0))))
  have HN := Lib.hid (fun w' (b : Below w.heap.size w w') => hasNone_BadParents (.agg #[.string s, .slice ac cs.length cc, .slice af fs.length cf, .int .i64 d]) ⟨s, cs, fs, d⟩ w' (HV.out w' b) HM)
  have HX : Hid (holdP ⟨s, cs, fs, d⟩ 4 = _) := Lib.hid ((deep_bad_none hr.out).symm)
  rw [hr.out, Bool.true_and] at HN
  generalize (((selC badP ⟨s, cs, fs, d⟩).length : Int) == 0) = nb at HN HX
  generalize (((selC deepQ ⟨s, cs, fs, d⟩).length : Int) == 0) = bq at HC HX
  generalize holdP ⟨s, cs, fs, d⟩ 4 = R at HX ⊢
  cases bq
  · go_enter Tryd.func46, Tryd.ntmps46
    go_wp2_with (go_at_call 44; refine HC.out.mono ?_; rintro e w1 ⟨rfl, b1⟩; have B1 := Lib.hid b1; clear b1)
    go_ret
    exact ⟨ret_bool (by rw [HX.out]; rfl), B1.out⟩
  · go_enter Tryd.func46, Tryd.ntmps46
    go_wp2_with (go_at_call 44; refine HC.out.mono ?_; rintro e w1 ⟨rfl, b1⟩; have B1 := Lib.hid b1; obtain ⟨f0, f1, f2, f3, _⟩ := HFo.out.on b1; clear b1; refine Hid.out ?_)
    refine Lib.hid ?_
    go_wp2_with (go_at_call 44; refine (HN.out _ B1.out).mono ?_; rintro e w2 ⟨rfl, b2⟩; have B2 := Lib.hid (B1.out.trans (b2.mono B1.out.size)); clear b2)
    go_ret
    exact ⟨ret_bool (by rw [HX.out]; rfl), B2.out⟩
set_option maxHeartbeats 3200000 in
theorem cond9_cl (s : ByteArray) (ac af : Option Addr) (cc cf : Nat) (d : Int) (cs : List Cls) (fs : List Flt) (c0 : Nat) (w : World) (HK : Hid (Kwt w)) (HI : Hid (InX w ac cs.length (clsCs cs))) (HJ : Hid (InX w af fs.length (fltCs fs))) (HM : Hid (CfgM ⟨s, cs, fs, d⟩)) (hr : Hid (rawC ⟨s, cs, fs, d⟩ = true)) (HFo : Hid (FourIs w c0 (.string s) (.slice ac cs.length cc) (.slice af fs.length cf) (.int .i64 d))) :
    Calls Tryd.prog 57 #[.pointer (some ⟨c0, 0, none⟩)] w (SaysB w (holdP ⟨s, cs, fs, d⟩ 9)) := by
  have q0 : s.size ≤ 1048576 := HM.out.1
  have q1 : cs.length ≤ 1048576 := HM.out.2.1
  have q2 : fs.length ≤ 1048576 := HM.out.2.2
  have h40 : cs.length ≤ 40 := (raw_of hr.out).1
  have HV := Lib.hid (fun w' (b : Below w.heap.size w w') => Lib.hid (show CfgV w' (.agg #[.string s, .slice ac cs.length cc, .slice af fs.length cf, .int .i64 d]) ⟨s, cs, fs, d⟩ from ⟨ac, cc, af, cf, rfl, HI.out.below b, HJ.out.below b⟩))
  obtain ⟨e0, e1, e2, e3, hgw⟩ := HFo.out
  have HC := Lib.hid (areFilters_any af fs.length cf fs w HJ (Lib.hid rfl) q2)
  have HN := Lib.hid (fun w' (b : Below w.heap.size w w') => hasNone_BadTargets (.agg #[.string s, .slice ac cs.length cc, .slice af fs.length cf, .int .i64 d]) ⟨s, cs, fs, d⟩ w' (HV.out w' b) HM)
  have HX : Hid (holdP ⟨s, cs, fs, d⟩ 9 = _) := Lib.hid ((flt_none hr.out).symm)
  rw [hr.out, Bool.true_and] at HN
  generalize (((selT tgtP ⟨s, cs, fs, d⟩).length : Int) == 0) = nb at HN HX
  generalize afG fs = bq at HC HX
  generalize holdP ⟨s, cs, fs, d⟩ 9 = R at HX ⊢
  cases bq
  · go_enter Tryd.func57, Tryd.ntmps57
    go_wp2_with (go_at_call 58; refine HC.out.mono ?_; rintro e w1 ⟨rfl, b1⟩; have B1 := Lib.hid b1; clear b1)
    go_ret
    exact ⟨ret_bool (by rw [HX.out]; rfl), B1.out⟩
  · go_enter Tryd.func57, Tryd.ntmps57
    go_wp2_with (go_at_call 58; refine HC.out.mono ?_; rintro e w1 ⟨rfl, b1⟩; have B1 := Lib.hid b1; obtain ⟨f0, f1, f2, f3, _⟩ := HFo.out.on b1; clear b1; refine Hid.out ?_)
    refine Lib.hid ?_
    go_wp2_with (go_at_call 44; refine (HN.out _ B1.out).mono ?_; rintro e w2 ⟨rfl, b2⟩; have B2 := Lib.hid (B1.out.trans (b2.mono B1.out.size)); clear b2)
    go_ret
    exact ⟨ret_bool (by rw [HX.out]; rfl), B2.out⟩
set_option maxHeartbeats 3200000 in
theorem cond10_cl (s : ByteArray) (ac af : Option Addr) (cc cf : Nat) (d : Int) (cs : List Cls) (fs : List Flt) (c0 : Nat) (w : World) (HK : Hid (Kwt w)) (HI : Hid (InX w ac cs.length (clsCs cs))) (HJ : Hid (InX w af fs.length (fltCs fs))) (HM : Hid (CfgM ⟨s, cs, fs, d⟩)) (hr : Hid (rawC ⟨s, cs, fs, d⟩ = true)) (HFo : Hid (FourIs w c0 (.string s) (.slice ac cs.length cc) (.slice af fs.length cf) (.int .i64 d))) :
    Calls Tryd.prog 60 #[.pointer (some ⟨c0, 0, none⟩)] w (SaysB w (holdP ⟨s, cs, fs, d⟩ 10)) := by
  have q0 : s.size ≤ 1048576 := HM.out.1
  have q1 : cs.length ≤ 1048576 := HM.out.2.1
  have q2 : fs.length ≤ 1048576 := HM.out.2.2
  have h40 : cs.length ≤ 40 := (raw_of hr.out).1
  have HV := Lib.hid (fun w' (b : Below w.heap.size w w') => Lib.hid (show CfgV w' (.agg #[.string s, .slice ac cs.length cc, .slice af fs.length cf, .int .i64 d]) ⟨s, cs, fs, d⟩ from ⟨ac, cc, af, cf, rfl, HI.out.below b, HJ.out.below b⟩))
  obtain ⟨e0, e1, e2, e3, hgw⟩ := HFo.out
  have HC := Lib.hid (isLeafId_any ac cs.length cc cs d w HI (Lib.hid rfl) q1)
  have HX : Hid (holdP ⟨s, cs, fs, d⟩ 10 = ((d == 0) || leafB cs d)) := Lib.hid rfl
  generalize holdP ⟨s, cs, fs, d⟩ 10 = R at HX ⊢
  generalize leafB cs d = lb at HC HX
  obtain ⟨q, hq⟩ : ∃ q, (d == 0) = q := ⟨_, rfl⟩
  rw [hq] at HX
  cases q
  · go_enter Tryd.func60, Tryd.ntmps60
    go_wp2_with (go_at_call 61; refine HC.out.mono ?_; rintro e w1 ⟨rfl, b1⟩; have B1 := Lib.hid b1; clear b1)
    go_ret
    exact ⟨ret_bool (by rw [HX.out]; rfl), B1.out⟩
  · go_enter Tryd.func60, Tryd.ntmps60
    go_wp2_with fail
    go_ret
    exact ⟨ret_bool (by rw [HX.out]; rfl), Below.refl _ _⟩
def condX (c0 : Nat) : List Value := [.int .i64 1, .func (Fn.func 38) #[] #[.pointer (some ⟨c0, 0, none⟩)], .int .i64 2, .func (Fn.func 40) #[] #[.pointer (some ⟨c0, 0, none⟩)], .int .i64 3, .func (Fn.func 42) #[] #[.pointer (some ⟨c0, 0, none⟩)], .int .i64 4, .func (Fn.func 46) #[] #[.pointer (some ⟨c0, 0, none⟩)], .int .i64 5, .func (Fn.func 48) #[] #[.pointer (some ⟨c0, 0, none⟩)], .int .i64 6, .func (Fn.func 51) #[] #[.pointer (some ⟨c0, 0, none⟩)], .int .i64 7, .func (Fn.func 53) #[] #[.pointer (some ⟨c0, 0, none⟩)], .int .i64 8, .func (Fn.func 55) #[] #[.pointer (some ⟨c0, 0, none⟩)], .int .i64 9, .func (Fn.func 57) #[] #[.pointer (some ⟨c0, 0, none⟩)], .int .i64 10, .func (Fn.func 60) #[] #[.pointer (some ⟨c0, 0, none⟩)]]
def SaysCo (w : World) (s : ByteArray) (ac af : Option Addr) (n cc m cf : Nat) (d : Int) (e : Ending) (w' : World) : Prop :=
  e = .returned (.slice (some ⟨w.heap.size + 1, 0, none⟩) 10 10) ∧ Below w.heap.size w w' ∧ AtC w' (w.heap.size + 1) (condX w.heap.size) ∧ w.heap.size + 1 < w'.heap.size ∧ FourIs w' w.heap.size (.string s) (.slice ac n cc) (.slice af m cf) (.int .i64 d)
set_option maxHeartbeats 3200000 in
theorem conditionsOf_any (s : ByteArray) (ac af : Option Addr) (n cc m cf : Nat) (d : Int) (w : World) :
    Calls Tryd.prog 24 #[(.agg #[.string s, .slice ac n cc, .slice af m cf, .int .i64 d])] w (SaysCo w s ac af n cc m cf d) := by
  have hmf : ∀ (fn : Fn) (first cap : Array Value) (w : World), (Instr.makeFunc fn first cap).run Tryd.prog w = .ok (.func fn first cap) w := fun _ _ _ _ => rfl
  go_enter Tryd.func24, Tryd.ntmps24
  go_wp2_with fail
  go_ret
  refine ⟨by simp, two_new _ _ _, fun j hj => ?_, by simp, ?_⟩
  · rw [World.cell?_alloc_at _ _ _ _ (by simp)]
    simp [condX]
  · obtain ⟨a0, a1, a2, a3, a4⟩ := (box_four (Below.refl _ _) : FourIs _ w.heap.size (.string s) (.slice ac n cc) (.slice af m cf) (.int .i64 d) ∧ _).1
    exact FourIs.on ⟨a0, a1, a2, a3, a4⟩ (one_new2 _ _)
end Go.Proofs.YtfijhgggljaomaaDoor
