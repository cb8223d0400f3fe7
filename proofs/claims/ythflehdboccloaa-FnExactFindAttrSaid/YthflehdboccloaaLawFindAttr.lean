/- For every slice of attributes and slice of numbers, impl.FindAttr answers as its model does and writes into no argument: the law FnExactFindAttr returns true. No condition. -/
import Derived.Test.YthflehdboccloaaRows
import Derived.Test.YthflehdboccloaaAtf
import Derived.ProofKit
import Derived.OpenShut
import Derived.ShutString
import Derived.ChangeOld
import Derived.ChangeVars
import Derived.Carry
namespace Go.Proofs.Ythflehdboccloaa.fnExactFindAttr
open Go.ChangeShapes Go.WideShapes Go.ChangeAt Go.RowKit
set_option linter.unusedVariables false
set_option maxRecDepth 100000

theorem own : ownKnob Try.prog.godebug = none := by kernel_rfl
theorem laidOut : laidOutB Try.prog = true := by kernel_rfl
set_option maxHeartbeats 25600000 in
theorem walk (ad : Option Addr) (n cap : Nat) (l : List At) (hm : n ≤ maxLen) (hn : l.length = n) (w : World) (hI : ArgX w ad n (atCs l)) (hS : SzM l) (bd : Option Addr) (m cb : Nat) (ts : List Int) (hm2 : m ≤ maxLen) (ht : ts.length = m) (hJ : InI w bd ts) :
    Calls Try.prog 10 #[.slice ad n cap, .slice bd m cb] w fun e w' => e = .returned (.bool true) ∧ Below w.heap.size w w' := by
  unfold maxLen at hm hm2
  have HN := Lib.hid hn
  have HI := Lib.hid hI
  have HS := Lib.hid hS
  have HT := Lib.hid ht
  have HJ := Lib.hid hJ
  have HR := Lib.hid hJ.range
  have HZ := Lib.hid (szAttrS_any ad n cap l w HI HN HS (by omega))
  clear hI hS hJ
  by_cases hbig : (1048576 : Int) < (m : Int)
  · have d := is_lt hbig
    go_enter Try.func10, Try.ntmps10
    go_wp2_with fail
    go_ret
    exact ⟨rfl, Below.refl _ _⟩
  have hm6 : m ≤ 1048576 := by omega
  have d0 := not_lt (Int.not_lt.1 hbig)
  have HTI := Lib.hid (fun w h => toIntS_any bd m cb ts w HT (Lib.hid h) hm6)
  have HEI := Lib.hid (fun ga gb ca cb w ha hb => eqIntS_same ga 0 gb 0 m ca cb ts w HT (Lib.hid ha) (Lib.hid hb) hm6)
  clear hbig ht
  go_enter Try.func10, Try.ntmps10
  go_wp2_with (go_at_call 14; refine (HZ.out).mono ?_; rintro e w1 ⟨r, rfl, b, hr⟩; have X1 : Hid (BX w w1) := Lib.hid b; have HRR := Lib.hid hr; clear b hr; refine Hid.out ?_)
  refine Lib.hid ?_
  rcases Int.lt_or_le r 0 with h | h
  · have d := is_lt h
    clear HRR
    go_wp2_with fail
    go_ret
    exact ⟨rfl, X1.out⟩
  have hn6 : n ≤ 1048576 := HRR.out h
  have d := not_lt h
  clear HRR
  have HTO := Lib.hid (fun w h => toAttrS_any ad n cap l w (Lib.hid h) HN hn6)
  unfold SaysAtS at HTO
  rw [hn] at HTO
  have HEQ := Lib.hid (fun a b ca cb w h h' => eqAttrS_any a b n ca cb l w (Lib.hid h) (Lib.hid h') HN hn6)
  have HSP := Lib.hid (fun ad bd c c' w h h' => specFind_any ad bd n m c c' l ts w (Lib.hid h) (Lib.hid h') HN HT HS hn6 hm6)
  have HIM := Lib.hid (fun ad bd c c' w h h' => implFind_any ad bd n m c c' l ts w (Lib.hid h) (Lib.hid h') HN HT HS hn6 hm6)
  generalize resF1 l ts = g1 at HSP HIM
  generalize resF2 l ts = g2 at HSP HIM
  clear h hn
  go_wp2_with (go_at_call 16; refine (HTO.out _ (HI.out.below X1.out)).mono ?_; rintro e w2 ⟨rfl, b, o⟩; have X2 := Lib.hid (BX.call X1.out b); have O2 := Lib.hid (own_inx o); clear b o; refine Hid.out ?_)
  refine Lib.hid ?_
  go_wp2_with (go_at_call 38; refine (HTI.out _ (HJ.out.below X2.out)).mono ?_; rintro e w3 ⟨rfl, o, b⟩; have X3 := Lib.hid (BX.call X2.out b); have J3 := Lib.hid o; have O3 := Lib.hid (O2.out.below b); clear b o; refine Hid.out ?_)
  refine Lib.hid ?_
  go_wp2_with (go_at_call 37; refine (HSP.out _ _ _ _ _ O3.out (own_inx J3.out)).mono ?_; rintro e w4 ⟨rfl, b⟩; have X4 := Lib.hid (X3.out.call b); clear b; refine Hid.out ?_)
  refine Lib.hid ?_
  go_wp2_with (go_at_call 16; refine (HTO.out _ (HI.out.below X4.out)).mono ?_; rintro e w5 ⟨rfl, b, o⟩; have X5 := Lib.hid (BX.call X4.out b); have O5 := Lib.hid (own_inx o); clear b o; refine Hid.out ?_)
  refine Lib.hid ?_
  go_wp2_with (go_at_call 38; refine (HTI.out _ (HJ.out.below X5.out)).mono ?_; rintro e w6 ⟨rfl, o, b⟩; have X6 := Lib.hid (BX.call X5.out b); have J6 := Lib.hid o; have O6 := Lib.hid (O5.out.below b); clear b o; refine Hid.out ?_)
  refine Lib.hid ?_
  go_wp2_with (go_at_call 39; refine (HIM.out _ _ _ _ _ O6.out (own_inx J6.out)).mono ?_; rintro e w7 ⟨rfl, b⟩; have X7 := Lib.hid (X6.out.call b); have O7 := Lib.hid (O6.out.below b); have J7 : Hid (OwnI w7 w5.heap.size w5.heap.size m m ts) := Lib.hid (own_low J6.out b (Nat.le_refl _)); clear b; refine Hid.out ?_)
  refine Lib.hid ?_
  go_wp2_with (go_at_call 16; refine (HTO.out _ (HI.out.below X7.out)).mono ?_; rintro e w8 ⟨rfl, b, o⟩; have X8 := Lib.hid (BX.call X7.out b); have O8 := Lib.hid (own_inx o); have P8 := Lib.hid (O7.out.below b); have J8 : Hid (OwnI w8 w5.heap.size w5.heap.size m m ts) := Lib.hid (own_low J7.out b (Nat.le_refl _)); clear b o; refine Hid.out ?_)
  refine Lib.hid ?_
  go_wp2_with (go_at_call 18; refine (HEQ.out _ _ _ _ _ P8.out O8.out).mono ?_; rintro e w9 ⟨rfl, b⟩; have X9 := Lib.hid (X8.out.call b); have J9 : Hid (OwnI w9 w5.heap.size w5.heap.size m m ts) := Lib.hid (own_low J8.out b (Nat.le_refl _)); clear b; refine Hid.out ?_)
  refine Lib.hid ?_
  go_wp2_with (go_at_call 38; refine (HTI.out _ (HJ.out.below X9.out)).mono ?_; rintro e w10 ⟨rfl, o, b⟩; have X10 := Lib.hid (BX.call X9.out b); have J10 := Lib.hid o; have K10 : Hid (OwnI w10 w5.heap.size w5.heap.size m m ts) := Lib.hid (own_low J9.out b (Nat.le_refl _)); clear b o; refine Hid.out ?_)
  refine Lib.hid ?_
  go_wp2_with (go_at_call 32; refine (HEI.out _ _ _ _ _ (K10.out.row HR.out) (J10.out.row HR.out)).mono ?_; rintro e w11 ⟨rfl, q, hq⟩; have X11 : Hid (BX w w11) := Lib.hid (by rw [hq]; exact X10.out.call (below_drewN (Below.refl _ _) q)); clear hq)
  go_ret
  exact ⟨rfl, X11.out⟩

set_option maxRecDepth 100000 in
theorem lifted (os : Os) (started : os.Started) (H : Type) (enc : TypeId × Value → H) :
    ReturnsInHanded {} Try.checked os 10 .any (Rows.fnExactFindAttrSpec.pre6 enc Try.prog Try.f10 Rows.fnExactFindAttrRow.domain false) (Rows.fnExactFindAttrSpec.post enc Try.prog Try.f10 false true false false) := by
  refine returnsInHanded_of_change (C := Try.checked) own started (by kernel_rfl) Try.func10
    (ChangeSpec.witness6 (enc := enc) (C := Try.checked) false ⟨#[], #[.slice none 0 0, .slice none 0 0], []⟩ 8 (by kernel_rfl) (by kernel_rfl) (by kernel_rfl) (by kernel_rfl)) ?_
  intro W base args ds gs before hval0 hW hcnd _
  have hval : ∀ (j : Nat) t v, Try.f10.params[j]? = some t → args[j]? = some v → Value.okWide Try.prog W .any base t v := hval0
  have hW' := hW
  obtain ⟨p, q, hA0, hV, rfl, hfz, hnd⟩ := hW
  have hA : DataW.TrodAll enc Try.prog W 0 (fun _ => true) true Try.f10.params.toList args.toList ds p := hA0
  rw [Try.params10] at hA hval
  obtain ⟨v0, vs0, d0, ds0, p0, q0, hargs, rfl, rfl, h0, r0⟩ := trodAll_cons hA
  obtain ⟨v1, vs1, d1, ds1, p1, q1, rfl, rfl, rfl, h1, r1⟩ := trodAll_cons r0
  obtain ⟨rfl, rfl, rfl⟩ := trodAll_nil r1
  obtain rfl : args = #[v0, v1] := by cases args; simp_all
  obtain ⟨a0, len0, cap0, rfl⟩ := okWide_slice Try.underlying22 (hval 0 22 v0 rfl rfl)
  have k0 := h0
  have lt0 : ∀ x ∈ p0, x.block < W.heap.size := by obtain ⟨m, hm⟩ := k0; exact DataW.trod_lt m _ _ _ hm
  obtain ⟨l0, hm0, hn0, hI0, hS0⟩ : ∃ l : List At, len0 ≤ maxLen ∧ l.length = len0 ∧ ArgX W a0 len0 (atCs l) ∧ SzM l := by
    obtain ⟨fuel, hf⟩ := h0
    obtain ⟨a, len, cap, l, hcs, hm, hn, hI, hS⟩ := open_ats hf
    simp [Value.cells] at hcs
    obtain ⟨rfl, rfl, rfl⟩ := hcs
    exact ⟨l, hm, hn, hI, hS⟩
  obtain ⟨a1, len1, cap1, rfl⟩ := okWide_slice Try.underlying41 (hval 1 41 v1 rfl rfl)
  have k1 := h1
  have lt1 : ∀ x ∈ p1, x.block < W.heap.size := by obtain ⟨m, hm⟩ := k1; exact DataW.trod_lt m _ _ _ hm
  obtain ⟨l1, hm1, hn1, hI1⟩ : ∃ l : List Int, len1 ≤ maxLen ∧ l.length = len1 ∧ InI W a1 l := by
    obtain ⟨fuel, hf⟩ := h1
    obtain ⟨a, len, cap, l, hcs, hm, hn, hI⟩ := open_introw hf
    simp [Value.cells] at hcs
    obtain ⟨rfl, rfl, rfl⟩ := hcs
    exact ⟨l, hm, hn, hI⟩
  obtain ⟨rfl, rfl⟩ := trodVars_none hV
  clear hA0 hval0
  refine (walk a0 len0 cap0 l0 hm0 hn0 W hI0 hS0 a1 len1 cap1 l1 hm1 hn1 hI1).mono fun e W' ⟨he, bel⟩ => ?_
  subst he
  exact ⟨_, rfl, _, _, _, [], _, [], hW', trodAll_mk1 (shut_bool Try.underlying4 _), (trodAll_cons_mk (Below.trod laidOut (by kernel_rfl) (of_decide_eq_true (by kernel_rfl)) k0 bel lt0) (trodAll_cons_mk (Below.trod laidOut (by kernel_rfl) (of_decide_eq_true (by kernel_rfl)) k1 bel lt1) trodAll_mk0)), rfl, bel.frame _, fun h => by cases h⟩

theorem over : Rows.fnExactFindAttrRow.holds Try.pinned (OpenSpec.ofChange Rows.fnExactFindAttrSpec) :=
  OpenClaim.holds_of_wide 10 Try.f10 rfl rfl rfl rfl rfl rfl rfl ⟨rfl, rfl, rfl, rfl, rfl⟩ rfl rfl rfl rfl rfl (by kernel_rfl) Try.func10 (by kernel_rfl)
    (of_decide_eq_true (by kernel_rfl)) (by unfold Func.isWrapper; first | (rw [if_pos (by decide +kernel)]; kernel_rfl) | (rw [if_neg (by decide +kernel)]; exact ⟨rfl, rfl⟩))
    (fun os started H enc _ => lifted os started H enc)

theorem proved : Rows.FnExactFindAttrSaid := over
end Go.Proofs.Ythflehdboccloaa.fnExactFindAttr
