/- For every slice of faults, impl.CountFaults answers as its model does, writes into no argument and owns its answer: the law FnExactCountFaults returns true. No condition. -/
import Derived.Test.YtdfkehgkonadhaaRows
import Derived.Test.YtdfkehgkonadhaaFak
import Derived.ProofKit
import Derived.OpenShut
import Derived.ShutString
import Derived.ChangeOld
import Derived.ChangeVars
import Derived.Carry
namespace Go.Proofs.Ytdfkehgkonadhaa.fnExactCountFaults
open Go.ChangeShapes Go.WideShapes Go.ChangeAt Go.RowKit
set_option linter.unusedVariables false

theorem own : ownKnob Try.prog.godebug = none := by kernel_rfl
theorem laidOut : laidOutB Try.prog = true := by kernel_rfl
set_option maxHeartbeats 12800000 in
theorem walk (ad : Option Addr) (n cap : Nat) (l : List Fa) (hm : n ≤ maxLen) (hn : l.length = n) (w : World) (hI : ArgX w ad n (faCs l)) :
    Calls Try.prog 6 #[.slice ad n cap] w fun e w' => e = .returned (.bool true) ∧ Below w.heap.size w w' := by
  unfold maxLen at hm
  have HN := Lib.hid hn
  have HI := Lib.hid hI
  have HZ := Lib.hid (fun w => szFaultS_any ad n cap 1048576 w (by omega) (by omega) (by omega))
  clear hI
  by_cases h : (1048576 : Int) - (n : Int) < 0
  · rw [lessN_neg h] at HZ
    clear h
    go_enter Try.func6, Try.ntmps6
    go_wp2_with (go_at_call 12; refine (HZ.out _).mono ?_; rintro e w1 ⟨rfl, b⟩; have X1 := Lib.hid b; clear b)
    go_ret
    exact ⟨rfl, X1.out⟩
  · rw [lessN_pos h] at HZ
    have d := not_lt (Int.not_lt.1 h)
    have hn6 : n ≤ 1048576 := by omega
    have HTO := Lib.hid (fun w h => toFaultS_any ad n cap l w (Lib.hid h) HN hn6)
    unfold SaysFaS at HTO
    rw [hn] at HTO
    have HSP := Lib.hid (fun ad c w h => specCount_any ad n c l w (Lib.hid h) HN hn6)
    have HIM := Lib.hid (fun ad c w h => implCount_any ad n c l w (Lib.hid h) HN hn6)
    have HEQ := Lib.hid (fun a b ca cb w h h' => eqFaultS_any a b n ca cb l w (Lib.hid h) (Lib.hid h') HN hn6)
    have hkl := ct_len l
    generalize resCt1 l = K at HSP HIM hkl
    generalize lsG7 l = q at HSP HIM
    have HEI := Lib.hid (fun v v' B B' w HA HB => eqIntS_any v v' B B' K w HA HB (by omega))
    have HMI := Lib.hid (fun v B xs w HO => markIntS_any v B K.length xs w HO (by omega))
    have HHI := Lib.hid (fun v B w HO => heldIntS_any v B K.length w HO (by omega))
    have HMF := Lib.hid (fun v B xs w HO => markFaultS_any v B n xs 1 w HO hn6 (by omega) (by omega))
    have dk0 : decide ((1 : Int) + (K.length : Int) < 0) = false := not_lt (by omega)
    have dk1 : decide ((1 : Int) + 2 * (n : Int) < 0) = false := not_lt (by omega)
    clear h hn hkl
    go_enter Try.func6, Try.ntmps6
    go_wp2_with (go_at_call 12; refine (HZ.out _).mono ?_; rintro e w1 ⟨rfl, b⟩; have X1 := Lib.hid b; clear b; refine Hid.out ?_)
    refine Lib.hid ?_
    go_wp2_with (go_at_call 14; refine (HTO.out _ (HI.out.below X1.out)).mono ?_; rintro e w2 ⟨rfl, b, o⟩; have X2 := Lib.hid (BX.call X1.out b); have O2 := Lib.hid (own_inx o); clear b o; refine Hid.out ?_)
    refine Lib.hid ?_
    go_wp2_with (go_at_call 18; refine (HSP.out _ _ _ O2.out).mono ?_; rintro e w3 ⟨v0, rfl, o, b⟩; have X3 := Lib.hid (X2.out.call b); have W3 := Lib.hid o; clear b o; refine Hid.out ?_)
    refine Lib.hid ?_
    go_wp2_with (go_at_call 14; refine (HTO.out _ (HI.out.below X3.out)).mono ?_; rintro e w4 ⟨rfl, b, o⟩; have X4 := Lib.hid (X3.out.call b); have O4 := Lib.hid (own_inx o); have R4 := Lib.hid o; have W4 := Lib.hid (own_low W3.out b (Nat.le_refl _)); have hs34 := (World.ownsRow.lt o _ rfl).2; clear b o; refine Hid.out ?_)
    refine Lib.hid ?_
    go_wp2_with (go_at_call 19; refine (HIM.out _ _ _ O4.out).mono ?_; rintro e w5 ⟨g0, rfl, o, b⟩; have X5 := Lib.hid (X4.out.call b); have O5 := Lib.hid (O4.out.below b); have R5 := Lib.hid (own_low R4.out b (Nat.le_refl _)); have W5 := Lib.hid (own_low W4.out b (Nat.le_refl _)); have G5 := Lib.hid o; clear b o; refine Hid.out ?_)
    refine Lib.hid ?_
    go_wp2_with (go_at_call 20; refine (HEI.out _ _ _ _ _ G5 W5).mono ?_; rintro e w6 ⟨rfl, b⟩; have X6 := Lib.hid (X5.out.call b); have O6 := Lib.hid (O5.out.below b); have R6 := Lib.hid (own_low R5.out b (Nat.le_refl _)); have W6 := Lib.hid (own_low W5.out b (Nat.le_refl _)); have G6 := Lib.hid (own_low G5.out b (Nat.le_refl _)); clear b; refine Hid.out ?_)
    refine Lib.hid ?_
    go_wp2_with (go_at_call 14; refine (HTO.out _ (HI.out.below X6.out)).mono ?_; rintro e w7 ⟨rfl, b, o⟩; have X7 := Lib.hid (X6.out.call b); have O7 := Lib.hid (O6.out.below b); have P7 := Lib.hid (own_inx o); have R7 := Lib.hid (own_low R6.out b (Nat.le_refl _)); have W7 := Lib.hid (own_low W6.out b (Nat.le_refl _)); have G7 := Lib.hid (own_low G6.out b (Nat.le_refl _)); clear b o; refine Hid.out ?_)
    refine Lib.hid ?_
    go_wp2_with (go_at_call 17; refine (HEQ.out _ _ _ _ _ O7.out P7.out).mono ?_; rintro e w8 ⟨rfl, b⟩; have X8 := Lib.hid (X7.out.call b); have R8 := Lib.hid (own_low R7.out b (Nat.le_refl _)); have W8 := Lib.hid (own_low W7.out b (Nat.le_refl _)); have G8 := Lib.hid (own_low G7.out b (Nat.le_refl _)); clear b; refine Hid.out ?_)
    refine Lib.hid ?_
    have HWL : Hid (∀ g, v0.ownBlock = some g → g < w3.heap.size) := Lib.hid (fun g h => (World.ownsRow.lt W3.out g h).2)
    have HGL : Hid (∀ g, g0.ownBlock = some g → w4.heap.size ≤ g) := Lib.hid (fun g h => (World.ownsRow.lt G5.out g h).1)
    have HW3 : Hid (w.heap.size ≤ w3.heap.size) := Lib.hid (Below.size X3.out)
    have HW4 : Hid (w.heap.size ≤ w4.heap.size) := Lib.hid (Below.size X4.out)
    have HG34 : Hid (w3.heap.size < w4.heap.size) := Lib.hid hs34
    clear hs34
    go_wp2_with (go_at_call 21; refine (HMF.out _ _ _ _ R8).mono ?_; rintro e w9 ⟨rfl, b, o⟩; have X9 : Hid (BX w w9) := Lib.hid (Below.trans X8.out (b.mono HW3.out)); have W9 := Lib.hid (own_below W8.out b (fun g h => HWL.out g h)); have G9 := Lib.hid (own_onl G8.out o (fun g h q => by have := HGL.out g h; have := HG34.out; simp [Value.ownBlock] at q; omega)); clear b o; refine Hid.out ?_)
    refine Lib.hid ?_
    go_wp2_with (go_at_call 20; refine (HEI.out _ _ _ _ _ G9 W9).mono ?_; rintro e w10 ⟨rfl, b⟩; have X10 := Lib.hid (X9.out.call b); have W10 := Lib.hid (own_low W9.out b (Nat.le_refl _)); have G10 := Lib.hid (own_low G9.out b (Nat.le_refl _)); clear b; refine Hid.out ?_)
    refine Lib.hid ?_
    go_wp2_with (go_at_call 22; refine (HMI.out _ _ _ _ G10).mono ?_; rintro e w11 ⟨rfl, o, b⟩; have X11 : Hid (BX w w11) := Lib.hid (Below.trans X10.out (b.mono HW4.out)); have W11 := Lib.hid (own_below W10.out b (fun g h => by have := HWL.out g h; have := HG34.out; omega)); have G11 := Lib.hid o; clear b o; refine Hid.out ?_)
    refine Lib.hid ?_
    go_wp2_with (go_at_call 23; refine (HHI.out _ _ _ G11).mono ?_; rintro e w' ⟨rfl, rfl⟩; refine Hid.out ?_)
    refine Lib.hid ?_
    go_wp2_with (go_at_call 14; refine (HTO.out _ (HI.out.below X11.out)).mono ?_; rintro e w12 ⟨rfl, b, o⟩; have X12 := Lib.hid (X11.out.call b); have O12 := Lib.hid (own_inx o); have W12 := Lib.hid (own_low W11.out b (Nat.le_refl _)); have G12 := Lib.hid (own_low G11.out b (Nat.le_refl _)); clear b o; refine Hid.out ?_)
    refine Lib.hid ?_
    go_wp2_with (go_at_call 19; refine (HIM.out _ _ _ O12.out).mono ?_; rintro e w13 ⟨h0, rfl, o, b⟩; have X13 := Lib.hid (X12.out.call b); have W13 := Lib.hid (own_low W12.out b (Nat.le_refl _)); have G13 := Lib.hid (own_low G12.out b (Nat.le_refl _)); have H13 := Lib.hid o; clear b o; refine Hid.out ?_)
    refine Lib.hid ?_
    go_wp2_with (go_at_call 20; refine (HEI.out _ _ _ _ _ H13 W13).mono ?_; rintro e w14 ⟨rfl, b⟩; have X14 := Lib.hid (X13.out.call b); have G14 := Lib.hid (own_low G13.out b (Nat.le_refl _)); clear b; refine Hid.out ?_)
    refine Lib.hid ?_
    go_wp2_with (go_at_call 23; refine (HHI.out _ _ _ G14).mono ?_; rintro e w' ⟨rfl, rfl⟩)
    go_ret
    exact ⟨rfl, X14.out⟩

set_option maxRecDepth 100000 in
theorem lifted (os : Os) (started : os.Started) (H : Type) (enc : TypeId × Value → H) :
    ReturnsInHanded {} Try.checked os 6 .any (Rows.fnExactCountFaultsSpec.pre6 enc Try.prog Try.f6 Rows.fnExactCountFaultsRow.domain false) (Rows.fnExactCountFaultsSpec.post enc Try.prog Try.f6 false true false false) := by
  refine returnsInHanded_of_change (C := Try.checked) own started (by kernel_rfl) Try.func6
    (ChangeSpec.witness6 (enc := enc) (C := Try.checked) false ⟨#[], #[.slice none 0 0], []⟩ 8 (by kernel_rfl) (by kernel_rfl) (by kernel_rfl) (by kernel_rfl)) ?_
  intro W base args ds gs before hval0 hW hcnd _
  have hval : ∀ (j : Nat) t v, Try.f6.params[j]? = some t → args[j]? = some v → Value.okWide Try.prog W .any base t v := hval0
  have hW' := hW
  obtain ⟨p, q, hA0, hV, rfl, hfz, hnd⟩ := hW
  have hA : DataW.TrodAll enc Try.prog W 0 (fun _ => true) true Try.f6.params.toList args.toList ds p := hA0
  rw [Try.params6] at hA hval
  obtain ⟨v0, vs0, d0, ds0, p0, q0, hargs, rfl, rfl, h0, r0⟩ := trodAll_cons hA
  obtain ⟨rfl, rfl, rfl⟩ := trodAll_nil r0
  obtain rfl : args = #[v0] := by cases args; simp_all
  obtain ⟨a0, len0, cap0, rfl⟩ := okWide_slice Try.underlying31 (hval 0 31 v0 rfl rfl)
  have k0 := h0
  have lt0 : ∀ x ∈ p0, x.block < W.heap.size := by obtain ⟨m, hm⟩ := k0; exact DataW.trod_lt m _ _ _ hm
  obtain ⟨l0, hm0, hn0, hI0⟩ : ∃ l : List Fa, len0 ≤ maxLen ∧ l.length = len0 ∧ ArgX W a0 len0 (faCs l) := by
    obtain ⟨fuel, hf⟩ := h0
    obtain ⟨a, len, cap, l, hcs, hm, hn, hI⟩ := open_fas hf
    simp [Value.cells] at hcs
    obtain ⟨rfl, rfl, rfl⟩ := hcs
    exact ⟨l, hm, hn, hI⟩
  obtain ⟨rfl, rfl⟩ := trodVars_none hV
  clear hA0 hval0
  refine (walk a0 len0 cap0 l0 hm0 hn0 W hI0).mono fun e W' ⟨he, bel⟩ => ?_
  subst he
  exact ⟨_, rfl, _, _, _, [], _, [], hW', trodAll_mk1 (shut_bool Try.underlying4 _), (trodAll_cons_mk (Below.trod laidOut (by kernel_rfl) (of_decide_eq_true (by kernel_rfl)) k0 bel lt0) trodAll_mk0), rfl, bel.frame _, fun h => by cases h⟩

theorem over : Rows.fnExactCountFaultsRow.holds Try.pinned (OpenSpec.ofChange Rows.fnExactCountFaultsSpec) :=
  OpenClaim.holds_of_wide 6 Try.f6 rfl rfl rfl rfl rfl rfl rfl ⟨rfl, rfl, rfl, rfl, rfl⟩ rfl rfl rfl rfl rfl (by kernel_rfl) Try.func6 (by kernel_rfl)
    (of_decide_eq_true (by kernel_rfl)) (by unfold Func.isWrapper; first | (rw [if_pos (by decide +kernel)]; kernel_rfl) | (rw [if_neg (by decide +kernel)]; exact ⟨rfl, rfl⟩))
    (fun os started H enc _ => lifted os started H enc)

theorem proved : Rows.FnExactCountFaultsSaid := over
end Go.Proofs.Ytdfkehgkonadhaa.fnExactCountFaults
