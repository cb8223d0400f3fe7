/- For every number and slice of attributes, impl.WrapAttrs answers as its model does and writes into no argument and owns its answer: the law FnExactWrapAttrs returns true. No condition. -/
import Derived.Test.YthflehdboccloaaRows
import Derived.Test.YthflehdboccloaaAtw
import Derived.ProofKit
import Derived.OpenShut
import Derived.ShutString
import Derived.ChangeOld
import Derived.ChangeVars
import Derived.Carry
namespace Go.Proofs.Ythflehdboccloaa.fnExactWrapAttrs
open Go.ChangeShapes Go.WideShapes Go.ChangeAt Go.RowKit
set_option linter.unusedVariables false
set_option maxRecDepth 100000

theorem own : ownKnob Try.prog.godebug = none := by kernel_rfl
theorem laidOut : laidOutB Try.prog = true := by kernel_rfl
set_option maxHeartbeats 25600000 in
theorem walk (t : Int) (ad : Option Addr) (n cap : Nat) (l : List At) (hm : n ≤ maxLen) (hn : l.length = n) (w : World) (hI : ArgX w ad n (atCs l)) (hS : SzM l) :
    Calls Try.prog 13 #[.int .i64 t, .slice ad n cap] w fun e w' => e = .returned (.bool true) ∧ Below w.heap.size w w' := by
  unfold maxLen at hm
  have HN := Lib.hid hn
  have HI := Lib.hid hI
  have HS := Lib.hid hS
  have HZ := Lib.hid (szAttrS_any ad n cap l w HI HN HS (by omega))
  clear hI hS
  go_enter Try.func13, Try.ntmps13
  go_wp2_with (go_at_call 14; refine (HZ.out).mono ?_; rintro e w1 ⟨r, rfl, b, hr⟩; have X1 : Hid (BX w w1) := Lib.hid b; have HR := Lib.hid hr; clear b hr; refine Hid.out ?_)
  refine Lib.hid ?_
  rcases Int.lt_or_le r 0 with h | h
  · have d := is_lt h
    clear HR
    go_wp2_with fail
    go_ret
    exact ⟨rfl, X1.out⟩
  have hn6 : n ≤ 1048576 := HR.out h
  have d := not_lt h
  clear HR
  have HTO := Lib.hid (fun w h => toAttrS_any ad n cap l w (Lib.hid h) HN hn6)
  unfold SaysAtS at HTO
  rw [hn] at HTO
  have HEQ := Lib.hid (fun a b ca cb w h h' => eqAttrS_any a b n ca cb l w (Lib.hid h) (Lib.hid h') HN hn6)
  have HSP := Lib.hid (fun ad c w h => specWrap_any ad n c t l w (Lib.hid h) HN HS hn6)
  have HIM := Lib.hid (fun ad c w h => implWrap_any ad n c t l w (Lib.hid h) HN HS hn6)
  have hkl := resW_len t l
  generalize resW t l = K at HSP HIM hkl
  generalize okW t l = q at HSP HIM
  have HEA := Lib.hid (fun v v' B B' w HA HB => eqAttrS_own v v' B B' K w HA HB (by omega))
  have HMA := Lib.hid (fun v B xs w HO => markAttrS_any v B n xs w HO hn6)
  have HMG := Lib.hid (fun v B xs w HO => markAttrS_any v B K.length xs w HO (by omega))
  have HHG := Lib.hid (fun v B w HO => heldAttrS_any v B K.length w HO (by omega))
  have dk0 : decide (4 * (K.length : Int) + 1 < 0) = false := not_lt (by omega)
  have dk1 : decide (4 * (n : Int) + 1 < 0) = false := not_lt (by omega)
  clear h hn hkl
  go_wp2_with (go_at_call 16; refine (HTO.out _ (HI.out.below X1.out)).mono ?_; rintro e w2 ⟨rfl, b, o⟩; have X2 := Lib.hid (BX.call X1.out b); have O2 := Lib.hid (own_inx o); clear b o; refine Hid.out ?_)
  refine Lib.hid ?_
  go_wp2_with (go_at_call 44; refine (HSP.out _ _ _ O2.out).mono ?_; rintro e w3 ⟨v0, rfl, o, b⟩; have X3 := Lib.hid (X2.out.call b); have W3 : Hid (w3.ownsRow w2.heap.size 56 4 v0 K.length (atCs K)) := Lib.hid o; clear b o; refine Hid.out ?_)
  refine Lib.hid ?_
  go_wp2_with (go_at_call 16; refine (HTO.out _ (HI.out.below X3.out)).mono ?_; rintro e w4 ⟨rfl, b, o⟩; have X4 := Lib.hid (BX.call X3.out b); have O4 := Lib.hid (own_inx o); have R4 := Lib.hid o; have W4 := Lib.hid (own_low W3.out b (Nat.le_refl _)); have hs34 := (World.ownsRow.lt o _ rfl).2; clear b o; refine Hid.out ?_)
  refine Lib.hid ?_
  go_wp2_with (go_at_call 45; refine (HIM.out _ _ _ O4.out).mono ?_; rintro e w5 ⟨g0, rfl, o, b⟩; have X5 := Lib.hid (X4.out.call b); have O5 := Lib.hid (O4.out.below b); have R5 := Lib.hid (own_low R4.out b (Nat.le_refl _)); have W5 := Lib.hid (own_low W4.out b (Nat.le_refl _)); have G5 : Hid (w5.ownsRow w4.heap.size 56 4 g0 K.length (atCs K)) := Lib.hid o; clear b o; refine Hid.out ?_)
  refine Lib.hid ?_
  go_wp2_with (go_at_call 18; refine (HEA.out _ _ _ _ _ G5 W5).mono ?_; rintro e w6 ⟨rfl, b⟩; have X6 := Lib.hid (X5.out.call b); have O6 := Lib.hid (O5.out.below b); have R6 := Lib.hid (own_low R5.out b (Nat.le_refl _)); have W6 := Lib.hid (own_low W5.out b (Nat.le_refl _)); have G6 := Lib.hid (own_low G5.out b (Nat.le_refl _)); clear b; refine Hid.out ?_)
  refine Lib.hid ?_
  go_wp2_with (go_at_call 16; refine (HTO.out _ (HI.out.below X6.out)).mono ?_; rintro e w7 ⟨rfl, b, o⟩; have X7 := Lib.hid (BX.call X6.out b); have O7 := Lib.hid (own_inx o); have P7 := Lib.hid (O6.out.below b); have R7 := Lib.hid (own_low R6.out b (Nat.le_refl _)); have W7 := Lib.hid (own_low W6.out b (Nat.le_refl _)); have G7 := Lib.hid (own_low G6.out b (Nat.le_refl _)); clear b o; refine Hid.out ?_)
  refine Lib.hid ?_
  go_wp2_with (go_at_call 18; refine (HEQ.out _ _ _ _ _ P7.out O7.out).mono ?_; rintro e w8 ⟨rfl, b⟩; have X8 := Lib.hid (X7.out.call b); have R8 := Lib.hid (own_low R7.out b (Nat.le_refl _)); have W8 := Lib.hid (own_low W7.out b (Nat.le_refl _)); have G8 := Lib.hid (own_low G7.out b (Nat.le_refl _)); clear b; refine Hid.out ?_)
  refine Lib.hid ?_
  have HWL : Hid (∀ g, v0.ownBlock = some g → g < w3.heap.size) := Lib.hid (fun g h => (World.ownsRow.lt W3.out g h).2)
  have HGL : Hid (∀ g, g0.ownBlock = some g → w4.heap.size ≤ g) := Lib.hid (fun g h => (World.ownsRow.lt G5.out g h).1)
  have HW3 : Hid (w.heap.size ≤ w3.heap.size) := Lib.hid (Below.size X3.out)
  have HW4 : Hid (w.heap.size ≤ w4.heap.size) := Lib.hid (Below.size X4.out)
  have HG34 : Hid (w3.heap.size < w4.heap.size) := Lib.hid hs34
  clear hs34
  go_wp2_with (go_at_call 24; refine (HMA.out _ _ _ _ R8).mono ?_; rintro e w9 ⟨rfl, o, b, hp⟩; have X9 : Hid (BX w w9) := Lib.hid (Below.trans X8.out (b.mono HW3.out)); have W9 := Lib.hid (own_heap W8.out (fun g h => hp g (World.ownsRow.lt W8.out g h).2 (fun e => by have := HWL.out g h; simp [Value.ownBlock] at e; omega))); have G9 := Lib.hid (own_heap G8.out (fun g h => hp g (World.ownsRow.lt G8.out g h).2 (fun e => by have := HGL.out g h; have := HG34.out; simp [Value.ownBlock] at e; omega))); clear b o hp; refine Hid.out ?_)
  refine Lib.hid ?_
  go_wp2_with (go_at_call 18; refine (HEA.out _ _ _ _ _ G9 W9).mono ?_; rintro e w10 ⟨rfl, b⟩; have X10 := Lib.hid (X9.out.call b); have W10 := Lib.hid (own_low W9.out b (Nat.le_refl _)); have G10 := Lib.hid (own_low G9.out b (Nat.le_refl _)); clear b; refine Hid.out ?_)
  refine Lib.hid ?_
  go_wp2_with (go_at_call 24; refine (HMG.out _ _ _ _ G10).mono ?_; rintro e w11 ⟨rfl, o, b, hp⟩; have X11 : Hid (BX w w11) := Lib.hid (Below.trans X10.out (b.mono HW4.out)); have W11 := Lib.hid (own_heap W10.out (fun g h => hp g (World.ownsRow.lt W10.out g h).2 (fun e => by have h1 := HWL.out g h; have h2 := HGL.out g e; have := HG34.out; omega))); have G11 := Lib.hid o; clear b o hp; refine Hid.out ?_)
  refine Lib.hid ?_
  go_wp2_with (go_at_call 25; refine (HHG.out _ _ _ G11).mono ?_; rintro e w12 ⟨rfl, b⟩; have X12 := Lib.hid (X11.out.call b); have W12 := Lib.hid (own_low W11.out b (Nat.le_refl _)); have G12 := Lib.hid (own_low G11.out b (Nat.le_refl _)); clear b; refine Hid.out ?_)
  refine Lib.hid ?_
  go_wp2_with (go_at_call 16; refine (HTO.out _ (HI.out.below X12.out)).mono ?_; rintro e w13 ⟨rfl, b, o⟩; have X13 := Lib.hid (BX.call X12.out b); have O13 := Lib.hid (own_inx o); have W13 := Lib.hid (own_low W12.out b (Nat.le_refl _)); have G13 := Lib.hid (own_low G12.out b (Nat.le_refl _)); clear b o; refine Hid.out ?_)
  refine Lib.hid ?_
  go_wp2_with (go_at_call 45; refine (HIM.out _ _ _ O13.out).mono ?_; rintro e w14 ⟨h0, rfl, o, b⟩; have X14 := Lib.hid (X13.out.call b); have W14 := Lib.hid (own_low W13.out b (Nat.le_refl _)); have G14 := Lib.hid (own_low G13.out b (Nat.le_refl _)); have H14 : Hid (w14.ownsRow w13.heap.size 56 4 h0 K.length (atCs K)) := Lib.hid o; clear b o; refine Hid.out ?_)
  refine Lib.hid ?_
  go_wp2_with (go_at_call 18; refine (HEA.out _ _ _ _ _ H14 W14).mono ?_; rintro e w15 ⟨rfl, b⟩; have X15 := Lib.hid (X14.out.call b); have G15 := Lib.hid (own_low G14.out b (Nat.le_refl _)); clear b; refine Hid.out ?_)
  refine Lib.hid ?_
  go_wp2_with (go_at_call 25; refine (HHG.out _ _ _ G15).mono ?_; rintro e w16 ⟨rfl, b⟩; have X16 := Lib.hid (X15.out.call b); clear b)
  go_ret
  exact ⟨rfl, X16.out⟩

set_option maxRecDepth 100000 in
theorem lifted (os : Os) (started : os.Started) (H : Type) (enc : TypeId × Value → H) :
    ReturnsInHanded {} Try.checked os 13 .any (Rows.fnExactWrapAttrsSpec.pre6 enc Try.prog Try.f13 Rows.fnExactWrapAttrsRow.domain false) (Rows.fnExactWrapAttrsSpec.post enc Try.prog Try.f13 false true false false) := by
  refine returnsInHanded_of_change (C := Try.checked) own started (by kernel_rfl) Try.func13
    (ChangeSpec.witness6 (enc := enc) (C := Try.checked) false ⟨#[], #[.int .i64 0, .slice none 0 0], []⟩ 8 (by kernel_rfl) (by kernel_rfl) (by kernel_rfl) (by kernel_rfl)) ?_
  intro W base args ds gs before hval0 hW hcnd _
  have hval : ∀ (j : Nat) t v, Try.f13.params[j]? = some t → args[j]? = some v → Value.okWide Try.prog W .any base t v := hval0
  have hW' := hW
  obtain ⟨p, q, hA0, hV, rfl, hfz, hnd⟩ := hW
  have hA : DataW.TrodAll enc Try.prog W 0 (fun _ => true) true Try.f13.params.toList args.toList ds p := hA0
  rw [Try.params13] at hA hval
  obtain ⟨v0, vs0, d0, ds0, p0, q0, hargs, rfl, rfl, h0, r0⟩ := trodAll_cons hA
  obtain ⟨v1, vs1, d1, ds1, p1, q1, rfl, rfl, rfl, h1, r1⟩ := trodAll_cons r0
  obtain ⟨rfl, rfl, rfl⟩ := trodAll_nil r1
  obtain rfl : args = #[v0, v1] := by cases args; simp_all
  have k0 := h0
  have lt0 : ∀ x ∈ p0, x.block < W.heap.size := by obtain ⟨m, hm⟩ := k0; exact DataW.trod_lt m _ _ _ hm
  obtain ⟨a0, ha0, _, _, w0⟩ := open_int Try.underlying3 (hval 0 3 v0 rfl rfl) h0
  subst ha0
  obtain ⟨a1, len1, cap1, rfl⟩ := okWide_slice Try.underlying22 (hval 1 22 v1 rfl rfl)
  have k1 := h1
  have lt1 : ∀ x ∈ p1, x.block < W.heap.size := by obtain ⟨m, hm⟩ := k1; exact DataW.trod_lt m _ _ _ hm
  obtain ⟨l1, hm1, hn1, hI1, hS1⟩ : ∃ l : List At, len1 ≤ maxLen ∧ l.length = len1 ∧ ArgX W a1 len1 (atCs l) ∧ SzM l := by
    obtain ⟨fuel, hf⟩ := h1
    obtain ⟨a, len, cap, l, hcs, hm, hn, hI, hS⟩ := open_ats hf
    simp [Value.cells] at hcs
    obtain ⟨rfl, rfl, rfl⟩ := hcs
    exact ⟨l, hm, hn, hI, hS⟩
  obtain ⟨rfl, rfl⟩ := trodVars_none hV
  clear hA0 hval0
  refine (walk a0 a1 len1 cap1 l1 hm1 hn1 W hI1 hS1).mono fun e W' ⟨he, bel⟩ => ?_
  subst he
  exact ⟨_, rfl, _, _, _, [], _, [], hW', trodAll_mk1 (shut_bool Try.underlying4 _), (trodAll_cons_mk (Below.trod laidOut (by kernel_rfl) (of_decide_eq_true (by kernel_rfl)) k0 bel lt0) (trodAll_cons_mk (Below.trod laidOut (by kernel_rfl) (of_decide_eq_true (by kernel_rfl)) k1 bel lt1) trodAll_mk0)), rfl, bel.frame _, fun h => by cases h⟩

theorem over : Rows.fnExactWrapAttrsRow.holds Try.pinned (OpenSpec.ofChange Rows.fnExactWrapAttrsSpec) :=
  OpenClaim.holds_of_wide 13 Try.f13 rfl rfl rfl rfl rfl rfl rfl ⟨rfl, rfl, rfl, rfl, rfl⟩ rfl rfl rfl rfl rfl (by kernel_rfl) Try.func13 (by kernel_rfl)
    (of_decide_eq_true (by kernel_rfl)) (by unfold Func.isWrapper; first | (rw [if_pos (by decide +kernel)]; kernel_rfl) | (rw [if_neg (by decide +kernel)]; exact ⟨rfl, rfl⟩))
    (fun os started H enc _ => lifted os started H enc)

theorem proved : Rows.FnExactWrapAttrsSaid := over
end Go.Proofs.Ythflehdboccloaa.fnExactWrapAttrs
