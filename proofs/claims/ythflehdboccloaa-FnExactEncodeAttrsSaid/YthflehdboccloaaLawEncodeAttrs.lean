/- For every slice of attributes, impl.EncodeAttrs answers as its model does and writes into no argument: the law FnExactEncodeAttrs returns true. No condition. -/
import Derived.Test.YthflehdboccloaaRows
import Derived.Test.YthflehdboccloaaAtj
import Derived.ProofKit
import Derived.OpenShut
import Derived.ShutString
import Derived.ChangeOld
import Derived.ChangeVars
import Derived.Carry
namespace Go.Proofs.Ythflehdboccloaa.fnExactEncodeAttrs
open Go.ChangeShapes Go.WideShapes Go.ChangeAt Go.RowKit
set_option linter.unusedVariables false
set_option maxRecDepth 100000

theorem own : ownKnob Try.prog.godebug = none := by kernel_rfl
theorem laidOut : laidOutB Try.prog = true := by kernel_rfl
set_option maxHeartbeats 12800000 in
theorem walk (ad : Option Addr) (n cap : Nat) (l : List At) (hm : n ≤ maxLen) (hn : l.length = n) (w : World) (hI : ArgX w ad n (atCs l)) (hS : SzM l) :
    Calls Try.prog 4 #[.slice ad n cap] w fun e w' => e = .returned (.bool true) ∧ Below w.heap.size w w' := by
  unfold maxLen at hm
  have HN := Lib.hid hn
  have HI := Lib.hid hI
  have HS := Lib.hid hS
  have HZ := Lib.hid (szAttrS_any ad n cap l w HI HN HS (by omega))
  clear hI hS
  go_enter Try.func4, Try.ntmps4
  go_wp2_with (go_at_call 14; refine (HZ.out).mono ?_; rintro e w1 ⟨r, rfl, b, hr⟩; have X1 : Hid (BX w w1) := Lib.hid b; have HR := Lib.hid hr; clear b hr; refine Hid.out ?_)
  refine Lib.hid ?_
  rcases Int.lt_or_le r 0 with h | h
  · have d := is_lt h
    clear HR
    go_wp2_with fail
    go_ret
    exact ⟨rfl, X1.out⟩
  have hn6 : n ≤ 1048576 := HR.out h
  have d := not_lt h
  clear HR
  have HTO := Lib.hid (fun w h => toAttrS_any ad n cap l w (Lib.hid h) HN hn6)
  unfold SaysAtS at HTO
  rw [hn] at HTO
  have HEQ := Lib.hid (fun a b ca cb w h h' => eqAttrS_any a b n ca cb l w (Lib.hid h) (Lib.hid h') HN hn6)
  have HSP := Lib.hid (fun ad c w h => specEncode_any ad n c l w (Lib.hid h) HN HS hn6)
  have HIM := Lib.hid (fun ad c w h => implEncode_any ad n c l w (Lib.hid h) HN HS hn6)
  generalize resE l = g0 at HSP HIM
  generalize okE l = g1 at HSP HIM
  clear h hn
  go_wp2_with (go_at_call 16; refine (HTO.out _ (HI.out.below X1.out)).mono ?_; rintro e w2 ⟨rfl, b, o⟩; have X2 := Lib.hid (BX.call X1.out b); have O2 := Lib.hid (own_inx o); clear b o; refine Hid.out ?_)
  refine Lib.hid ?_
  go_wp2_with (go_at_call 19; refine (HSP.out _ _ _ O2.out).mono ?_; rintro e w3 ⟨rfl, b⟩; have X3 := Lib.hid (X2.out.call b); clear b; refine Hid.out ?_)
  refine Lib.hid ?_
  go_wp2_with (go_at_call 16; refine (HTO.out _ (HI.out.below X3.out)).mono ?_; rintro e w4 ⟨rfl, b, o⟩; have X4 := Lib.hid (BX.call X3.out b); have O4 := Lib.hid (own_inx o); clear b o; refine Hid.out ?_)
  refine Lib.hid ?_
  go_wp2_with (go_at_call 20; refine (HIM.out _ _ _ O4.out).mono ?_; rintro e w5 ⟨rfl, b⟩; have X5 := Lib.hid (X4.out.call b); have O5 := Lib.hid (O4.out.below b); clear b; refine Hid.out ?_)
  refine Lib.hid ?_
  go_wp2_with (go_at_call 16; refine (HTO.out _ (HI.out.below X5.out)).mono ?_; rintro e w6 ⟨rfl, b, o⟩; have X6 := Lib.hid (BX.call X5.out b); have O6 := Lib.hid (own_inx o); have P6 := Lib.hid (O5.out.below b); clear b o; refine Hid.out ?_)
  refine Lib.hid ?_
  go_wp2_with (go_at_call 18; refine (HEQ.out _ _ _ _ _ P6.out O6.out).mono ?_; rintro e w7 ⟨rfl, b⟩; have X7 := Lib.hid (X6.out.call b); clear b)
  go_ret
  exact ⟨rfl, X7.out⟩

set_option maxRecDepth 100000 in
theorem lifted (os : Os) (started : os.Started) (H : Type) (enc : TypeId × Value → H) :
    ReturnsInHanded {} Try.checked os 4 .any (Rows.fnExactEncodeAttrsSpec.pre6 enc Try.prog Try.f4 Rows.fnExactEncodeAttrsRow.domain false) (Rows.fnExactEncodeAttrsSpec.post enc Try.prog Try.f4 false true false false) := by
  refine returnsInHanded_of_change (C := Try.checked) own started (by kernel_rfl) Try.func4
    (ChangeSpec.witness6 (enc := enc) (C := Try.checked) false ⟨#[], #[.slice none 0 0], []⟩ 8 (by kernel_rfl) (by kernel_rfl) (by kernel_rfl) (by kernel_rfl)) ?_
  intro W base args ds gs before hval0 hW hcnd _
  have hval : ∀ (j : Nat) t v, Try.f4.params[j]? = some t → args[j]? = some v → Value.okWide Try.prog W .any base t v := hval0
  have hW' := hW
  obtain ⟨p, q, hA0, hV, rfl, hfz, hnd⟩ := hW
  have hA : DataW.TrodAll enc Try.prog W 0 (fun _ => true) true Try.f4.params.toList args.toList ds p := hA0
  rw [Try.params4] at hA hval
  obtain ⟨v0, vs0, d0, ds0, p0, q0, hargs, rfl, rfl, h0, r0⟩ := trodAll_cons hA
  obtain ⟨rfl, rfl, rfl⟩ := trodAll_nil r0
  obtain rfl : args = #[v0] := by cases args; simp_all
  obtain ⟨a0, len0, cap0, rfl⟩ := okWide_slice Try.underlying22 (hval 0 22 v0 rfl rfl)
  have k0 := h0
  have lt0 : ∀ x ∈ p0, x.block < W.heap.size := by obtain ⟨m, hm⟩ := k0; exact DataW.trod_lt m _ _ _ hm
  obtain ⟨l0, hm0, hn0, hI0, hS0⟩ : ∃ l : List At, len0 ≤ maxLen ∧ l.length = len0 ∧ ArgX W a0 len0 (atCs l) ∧ SzM l := by
    obtain ⟨fuel, hf⟩ := h0
    obtain ⟨a, len, cap, l, hcs, hm, hn, hI, hS⟩ := open_ats hf
    simp [Value.cells] at hcs
    obtain ⟨rfl, rfl, rfl⟩ := hcs
    exact ⟨l, hm, hn, hI, hS⟩
  obtain ⟨rfl, rfl⟩ := trodVars_none hV
  clear hA0 hval0
  refine (walk a0 len0 cap0 l0 hm0 hn0 W hI0 hS0).mono fun e W' ⟨he, bel⟩ => ?_
  subst he
  exact ⟨_, rfl, _, _, _, [], _, [], hW', trodAll_mk1 (shut_bool Try.underlying4 _), (trodAll_cons_mk (Below.trod laidOut (by kernel_rfl) (of_decide_eq_true (by kernel_rfl)) k0 bel lt0) trodAll_mk0), rfl, bel.frame _, fun h => by cases h⟩

theorem over : Rows.fnExactEncodeAttrsRow.holds Try.pinned (OpenSpec.ofChange Rows.fnExactEncodeAttrsSpec) :=
  OpenClaim.holds_of_wide 4 Try.f4 rfl rfl rfl rfl rfl rfl rfl ⟨rfl, rfl, rfl, rfl, rfl⟩ rfl rfl rfl rfl rfl (by kernel_rfl) Try.func4 (by kernel_rfl)
    (of_decide_eq_true (by kernel_rfl)) (by unfold Func.isWrapper; first | (rw [if_pos (by decide +kernel)]; kernel_rfl) | (rw [if_neg (by decide +kernel)]; exact ⟨rfl, rfl⟩))
    (fun os started H enc _ => lifted os started H enc)

theorem proved : Rows.FnExactEncodeAttrsSaid := over
end Go.Proofs.Ythflehdboccloaa.fnExactEncodeAttrs
