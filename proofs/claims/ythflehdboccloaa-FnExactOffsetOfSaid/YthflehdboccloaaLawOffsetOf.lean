/- For every slice of attributes and number, impl.OffsetOf answers as its model does and writes into no argument: the law FnExactOffsetOf returns true. No condition. -/
import Derived.Test.YthflehdboccloaaRows
import Derived.Test.YthflehdboccloaaAto
import Derived.ProofKit
import Derived.OpenShut
import Derived.ShutString
import Derived.ChangeOld
import Derived.ChangeVars
import Derived.Carry
namespace Go.Proofs.Ythflehdboccloaa.fnExactOffsetOf
open Go.ChangeShapes Go.WideShapes Go.ChangeAt Go.RowKit
set_option linter.unusedVariables false
set_option maxRecDepth 100000

theorem own : ownKnob Try.prog.godebug = none := by kernel_rfl
theorem laidOut : laidOutB Try.prog = true := by kernel_rfl
set_option maxHeartbeats 12800000 in
theorem walk (ad : Option Addr) (n cap : Nat) (l : List At) (hm : n ≤ maxLen) (hn : l.length = n) (w : World) (hI : ArgX w ad n (atCs l)) (hS : SzM l) (i : Int) :
    Calls Try.prog 11 #[.slice ad n cap, .int .i64 i] w fun e w' => e = .returned (.bool true) ∧ Below w.heap.size w w' := by
  unfold maxLen at hm
  have HN := Lib.hid hn
  have HI := Lib.hid hI
  have HS := Lib.hid hS
  have HZ := Lib.hid (szAttrS_any ad n cap l w HI HN HS (by omega))
  clear hI hS
  go_enter Try.func11, Try.ntmps11
  go_wp2_with (go_at_call 14; refine (HZ.out).mono ?_; rintro e w1 ⟨r, rfl, b, hr⟩; have X1 : Hid (BX w w1) := Lib.hid b; have HR := Lib.hid hr; clear b hr; refine Hid.out ?_)
  refine Lib.hid ?_
  rcases Int.lt_or_le r 0 with h | h
  · have d := is_lt h
    clear HR
    go_wp2_with fail
    go_ret
    exact ⟨rfl, X1.out⟩
  have hn6 : n ≤ 1048576 := HR.out h
  have d := not_lt h
  clear HR
  have HTO := Lib.hid (fun w h => toAttrS_any ad n cap l w (Lib.hid h) HN hn6)
  unfold SaysAtS at HTO
  rw [hn] at HTO
  have HEQ := Lib.hid (fun a b ca cb w h h' => eqAttrS_any a b n ca cb l w (Lib.hid h) (Lib.hid h') HN hn6)
  have HSP := Lib.hid (fun ad c w h => specOffsetOf_any ad n c l i w (Lib.hid h) HN HS hn6)
  have HIM := Lib.hid (fun ad c w h => implOffsetOf_any ad n c l i w (Lib.hid h) HN HS hn6)
  generalize resOf l i = g0 at HSP HIM
  generalize okS l i = g1 at HSP HIM
  clear h hn
  go_wp2_with (go_at_call 16; refine (HTO.out _ (HI.out.below X1.out)).mono ?_; rintro e w2 ⟨rfl, b, o⟩; have X2 := Lib.hid (BX.call X1.out b); have O2 := Lib.hid (own_inx o); clear b o; refine Hid.out ?_)
  refine Lib.hid ?_
  go_wp2_with (go_at_call 40; refine (HSP.out _ _ _ O2.out).mono ?_; rintro e w3 ⟨rfl, b⟩; have X3 := Lib.hid (X2.out.call b); clear b; refine Hid.out ?_)
  refine Lib.hid ?_
  go_wp2_with (go_at_call 16; refine (HTO.out _ (HI.out.below X3.out)).mono ?_; rintro e w4 ⟨rfl, b, o⟩; have X4 := Lib.hid (BX.call X3.out b); have O4 := Lib.hid (own_inx o); clear b o; refine Hid.out ?_)
  refine Lib.hid ?_
  go_wp2_with (go_at_call 41; refine (HIM.out _ _ _ O4.out).mono ?_; rintro e w5 ⟨rfl, b⟩; have X5 := Lib.hid (X4.out.call b); have O5 := Lib.hid (O4.out.below b); clear b; refine Hid.out ?_)
  refine Lib.hid ?_
  go_wp2_with (go_at_call 16; refine (HTO.out _ (HI.out.below X5.out)).mono ?_; rintro e w6 ⟨rfl, b, o⟩; have X6 := Lib.hid (BX.call X5.out b); have O6 := Lib.hid (own_inx o); have P6 := Lib.hid (O5.out.below b); clear b o; refine Hid.out ?_)
  refine Lib.hid ?_
  go_wp2_with (go_at_call 18; refine (HEQ.out _ _ _ _ _ P6.out O6.out).mono ?_; rintro e w7 ⟨rfl, b⟩; have X7 := Lib.hid (X6.out.call b); clear b)
  go_ret
  exact ⟨rfl, X7.out⟩

set_option maxRecDepth 100000 in
theorem lifted (os : Os) (started : os.Started) (H : Type) (enc : TypeId × Value → H) :
    ReturnsInHanded {} Try.checked os 11 .any (Rows.fnExactOffsetOfSpec.pre6 enc Try.prog Try.f11 Rows.fnExactOffsetOfRow.domain false) (Rows.fnExactOffsetOfSpec.post enc Try.prog Try.f11 false true false false) := by
  refine returnsInHanded_of_change (C := Try.checked) own started (by kernel_rfl) Try.func11
    (ChangeSpec.witness6 (enc := enc) (C := Try.checked) false ⟨#[], #[.slice none 0 0, .int .i64 0], []⟩ 8 (by kernel_rfl) (by kernel_rfl) (by kernel_rfl) (by kernel_rfl)) ?_
  intro W base args ds gs before hval0 hW hcnd _
  have hval : ∀ (j : Nat) t v, Try.f11.params[j]? = some t → args[j]? = some v → Value.okWide Try.prog W .any base t v := hval0
  have hW' := hW
  obtain ⟨p, q, hA0, hV, rfl, hfz, hnd⟩ := hW
  have hA : DataW.TrodAll enc Try.prog W 0 (fun _ => true) true Try.f11.params.toList args.toList ds p := hA0
  rw [Try.params11] at hA hval
  obtain ⟨v0, vs0, d0, ds0, p0, q0, hargs, rfl, rfl, h0, r0⟩ := trodAll_cons hA
  obtain ⟨v1, vs1, d1, ds1, p1, q1, rfl, rfl, rfl, h1, r1⟩ := trodAll_cons r0
  obtain ⟨rfl, rfl, rfl⟩ := trodAll_nil r1
  obtain rfl : args = #[v0, v1] := by cases args; simp_all
  obtain ⟨a0, len0, cap0, rfl⟩ := okWide_slice Try.underlying22 (hval 0 22 v0 rfl rfl)
  have k0 := h0
  have lt0 : ∀ x ∈ p0, x.block < W.heap.size := by obtain ⟨m, hm⟩ := k0; exact DataW.trod_lt m _ _ _ hm
  obtain ⟨l0, hm0, hn0, hI0, hS0⟩ : ∃ l : List At, len0 ≤ maxLen ∧ l.length = len0 ∧ ArgX W a0 len0 (atCs l) ∧ SzM l := by
    obtain ⟨fuel, hf⟩ := h0
    obtain ⟨a, len, cap, l, hcs, hm, hn, hI, hS⟩ := open_ats hf
    simp [Value.cells] at hcs
    obtain ⟨rfl, rfl, rfl⟩ := hcs
    exact ⟨l, hm, hn, hI, hS⟩
  have k1 := h1
  have lt1 : ∀ x ∈ p1, x.block < W.heap.size := by obtain ⟨m, hm⟩ := k1; exact DataW.trod_lt m _ _ _ hm
  obtain ⟨a1, ha1, _, _, w1⟩ := open_int Try.underlying3 (hval 1 3 v1 rfl rfl) h1
  subst ha1
  obtain ⟨rfl, rfl⟩ := trodVars_none hV
  clear hA0 hval0
  refine (walk a0 len0 cap0 l0 hm0 hn0 W hI0 hS0 a1).mono fun e W' ⟨he, bel⟩ => ?_
  subst he
  exact ⟨_, rfl, _, _, _, [], _, [], hW', trodAll_mk1 (shut_bool Try.underlying4 _), (trodAll_cons_mk (Below.trod laidOut (by kernel_rfl) (of_decide_eq_true (by kernel_rfl)) k0 bel lt0) (trodAll_cons_mk (Below.trod laidOut (by kernel_rfl) (of_decide_eq_true (by kernel_rfl)) k1 bel lt1) trodAll_mk0)), rfl, bel.frame _, fun h => by cases h⟩

theorem over : Rows.fnExactOffsetOfRow.holds Try.pinned (OpenSpec.ofChange Rows.fnExactOffsetOfSpec) :=
  OpenClaim.holds_of_wide 11 Try.f11 rfl rfl rfl rfl rfl rfl rfl ⟨rfl, rfl, rfl, rfl, rfl⟩ rfl rfl rfl rfl rfl (by kernel_rfl) Try.func11 (by kernel_rfl)
    (of_decide_eq_true (by kernel_rfl)) (by unfold Func.isWrapper; first | (rw [if_pos (by decide +kernel)]; kernel_rfl) | (rw [if_neg (by decide +kernel)]; exact ⟨rfl, rfl⟩))
    (fun os started H enc _ => lifted os started H enc)

theorem proved : Rows.FnExactOffsetOfSaid := over
end Go.Proofs.Ythflehdboccloaa.fnExactOffsetOf
