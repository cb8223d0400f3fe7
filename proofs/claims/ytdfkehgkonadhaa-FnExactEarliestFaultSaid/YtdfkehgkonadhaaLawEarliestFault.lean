/- For every slice of faults, impl.EarliestFault answers as its model does and writes into no argument: the law FnExactEarliestFault returns true. No condition. -/
import Derived.Test.YtdfkehgkonadhaaRows
import Derived.Test.YtdfkehgkonadhaaFae
import Derived.ProofKit
import Derived.OpenShut
import Derived.ShutString
import Derived.ChangeOld
import Derived.ChangeVars
import Derived.Carry
namespace Go.Proofs.Ytdfkehgkonadhaa.fnExactEarliestFault
open Go.ChangeShapes Go.WideShapes Go.ChangeAt Go.RowKit
set_option linter.unusedVariables false

theorem own : ownKnob Try.prog.godebug = none := by kernel_rfl
theorem laidOut : laidOutB Try.prog = true := by kernel_rfl
set_option maxHeartbeats 12800000 in
theorem walk (ad : Option Addr) (n cap : Nat) (l : List Fa) (hm : n ≤ maxLen) (hn : l.length = n) (w : World) (hI : ArgX w ad n (faCs l)) :
    Calls Try.prog 5 #[.slice ad n cap] w fun e w' => e = .returned (.bool true) ∧ Below w.heap.size w w' := by
  unfold maxLen at hm
  have HN := Lib.hid hn
  have HI := Lib.hid hI
  have HZ := Lib.hid (fun w => szFaultS_any ad n cap 1048576 w (by omega) (by omega) (by omega))
  clear hI
  by_cases h : (1048576 : Int) - (n : Int) < 0
  · rw [lessN_neg h] at HZ
    clear h
    go_enter Try.func5, Try.ntmps5
    go_wp2_with (go_at_call 12; refine (HZ.out _).mono ?_; rintro e w1 ⟨rfl, b⟩; have X1 := Lib.hid b; clear b)
    go_ret
    exact ⟨rfl, X1.out⟩
  · rw [lessN_pos h] at HZ
    have d := not_lt (Int.not_lt.1 h)
    have hn6 : n ≤ 1048576 := by omega
    have HTO := Lib.hid (fun w h => toFaultS_any ad n cap l w (Lib.hid h) HN hn6)
    unfold SaysFaS at HTO
    rw [hn] at HTO
    have HSP := Lib.hid (fun ad c w h => specEarliest_any ad n c l w (Lib.hid h) HN hn6)
    have HIM := Lib.hid (fun ad c w h => implEarliest_any ad n c l w (Lib.hid h) HN hn6)
    have HEQ := Lib.hid (fun a b ca cb w h h' => eqFaultS_any a b n ca cb l w (Lib.hid h) (Lib.hid h') HN hn6)
    generalize resE1 l = r at HSP HIM
    generalize resE2 l = q at HSP HIM
    have HE1 := Lib.hid (fun w => eqFault_same r w)
    obtain ⟨rk, ra⟩ := r
    unfold faV at HSP HIM HE1
    simp only at HSP HIM HE1
    clear h hn
    go_enter Try.func5, Try.ntmps5
    go_wp2_with (go_at_call 12; refine (HZ.out _).mono ?_; rintro e w1 ⟨rfl, b⟩; have X1 := Lib.hid b; clear b; refine Hid.out ?_)
    refine Lib.hid ?_
    go_wp2_with (go_at_call 14; refine (HTO.out _ (HI.out.below X1.out)).mono ?_; rintro e w2 ⟨rfl, b, o⟩; have X2 := Lib.hid (BX.call X1.out b); have O2 := Lib.hid (own_inx o); clear b o; refine Hid.out ?_)
    refine Lib.hid ?_
    go_wp2_with (go_at_call 13; refine (HSP.out _ _ _ O2.out).mono ?_; rintro e w3 ⟨rfl, b⟩; have X3 := Lib.hid ((X2.out.call b).alloc (Obj.cells #[.int .i64 rk, .int .i64 ra] 25)); clear b; refine Hid.out ?_)
    refine Lib.hid ?_
    have R3 := Lib.hid (two_is w3 (.int .i64 rk) (.int .i64 ra) 25)
    go_wp2_with (go_at_call 14; refine (HTO.out _ (HI.out.below X3.out)).mono ?_; rintro e w4 ⟨rfl, b, o⟩; have X4 := Lib.hid (X3.out.call b); have O4 : Hid (InX w4 (some ⟨w3.heap.size + 1, 0, none⟩) n (faCs l)) := Lib.hid (by have q := own_inx o; rw [show (w3.alloc (Obj.cells #[.int .i64 rk, .int .i64 ra] 25)).heap.size = w3.heap.size + 1 by simp] at q; exact q); have R4 := Lib.hid (R3.out.on b); clear b o; refine Hid.out ?_)
    refine Lib.hid ?_
    go_wp2_with (go_at_call 15; refine (HIM.out _ _ _ O4.out).mono ?_; rintro e w5 ⟨rfl, b⟩; have X5 := Lib.hid ((X4.out.call b).alloc (Obj.cells #[.int .i64 rk, .int .i64 ra] 25)); have O5 := Lib.hid (O4.out.below (b.trans ((one_new2 w5 (Obj.cells #[.int .i64 rk, .int .i64 ra] 25)).mono b.size))); obtain ⟨d0, d1, dl⟩ := (R4.out.on b).on (one_new2 w5 (Obj.cells #[.int .i64 rk, .int .i64 ra] 25)); clear b; refine Hid.out ?_)
    refine Lib.hid ?_
    go_wp2_with (go_at_call 16; refine (HE1.out _).mono ?_; rintro e w6 ⟨rfl, b⟩; have X6 := Lib.hid (X5.out.call b); have O6 := Lib.hid (O5.out.below b); clear b; refine Hid.out ?_)
    refine Lib.hid ?_
    go_wp2_with (go_at_call 14; refine (HTO.out _ (HI.out.below X6.out)).mono ?_; rintro e w7 ⟨rfl, b, o⟩; have X7 := Lib.hid (X6.out.call b); have O7 := Lib.hid (O6.out.below b); have P7 := Lib.hid (own_inx o); clear b o; refine Hid.out ?_)
    refine Lib.hid ?_
    go_wp2_with (go_at_call 17; refine (HEQ.out _ _ _ _ _ O7.out P7.out).mono ?_; rintro e w8 ⟨rfl, b⟩; have X8 := Lib.hid (X7.out.call b); clear b)
    go_ret
    exact ⟨rfl, X8.out⟩

set_option maxRecDepth 100000 in
theorem lifted (os : Os) (started : os.Started) (H : Type) (enc : TypeId × Value → H) :
    ReturnsInHanded {} Try.checked os 5 .any (Rows.fnExactEarliestFaultSpec.pre6 enc Try.prog Try.f5 Rows.fnExactEarliestFaultRow.domain false) (Rows.fnExactEarliestFaultSpec.post enc Try.prog Try.f5 false true false false) := by
  refine returnsInHanded_of_change (C := Try.checked) own started (by kernel_rfl) Try.func5
    (ChangeSpec.witness6 (enc := enc) (C := Try.checked) false ⟨#[], #[.slice none 0 0], []⟩ 8 (by kernel_rfl) (by kernel_rfl) (by kernel_rfl) (by kernel_rfl)) ?_
  intro W base args ds gs before hval0 hW hcnd _
  have hval : ∀ (j : Nat) t v, Try.f5.params[j]? = some t → args[j]? = some v → Value.okWide Try.prog W .any base t v := hval0
  have hW' := hW
  obtain ⟨p, q, hA0, hV, rfl, hfz, hnd⟩ := hW
  have hA : DataW.TrodAll enc Try.prog W 0 (fun _ => true) true Try.f5.params.toList args.toList ds p := hA0
  rw [Try.params5] at hA hval
  obtain ⟨v0, vs0, d0, ds0, p0, q0, hargs, rfl, rfl, h0, r0⟩ := trodAll_cons hA
  obtain ⟨rfl, rfl, rfl⟩ := trodAll_nil r0
  obtain rfl : args = #[v0] := by cases args; simp_all
  obtain ⟨a0, len0, cap0, rfl⟩ := okWide_slice Try.underlying31 (hval 0 31 v0 rfl rfl)
  have k0 := h0
  have lt0 : ∀ x ∈ p0, x.block < W.heap.size := by obtain ⟨m, hm⟩ := k0; exact DataW.trod_lt m _ _ _ hm
  obtain ⟨l0, hm0, hn0, hI0⟩ : ∃ l : List Fa, len0 ≤ maxLen ∧ l.length = len0 ∧ ArgX W a0 len0 (faCs l) := by
    obtain ⟨fuel, hf⟩ := h0
    obtain ⟨a, len, cap, l, hcs, hm, hn, hI⟩ := open_fas hf
    simp [Value.cells] at hcs
    obtain ⟨rfl, rfl, rfl⟩ := hcs
    exact ⟨l, hm, hn, hI⟩
  obtain ⟨rfl, rfl⟩ := trodVars_none hV
  clear hA0 hval0
  refine (walk a0 len0 cap0 l0 hm0 hn0 W hI0).mono fun e W' ⟨he, bel⟩ => ?_
  subst he
  exact ⟨_, rfl, _, _, _, [], _, [], hW', trodAll_mk1 (shut_bool Try.underlying4 _), (trodAll_cons_mk (Below.trod laidOut (by kernel_rfl) (of_decide_eq_true (by kernel_rfl)) k0 bel lt0) trodAll_mk0), rfl, bel.frame _, fun h => by cases h⟩

theorem over : Rows.fnExactEarliestFaultRow.holds Try.pinned (OpenSpec.ofChange Rows.fnExactEarliestFaultSpec) :=
  OpenClaim.holds_of_wide 5 Try.f5 rfl rfl rfl rfl rfl rfl rfl ⟨rfl, rfl, rfl, rfl, rfl⟩ rfl rfl rfl rfl rfl (by kernel_rfl) Try.func5 (by kernel_rfl)
    (of_decide_eq_true (by kernel_rfl)) (by unfold Func.isWrapper; first | (rw [if_pos (by decide +kernel)]; kernel_rfl) | (rw [if_neg (by decide +kernel)]; exact ⟨rfl, rfl⟩))
    (fun os started H enc _ => lifted os started H enc)

theorem proved : Rows.FnExactEarliestFaultSaid := over
end Go.Proofs.Ytdfkehgkonadhaa.fnExactEarliestFault
