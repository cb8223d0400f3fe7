/- For every string, impl.DecodeAttrs answers as its model does and writes into no argument and owns its answer: the law FnExactDecodeAttrs returns true. No condition. -/
import Derived.Test.YtgnobmmlmmbfcaaRows
import Derived.Test.YtgnobmmlmmbfcaaAtl
import Derived.Test.YtgnobmmlmmbfcaaAtn
import Derived.Test.YtgnobmmlmmbfcaaAtd
import Derived.ProofKit
import Derived.OpenShut
import Derived.ShutString
import Derived.ChangeOld
import Derived.ChangeVars
import Derived.Carry
namespace Go.Proofs.Ytgnobmmlmmbfcaa.fnExactDecodeAttrs
open Go.ChangeShapes Go.WideShapes Go.ChangeAt Go.RowKit
set_option linter.unusedVariables false
set_option maxRecDepth 100000

theorem own : ownKnob Try.prog.godebug = none := by kernel_rfl
theorem laidOut : laidOutB Try.prog = true := by kernel_rfl
theorem eq_f (k a : Int) (w : World) :
    Calls Try.prog 7 #[.agg #[.int .i64 k, .int .i64 a], .agg #[.int .i64 k, .int .i64 a]] w (SaysB w true) := by
  go_enter Try.func7, Try.ntmps7
  go_wp2
  go_ret
  exact ⟨rfl, two_new _ _ _⟩
theorem dcF_len (s : ByteArray) : (dcF s).1.length ≤ 400 := by
  rw [dcF_eq]
  split
  · exact Nat.zero_le _
  · split
    · exact Nat.zero_le _
    · exact LS_len (Nat.zero_le _)
set_option maxHeartbeats 12800000 in
theorem walk (s : ByteArray) (w0 : s.size ≤ maxLen) (w : World) :
    Calls Try.prog 3 #[.string s] w fun e w' => e = .returned (.bool true) ∧ Below w.heap.size w w' := by
  unfold maxLen at w0
  by_cases h : (1048576 : Int) < s.size
  · have d := is_lt h
    go_enter Try.func3, Try.ntmps3
    go_wp2
    go_ret
    exact ⟨rfl, Below.refl _ _⟩
  have d := not_lt (Int.not_lt.1 h)
  have HSP := Lib.hid (fun w => specDecodeAttrs_any s w)
  have HIM := Lib.hid (fun w => implDecodeAttrs_any s w)
  have hkl := dcF_len s
  generalize dcF s = A at HSP HIM hkl
  obtain ⟨K, fk, fa⟩ := A
  unfold SaysD3 fuV at HSP HIM
  simp only at HSP HIM hkl
  have HEA := Lib.hid (fun v v' B B' w HA HB => eqAttrS_own v v' B B' K w HA HB (by omega))
  have HMG := Lib.hid (fun v B xs w HO => markAttrS_any v B K.length xs w HO (by omega))
  have HHG := Lib.hid (fun v B w HO => heldAttrS_any v B K.length w HO (by omega))
  have HEF := Lib.hid (eq_f (fk : Int) (fa : Int))
  generalize decide (fk = 0) = q at HSP HIM
  have dk0 : decide (4 * (K.length : Int) + 1 < 0) = false := not_lt (by omega)
  clear h hkl
  go_enter Try.func3, Try.ntmps3
  go_wp2_with (go_at_call 4; refine (HSP.out _).mono ?_; rintro e w1 ⟨v0, rfl, o, b⟩; have B1 := Lib.hid b; have O1 := Lib.hid o; clear b o)
  obtain ⟨Wa, hWa⟩ : ∃ Wa, w1.alloc (.cells #[.int .i64 fk, .int .i64 fa] 24) = Wa := ⟨_, rfl⟩
  rw [hWa]
  have ba : Below w1.heap.size w1 Wa := by rw [← hWa]; exact one_new2 _ _
  have A2 : Hid (BoxAt Wa w1.heap.size #[.int .i64 fk, .int .i64 fa] 24) := Lib.hid (by rw [← hWa]; exact BoxAt.new w1 _ _)
  have BA : Hid (Below w.heap.size w Wa) := Lib.hid (B1.out.trans (ba.mono B1.out.size))
  have OA : Hid (OwnA Wa w.heap.size v0 K) := Lib.hid (own_low O1.out ba (Nat.le_refl _))
  have HVL : Hid (∀ g, v0.ownBlock = some g → g < w1.heap.size) := Lib.hid (fun g h => (World.ownsRow.lt O1.out g h).2)
  have ha1 : w1.heap.size < Wa.heap.size := A2.out.lt
  have hw1 : w.heap.size ≤ w1.heap.size := B1.out.size
  clear hWa ba O1 B1
  go_wp2_with (go_at_call 5; refine (HIM.out _).mono ?_; rintro e w2 ⟨g0, rfl, o, b⟩; have B2 := Lib.hid b; have O2 := Lib.hid o; clear b o)
  obtain ⟨Wb, hWb⟩ : ∃ Wb, w2.alloc (.cells #[.int .i64 fk, .int .i64 fa] 24) = Wb := ⟨_, rfl⟩
  rw [hWb]
  have bb : Below w2.heap.size w2 Wb := by rw [← hWb]; exact one_new2 _ _
  have C2 : Hid (BoxAt Wb w2.heap.size #[.int .i64 fk, .int .i64 fa] 24) := Lib.hid (by rw [← hWb]; exact BoxAt.new w2 _ _)
  have D2 : Hid (BoxAt Wb w1.heap.size #[.int .i64 fk, .int .i64 fa] 24) := Lib.hid ((A2.out.below B2.out).below bb)
  have BB : Hid (Below w.heap.size w Wb) := Lib.hid ((BA.out.trans (B2.out.mono BA.out.size)).trans (bb.mono (Nat.le_trans BA.out.size B2.out.size)))
  have OB : Hid (OwnA Wb w.heap.size v0 K) := Lib.hid (own_low (own_low OA.out B2.out (Nat.le_refl _)) bb (Nat.le_refl _))
  have GB : Hid (OwnA Wb Wa.heap.size g0 K) := Lib.hid (own_low O2.out bb (Nat.le_refl _))
  have ha2 : Wa.heap.size ≤ w2.heap.size := B2.out.size
  have hb2 : w2.heap.size < Wb.heap.size := C2.out.lt
  clear hWb bb O2 B2 A2 OA BA
  go_wp2_with (first | (go_at_call 6; refine (HEA.out _ _ _ _ _ GB OB).mono ?_; rintro e w3 ⟨rfl, b⟩; have B3 := Lib.hid (BB.out.trans (b.mono BB.out.size)); have D3 := Lib.hid (D2.out.below b); have O3 := Lib.hid (own_low OB.out b (Nat.le_refl _)); have G3 := Lib.hid (own_low GB.out b (Nat.le_refl _)); have hb3 : Wb.heap.size ≤ w3.heap.size := b.size; have m0 : w3.cell? ⟨w2.heap.size, 0, none⟩ = some (.int .i64 fk) := (by rw [(C2.out.below b).cell 0]; rfl); have m1 : w3.cell? ⟨w2.heap.size, 1, none⟩ = some (.int .i64 fa) := (by rw [(C2.out.below b).cell 1]; rfl); have n0 : w3.cell? ⟨w1.heap.size, 0, none⟩ = some (.int .i64 fk) := (by rw [(D2.out.below b).cell 0]; rfl); have n1 : w3.cell? ⟨w1.heap.size, 1, none⟩ = some (.int .i64 fa) := (by rw [(D2.out.below b).cell 1]; rfl); clear b) | (go_at_call 7; refine (HEF.out _).mono ?_; rintro e w4 ⟨rfl, b⟩; have B4 := Lib.hid (B3.out.trans (b.mono B3.out.size)); have D4 := Lib.hid (D3.out.below b); have O4 := Lib.hid (own_low O3.out b (Nat.le_refl _)); have G4 := Lib.hid (own_low G3.out b (Nat.le_refl _)); have hb4 : w3.heap.size ≤ w4.heap.size := b.size; clear b; refine Hid.out ?_))
  refine Lib.hid ?_
  clear m0 m1 n0 n1
  go_wp2_with (go_at_call 8; refine (HMG.out _ _ _ _ G4).mono ?_; rintro e w5 ⟨rfl, o, b, hp⟩; have B5 := Lib.hid (B4.out.trans (b.mono (by omega))); have D5 : Hid (BoxAt w5 w1.heap.size #[.int .i64 fk, .int .i64 fa] 24) := Lib.hid ((b.block _ (by omega)).trans D4.out); have O5 := Lib.hid (own_heap O4.out (fun g h => hp g (World.ownsRow.lt O4.out g h).2 (fun e => by have h1 := HVL.out g h; have h2 := (World.ownsRow.lt G4.out g e).1; omega))); have G5 := Lib.hid o; clear b o hp; refine Hid.out ?_)
  refine Lib.hid ?_
  go_wp2_with (go_at_call 9; refine (HHG.out _ _ _ G5).mono ?_; rintro e w6 ⟨rfl, b⟩; have B6 := Lib.hid (B5.out.trans (b.mono B5.out.size)); have D6 := Lib.hid (D5.out.below b); have O6 := Lib.hid (own_low O5.out b (Nat.le_refl _)); have G6 := Lib.hid (own_low G5.out b (Nat.le_refl _)); clear b; refine Hid.out ?_)
  refine Lib.hid ?_
  go_wp2_with (go_at_call 5; refine (HIM.out _).mono ?_; rintro e w7 ⟨h0, rfl, o, b⟩; have B7 := Lib.hid (B6.out.trans (b.mono B6.out.size)); have D7 := Lib.hid (D6.out.below b); have O7 := Lib.hid (own_low O6.out b (Nat.le_refl _)); have G7 := Lib.hid (own_low G6.out b (Nat.le_refl _)); have H7 := Lib.hid o; clear b o)
  obtain ⟨Wc, hWc⟩ : ∃ Wc, w7.alloc (.cells #[.int .i64 fk, .int .i64 fa] 24) = Wc := ⟨_, rfl⟩
  rw [hWc]
  have bc : Below w7.heap.size w7 Wc := by rw [← hWc]; exact one_new2 _ _
  have E8 : Hid (BoxAt Wc w7.heap.size #[.int .i64 fk, .int .i64 fa] 24) := Lib.hid (by rw [← hWc]; exact BoxAt.new w7 _ _)
  have B8 := Lib.hid (B7.out.trans (bc.mono B7.out.size))
  have D8 := Lib.hid (D7.out.below bc)
  have O8 : Hid (OwnA Wc w.heap.size v0 K) := Lib.hid (own_low O7.out bc (Nat.le_refl _))
  have G8 := Lib.hid (own_low G7.out bc (Nat.le_refl _))
  have H8 : Hid (OwnA Wc w6.heap.size h0 K) := Lib.hid (own_low H7.out bc (Nat.le_refl _))
  clear hWc bc B7 D7 O7 G7 H7
  go_wp2_with (first | (go_at_call 6; refine (HEA.out _ _ _ _ _ H8 O8).mono ?_; rintro e w9 ⟨rfl, b⟩; have B9 := Lib.hid (B8.out.trans (b.mono B8.out.size)); have G9 := Lib.hid (own_low G8.out b (Nat.le_refl _)); have m0 : w9.cell? ⟨w7.heap.size, 0, none⟩ = some (.int .i64 fk) := (by rw [(E8.out.below b).cell 0]; rfl); have m1 : w9.cell? ⟨w7.heap.size, 1, none⟩ = some (.int .i64 fa) := (by rw [(E8.out.below b).cell 1]; rfl); have n0 : w9.cell? ⟨w1.heap.size, 0, none⟩ = some (.int .i64 fk) := (by rw [(D8.out.below b).cell 0]; rfl); have n1 : w9.cell? ⟨w1.heap.size, 1, none⟩ = some (.int .i64 fa) := (by rw [(D8.out.below b).cell 1]; rfl); clear b) | (go_at_call 7; refine (HEF.out _).mono ?_; rintro e w10 ⟨rfl, b⟩; have B10 := Lib.hid (B9.out.trans (b.mono B9.out.size)); have G10 := Lib.hid (own_low G9.out b (Nat.le_refl _)); clear b; refine Hid.out ?_))
  refine Lib.hid ?_
  clear m0 m1 n0 n1
  go_wp2_with (go_at_call 9; refine (HHG.out _ _ _ G10).mono ?_; rintro e w11 ⟨rfl, b⟩; have B11 := Lib.hid (B10.out.trans (b.mono B10.out.size)); clear b)
  go_ret
  exact ⟨rfl, B11.out⟩

set_option maxRecDepth 100000 in
theorem lifted (os : Os) (started : os.Started) (H : Type) (enc : TypeId × Value → H) :
    ReturnsInHanded {} Try.checked os 3 .any (Rows.fnExactDecodeAttrsSpec.pre6 enc Try.prog Try.f3 Rows.fnExactDecodeAttrsRow.domain false) (Rows.fnExactDecodeAttrsSpec.post enc Try.prog Try.f3 false true false false) := by
  refine returnsInHanded_of_change (C := Try.checked) own started (by kernel_rfl) Try.func3
    (ChangeSpec.witness6 (enc := enc) (C := Try.checked) false ⟨#[], #[.string ByteArray.empty], []⟩ 8 (by kernel_rfl) (by kernel_rfl) (by kernel_rfl) (by kernel_rfl)) ?_
  intro W base args ds gs before hval0 hW hcnd _
  have hval : ∀ (j : Nat) t v, Try.f3.params[j]? = some t → args[j]? = some v → Value.okWide Try.prog W .any base t v := hval0
  have hW' := hW
  obtain ⟨p, q, hA0, hV, rfl, hfz, hnd⟩ := hW
  have hA : DataW.TrodAll enc Try.prog W 0 (fun _ => true) true Try.f3.params.toList args.toList ds p := hA0
  rw [Try.params3] at hA hval
  obtain ⟨v0, vs0, d0, ds0, p0, q0, hargs, rfl, rfl, h0, r0⟩ := trodAll_cons hA
  obtain ⟨rfl, rfl, rfl⟩ := trodAll_nil r0
  obtain rfl : args = #[v0] := by cases args; simp_all
  have k0 := h0
  have lt0 : ∀ x ∈ p0, x.block < W.heap.size := by obtain ⟨m, hm⟩ := k0; exact DataW.trod_lt m _ _ _ hm
  obtain ⟨s0, hs0, _, _, w0⟩ := Go.ChangeMaps.open_string Try.underlying9 (hval 0 9 v0 rfl rfl) h0
  subst hs0
  obtain ⟨rfl, rfl⟩ := trodVars_none hV
  clear hA0 hval0
  refine (walk s0 w0 W).mono fun e W' ⟨he, bel⟩ => ?_
  subst he
  exact ⟨_, rfl, _, _, _, [], _, [], hW', trodAll_mk1 (shut_bool Try.underlying4 _), (trodAll_cons_mk (Below.trod laidOut (by kernel_rfl) (of_decide_eq_true (by kernel_rfl)) k0 bel lt0) trodAll_mk0), rfl, bel.frame _, fun h => by cases h⟩

theorem over : Rows.fnExactDecodeAttrsRow.holds Try.pinned (OpenSpec.ofChange Rows.fnExactDecodeAttrsSpec) :=
  OpenClaim.holds_of_wide 3 Try.f3 rfl rfl rfl rfl rfl rfl rfl ⟨rfl, rfl, rfl, rfl, rfl⟩ rfl rfl rfl rfl rfl (by kernel_rfl) Try.func3 (by kernel_rfl)
    (of_decide_eq_true (by kernel_rfl)) (by unfold Func.isWrapper; first | (rw [if_pos (by decide +kernel)]; kernel_rfl) | (rw [if_neg (by decide +kernel)]; exact ⟨rfl, rfl⟩))
    (fun os started H enc _ => lifted os started H enc)

theorem proved : Rows.FnExactDecodeAttrsSaid := over
end Go.Proofs.Ytgnobmmlmmbfcaa.fnExactDecodeAttrs
