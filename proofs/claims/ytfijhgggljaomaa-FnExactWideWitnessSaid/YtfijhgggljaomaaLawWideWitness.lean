/- For every width, impl.WideWitness answers as its model does, writes into no argument and owns its answer: the law FnExactWideWitness returns true. No condition. -/
import Derived.Test.YtfijhgggljaomaaRows
import Derived.Test.YtfijhgggljaomaaVbc
import Derived.Test.YtfijhgggljaomaaVbd
import Derived.Test.YtfijhgggljaomaaCgc
import Derived.Test.YtfijhgggljaomaaCfq
import Derived.Test.YtfijhgggljaomaaBxw
import Derived.ProofKit
import Derived.OpenShut
import Derived.ShutString
import Derived.ChangeOld
import Derived.ChangeVars
import Derived.Carry
import Derived.Deep.DeepHandedRow
namespace Go.Proofs.Ytfijhgggljaomaa.fnExactWideWitness
open Go.ChangeShapes Go.WideShapes Go.ChangeAt Go.RowKit
set_option linter.unusedVariables false

theorem own : ownKnob Try.prog.godebug = none := by kernel_rfl
theorem laidOut : laidOutB Try.prog = true := by kernel_rfl
theorem FourIs.heap {w w' : World} {b : Nat} {a0 a1 a2 a3 : Value} (h : FourIs w b a0 a1 a2 a3) (e : w'.heap[b]? = w.heap[b]?) (hs : w.heap.size ≤ w'.heap.size) : FourIs w' b a0 a1 a2 a3 := by
  obtain ⟨h0, h1, h2, h3, hb⟩ := h
  exact ⟨(cell_heap e 0).trans h0, (cell_heap e 1).trans h1, (cell_heap e 2).trans h2, (cell_heap e 3).trans h3, Nat.lt_of_lt_of_le hb hs⟩
set_option maxRecDepth 100000 in
set_option maxHeartbeats 12800000 in
theorem walk (a : Int) (w : World) :
    Calls Try.prog 9 #[.int .i64 a] w fun e w' => e = .returned (.bool true) ∧ Below w.heap.size w w' := by
  have HEQ := Lib.hid (fun v v' c w h h' HM => eqConfig_any v v' c w h h' HM)
  have HSP := Lib.hid (fun w => specWideWitness_any a w)
  have HIM := Lib.hid (fun w => implWideWitness_any a w)
  have GM := Lib.hid (lenWideWitness a)
  generalize resWideWitness1 a = G at HSP HIM GM
  generalize resWideWitness2 a = g2 at HSP HIM
  have gcl : G.cs.length ≤ 1048576 := GM.out.2.1
  have gfl : G.fs.length ≤ 1048576 := GM.out.2.2
  have hkg : decide (1 + 8 * (G.cs.length : Int) + 5 * (G.fs.length : Int) < 0) = false := not_lt (by omega)
  go_enter Try.func9, Try.ntmps9
  go_wp2_with (go_at_call 30; refine (HSP.out _).mono ?_; rintro e w3 ⟨v0, rfl, o3, b3⟩; have A3 := Lib.hid b3; have G3 := Lib.hid o3.cfg; obtain ⟨va, vb, rfl, oa, ob, _⟩ := o3; obtain ⟨pa, ka, rfl, _⟩ := own_in oa; obtain ⟨pb, kb, rfl, _⟩ := own_in ob; clear b3 oa ob; refine Hid.out ?_)
  refine Lib.hid ?_
  have A83 := Lib.hid (Aft.refl w3 (Obj.cells #[.string G.s, .slice pa G.cs.length ka, .slice pb G.fs.length kb, .int .i64 G.d] 33))
  have A33 := Lib.hid (A3.out.trans ((one_new2 w3 (Obj.cells #[.string G.s, .slice pa G.cs.length ka, .slice pb G.fs.length kb, .int .i64 G.d] 33)).mono A3.out.size))
  go_wp2_with (go_at_call 31; refine (HIM.out _).mono ?_; rintro e w5 ⟨v5, rfl, o5, b5⟩; have A5 := Lib.hid (A33.out.trans (b5.mono A33.out.size)); have A85 := Lib.hid (A83.out.on b5); have hs35 : w3.heap.size + 1 ≤ w5.heap.size := (Nat.le_trans (by simp) b5.size); have G5 := Lib.hid o5; obtain ⟨va, vb, rfl, oa, ob, od5⟩ := o5; obtain ⟨p5, c5, rfl, _⟩ := own_in oa; obtain ⟨f5, l5, rfl, _⟩ := own_in ob; have OD5 := Lib.hid od5; clear b5 oa ob od5; refine Hid.out ?_)
  refine Lib.hid ?_
  have e34 : (w3.alloc (Obj.cells #[.string G.s, .slice pa G.cs.length ka, .slice pb G.fs.length kb, .int .i64 G.d] 33)).heap.size = w3.heap.size + 1 := by simp
  rw [e34] at G5
  have A855 := Lib.hid (A85.out.alloc (Obj.cells #[.string G.s, .slice p5 G.cs.length c5, .slice f5 G.fs.length l5, .int .i64 G.d] 33))
  obtain ⟨y0, y1, y2, y3, _⟩ := A855.out.all.1
  obtain ⟨z0, z1, z2, z3, _⟩ := A85.out.all.1
  go_wp2_with (go_at_call 15; refine (HEQ.out _ _ G _ (Lib.hid (G5.out.cfg.below (one_new2 _ _))) (Lib.hid (G3.out.below A855.out.all.2)) GM).mono ?_; rintro e w6 ⟨rfl, b6⟩; have b56 := (one_new2 w5 (Obj.cells #[.string G.s, .slice p5 G.cs.length c5, .slice f5 G.fs.length l5, .int .i64 G.d] 33)).trans (b6.mono (by simp)); have A6 := Lib.hid (A5.out.trans (b56.mono A5.out.size)); have A86 := Lib.hid (A85.out.on b56); have G6 := Lib.hid (G5.out.on b56); have Y6 := Lib.hid (box_four b6).1; have hs56 : w5.heap.size + 1 ≤ w6.heap.size := (Nat.le_trans (by simp) b6.size); clear b6 b56 y0 y1 y2 y3 z0 z1 z2 z3; refine Hid.out ?_)
  refine Lib.hid ?_
  have hw3 : w.heap.size ≤ w3.heap.size + 1 := by have := A3.out.size; omega
  have HN5 : Hid ((Value.slice p5 G.cs.length c5).ownBlock ≠ some w5.heap.size ∧ (Value.slice f5 G.fs.length l5).ownBlock ≠ some w5.heap.size) := Lib.hid (by
    obtain ⟨va, vb, hv, oa, ob, _⟩ := G5.out
    simp only [Value.agg.injEq, Array.mk.injEq, List.cons.injEq, and_true, true_and] at hv
    obtain ⟨rfl, rfl⟩ := hv
    exact ⟨fun q => absurd (World.ownsRow.lt oa _ q).2 (Nat.lt_irrefl _), fun q => absurd (World.ownsRow.lt ob _ q).2 (Nat.lt_irrefl _)⟩)
  obtain ⟨va, vb, hv, oa, ob, _⟩ := G6.out
  simp only [Value.agg.injEq, Array.mk.injEq, List.cons.injEq, and_true, true_and] at hv
  obtain ⟨rfl, rfl⟩ := hv
  have HMG := Lib.hid (markConfig_all G.s p5 f5 G.cs.length G.fs.length c5 l5 G.d (w3.heap.size + 1) _ _ w6 (Lib.hid oa) (Lib.hid ob) OD5 (by omega) gcl gfl)
  have HHG := Lib.hid (fun w h h' => heldConfig_any G.s p5 f5 G.cs.length G.fs.length c5 l5 G.d (w3.heap.size + 1) w h h' gcl gfl)
  have hg6 : w5.heap.size < w6.heap.size := by omega
  clear oa ob
  obtain ⟨y0, y1, y2, y3, _⟩ := Y6.out
  go_wp2_with (go_at_call 16; refine HMG.out.mono ?_; rintro e w11 ⟨rfl, oa, ob, b11, o11⟩; have A11 := Lib.hid (A6.out.trans (b11.mono hw3)); have A811 := Lib.hid (A86.out.up b11); have Y11 := Lib.hid (FourIs.heap Y6.out (o11 _ hg6 HN5.out.1 HN5.out.2) b11.size); have OA11 := Lib.hid oa; have OB11 := Lib.hid ob; clear b11 o11 oa ob y0 y1 y2 y3; refine Hid.out ?_)
  refine Lib.hid ?_
  obtain ⟨y0, y1, y2, y3, _⟩ := Y11.out
  go_wp2_with (go_at_call 29; refine (HHG.out _ OA11 OB11).mono ?_; rintro e w12 ⟨rfl, b12⟩; have A12 := Lib.hid (A11.out.trans (b12.mono A11.out.size)); have A812 := Lib.hid (A811.out.on b12); have Y12 := Lib.hid (Y11.out.on b12); have OA12 := Lib.hid (own_low OA11.out b12 (Nat.le_refl _)); have OB12 := Lib.hid (own_low OB11.out b12 (Nat.le_refl _)); clear b12 y0 y1 y2 y3; refine Hid.out ?_)
  refine Lib.hid ?_
  go_wp2_with (go_at_call 31; refine (HIM.out _).mono ?_; rintro e w14 ⟨v14, rfl, o14, b14⟩; have A14 := Lib.hid (A12.out.trans (b14.mono A12.out.size)); have A814 := Lib.hid (A812.out.on b14); have Y14 := Lib.hid (Y12.out.on b14); have OA14 := Lib.hid (own_low OA12.out b14 (Nat.le_refl _)); have OB14 := Lib.hid (own_low OB12.out b14 (Nat.le_refl _)); have G14 := Lib.hid o14.cfg; obtain ⟨va, vb, rfl, oa, ob, _⟩ := o14; obtain ⟨p14, c14, rfl, _⟩ := own_in oa; obtain ⟨f14, l14, rfl, _⟩ := own_in ob; clear b14 oa ob; refine Hid.out ?_)
  refine Lib.hid ?_
  have A8144 := Lib.hid (A814.out.alloc (Obj.cells #[.string G.s, .slice p14 G.cs.length c14, .slice f14 G.fs.length l14, .int .i64 G.d] 33))
  obtain ⟨y0, y1, y2, y3, _⟩ := A8144.out.all.1
  obtain ⟨z0, z1, z2, z3, _⟩ := A814.out.all.1
  go_wp2_with (go_at_call 15; refine (HEQ.out _ _ G _ (Lib.hid (G14.out.below (one_new2 _ _))) (Lib.hid (G3.out.below A8144.out.all.2)) GM).mono ?_; rintro e w15 ⟨rfl, b15⟩; have b1415 := (one_new2 w14 (Obj.cells #[.string G.s, .slice p14 G.cs.length c14, .slice f14 G.fs.length l14, .int .i64 G.d] 33)).trans (b15.mono (by simp)); have A15 := Lib.hid (A14.out.trans (b1415.mono A14.out.size)); have Y15 := Lib.hid (Y14.out.on b1415); have OA15 := Lib.hid (own_low OA14.out b1415 (Nat.le_refl _)); have OB15 := Lib.hid (own_low OB14.out b1415 (Nat.le_refl _)); clear b15 b1415 y0 y1 y2 y3 z0 z1 z2 z3; refine Hid.out ?_)
  refine Lib.hid ?_
  obtain ⟨y0, y1, y2, y3, _⟩ := Y15.out
  go_wp2_with (go_at_call 29; refine (HHG.out _ OA15 OB15).mono ?_; rintro e w16 ⟨rfl, b16⟩; have A16 := Lib.hid (A15.out.trans (b16.mono A15.out.size)); clear b16)
  go_ret
  exact ⟨rfl, A16.out⟩

set_option maxRecDepth 100000 in
theorem lifted (os : Os) (started : os.Started) (H : Type) (enc : TypeId × Value → H) :
    ReturnsInHanded {} Try.checked os 9 .any (Rows.fnExactWideWitnessSpec.pre6 enc Try.prog Try.f9 Rows.fnExactWideWitnessRow.domain false) (Rows.fnExactWideWitnessSpec.post enc Try.prog Try.f9 false true false false) := by
  refine returnsInHanded_of_change (C := Try.checked) own started (by kernel_rfl) Try.func9
    (ChangeSpec.witness6 (enc := enc) (C := Try.checked) false ⟨#[], #[.int .i64 0], []⟩ 8 (by kernel_rfl) (by kernel_rfl) (by kernel_rfl) (by kernel_rfl)) ?_
  intro W base args ds gs before hval0 hW hcnd _
  have hval : ∀ (j : Nat) t v, Try.f9.params[j]? = some t → args[j]? = some v → Value.okWide Try.prog W .any base t v := hval0
  have hW' := hW
  obtain ⟨p, q, hA0, hV, rfl, hfz, hnd⟩ := hW
  have hA : DataW.TrodAll enc Try.prog W 0 (fun _ => true) true Try.f9.params.toList args.toList ds p := hA0
  rw [Try.params9] at hA hval
  obtain ⟨v0, vs0, d0, ds0, p0, q0, hargs, rfl, rfl, h0, r0⟩ := trodAll_cons hA
  obtain ⟨rfl, rfl, rfl⟩ := trodAll_nil r0
  obtain rfl : args = #[v0] := by cases args; simp_all
  have k0 := h0
  have lt0 : ∀ x ∈ p0, x.block < W.heap.size := by obtain ⟨m, hm⟩ := k0; exact DataW.trod_lt m _ _ _ hm
  obtain ⟨a0, ha0, _, _, w0⟩ := open_int Try.underlying3 (hval 0 3 v0 rfl rfl) h0
  subst ha0
  obtain ⟨rfl, rfl⟩ := trodVars_none hV
  clear hA0 hval0
  refine (walk a0 W).mono fun e W' ⟨he, bel⟩ => ?_
  subst he
  exact ⟨_, rfl, _, _, _, [], _, [], hW', trodAll_mk1 (shut_bool Try.underlying4 _), (trodAll_cons_mk (Below.trod laidOut (by kernel_rfl) (of_decide_eq_true (by kernel_rfl)) k0 bel lt0) trodAll_mk0), rfl, bel.frame _, fun h => by cases h⟩

theorem over : Rows.fnExactWideWitnessRow.holds Try.pinned (OpenSpec.ofChange Rows.fnExactWideWitnessSpec) :=
  OpenClaim.holds_of_wide 9 Try.f9 rfl rfl rfl rfl rfl rfl rfl ⟨rfl, rfl, rfl, rfl, rfl⟩ rfl rfl rfl rfl rfl (by kernel_rfl) Try.func9 (by kernel_rfl)
    (of_decide_eq_true (by kernel_rfl)) (by unfold Func.isWrapper; first | (rw [if_pos (by decide +kernel)]; kernel_rfl) | (rw [if_neg (by decide +kernel)]; exact ⟨rfl, rfl⟩))
    (fun os started H enc _ => lifted os started H enc)

theorem proved : Rows.FnExactWideWitnessSaid := over
end Go.Proofs.Ytfijhgggljaomaa.fnExactWideWitness
