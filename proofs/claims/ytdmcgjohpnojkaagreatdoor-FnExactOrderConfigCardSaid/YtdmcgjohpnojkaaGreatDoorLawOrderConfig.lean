/- For every configuration, impl.OrderConfig answers as its model does, writes into no argument and owns its answer: the law FnExactOrderConfig returns true. The table of key words starts as the program's text lays it (the card ties it). No other condition. -/
import Derived.Test.YtdmcgjohpnojkaaGreatDoorCards
import Derived.Test.YtdmcgjohpnojkaaGreatDoorTie
import Derived.Test.YtdmcgjohpnojkaaGreatDoorKwl
import Derived.Test.YtdmcgjohpnojkaaGreatDoorCgx
import Derived.Test.YtdmcgjohpnojkaaGreatDoorCgc
import Derived.Test.YtdmcgjohpnojkaaGreatDoorCfq
import Derived.Test.YtdmcgjohpnojkaaGreatDoorBxw
import Derived.ProofKit
import Derived.OpenShut
import Derived.ShutString
import Derived.ChangeOld
import Derived.ChangeVars
import Derived.Carry
import Derived.Deep.DeepHandedRow
namespace Go.Proofs.YtdmcgjohpnojkaaGreatDoor.fnExactOrderConfig
set_option maxRecDepth 100000
open Go.ChangeShapes Go.WideShapes Go.ChangeAt Go.RowKit
set_option linter.unusedVariables false

theorem bx_below {wb w' : World} (h : BX wb w') : Below wb.heap.size wb w' := h
theorem OwnCfg.heap {w w' : World} {B : Nat} {v : Value} {c : Cfg} (h : OwnCfg w B v c) (ho : ∀ g, B ≤ g → g < w.heap.size → w'.heap[g]? = w.heap[g]?) : OwnCfg w' B v c := by
  obtain ⟨vc, vf, hv, a, b, d⟩ := h
  exact ⟨vc, vf, hv, own_heap a (fun g hg => ho g (World.ownsRow.lt a g hg).1 (World.ownsRow.lt a g hg).2), own_heap b (fun g hg => ho g (World.ownsRow.lt b g hg).1 (World.ownsRow.lt b g hg).2), d⟩
theorem FourIs.heap {w w' : World} {b : Nat} {a0 a1 a2 a3 : Value} (h : FourIs w b a0 a1 a2 a3) (e : w'.heap[b]? = w.heap[b]?) (hs : w.heap.size ≤ w'.heap.size) : FourIs w' b a0 a1 a2 a3 := by
  obtain ⟨h0, h1, h2, h3, hb⟩ := h
  exact ⟨(cell_heap e 0).trans h0, (cell_heap e 1).trans h1, (cell_heap e 2).trans h2, (cell_heap e 3).trans h3, Nat.lt_of_lt_of_le hb hs⟩
set_option maxRecDepth 100000 in
set_option maxHeartbeats 12800000 in
theorem walk (w : World) (hT : Kwt w) (v : Value) (c : Cfg) (hc : ArgCfg w v c) :
    Calls Tryz.prog 5 #[v] w fun e w' => e = .returned (.bool true) ∧ Below w.heap.size w w' := by
  obtain ⟨ac, cc, af, cf, rfl, m0, m1, m2, ic, if_⟩ := hc
  have hc : ArgCfg w (.agg #[.string c.s, .slice ac c.cs.length cc, .slice af c.fs.length cf, .int .i64 c.d]) c := ⟨ac, cc, af, cf, rfl, m0, m1, m2, ic, if_⟩
  have HT := Lib.hid hT
  have HZ := Lib.hid (fun w h => szConfig_any _ c w (Lib.hid (show ArgCfg w (.agg #[.string c.s, .slice ac c.cs.length cc, .slice af c.fs.length cf, .int .i64 c.d]) c from h)))
  have HTO := Lib.hid (fun w h HM => toConfig_any _ c w (Lib.hid (show ArgCfg w (.agg #[.string c.s, .slice ac c.cs.length cc, .slice af c.fs.length cf, .int .i64 c.d]) c from h)) HM)
  have HEQ := Lib.hid (fun v v' c w h h' HM => eqConfig_any v v' c w h h' HM)
  have HSP := Lib.hid (fun v B w h HM => specOrderConfig_any v c B w h HM)
  have HIM := Lib.hid (fun v B w hk h HM => implOrderConfig_any v c B w hk h HM)
  have HGM := Lib.hid (fun HM => lenOrderConfig c HM)
  generalize resOrderConfig1 c = G at HSP HIM HGM
  generalize resOrderConfig2 c = g2 at HSP HIM
  have HA := Lib.hid hc
  clear hT hc ic if_ m0 m1 m2
  obtain ⟨s, cs, fs, d⟩ := c
  simp only at HZ HTO HA ⊢
  have A0 := Lib.hid (Aft.refl w (Obj.cells #[.string s, .slice ac cs.length cc, .slice af fs.length cf, .int .i64 d] 76))
  go_enter Tryz.func5, Tryz.ntmps5
  go_wp2_with (go_at_call 46; refine (HZ.out _ (HA.out.below A0.out.all.2)).mono ?_; rintro e w1 ⟨r0, rfl, b1, q1⟩; have A1 := Lib.hid (A0.out.on b1); have Q1 := Lib.hid q1; obtain ⟨y0, y1, y2, y3, _⟩ := A1.out.all.1; clear b1 q1; refine Hid.out ?_)
  refine Lib.hid ?_
  by_cases h : r0 < 0
  · have dr := is_lt h
    go_wp2_with fail
    go_ret
    exact ⟨rfl, A1.out.all.2⟩
  have dr := not_lt (Int.not_lt.1 h)
  have M := Lib.hid (Q1.out (by omega))
  have hcl : cs.length ≤ 1048576 := M.out.2.1
  have hfl : fs.length ≤ 1048576 := M.out.2.2
  have GM := Lib.hid (HGM.out M.out)
  have gcl : G.cs.length ≤ 1048576 := GM.out.2.1
  have gfl : G.fs.length ≤ 1048576 := GM.out.2.2
  clear h Q1 HZ HGM
  go_wp2_with (go_at_call 47; refine (HTO.out _ (HA.out.below A1.out.all.2) M).mono ?_; rintro e w2 ⟨v2, rfl, s2, b2⟩; have A2 := Lib.hid (A1.out.on b2); have S2 := Lib.hid s2; clear b2 s2 y0 y1 y2 y3)
  go_wp2_with (go_at_call 33; refine (HSP.out _ _ _ S2 M).mono ?_; rintro e w3 ⟨v0, rfl, o3, b3⟩; have A3 := Lib.hid (A2.out.on b3); have G3 := Lib.hid o3.cfg; obtain ⟨va, vb, rfl, oa, ob, _⟩ := o3; obtain ⟨pa, ka, rfl, _⟩ := own_in oa; obtain ⟨pb, kb, rfl, _⟩ := own_in ob; clear b3 oa ob; obtain ⟨z0, z1, z2, z3, _⟩ := A3.out.all.1; refine Hid.out ?_)
  refine Lib.hid ?_
  have A83 := Lib.hid (Aft.refl w3 (Obj.cells #[.string G.s, .slice pa G.cs.length ka, .slice pb G.fs.length kb, .int .i64 G.d] 54))
  have A33 := Lib.hid (A3.out.alloc (Obj.cells #[.string G.s, .slice pa G.cs.length ka, .slice pb G.fs.length kb, .int .i64 G.d] 54))
  obtain ⟨i0, i1, i2, i3, _⟩ := A33.out.all.1
  go_wp2_with (go_at_call 47; refine (HTO.out _ (HA.out.below A33.out.all.2) M).mono ?_; rintro e w4 ⟨v4, rfl, s4, b4⟩; have S4 := Lib.hid s4; obtain ⟨vc, vf, rfl, o4, o4', o4d⟩ := s4; obtain ⟨p4, c4, rfl, _⟩ := own_in o4; obtain ⟨f4, l4, rfl, _⟩ := own_in o4'; have A4 := Lib.hid (A33.out.on b4); have A84 := Lib.hid (A83.out.on b4); have OC := Lib.hid o4; have OF := Lib.hid o4'; have OD := Lib.hid o4d; have hs34 : w3.heap.size + 1 ≤ w4.heap.size := (Nat.le_trans (by simp) b4.size); clear b4 o4 o4' o4d z0 z1 z2 z3 i0 i1 i2 i3)
  go_wp2_with (go_at_call 32; refine (HIM.out _ _ _ (Lib.hid (HT.out.below (A4.out.alloc _).all.2)) (Lib.hid (S4.out.on (one_new2 _ _))) M).mono ?_; rintro e w5 ⟨v5, rfl, o5, b5⟩; have b45 := (one_new2 w4 (Obj.cells #[.string s, .slice p4 cs.length c4, .slice f4 fs.length l4, .int .i64 d] 54)).trans (b5.mono (by simp)); have A5 := Lib.hid (A4.out.on b45); have A85 := Lib.hid (A84.out.on b45); have S5 := Lib.hid (S4.out.cfg.below b45); have X5 := Lib.hid (box_four b5).1; have OC5 := Lib.hid (own_low OC.out b45 (Nat.le_refl _)); have OF5 := Lib.hid (own_low OF.out b45 (Nat.le_refl _)); have hs45 : w4.heap.size + 1 ≤ w5.heap.size := (Nat.le_trans (by simp) b5.size); have G5 := Lib.hid o5; obtain ⟨va, vb, rfl, oa, ob, od5⟩ := o5; obtain ⟨p5, c5, rfl, _⟩ := own_in oa; obtain ⟨f5, l5, rfl, _⟩ := own_in ob; have OD5 := Lib.hid od5; clear b5 b45 oa ob od5; refine Hid.out ?_)
  refine Lib.hid ?_
  have e45 : (w4.alloc (Obj.cells #[.string s, .slice p4 cs.length c4, .slice f4 fs.length l4, .int .i64 d] 54)).heap.size = w4.heap.size + 1 := by simp
  have e34 : (w3.alloc (Obj.cells #[.string G.s, .slice pa G.cs.length ka, .slice pb G.fs.length kb, .int .i64 G.d] 54)).heap.size = w3.heap.size + 1 := by simp
  rw [e45] at G5
  rw [e34] at OC5 OF5
  have A855 := Lib.hid (A85.out.alloc (Obj.cells #[.string G.s, .slice p5 G.cs.length c5, .slice f5 G.fs.length l5, .int .i64 G.d] 54))
  obtain ⟨y0, y1, y2, y3, _⟩ := A855.out.all.1
  obtain ⟨z0, z1, z2, z3, _⟩ := A85.out.all.1
  go_wp2_with (go_at_call 48; refine (HEQ.out _ _ G _ (Lib.hid (G5.out.cfg.below (one_new2 _ _))) (Lib.hid (G3.out.below A855.out.all.2)) GM).mono ?_; rintro e w6 ⟨rfl, b6⟩; have b56 := (one_new2 w5 (Obj.cells #[.string G.s, .slice p5 G.cs.length c5, .slice f5 G.fs.length l5, .int .i64 G.d] 54)).trans (b6.mono (by simp)); have A6 := Lib.hid (A5.out.on b56); have A86 := Lib.hid (A85.out.on b56); have S6 := Lib.hid (S5.out.below b56); have X6 := Lib.hid (X5.out.on b56); have G6 := Lib.hid (G5.out.on b56); have OC6 := Lib.hid (own_low OC5.out b56 (Nat.le_refl _)); have OF6 := Lib.hid (own_low OF5.out b56 (Nat.le_refl _)); have Y6 := Lib.hid (box_four b6).1; have hs56 : w5.heap.size + 1 ≤ w6.heap.size := (Nat.le_trans (by simp) b6.size); clear b6 b56 y0 y1 y2 y3 z0 z1 z2 z3; refine Hid.out ?_)
  refine Lib.hid ?_
  have HAB : Hid (∀ w', BX w6 w' → Aft w (Obj.cells #[.string s, .slice ac cs.length cc, .slice af fs.length cf, .int .i64 d] 76) w') := Lib.hid (fun w' h => A6.out.on h)
  have HQ : Hid (∀ w', BX w6 w' → w'.cell? ⟨w.heap.size, 0, none⟩ = some (.string s) ∧ w'.cell? ⟨w.heap.size, 1, none⟩ = some (.slice ac cs.length cc) ∧ w'.cell? ⟨w.heap.size, 2, none⟩ = some (.slice af fs.length cf) ∧ w'.cell? ⟨w.heap.size, 3, none⟩ = some (.int .i64 d) ∧ w'.cell? ⟨w4.heap.size, 0, none⟩ = some (.string s) ∧ w'.cell? ⟨w4.heap.size, 1, none⟩ = some (.slice p4 cs.length c4) ∧ w'.cell? ⟨w4.heap.size, 2, none⟩ = some (.slice f4 fs.length l4) ∧ w'.cell? ⟨w4.heap.size, 3, none⟩ = some (.int .i64 d) ∧ BX w6 w') := Lib.hid (fun w' h => by
    obtain ⟨e0, e1, e2, e3, _⟩ := (HAB.out w' h).all.1
    obtain ⟨x0, x1, x2, x3, _⟩ := X6.out.on h
    exact ⟨e0, e1, e2, e3, x0, x1, x2, x3, h⟩)
  go_wp2_with fail
  refine wp_region_held_drew (S := fun w' => w'.cell? ⟨w.heap.size, 0, none⟩ = some (.string s) ∧ w'.cell? ⟨w.heap.size, 1, none⟩ = some (.slice ac cs.length cc) ∧ w'.cell? ⟨w.heap.size, 2, none⟩ = some (.slice af fs.length cf) ∧ w'.cell? ⟨w.heap.size, 3, none⟩ = some (.int .i64 d) ∧ w'.cell? ⟨w4.heap.size, 0, none⟩ = some (.string s) ∧ w'.cell? ⟨w4.heap.size, 1, none⟩ = some (.slice p4 cs.length c4) ∧ w'.cell? ⟨w4.heap.size, 2, none⟩ = some (.slice f4 fs.length l4) ∧ w'.cell? ⟨w4.heap.size, 3, none⟩ = some (.int .i64 d) ∧ BX w6 w') (by kernel_rfl) ?_ (fun hHeld => ?_)
  · (try dsimp only)
    (first | (go_split_ands; refine HQ.out _ ?_; repeat' (with_reducible first | exact BX.drew0 _ | exact BX.refl _ | assumption | refine BX.call' (by assumption) ?_ | refine BX.drew ?_)))
  refine held_take (i := 0) (d := 41) (v := ?_) rfl rfl (by kernel_rfl) (by kernel_rfl) (by kernel_rfl) (fun _ _ _ h => h) (by rfl) ?_ (by assumption) ?_
  rotate_left
  · intro w hSw
    (try dsimp only at hSw)
    go_simp
    try with_reducible rfl
  try simp only [Act.put, List.setIfInBounds_toArray, List.set_cons_zero, List.set_cons_succ]
  refine held_take (i := 1) (d := 42) (v := ?_) rfl rfl (by kernel_rfl) (by kernel_rfl) (by kernel_rfl) (fun _ _ _ h => h) (by rfl) ?_ (by assumption) ?_
  rotate_left
  · intro w hSw
    (try dsimp only at hSw)
    go_simp
    try with_reducible rfl
  try simp only [Act.put, List.setIfInBounds_toArray, List.set_cons_zero, List.set_cons_succ]
  refine wpAnyH_ready (rs := [2]) (by kernel_rfl) (by simp) ?_
  refine AllReadyH.cons rfl (fun K' hK => ?_) AllReadyH.nil
  go_simp
  (first | (go_split_ands; (with_reducible refine (HTO.out _ (HA.out.below (HAB.out _ (by assumption)).all.2) M).mono ?_); rintro e w7 ⟨v7, rfl, s7, b7⟩; have S7 := Lib.hid s7.cfg; clear s7) | (go_split_ands; (with_reducible refine (HEQ.out _ _ _ _ (Lib.hid (S6.out.below (bx_below (by assumption)))) S7 M).mono ?_); rintro e w8 ⟨rfl, b8⟩))
  refine hK.out _ _ ?_ (fun hHeld => ?_)
  · (try dsimp only)
    (first | (go_split_ands; refine HQ.out _ ?_; repeat' (with_reducible first | exact BX.drew0 _ | exact BX.refl _ | assumption | refine BX.call' (by assumption) ?_ | refine BX.drew ?_)))
  clear hK K'
  try simp only [Act.put, List.setIfInBounds_toArray, List.set_cons_zero, List.set_cons_succ]
  refine wpAnyH_ready (rs := [3]) (by kernel_rfl) (by simp) ?_
  refine AllReadyH.cons rfl (fun K' hK => ?_) AllReadyH.nil
  go_simp
  (first | (go_split_ands; (with_reducible refine (HTO.out _ (HA.out.below (HAB.out _ (by assumption)).all.2) M).mono ?_); rintro e w7 ⟨v7, rfl, s7, b7⟩; have S7 := Lib.hid s7.cfg; clear s7) | (go_split_ands; (with_reducible refine (HEQ.out _ _ _ _ (Lib.hid (S6.out.below (bx_below (by assumption)))) S7 M).mono ?_); rintro e w8 ⟨rfl, b8⟩))
  refine hK.out _ _ ?_ (fun hHeld => ?_)
  · (try dsimp only)
    (first | (go_split_ands; refine HQ.out _ ?_; repeat' (with_reducible first | exact BX.drew0 _ | exact BX.refl _ | assumption | refine BX.call' (by assumption) ?_ | refine BX.drew ?_)))
  clear hK K'
  try simp only [Act.put, List.setIfInBounds_toArray, List.set_cons_zero, List.set_cons_succ]
  refine held_take (i := 4) (d := 45) (v := ?_) rfl rfl (by kernel_rfl) (by kernel_rfl) (by kernel_rfl) (fun _ _ _ h => h) (by rfl) ?_ (by assumption) ?_
  rotate_left
  · intro w hSw
    (try dsimp only at hSw)
    go_simp
    try with_reducible rfl
  try simp only [Act.put, List.setIfInBounds_toArray, List.set_cons_zero, List.set_cons_succ]
  refine wpAnyH_done (by kernel_rfl) ?_ _
  go_split_ands
  have h68 : BX w6 w8 := by assumption
  have A8 := Lib.hid (HAB.out w8 h68)
  have A88 := Lib.hid (A86.out.on (bx_below h68))
  have G8 := Lib.hid (G6.out.on (bx_below h68))
  have Y8 := Lib.hid (Y6.out.on (bx_below h68))
  have OC8 := Lib.hid (own_low OC6.out (bx_below h68) (Nat.le_refl _))
  have OF8 := Lib.hid (own_low OF6.out (bx_below h68) (Nat.le_refl _))
  have hs68 := BX.size h68
  have hB8 : w3.heap.size + 1 ≤ w8.heap.size := by omega
  have hw3 : w.heap.size + 1 ≤ w3.heap.size := A3.out.all.1.2.2.2.2
  have hw4 : w.heap.size + 1 ≤ w4.heap.size + 1 := by omega
  have hw5 : w3.heap.size + 1 ≤ w4.heap.size + 1 := by omega
  have hkm : decide (1 + 8 * (cs.length : Int) + 5 * (fs.length : Int) < 0) = false := not_lt (by omega)
  have hkg : decide (1 + 8 * (G.cs.length : Int) + 5 * (G.fs.length : Int) < 0) = false := not_lt (by omega)
  have HN4 : Hid (∀ g, w4.heap.size ≤ g → (Value.slice p4 cs.length c4).ownBlock ≠ some g ∧ (Value.slice f4 fs.length l4).ownBlock ≠ some g) := Lib.hid (fun g h => by
    refine ⟨fun q => ?_, fun q => ?_⟩
    · have := (World.ownsRow.lt OC.out g q).2; omega
    · have := (World.ownsRow.lt OF.out g q).2; omega)
  have HN5 : Hid ((Value.slice p5 G.cs.length c5).ownBlock ≠ some w5.heap.size ∧ (Value.slice f5 G.fs.length l5).ownBlock ≠ some w5.heap.size) := Lib.hid (by
    obtain ⟨va, vb, hv, oa, ob, _⟩ := G5.out
    simp only [Value.agg.injEq, Array.mk.injEq, List.cons.injEq, and_true, true_and] at hv
    obtain ⟨rfl, rfl⟩ := hv
    exact ⟨fun q => absurd (World.ownsRow.lt oa _ q).2 (Nat.lt_irrefl _), fun q => absurd (World.ownsRow.lt ob _ q).2 (Nat.lt_irrefl _)⟩)
  have HMC := Lib.hid (markConfig_any s p4 f4 cs.length fs.length c4 l4 d (w3.heap.size + 1) _ _ w8 OC8 OF8 OD hB8 hcl hfl)
  have hgl4 : w4.heap.size ≤ w5.heap.size := by omega
  have hgl8 : w5.heap.size < w8.heap.size := by omega
  have hb45 : w4.heap.size + 1 ≤ w5.heap.size := hs45
  clear hs56 hs68 S6 X6 X5 S5
  go_wp2_with (go_at_call 49; refine HMC.out.mono ?_; rintro e w9 ⟨rfl, b9, o9⟩; refine Hid.out ?_)
  refine Lib.hid ?_
  have A9 := Lib.hid (A8.out.up (b9.mono (by omega)))
  have A89 := Lib.hid (A88.out.up b9)
  have G9 := Lib.hid (OwnCfg.heap G8.out (fun g h h' => o9 g h' (HN4.out g (by omega)).1 (HN4.out g (by omega)).2))
  have Y9 := Lib.hid (FourIs.heap Y8.out (o9 _ hgl8 (HN4.out _ hgl4).1 (HN4.out _ hgl4).2) b9.size)
  have hs89 := b9.size
  clear b9 o9
  obtain ⟨y0, y1, y2, y3, _⟩ := Y9.out
  obtain ⟨z0, z1, z2, z3, _⟩ := A89.out.all.1
  go_wp2_with (go_at_call 48; refine (HEQ.out _ _ G _ (Lib.hid G9.out.cfg) (Lib.hid (G3.out.below A89.out.all.2)) GM).mono ?_; rintro e w10 ⟨rfl, b10⟩; have A10 := Lib.hid (A9.out.on b10); have A810 := Lib.hid (A89.out.on b10); have G10 := Lib.hid (G9.out.on b10); have Y10 := Lib.hid (Y9.out.on b10); have hs910 := b10.size; clear b10 y0 y1 y2 y3 z0 z1 z2 z3; refine Hid.out ?_)
  refine Lib.hid ?_
  obtain ⟨va, vb, hv, oa, ob, _⟩ := G10.out
  simp only [Value.agg.injEq, Array.mk.injEq, List.cons.injEq, and_true, true_and] at hv
  obtain ⟨rfl, rfl⟩ := hv
  have HMG := Lib.hid (markConfig_all G.s p5 f5 G.cs.length G.fs.length c5 l5 G.d (w4.heap.size + 1) _ _ w10 (Lib.hid oa) (Lib.hid ob) OD5 (by omega) gcl gfl)
  have HHG := Lib.hid (fun w h h' => heldConfig_any G.s p5 f5 G.cs.length G.fs.length c5 l5 G.d (w4.heap.size + 1) w h h' gcl gfl)
  have hg10 : w5.heap.size < w10.heap.size := by omega
  clear oa ob
  obtain ⟨y0, y1, y2, y3, _⟩ := Y10.out
  go_wp2_with (go_at_call 49; refine HMG.out.mono ?_; rintro e w11 ⟨rfl, oa, ob, b11, o11⟩; have A11 := Lib.hid (A10.out.up (b11.mono hw4)); have A811 := Lib.hid (A810.out.up (b11.mono hw5)); have Y11 := Lib.hid (FourIs.heap Y10.out (o11 _ hg10 HN5.out.1 HN5.out.2) b11.size); have OA11 := Lib.hid oa; have OB11 := Lib.hid ob; clear b11 o11 oa ob y0 y1 y2 y3; refine Hid.out ?_)
  refine Lib.hid ?_
  obtain ⟨y0, y1, y2, y3, _⟩ := Y11.out
  go_wp2_with (go_at_call 50; refine (HHG.out _ OA11 OB11).mono ?_; rintro e w12 ⟨rfl, b12⟩; have A12 := Lib.hid (A11.out.on b12); have A812 := Lib.hid (A811.out.on b12); have Y12 := Lib.hid (Y11.out.on b12); have OA12 := Lib.hid (own_low OA11.out b12 (Nat.le_refl _)); have OB12 := Lib.hid (own_low OB11.out b12 (Nat.le_refl _)); clear b12 y0 y1 y2 y3; refine Hid.out ?_)
  refine Lib.hid ?_
  obtain ⟨y0, y1, y2, y3, _⟩ := A12.out.all.1
  go_wp2_with (go_at_call 47; refine (HTO.out _ (HA.out.below A12.out.all.2) M).mono ?_; rintro e w13 ⟨v13, rfl, s13, b13⟩; have A13 := Lib.hid (A12.out.on b13); have A813 := Lib.hid (A812.out.on b13); have Y13 := Lib.hid (Y12.out.on b13); have OA13 := Lib.hid (own_low OA12.out b13 (Nat.le_refl _)); have OB13 := Lib.hid (own_low OB12.out b13 (Nat.le_refl _)); have S13 := Lib.hid s13; clear b13 s13 y0 y1 y2 y3)
  go_wp2_with (go_at_call 32; refine (HIM.out _ _ _ (Lib.hid (HT.out.below A13.out.all.2)) S13 M).mono ?_; rintro e w14 ⟨v14, rfl, o14, b14⟩; have A14 := Lib.hid (A13.out.on b14); have A814 := Lib.hid (A813.out.on b14); have Y14 := Lib.hid (Y13.out.on b14); have OA14 := Lib.hid (own_low OA13.out b14 (Nat.le_refl _)); have OB14 := Lib.hid (own_low OB13.out b14 (Nat.le_refl _)); have G14 := Lib.hid o14.cfg; obtain ⟨va, vb, rfl, oa, ob, _⟩ := o14; obtain ⟨p14, c14, rfl, _⟩ := own_in oa; obtain ⟨f14, l14, rfl, _⟩ := own_in ob; clear b14 oa ob; refine Hid.out ?_)
  refine Lib.hid ?_
  have A8144 := Lib.hid (A814.out.alloc (Obj.cells #[.string G.s, .slice p14 G.cs.length c14, .slice f14 G.fs.length l14, .int .i64 G.d] 54))
  obtain ⟨y0, y1, y2, y3, _⟩ := A8144.out.all.1
  obtain ⟨z0, z1, z2, z3, _⟩ := A814.out.all.1
  go_wp2_with (go_at_call 48; refine (HEQ.out _ _ G _ (Lib.hid (G14.out.below (one_new2 _ _))) (Lib.hid (G3.out.below A8144.out.all.2)) GM).mono ?_; rintro e w15 ⟨rfl, b15⟩; have b1415 := (one_new2 w14 (Obj.cells #[.string G.s, .slice p14 G.cs.length c14, .slice f14 G.fs.length l14, .int .i64 G.d] 54)).trans (b15.mono (by simp)); have A15 := Lib.hid (A14.out.on b1415); have Y15 := Lib.hid (Y14.out.on b1415); have OA15 := Lib.hid (own_low OA14.out b1415 (Nat.le_refl _)); have OB15 := Lib.hid (own_low OB14.out b1415 (Nat.le_refl _)); clear b15 b1415 y0 y1 y2 y3 z0 z1 z2 z3; refine Hid.out ?_)
  refine Lib.hid ?_
  obtain ⟨y0, y1, y2, y3, _⟩ := Y15.out
  go_wp2_with (go_at_call 50; refine (HHG.out _ OA15 OB15).mono ?_; rintro e w16 ⟨rfl, b16⟩; have A16 := Lib.hid (A15.out.on b16); clear b16)
  go_ret
  exact ⟨rfl, A16.out.all.2⟩

theorem contract (H : Type) (enc : TypeId × Value → H) (W : World) (base : Nat) (args : Array Value) (ds gs : List (DataW H)) (before : List MemPlace)
    (hval : ∀ (j : Nat) t v, Tryz.f5.params[j]? = some t → args[j]? = some v → Value.okWide Tryz.prog W .any base t v)
    (hW : DataW.Whole enc Tryz.prog Tryz.f5.params.toList Rows.fnExactOrderConfigSpec.vars false W args.toList ds gs before) (hL : laidMetH Tryz.prog Rows.fnExactOrderConfigRow.laid W) :
    Calls Tryz.prog 5 args W fun e W' => ∃ v, e = .returned v ∧ Rows.fnExactOrderConfigSpec.post enc Tryz.prog Tryz.f5 false true false false W args v W' := by
  have hW' := hW
  obtain ⟨p, q, hA0, hV, rfl, hfz, hnd⟩ := hW
  have hA : DataW.TrodAll enc Tryz.prog W 0 (fun _ => true) true Tryz.f5.params.toList args.toList ds p := hA0
  rw [Tryz.params5] at hA hval
  obtain ⟨v0, vs0, d0, ds0, p0, q0, hargs, rfl, rfl, h0, r0⟩ := trodAll_cons hA
  obtain ⟨rfl, rfl, rfl⟩ := trodAll_nil r0
  obtain rfl : args = #[v0] := by cases args; simp_all
  have k0 := h0
  have lt0 : ∀ x ∈ p0, x.block < W.heap.size := by obtain ⟨m, hm⟩ := k0; exact DataW.trod_lt m _ _ _ hm
  obtain ⟨c0, hc0⟩ := open_cfg (hval 0 76 v0 rfl rfl) h0
  have hV2 := hV
  obtain ⟨gV, tV, cV, fV, dV, pV, rfl, _, _, _, _, rfl⟩ := trodVars_one hV
  clear hA0
  refine (walk W (kwt_of_head hL) v0 c0 hc0).mono fun e W' ⟨he, bel⟩ => ?_
  subst he
  exact ⟨_, rfl, _, _, _, [], _, _, hW', trodAll_mk1 (shut_bool Tryz.underlying4 _), (trodAll_cons_mk (Below.trod laidOut (by kernel_rfl) (of_decide_eq_true (by kernel_rfl)) k0 bel lt0) trodAll_mk0), Below.trodVars laidOut bel (by kernel_rfl) hV2, bel.frame _, fun h => by cases h⟩

theorem laid_met (os : Os) : laidMet Tryz.prog Rows.fnExactOrderConfigRow.laid ((laidWorldK os).forCall (fun _ _ => 0) ⟨#[], #[.agg #[.string ByteArray.empty, .slice none 0 0, .slice none 0 0, .int .i64 0]], []⟩).memory :=
  laidMet_of_run' 8 (by kernel_rfl) (by kernel_rfl)
theorem reads (os : Os) {H : Type} (enc : TypeId × Value → H) : ∃ places, DataW.whole enc Tryz.prog ((laidWorldK os).forCall (fun _ _ => 0) ⟨#[], #[.agg #[.string ByteArray.empty, .slice none 0 0, .slice none 0 0, .int .i64 0]], []⟩).memory Tryz.f5.params.toList Rows.fnExactOrderConfigSpec.vars false (#[.agg #[.string ByteArray.empty, .slice none 0 0, .slice none 0 0, .int .i64 0]] : Array Value).toList 8 = some ([.agg [.lit (.string []), .nil, .nil, .lit (.int .i64 0)]], [Rows.laid_loop_example_g00838_impl_keyWords], places) :=
  ⟨[.cell 0 0, .cell 0 1, .cell 0 2, .cell 0 3, .cell 0 4, .cell 0 5, .cell 0 6, .cell 0 7, .cell 0 8, .cell 0 9, .cell 0 10, .cell 0 11, .cell 0 12, .cell 0 13], by kernel_rfl⟩

set_option maxRecDepth 100000 in
theorem lifted (os : Os) (started : os.Started) (H : Type) (enc : TypeId × Value → H) (F : Stop.Interp) :
    ReturnsInHanded {} Tryz.checked os 5 .any ((OpenSpec.ofChange Rows.fnExactOrderConfigSpec).preRow enc Tryz.prog Tryz.f5 Rows.fnExactOrderConfigRow.domain false Rows.fnExactOrderConfigRow.laid) (((OpenSpec.ofChange Rows.fnExactOrderConfigSpec).at F).post enc Tryz.prog Tryz.f5 false true false false) := by
  obtain ⟨places, hx⟩ := reads os enc
  refine returnsInHanded_of_row (C := Tryz.checked) (s := OpenSpec.ofChange Rows.fnExactOrderConfigSpec) own started (by kernel_rfl) Tryz.func5
    (witness_row_at (enc := enc) (C := Tryz.checked) false (laidWorldK os) #[.agg #[.string ByteArray.empty, .slice none 0 0, .slice none 0 0, .int .i64 0]] rfl (by kernel_rfl) (by kernel_rfl) (by kernel_rfl)
      (OpenSpec.preRow_of_cond 8 hx (by kernel_rfl) (fun k hk => by cases hk) (by kernel_rfl) (laid_met os))) ?_
  intro W base args ds gs before hval hW _ _ _ hL _ _
  exact contract H enc W base args ds gs before hval hW hL

theorem said : Rows.FnExactOrderConfigSaid :=
  OpenClaim.holds_of_cond 5 Tryz.f5 rfl rfl rfl rfl rfl rfl rfl ⟨rfl, rfl, rfl, rfl, rfl⟩ rfl rfl rfl rfl rfl (by kernel_rfl) Tryz.func5 (by kernel_rfl)
    (of_decide_eq_true (by kernel_rfl)) (by unfold Func.isWrapper; first | (rw [if_pos (by decide +kernel)]; kernel_rfl) | (rw [if_neg (by decide +kernel)]; exact ⟨rfl, rfl⟩))
    (fun os started H enc _ F => by rw [OpenClaim.pre_eq_preRow]; exact lifted os started H enc F)

theorem plain (f : FuncId) (fn : Func) (hf : Tryz.pinned.checked.prog.funcNamed "loop.example/g00838/laws.FnExactOrderConfig" = some f) (hfn : Tryz.pinned.checked.prog.funcs[f]? = some fn) :
    false = Tryz.pinned.checked.prog.looks [] ∧ ∀ (j : Nat) t, fn.params[j]? = some t → Tryz.pinned.checked.prog.wantsStandIn t = false := by
  obtain rfl : f = 5 := Option.some.inj ((show Tryz.prog.funcNamed "loop.example/g00838/laws.FnExactOrderConfig" = some 5 by kernel_rfl).symm.trans hf) |>.symm
  obtain rfl : fn = Tryz.f5 := (Option.some.inj (Tryz.func5.symm.trans hfn)).symm
  refine ⟨by kernel_rfl, fun j t ht => ?_⟩
  rw [Tryz.params5] at ht
  have hm : t ∈ [76] := by simpa using Array.mem_of_getElem? ht
  have hall : ([76].all fun u => !Tryz.prog.wantsStandIn u) = true := by kernel_rfl
  exact (show Tryz.prog.wantsStandIn t = false by simpa using List.all_eq_true.1 hall t hm)

theorem proved : Rows.FnExactOrderConfigCardSaid :=
  Claim7.holds_tied_plain_at .later [] _ _ _ _ said (fun _ h => by cases h) (by kernel_rfl) (fun _ h => by cases h) fnExactOrderConfig_row_tie rfl ⟨rfl, rfl⟩ (by kernel_rfl) rfl plain (by kernel_rfl)
end Go.Proofs.YtdmcgjohpnojkaaGreatDoor.fnExactOrderConfig
