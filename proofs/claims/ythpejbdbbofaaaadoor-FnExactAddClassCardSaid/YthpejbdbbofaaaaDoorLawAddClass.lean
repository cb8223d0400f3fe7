/- For every configuration and class, impl.AddClass answers as its model does, writes into no argument and owns its answer: the law FnExactAddClass returns true. The table of key words starts as the program's text lays it (the card ties it). No other condition. -/
import Derived.Test.YthpejbdbbofaaaaDoorCards
import Derived.Test.YthpejbdbbofaaaaDoorTie
import Derived.Test.YthpejbdbbofaaaaDoorKwl
import Derived.Test.YthpejbdbbofaaaaDoorCgs
import Derived.Test.YthpejbdbbofaaaaDoorCgi
import Derived.Test.YthpejbdbbofaaaaDoorCgo
import Derived.Test.YthpejbdbbofaaaaDoorCgc
import Derived.Test.YthpejbdbbofaaaaDoorCfq
import Derived.Test.YthpejbdbbofaaaaDoorBxw
import Derived.Deep.CutRange
import Derived.Deep.RegionHeld3
import Derived.ProofKit
import Derived.OpenShut
import Derived.ShutString
import Derived.ChangeOld
import Derived.ChangeVars
import Derived.Carry
import Derived.Deep.DeepHandedRow
namespace Go.Proofs.YthpejbdbbofaaaaDoor.fnExactAddClass
set_option maxRecDepth 100000
open Go.ChangeShapes Go.WideShapes Go.ChangeAt Go.RowKit
set_option linter.unusedVariables false
set_option linter.unusedSimpArgs false

theorem bx_below {wb w' : World} (h : BX wb w') : Below wb.heap.size wb w' := h
theorem OwnCfg.heap {w w' : World} {B : Nat} {v : Value} {c : Cfg} (h : OwnCfg w B v c) (ho : ∀ g, B ≤ g → g < w.heap.size → w'.heap[g]? = w.heap[g]?) : OwnCfg w' B v c := by
  obtain ⟨vc, vf, hv, a, b, d⟩ := h
  exact ⟨vc, vf, hv, own_heap a (fun g hg => ho g (World.ownsRow.lt a g hg).1 (World.ownsRow.lt a g hg).2), own_heap b (fun g hg => ho g (World.ownsRow.lt b g hg).1 (World.ownsRow.lt b g hg).2), d⟩
theorem FourIs.heap {w w' : World} {b : Nat} {a0 a1 a2 a3 : Value} (h : FourIs w b a0 a1 a2 a3) (e : w'.heap[b]? = w.heap[b]?) (hs : w.heap.size ≤ w'.heap.size) : FourIs w' b a0 a1 a2 a3 := by
  obtain ⟨h0, h1, h2, h3, hb⟩ := h
  exact ⟨(cell_heap e 0).trans h0, (cell_heap e 1).trans h1, (cell_heap e 2).trans h2, (cell_heap e 3).trans h3, Nat.lt_of_lt_of_le hb hs⟩
theorem FourIs.up {w w1 : World} {b n : Nat} {a0 a1 a2 a3 : Value} (h : FourIs w b a0 a1 a2 a3) (hb : Below n w w1) (hn : b < n) : FourIs w1 b a0 a1 a2 a3 := by
  obtain ⟨h0, h1, h2, h3, hl⟩ := h
  exact ⟨(hb.cell (p := ⟨b, 0, none⟩) hn).trans h0, (hb.cell (p := ⟨b, 1, none⟩) hn).trans h1, (hb.cell (p := ⟨b, 2, none⟩) hn).trans h2, (hb.cell (p := ⟨b, 3, none⟩) hn).trans h3, Nat.lt_of_lt_of_le hl hb.size⟩
/-- both boxed arguments lie as they were laid -/
def TwoB (w : World) (a0 a1 a2 a3 : Value) (x : Cls) (wr : World) : Prop := FourIs wr w.heap.size a0 a1 a2 a3 ∧ EightB wr (w.heap.size + 1) x ∧ w.heap.size + 2 ≤ wr.heap.size ∧ Below w.heap.size w wr
theorem TwoB.bel {w wr : World} {a0 a1 a2 a3 : Value} {x : Cls} (h : TwoB w a0 a1 a2 a3 x wr) : Below w.heap.size w wr := h.2.2.2
theorem TwoB.new (w : World) (a0 a1 a2 a3 : Value) (t1 t2 : TypeId) (x : Cls) : TwoB w a0 a1 a2 a3 x ((w.alloc (.cells #[a0, a1, a2, a3] t1)).alloc (.cells #[.int .i64 x.i, .int .i64 x.p, .int .i64 x.r, .int .i64 x.e, .int .i64 x.b, .int .i64 x.u, .int .i64 x.o, .int .i64 x.l] t2)) := by
  have e1 : (w.alloc (.cells #[a0, a1, a2, a3] t1)).heap.size = w.heap.size + 1 := by simp
  have c1 := one_new2 (w.alloc (.cells #[a0, a1, a2, a3] t1)) (.cells #[.int .i64 x.i, .int .i64 x.p, .int .i64 x.r, .int .i64 x.e, .int .i64 x.b, .int .i64 x.u, .int .i64 x.o, .int .i64 x.l] t2)
  have x8 := eight_new (w.alloc (.cells #[a0, a1, a2, a3] t1)) x t2
  rw [e1] at x8
  exact ⟨(box_four c1).1, x8, by simp, (box_four c1).2⟩
theorem TwoB.up {w wr w1 : World} {a0 a1 a2 a3 : Value} {x : Cls} (h : TwoB w a0 a1 a2 a3 x wr) (b : Below (w.heap.size + 2) wr w1) : TwoB w a0 a1 a2 a3 x w1 :=
  ⟨FourIs.up h.1 b (by omega), h.2.1.on2 b (by omega), Nat.le_trans h.2.2.1 b.size, h.2.2.2.trans (b.mono (by omega))⟩
theorem TwoB.on {w wr w1 : World} {a0 a1 a2 a3 : Value} {x : Cls} (h : TwoB w a0 a1 a2 a3 x wr) (b : Below wr.heap.size wr w1) : TwoB w a0 a1 a2 a3 x w1 := h.up (b.mono h.2.2.1)
theorem zer_fresh (u : World) (t : TypeId) : Zer (u.alloc (.cells #[.string ⟨#[]⟩, .slice none 0 0, .slice none 0 0, .int .i64 0] t)) u.heap.size := ⟨(box_four (Below.refl _ _)).1, fun o => by simp⟩
theorem own_ne {w : World} {B n m k l : Nat} {s : ByteArray} {p q : Option Addr} {d : Int} {G : Cfg} (h : OwnCfg w B (.agg #[.string s, .slice p n k, .slice q m l, .int .i64 d]) G) :
    (∀ g, (Value.slice p n k).ownBlock = some g → g ≠ w.heap.size) ∧ (∀ g, (Value.slice q m l).ownBlock = some g → g ≠ w.heap.size) := by
  obtain ⟨va, vb, hv, oa, ob, _⟩ := h
  simp only [Value.agg.injEq, Array.mk.injEq, List.cons.injEq, and_true, true_and] at hv
  obtain ⟨_, rfl, rfl, _⟩ := hv
  exact ⟨fun g q => Nat.ne_of_lt (World.ownsRow.lt oa g q).2, fun g q => Nat.ne_of_lt (World.ownsRow.lt ob g q).2⟩
theorem own_ge {w : World} {B b n m k l : Nat} {s : ByteArray} {p q : Option Addr} {d : Int} {G : Cfg} (h : OwnCfg w B (.agg #[.string s, .slice p n k, .slice q m l, .int .i64 d]) G) (hb : b < B) :
    (∀ g, (Value.slice p n k).ownBlock = some g → g ≠ b) ∧ (∀ g, (Value.slice q m l).ownBlock = some g → g ≠ b) := by
  obtain ⟨va, vb, hv, oa, ob, _⟩ := h
  simp only [Value.agg.injEq, Array.mk.injEq, List.cons.injEq, and_true, true_and] at hv
  obtain ⟨_, rfl, rfl, _⟩ := hv
  exact ⟨fun g q => Nat.ne_of_gt (Nat.lt_of_lt_of_le hb (World.ownsRow.lt oa g q).1), fun g q => Nat.ne_of_gt (Nat.lt_of_lt_of_le hb (World.ownsRow.lt ob g q).1)⟩
/-- what a drawn region leaves: the answer in a box of its own, and the second result -/
def AdR (W : World) (G : Cfg) (g2 : Bool) (x y : Value) (wx : World) : Prop :=
  ∃ b pa ka pb kb, x = .pointer (some ⟨b, 0, none⟩) ∧ y = .bool g2 ∧ W.heap.size ≤ b ∧ Below W.heap.size W wx ∧ FourIs wx b (.string G.s) (.slice pa G.cs.length ka) (.slice pb G.fs.length kb) (.int .i64 G.d) ∧
    OwnCfg wx W.heap.size (.agg #[.string G.s, .slice pa G.cs.length ka, .slice pb G.fs.length kb, .int .i64 G.d]) G ∧ (∀ g, (Value.slice pa G.cs.length ka).ownBlock = some g → g ≠ b) ∧ (∀ g, (Value.slice pb G.fs.length kb).ownBlock = some g → g ≠ b)
theorem ad_meet {W u : World} {b ka kb : Nat} {G : Cfg} {g2 : Bool} {pa pb : Option Addr} (hx : Below W.heap.size W u) (hz : Zer u b) (hw : W.heap.size ≤ b) (ho : OwnCfg u W.heap.size (.agg #[.string G.s, .slice pa G.cs.length ka, .slice pb G.fs.length kb, .int .i64 G.d]) G)
    (na : ∀ g, (Value.slice pa G.cs.length ka).ownBlock = some g → g ≠ b) (nb : ∀ g, (Value.slice pb G.fs.length kb).ownBlock = some g → g ≠ b) :
    AdR W G g2 (.pointer (some ⟨b, 0, none⟩)) (.bool g2) ((((u.setCell ⟨b, 0, none⟩ (.string G.s)).setCell ⟨b, 1, none⟩ (.slice pa G.cs.length ka)).setCell ⟨b, 2, none⟩ (.slice pb G.fs.length kb)).setCell ⟨b, 3, none⟩ (.int .i64 G.d)) := by
  obtain ⟨r0, r1, r2, r3⟩ := read4 hz.four (.string G.s) (.slice pa G.cs.length ka) (.slice pb G.fs.length kb) (.int .i64 G.d) _ rfl
  have hl := hz.1.2.2.2.2
  obtain ⟨va, vb, hv, oa, ob, od⟩ := ho
  simp only [Value.agg.injEq, Array.mk.injEq, List.cons.injEq, and_true, true_and] at hv
  obtain ⟨rfl, rfl⟩ := hv
  exact ⟨b, pa, ka, pb, kb, rfl, rfl, hw, set4 hx _ hw _ _ _ _, ⟨r0, r1, r2, r3, by simpa [Go.Deep.nblk_setCell] using hl⟩, ⟨_, _, rfl, own_far4 oa na _ _ _ _, own_far4 ob nb _ _ _ _, od⟩, na, nb⟩
set_option maxRecDepth 100000 in
set_option maxHeartbeats 12800000 in
theorem walk (w : World) (hT : Kwt w) (v : Value) (c : Cfg) (hc : ArgCfg w v c) (x : Cls) :
    Calls Tryd.prog 5 #[v, clsV x] w fun e w' => e = .returned (.bool true) ∧ Below w.heap.size w w' := by
  obtain ⟨ac, cc, af, cf, rfl, m0, m1, m2, ic, if_⟩ := hc
  have hc : ArgCfg w (.agg #[.string c.s, .slice ac c.cs.length cc, .slice af c.fs.length cf, .int .i64 c.d]) c := ⟨ac, cc, af, cf, rfl, m0, m1, m2, ic, if_⟩
  have HT := Lib.hid hT
  have HZ := Lib.hid (fun w h => szConfig_any _ c w (Lib.hid (show ArgCfg w (.agg #[.string c.s, .slice ac c.cs.length cc, .slice af c.fs.length cf, .int .i64 c.d]) c from h)))
  have HTO := Lib.hid (fun w h HM => toConfig_any _ c w (Lib.hid (show ArgCfg w (.agg #[.string c.s, .slice ac c.cs.length cc, .slice af c.fs.length cf, .int .i64 c.d]) c from h)) HM)
  have HTX := Lib.hid (fun w => toClass_any x w)
  have HEQ := Lib.hid (fun v v' c w h h' HM => eqConfig_any v v' c w h h' HM)
  have HSP := Lib.hid (fun v B w h HM => specAddClass_any v c B x w h HM)
  have HIM := Lib.hid (fun v B w hk h HM => implAddClass_any v c B x w hk h HM)
  have HGM := Lib.hid (fun HM => lenAddClass c x HM)
  generalize resAddClass1 c x = G at HSP HIM HGM
  generalize resAddClass2 c x = g2 at HSP HIM
  have HA := Lib.hid hc
  clear hT hc ic if_ m0 m1 m2
  obtain ⟨s, cs, fs, d⟩ := c
  obtain ⟨xi, xp, xr, xe, xb, xu, xo, xl⟩ := x
  unfold clsV at HTX HSP HIM ⊢
  simp only at HZ HTO HA HTX HSP HIM ⊢
  have A0 := Lib.hid (TwoB.new w (.string s) (.slice ac cs.length cc) (.slice af fs.length cf) (.int .i64 d) 66 67 ⟨xi, xp, xr, xe, xb, xu, xo, xl⟩)
  simp only at A0
  go_enter Tryd.func5, Tryd.ntmps5
  go_wp2_with (go_at_call 37; refine (HZ.out _ (HA.out.below A0.out.2.2.2)).mono ?_; rintro e w1 ⟨r0, rfl, b1, q1⟩; have A1 := Lib.hid (A0.out.on b1); have Q1 := Lib.hid q1; clear b1 q1; refine Hid.out ?_)
  refine Lib.hid ?_
  by_cases h : r0 < 0
  · have dr := is_lt h
    go_wp2_with fail
    go_ret
    exact ⟨rfl, A1.out.2.2.2⟩
  have dr := not_lt (Int.not_lt.1 h)
  have M := Lib.hid (Q1.out (by omega))
  have hcl : cs.length ≤ 1048576 := M.out.2.1
  have hfl : fs.length ≤ 1048576 := M.out.2.2
  have GM := Lib.hid (HGM.out M.out)
  have gcl : G.cs.length ≤ 1048576 := GM.out.2.1
  have gfl : G.fs.length ≤ 1048576 := GM.out.2.2
  clear h Q1 HZ HGM
  have hsz1 : w.heap.size + 2 ≤ w1.heap.size := A1.out.2.2.1
  have HB0 : Hid (∀ w', Below w1.heap.size w1 w' → Below w.heap.size w w') := Lib.hid (fun w' h => (A1.out.on h).2.2.2)
  have HQ : Hid (∀ w', Below w1.heap.size w1 w' → w'.cell? ⟨w.heap.size, 0, none⟩ = some (.string s) ∧ w'.cell? ⟨w.heap.size, 1, none⟩ = some (.slice ac cs.length cc) ∧ w'.cell? ⟨w.heap.size, 2, none⟩ = some (.slice af fs.length cf) ∧ w'.cell? ⟨w.heap.size, 3, none⟩ = some (.int .i64 d) ∧ w'.cell? ⟨w.heap.size + 1, 0, none⟩ = some (.int .i64 xi) ∧ w'.cell? ⟨w.heap.size + 1, 1, none⟩ = some (.int .i64 xp) ∧ w'.cell? ⟨w.heap.size + 1, 2, none⟩ = some (.int .i64 xr) ∧ w'.cell? ⟨w.heap.size + 1, 3, none⟩ = some (.int .i64 xe) ∧ w'.cell? ⟨w.heap.size + 1, 4, none⟩ = some (.int .i64 xb) ∧ w'.cell? ⟨w.heap.size + 1, 5, none⟩ = some (.int .i64 xu) ∧ w'.cell? ⟨w.heap.size + 1, 6, none⟩ = some (.int .i64 xo) ∧ w'.cell? ⟨w.heap.size + 1, 7, none⟩ = some (.int .i64 xl) ∧ Below w1.heap.size w1 w') := Lib.hid (fun w' h => by
    obtain ⟨⟨e0, e1, e2, e3, _⟩, ⟨f0, f1, f2, f3, f4, f5, f6, f7⟩, _⟩ := A1.out.on h
    exact ⟨e0, e1, e2, e3, f0, f1, f2, f3, f4, f5, f6, f7, h⟩)
  go_upto_region 5 with fail
  go_cut [6, 7] from 21 to 28 (fun x6 x7 wx => AdR w1 G g2 x6 x7 wx)
  case first =>
    refine wp_region_held_drew (S := fun w' => w'.cell? ⟨w.heap.size, 0, none⟩ = some (.string s) ∧ w'.cell? ⟨w.heap.size, 1, none⟩ = some (.slice ac cs.length cc) ∧ w'.cell? ⟨w.heap.size, 2, none⟩ = some (.slice af fs.length cf) ∧ w'.cell? ⟨w.heap.size, 3, none⟩ = some (.int .i64 d) ∧ w'.cell? ⟨w.heap.size + 1, 0, none⟩ = some (.int .i64 xi) ∧ w'.cell? ⟨w.heap.size + 1, 1, none⟩ = some (.int .i64 xp) ∧ w'.cell? ⟨w.heap.size + 1, 2, none⟩ = some (.int .i64 xr) ∧ w'.cell? ⟨w.heap.size + 1, 3, none⟩ = some (.int .i64 xe) ∧ w'.cell? ⟨w.heap.size + 1, 4, none⟩ = some (.int .i64 xb) ∧ w'.cell? ⟨w.heap.size + 1, 5, none⟩ = some (.int .i64 xu) ∧ w'.cell? ⟨w.heap.size + 1, 6, none⟩ = some (.int .i64 xo) ∧ w'.cell? ⟨w.heap.size + 1, 7, none⟩ = some (.int .i64 xl) ∧ Below w1.heap.size w1 w') (by kernel_rfl) ?_ (fun hHeld => ?_)
    · (try dsimp only)
      exact HQ.out _ (below_drewN (Below.refl _ _) 1)
    refine held_take (i := 0) (d := 22) (v := ?_) rfl rfl (by kernel_rfl) (by kernel_rfl) (by kernel_rfl) (fun _ _ _ h => h) (by rfl) ?_ (by assumption) ?_
    rotate_left
    · intro w hSw
      (try dsimp only at hSw)
      go_simp
      try with_reducible rfl
    try simp only [Act.put, List.setIfInBounds_toArray, List.set_cons_zero, List.set_cons_succ]
    refine held_take (i := 2) (d := 24) (v := ?_) rfl rfl (by kernel_rfl) (by kernel_rfl) (by kernel_rfl) (fun _ _ _ h => h) (by rfl) ?_ (by assumption) ?_
    rotate_left
    · intro w hSw
      (try dsimp only at hSw)
      go_simp
      try with_reducible rfl
    try simp only [Act.put, List.setIfInBounds_toArray, List.set_cons_zero, List.set_cons_succ]
    have BX0 : Hid (Below w1.heap.size w1 w1.drew) := Lib.hid (below_drewN (Below.refl _ _) 1)
    obtain ⟨u0, hu0⟩ : ∃ u0, w1.drew = u0 := ⟨_, rfl⟩
    rw [hu0] at hHeld BX0 ⊢
    clear hu0
    refine wpAnyH_ready (rs := [1, 8]) (by kernel_rfl) (by simp) ?_
    refine ((AllReadyH.cons rfl (fun K' hK => ?_) (AllReadyH.cons rfl (fun K' hK => ?_) AllReadyH.nil)))
    · skip
      go_simp
      go_at_call 39
      refine (HTO.out _ (HA.out.below (HB0.out _ BX0.out)) M).mono ?_
      rintro e u1 ⟨v1, rfl, o4, b4⟩
      have BX1 := Lib.hid (BX0.out.trans (b4.mono BX0.out.size))
      have SC1 := Lib.hid o4
      obtain ⟨va, vb, rfl, oa, ob, _⟩ := o4
      obtain ⟨p2, k2, rfl, _⟩ := own_in oa
      obtain ⟨p3, k3, rfl, _⟩ := own_in ob
      clear oa ob
      clear b4
      refine hK.out _ _ ?_ (fun hHeld => ?_)
      · (try dsimp only)
        exact HQ.out _ BX1.out
      clear hK K'
      try simp only [Act.put, List.setIfInBounds_toArray, List.set_cons_zero, List.set_cons_succ]
      refine wpAnyH_ready (rs := [3, 8]) (by kernel_rfl) (by simp) ?_
      refine ((AllReadyH.cons rfl (fun K' hK => ?_) (AllReadyH.cons rfl (fun K' hK => ?_) AllReadyH.nil)))
      · skip
        go_simp
        go_at_call 40
        refine (HTX.out _).mono ?_
        rintro e u2 ⟨rfl, b4⟩
        have BX2 := Lib.hid (BX1.out.trans (b4.mono BX1.out.size))
        have SC2 := Lib.hid (SC1.out.on b4)
        clear b4
        refine hK.out _ _ ?_ (fun hHeld => ?_)
        · (try dsimp only)
          exact HQ.out _ BX2.out
        clear hK K'
        try simp only [Act.put, List.setIfInBounds_toArray, List.set_cons_zero, List.set_cons_succ]
        refine wpAnyH_ready (rs := [4, 8]) (by kernel_rfl) (by simp) ?_
        refine ((AllReadyH.cons rfl (fun K' hK => ?_) (AllReadyH.cons rfl (fun K' hK => ?_) AllReadyH.nil)))
        · skip
          go_simp
          go_at_call 38
          refine (HSP.out _ _ _ SC2 M).mono ?_
          rintro e u3 ⟨v3, rfl, o4, b4⟩
          have BX3 := Lib.hid (BX2.out.trans (b4.mono BX2.out.size))
          have OB3 := Lib.hid (o4.base BX2.out.size)
          have oq := o4
          obtain ⟨va, vb, rfl, oa, ob, _⟩ := o4
          obtain ⟨pa, ka, rfl, _⟩ := own_in oa
          obtain ⟨pb, kb, rfl, _⟩ := own_in ob
          clear oa ob
          clear oq
          clear b4
          refine hK.out _ _ ?_ (fun hHeld => ?_)
          · (try dsimp only)
            exact HQ.out _ BX3.out
          clear hK K'
          try simp only [Act.put, List.setIfInBounds_toArray, List.set_cons_zero, List.set_cons_succ]
          refine held_take (i := 5) (d := 21) (v := ?_) rfl rfl (by kernel_rfl) (by kernel_rfl) (by kernel_rfl) (fun _ _ _ h => h) (by rfl) ?_ (by assumption) ?_
          rotate_left
          · intro w hSw
            (try dsimp only at hSw)
            go_simp
            try with_reducible rfl
          try simp only [Act.put, List.setIfInBounds_toArray, List.set_cons_zero, List.set_cons_succ]
          refine held_take (i := 6) (d := 27) (v := ?_) rfl rfl (by kernel_rfl) (by kernel_rfl) (by kernel_rfl) (fun _ _ _ h => h) (by rfl) ?_ (by assumption) ?_
          rotate_left
          · intro w hSw
            (try dsimp only at hSw)
            go_simp
            try with_reducible rfl
          try simp only [Act.put, List.setIfInBounds_toArray, List.set_cons_zero, List.set_cons_succ]
          refine held_take (i := 7) (d := 28) (v := ?_) rfl rfl (by kernel_rfl) (by kernel_rfl) (by kernel_rfl) (fun _ _ _ h => h) (by rfl) ?_ (by assumption) ?_
          rotate_left
          · intro w hSw
            (try dsimp only at hSw)
            go_simp
            try with_reducible rfl
          try simp only [Act.put, List.setIfInBounds_toArray, List.set_cons_zero, List.set_cons_succ]
          refine wpAnyH_ready (rs := [8]) (by kernel_rfl) (by simp) ?_
          refine ((AllReadyH.cons rfl (fun K' hK => ?_) AllReadyH.nil))
          go_simp
          refine hK.out _ _ ?_ (fun hHeld => ?_)
          · (try dsimp only)
            exact HQ.out _ (BX3.out.alloc BX3.out.size _)
          clear hK K'
          try simp only [Act.put, List.setIfInBounds_toArray, List.set_cons_zero, List.set_cons_succ]
          have bn := one_new2 u3 (.cells #[.string ⟨#[]⟩, .slice none 0 0, .slice none 0 0, .int .i64 0] 47)
          have BX4 := Lib.hid (BX3.out.alloc BX3.out.size (.cells #[.string ⟨#[]⟩, .slice none 0 0, .slice none 0 0, .int .i64 0] 47))
          have ZB4 := Lib.hid (zer_fresh u3 47)
          obtain ⟨na, nb⟩ := own_ne OB3.out
          have OB4 := Lib.hid (OB3.out.on bn)
          obtain ⟨u4, hu4⟩ : ∃ u, u3.alloc (.cells #[.string ⟨#[]⟩, .slice none 0 0, .slice none 0 0, .int .i64 0] 47) = u := ⟨_, rfl⟩
          rw [hu4] at hHeld BX4 ZB4 OB4 ⊢
          clear hu4 bn
          refine wpAnyH_ready (rs := [9]) (by kernel_rfl) (by simp) ?_
          refine ((AllReadyH.cons rfl (fun K' hK => ?_) AllReadyH.nil))
          obtain ⟨⟨t0, t1, t2, t3, tl⟩, t4⟩ := ZB4.out
          have z0 := t4 0
          have z1 := t4 1
          have z2 := t4 2
          have z3 := t4 3
          clear t4
          go_simp
          refine hK.out _ _ ?_ (fun hHeld => ?_)
          · (try dsimp only)
            exact HQ.out _ (set4 BX4.out _ BX3.out.size _ _ _ _)
          clear hK K'
          try simp only [Act.put, List.setIfInBounds_toArray, List.set_cons_zero, List.set_cons_succ]
          refine held_take (i := 10) (d := 7) (v := ?_) rfl rfl (by kernel_rfl) (by kernel_rfl) (by kernel_rfl) (fun _ _ _ h => h) (by rfl) ?_ (by assumption) ?_
          rotate_left
          · intro w hSw
            (try dsimp only at hSw)
            go_simp
            try with_reducible rfl
          try simp only [Act.put, List.setIfInBounds_toArray, List.set_cons_zero, List.set_cons_succ]
          refine wpAnyH_done (by kernel_rfl) ?_ _
          clear t0 t1 t2 t3 tl z0 z1 z2 z3
          go_wp2_with fail
          go_meet
          exact ad_meet BX4.out ZB4.out BX3.out.size OB4.out na nb
        · skip
          go_simp
          refine hK.out _ _ ?_ (fun hHeld => ?_)
          · (try dsimp only)
            exact HQ.out _ (BX2.out.alloc BX2.out.size _)
          clear hK K'
          try simp only [Act.put, List.setIfInBounds_toArray, List.set_cons_zero, List.set_cons_succ]
          have bn := one_new2 u2 (.cells #[.string ⟨#[]⟩, .slice none 0 0, .slice none 0 0, .int .i64 0] 47)
          have BX5 := Lib.hid (BX2.out.alloc BX2.out.size (.cells #[.string ⟨#[]⟩, .slice none 0 0, .slice none 0 0, .int .i64 0] 47))
          have ZB5 := Lib.hid (zer_fresh u2 47)
          have SC5 := Lib.hid (SC2.out.on bn)
          obtain ⟨u5, hu5⟩ : ∃ u, u2.alloc (.cells #[.string ⟨#[]⟩, .slice none 0 0, .slice none 0 0, .int .i64 0] 47) = u := ⟨_, rfl⟩
          rw [hu5] at hHeld BX5 ZB5 SC5 ⊢
          clear hu5 bn
          refine wpAnyH_ready (rs := [4]) (by kernel_rfl) (by simp) ?_
          refine ((AllReadyH.cons rfl (fun K' hK => ?_) AllReadyH.nil))
          go_simp
          go_at_call 38
          refine (HSP.out _ _ _ SC5 M).mono ?_
          rintro e u6 ⟨v6, rfl, o4, b4⟩
          have BX6 := Lib.hid (BX5.out.trans (b4.mono BX5.out.size))
          have ZB6 := Lib.hid (ZB5.out.on b4)
          have OB6 := Lib.hid (o4.base BX5.out.size)
          have oq := o4
          obtain ⟨va, vb, rfl, oa, ob, _⟩ := o4
          obtain ⟨pa, ka, rfl, _⟩ := own_in oa
          obtain ⟨pb, kb, rfl, _⟩ := own_in ob
          clear oa ob
          obtain ⟨na, nb⟩ := own_ge oq ZB5.out.1.2.2.2.2
          clear oq
          clear b4
          refine hK.out _ _ ?_ (fun hHeld => ?_)
          · (try dsimp only)
            exact HQ.out _ BX6.out
          clear hK K'
          try simp only [Act.put, List.setIfInBounds_toArray, List.set_cons_zero, List.set_cons_succ]
          refine held_take (i := 5) (d := 21) (v := ?_) rfl rfl (by kernel_rfl) (by kernel_rfl) (by kernel_rfl) (fun _ _ _ h => h) (by rfl) ?_ (by assumption) ?_
          rotate_left
          · intro w hSw
            (try dsimp only at hSw)
            go_simp
            try with_reducible rfl
          try simp only [Act.put, List.setIfInBounds_toArray, List.set_cons_zero, List.set_cons_succ]
          refine held_take (i := 6) (d := 27) (v := ?_) rfl rfl (by kernel_rfl) (by kernel_rfl) (by kernel_rfl) (fun _ _ _ h => h) (by rfl) ?_ (by assumption) ?_
          rotate_left
          · intro w hSw
            (try dsimp only at hSw)
            go_simp
            try with_reducible rfl
          try simp only [Act.put, List.setIfInBounds_toArray, List.set_cons_zero, List.set_cons_succ]
          refine held_take (i := 7) (d := 28) (v := ?_) rfl rfl (by kernel_rfl) (by kernel_rfl) (by kernel_rfl) (fun _ _ _ h => h) (by rfl) ?_ (by assumption) ?_
          rotate_left
          · intro w hSw
            (try dsimp only at hSw)
            go_simp
            try with_reducible rfl
          try simp only [Act.put, List.setIfInBounds_toArray, List.set_cons_zero, List.set_cons_succ]
          refine wpAnyH_ready (rs := [9]) (by kernel_rfl) (by simp) ?_
          refine ((AllReadyH.cons rfl (fun K' hK => ?_) AllReadyH.nil))
          obtain ⟨⟨t0, t1, t2, t3, tl⟩, t4⟩ := ZB6.out
          have z0 := t4 0
          have z1 := t4 1
          have z2 := t4 2
          have z3 := t4 3
          clear t4
          go_simp
          refine hK.out _ _ ?_ (fun hHeld => ?_)
          · (try dsimp only)
            exact HQ.out _ (set4 BX6.out _ BX2.out.size _ _ _ _)
          clear hK K'
          try simp only [Act.put, List.setIfInBounds_toArray, List.set_cons_zero, List.set_cons_succ]
          refine held_take (i := 10) (d := 7) (v := ?_) rfl rfl (by kernel_rfl) (by kernel_rfl) (by kernel_rfl) (fun _ _ _ h => h) (by rfl) ?_ (by assumption) ?_
          rotate_left
          · intro w hSw
            (try dsimp only at hSw)
            go_simp
            try with_reducible rfl
          try simp only [Act.put, List.setIfInBounds_toArray, List.set_cons_zero, List.set_cons_succ]
          refine wpAnyH_done (by kernel_rfl) ?_ _
          clear t0 t1 t2 t3 tl z0 z1 z2 z3
          go_wp2_with fail
          go_meet
          exact ad_meet BX6.out ZB6.out BX2.out.size OB6.out na nb
      · skip
        go_simp
        refine hK.out _ _ ?_ (fun hHeld => ?_)
        · (try dsimp only)
          exact HQ.out _ (BX1.out.alloc BX1.out.size _)
        clear hK K'
        try simp only [Act.put, List.setIfInBounds_toArray, List.set_cons_zero, List.set_cons_succ]
        have bn := one_new2 u1 (.cells #[.string ⟨#[]⟩, .slice none 0 0, .slice none 0 0, .int .i64 0] 47)
        have BX7 := Lib.hid (BX1.out.alloc BX1.out.size (.cells #[.string ⟨#[]⟩, .slice none 0 0, .slice none 0 0, .int .i64 0] 47))
        have ZB7 := Lib.hid (zer_fresh u1 47)
        have SC7 := Lib.hid (SC1.out.on bn)
        obtain ⟨u7, hu7⟩ : ∃ u, u1.alloc (.cells #[.string ⟨#[]⟩, .slice none 0 0, .slice none 0 0, .int .i64 0] 47) = u := ⟨_, rfl⟩
        rw [hu7] at hHeld BX7 ZB7 SC7 ⊢
        clear hu7 bn
        refine wpAnyH_ready (rs := [3]) (by kernel_rfl) (by simp) ?_
        refine ((AllReadyH.cons rfl (fun K' hK => ?_) AllReadyH.nil))
        go_simp
        go_at_call 40
        refine (HTX.out _).mono ?_
        rintro e u8 ⟨rfl, b4⟩
        have BX8 := Lib.hid (BX7.out.trans (b4.mono BX7.out.size))
        have ZB8 := Lib.hid (ZB7.out.on b4)
        have SC8 := Lib.hid (SC7.out.on b4)
        clear b4
        refine hK.out _ _ ?_ (fun hHeld => ?_)
        · (try dsimp only)
          exact HQ.out _ BX8.out
        clear hK K'
        try simp only [Act.put, List.setIfInBounds_toArray, List.set_cons_zero, List.set_cons_succ]
        refine wpAnyH_ready (rs := [4]) (by kernel_rfl) (by simp) ?_
        refine ((AllReadyH.cons rfl (fun K' hK => ?_) AllReadyH.nil))
        go_simp
        go_at_call 38
        refine (HSP.out _ _ _ SC8 M).mono ?_
        rintro e u9 ⟨v9, rfl, o4, b4⟩
        have BX9 := Lib.hid (BX8.out.trans (b4.mono BX8.out.size))
        have ZB9 := Lib.hid (ZB8.out.on b4)
        have OB9 := Lib.hid (o4.base BX8.out.size)
        have oq := o4
        obtain ⟨va, vb, rfl, oa, ob, _⟩ := o4
        obtain ⟨pa, ka, rfl, _⟩ := own_in oa
        obtain ⟨pb, kb, rfl, _⟩ := own_in ob
        clear oa ob
        obtain ⟨na, nb⟩ := own_ge oq ZB8.out.1.2.2.2.2
        clear oq
        clear b4
        refine hK.out _ _ ?_ (fun hHeld => ?_)
        · (try dsimp only)
          exact HQ.out _ BX9.out
        clear hK K'
        try simp only [Act.put, List.setIfInBounds_toArray, List.set_cons_zero, List.set_cons_succ]
        refine held_take (i := 5) (d := 21) (v := ?_) rfl rfl (by kernel_rfl) (by kernel_rfl) (by kernel_rfl) (fun _ _ _ h => h) (by rfl) ?_ (by assumption) ?_
        rotate_left
        · intro w hSw
          (try dsimp only at hSw)
          go_simp
          try with_reducible rfl
        try simp only [Act.put, List.setIfInBounds_toArray, List.set_cons_zero, List.set_cons_succ]
        refine held_take (i := 6) (d := 27) (v := ?_) rfl rfl (by kernel_rfl) (by kernel_rfl) (by kernel_rfl) (fun _ _ _ h => h) (by rfl) ?_ (by assumption) ?_
        rotate_left
        · intro w hSw
          (try dsimp only at hSw)
          go_simp
          try with_reducible rfl
        try simp only [Act.put, List.setIfInBounds_toArray, List.set_cons_zero, List.set_cons_succ]
        refine held_take (i := 7) (d := 28) (v := ?_) rfl rfl (by kernel_rfl) (by kernel_rfl) (by kernel_rfl) (fun _ _ _ h => h) (by rfl) ?_ (by assumption) ?_
        rotate_left
        · intro w hSw
          (try dsimp only at hSw)
          go_simp
          try with_reducible rfl
        try simp only [Act.put, List.setIfInBounds_toArray, List.set_cons_zero, List.set_cons_succ]
        refine wpAnyH_ready (rs := [9]) (by kernel_rfl) (by simp) ?_
        refine ((AllReadyH.cons rfl (fun K' hK => ?_) AllReadyH.nil))
        obtain ⟨⟨t0, t1, t2, t3, tl⟩, t4⟩ := ZB9.out
        have z0 := t4 0
        have z1 := t4 1
        have z2 := t4 2
        have z3 := t4 3
        clear t4
        go_simp
        refine hK.out _ _ ?_ (fun hHeld => ?_)
        · (try dsimp only)
          exact HQ.out _ (set4 BX9.out _ BX1.out.size _ _ _ _)
        clear hK K'
        try simp only [Act.put, List.setIfInBounds_toArray, List.set_cons_zero, List.set_cons_succ]
        refine held_take (i := 10) (d := 7) (v := ?_) rfl rfl (by kernel_rfl) (by kernel_rfl) (by kernel_rfl) (fun _ _ _ h => h) (by rfl) ?_ (by assumption) ?_
        rotate_left
        · intro w hSw
          (try dsimp only at hSw)
          go_simp
          try with_reducible rfl
        try simp only [Act.put, List.setIfInBounds_toArray, List.set_cons_zero, List.set_cons_succ]
        refine wpAnyH_done (by kernel_rfl) ?_ _
        clear t0 t1 t2 t3 tl z0 z1 z2 z3
        go_wp2_with fail
        go_meet
        exact ad_meet BX9.out ZB9.out BX1.out.size OB9.out na nb
    · skip
      go_simp
      refine hK.out _ _ ?_ (fun hHeld => ?_)
      · (try dsimp only)
        exact HQ.out _ (BX0.out.alloc BX0.out.size _)
      clear hK K'
      try simp only [Act.put, List.setIfInBounds_toArray, List.set_cons_zero, List.set_cons_succ]
      have bn := one_new2 u0 (.cells #[.string ⟨#[]⟩, .slice none 0 0, .slice none 0 0, .int .i64 0] 47)
      have BX10 := Lib.hid (BX0.out.alloc BX0.out.size (.cells #[.string ⟨#[]⟩, .slice none 0 0, .slice none 0 0, .int .i64 0] 47))
      have ZB10 := Lib.hid (zer_fresh u0 47)
      obtain ⟨u10, hu10⟩ : ∃ u, u0.alloc (.cells #[.string ⟨#[]⟩, .slice none 0 0, .slice none 0 0, .int .i64 0] 47) = u := ⟨_, rfl⟩
      rw [hu10] at hHeld BX10 ZB10 ⊢
      clear hu10 bn
      refine wpAnyH_ready (rs := [1]) (by kernel_rfl) (by simp) ?_
      refine ((AllReadyH.cons rfl (fun K' hK => ?_) AllReadyH.nil))
      go_simp
      go_at_call 39
      refine (HTO.out _ (HA.out.below (HB0.out _ BX10.out)) M).mono ?_
      rintro e u11 ⟨v11, rfl, o4, b4⟩
      have BX11 := Lib.hid (BX10.out.trans (b4.mono BX10.out.size))
      have ZB11 := Lib.hid (ZB10.out.on b4)
      have SC11 := Lib.hid o4
      obtain ⟨va, vb, rfl, oa, ob, _⟩ := o4
      obtain ⟨p2, k2, rfl, _⟩ := own_in oa
      obtain ⟨p3, k3, rfl, _⟩ := own_in ob
      clear oa ob
      clear b4
      refine hK.out _ _ ?_ (fun hHeld => ?_)
      · (try dsimp only)
        exact HQ.out _ BX11.out
      clear hK K'
      try simp only [Act.put, List.setIfInBounds_toArray, List.set_cons_zero, List.set_cons_succ]
      refine wpAnyH_ready (rs := [3]) (by kernel_rfl) (by simp) ?_
      refine ((AllReadyH.cons rfl (fun K' hK => ?_) AllReadyH.nil))
      go_simp
      go_at_call 40
      refine (HTX.out _).mono ?_
      rintro e u12 ⟨rfl, b4⟩
      have BX12 := Lib.hid (BX11.out.trans (b4.mono BX11.out.size))
      have ZB12 := Lib.hid (ZB11.out.on b4)
      have SC12 := Lib.hid (SC11.out.on b4)
      clear b4
      refine hK.out _ _ ?_ (fun hHeld => ?_)
      · (try dsimp only)
        exact HQ.out _ BX12.out
      clear hK K'
      try simp only [Act.put, List.setIfInBounds_toArray, List.set_cons_zero, List.set_cons_succ]
      refine wpAnyH_ready (rs := [4]) (by kernel_rfl) (by simp) ?_
      refine ((AllReadyH.cons rfl (fun K' hK => ?_) AllReadyH.nil))
      go_simp
      go_at_call 38
      refine (HSP.out _ _ _ SC12 M).mono ?_
      rintro e u13 ⟨v13, rfl, o4, b4⟩
      have BX13 := Lib.hid (BX12.out.trans (b4.mono BX12.out.size))
      have ZB13 := Lib.hid (ZB12.out.on b4)
      have OB13 := Lib.hid (o4.base BX12.out.size)
      have oq := o4
      obtain ⟨va, vb, rfl, oa, ob, _⟩ := o4
      obtain ⟨pa, ka, rfl, _⟩ := own_in oa
      obtain ⟨pb, kb, rfl, _⟩ := own_in ob
      clear oa ob
      obtain ⟨na, nb⟩ := own_ge oq ZB12.out.1.2.2.2.2
      clear oq
      clear b4
      refine hK.out _ _ ?_ (fun hHeld => ?_)
      · (try dsimp only)
        exact HQ.out _ BX13.out
      clear hK K'
      try simp only [Act.put, List.setIfInBounds_toArray, List.set_cons_zero, List.set_cons_succ]
      refine held_take (i := 5) (d := 21) (v := ?_) rfl rfl (by kernel_rfl) (by kernel_rfl) (by kernel_rfl) (fun _ _ _ h => h) (by rfl) ?_ (by assumption) ?_
      rotate_left
      · intro w hSw
        (try dsimp only at hSw)
        go_simp
        try with_reducible rfl
      try simp only [Act.put, List.setIfInBounds_toArray, List.set_cons_zero, List.set_cons_succ]
      refine held_take (i := 6) (d := 27) (v := ?_) rfl rfl (by kernel_rfl) (by kernel_rfl) (by kernel_rfl) (fun _ _ _ h => h) (by rfl) ?_ (by assumption) ?_
      rotate_left
      · intro w hSw
        (try dsimp only at hSw)
        go_simp
        try with_reducible rfl
      try simp only [Act.put, List.setIfInBounds_toArray, List.set_cons_zero, List.set_cons_succ]
      refine held_take (i := 7) (d := 28) (v := ?_) rfl rfl (by kernel_rfl) (by kernel_rfl) (by kernel_rfl) (fun _ _ _ h => h) (by rfl) ?_ (by assumption) ?_
      rotate_left
      · intro w hSw
        (try dsimp only at hSw)
        go_simp
        try with_reducible rfl
      try simp only [Act.put, List.setIfInBounds_toArray, List.set_cons_zero, List.set_cons_succ]
      refine wpAnyH_ready (rs := [9]) (by kernel_rfl) (by simp) ?_
      refine ((AllReadyH.cons rfl (fun K' hK => ?_) AllReadyH.nil))
      obtain ⟨⟨t0, t1, t2, t3, tl⟩, t4⟩ := ZB13.out
      have z0 := t4 0
      have z1 := t4 1
      have z2 := t4 2
      have z3 := t4 3
      clear t4
      go_simp
      refine hK.out _ _ ?_ (fun hHeld => ?_)
      · (try dsimp only)
        exact HQ.out _ (set4 BX13.out _ BX0.out.size _ _ _ _)
      clear hK K'
      try simp only [Act.put, List.setIfInBounds_toArray, List.set_cons_zero, List.set_cons_succ]
      refine held_take (i := 10) (d := 7) (v := ?_) rfl rfl (by kernel_rfl) (by kernel_rfl) (by kernel_rfl) (fun _ _ _ h => h) (by rfl) ?_ (by assumption) ?_
      rotate_left
      · intro w hSw
        (try dsimp only at hSw)
        go_simp
        try with_reducible rfl
      try simp only [Act.put, List.setIfInBounds_toArray, List.set_cons_zero, List.set_cons_succ]
      refine wpAnyH_done (by kernel_rfl) ?_ _
      clear t0 t1 t2 t3 tl z0 z1 z2 z3
      go_wp2_with fail
      go_meet
      exact ad_meet BX13.out ZB13.out BX0.out.size OB13.out na nb
  obtain ⟨b3, pa, ka, pb, kb, rfl, rfl, hb3, bx3, f3, o3, _, _⟩ := hcut
  obtain ⟨wa, rfl⟩ : ∃ u, u = wc := ⟨_, rfl⟩
  have F3 := Lib.hid f3
  have G3 := Lib.hid o3.cfg
  have A3 := Lib.hid (A1.out.on bx3)
  have hb3a : b3 < wa.heap.size := f3.2.2.2.2
  have hsza : w.heap.size + 2 ≤ wa.heap.size := A3.out.2.2.1
  clear bx3 f3 o3 HQ HB0
  obtain ⟨⟨y0, y1, y2, y3, _⟩, _⟩ := A3.out
  go_upto_region 7 with (go_at_call 39; refine (HTO.out _ (HA.out.below A3.out.2.2.2) M).mono ?_; rintro e w4 ⟨v4, rfl, s4, b4⟩; have S4 := Lib.hid s4; obtain ⟨vc, vf, rfl, o4, o4', o4d⟩ := s4; obtain ⟨p4, c4, rfl, _⟩ := own_in o4; obtain ⟨f4, l4, rfl, _⟩ := own_in o4'; have A4 := Lib.hid (A3.out.on b4); have P4 := Lib.hid b4; have OC := Lib.hid o4; have OF := Lib.hid o4'; have OD := Lib.hid o4d; have hs34 : wa.heap.size ≤ w4.heap.size := b4.size; clear b4 o4 o4' o4d y0 y1 y2 y3)
  have X4 := (box_four (Below.refl _ (w4.alloc (Obj.cells #[.string s, .slice p4 cs.length c4, .slice f4 fs.length l4, .int .i64 d] 47)))).1
  have Pn := one_new2 w4 (Obj.cells #[.string s, .slice p4 cs.length c4, .slice f4 fs.length l4, .int .i64 d] 47)
  have hsb : (w4.alloc (Obj.cells #[.string s, .slice p4 cs.length c4, .slice f4 fs.length l4, .int .i64 d] 47)).heap.size = w4.heap.size + 1 := by simp
  obtain ⟨wb, hwb⟩ : ∃ u, w4.alloc (Obj.cells #[.string s, .slice p4 cs.length c4, .slice f4 fs.length l4, .int .i64 d] 47) = u := ⟨_, rfl⟩
  rw [hwb] at X4 Pn hsb ⊢
  clear hwb
  have Xb := Lib.hid X4
  have Ab := Lib.hid (A4.out.on Pn)
  have Pb := Lib.hid (P4.out.trans (Pn.mono hs34))
  have Sb := Lib.hid (S4.out.on Pn)
  have Pn := Lib.hid Pn
  clear X4 S4 A4 P4
  have HB0 : Hid (∀ w', Below wb.heap.size wb w' → Below w.heap.size w w') := Lib.hid (fun w' h => (Ab.out.on h).2.2.2)
  have HQ : Hid (∀ w', Below wb.heap.size wb w' → w'.cell? ⟨w4.heap.size, 0, none⟩ = some (.string s) ∧ w'.cell? ⟨w4.heap.size, 1, none⟩ = some (.slice p4 cs.length c4) ∧ w'.cell? ⟨w4.heap.size, 2, none⟩ = some (.slice f4 fs.length l4) ∧ w'.cell? ⟨w4.heap.size, 3, none⟩ = some (.int .i64 d) ∧ w'.cell? ⟨w.heap.size + 1, 0, none⟩ = some (.int .i64 xi) ∧ w'.cell? ⟨w.heap.size + 1, 1, none⟩ = some (.int .i64 xp) ∧ w'.cell? ⟨w.heap.size + 1, 2, none⟩ = some (.int .i64 xr) ∧ w'.cell? ⟨w.heap.size + 1, 3, none⟩ = some (.int .i64 xe) ∧ w'.cell? ⟨w.heap.size + 1, 4, none⟩ = some (.int .i64 xb) ∧ w'.cell? ⟨w.heap.size + 1, 5, none⟩ = some (.int .i64 xu) ∧ w'.cell? ⟨w.heap.size + 1, 6, none⟩ = some (.int .i64 xo) ∧ w'.cell? ⟨w.heap.size + 1, 7, none⟩ = some (.int .i64 xl) ∧ Below wb.heap.size wb w') := Lib.hid (fun w' h => by
    obtain ⟨e0, e1, e2, e3, _⟩ := Xb.out.on h
    obtain ⟨_, ⟨f0, f1, f2, f3, f4, f5, f6, f7⟩, _⟩ := Ab.out.on h
    exact ⟨e0, e1, e2, e3, f0, f1, f2, f3, f4, f5, f6, f7, h⟩)
  go_cut [9, 10] from 31 to 37 (fun x9 x10 wx => AdR wb G g2 x9 x10 wx)
  case first =>
    refine wp_region_held_drew (S := fun w' => w'.cell? ⟨w4.heap.size, 0, none⟩ = some (.string s) ∧ w'.cell? ⟨w4.heap.size, 1, none⟩ = some (.slice p4 cs.length c4) ∧ w'.cell? ⟨w4.heap.size, 2, none⟩ = some (.slice f4 fs.length l4) ∧ w'.cell? ⟨w4.heap.size, 3, none⟩ = some (.int .i64 d) ∧ w'.cell? ⟨w.heap.size + 1, 0, none⟩ = some (.int .i64 xi) ∧ w'.cell? ⟨w.heap.size + 1, 1, none⟩ = some (.int .i64 xp) ∧ w'.cell? ⟨w.heap.size + 1, 2, none⟩ = some (.int .i64 xr) ∧ w'.cell? ⟨w.heap.size + 1, 3, none⟩ = some (.int .i64 xe) ∧ w'.cell? ⟨w.heap.size + 1, 4, none⟩ = some (.int .i64 xb) ∧ w'.cell? ⟨w.heap.size + 1, 5, none⟩ = some (.int .i64 xu) ∧ w'.cell? ⟨w.heap.size + 1, 6, none⟩ = some (.int .i64 xo) ∧ w'.cell? ⟨w.heap.size + 1, 7, none⟩ = some (.int .i64 xl) ∧ Below wb.heap.size wb w') (by kernel_rfl) ?_ (fun hHeld => ?_)
    · (try dsimp only)
      exact HQ.out _ (below_drewN (Below.refl _ _) 1)
    refine held_take (i := 0) (d := 32) (v := ?_) rfl rfl (by kernel_rfl) (by kernel_rfl) (by kernel_rfl) (fun _ _ _ h => h) (by rfl) ?_ (by assumption) ?_
    rotate_left
    · intro w hSw
      (try dsimp only at hSw)
      go_simp
      try with_reducible rfl
    try simp only [Act.put, List.setIfInBounds_toArray, List.set_cons_zero, List.set_cons_succ]
    refine held_take (i := 1) (d := 33) (v := ?_) rfl rfl (by kernel_rfl) (by kernel_rfl) (by kernel_rfl) (fun _ _ _ h => h) (by rfl) ?_ (by assumption) ?_
    rotate_left
    · intro w hSw
      (try dsimp only at hSw)
      go_simp
      try with_reducible rfl
    try simp only [Act.put, List.setIfInBounds_toArray, List.set_cons_zero, List.set_cons_succ]
    have BX0 : Hid (Below wb.heap.size wb wb.drew) := Lib.hid (below_drewN (Below.refl _ _) 1)
    have SC0 := Lib.hid (Sb.out.on BX0.out)
    obtain ⟨u0, hu0⟩ : ∃ u0, wb.drew = u0 := ⟨_, rfl⟩
    rw [hu0] at hHeld BX0 SC0 ⊢
    clear hu0
    refine wpAnyH_ready (rs := [2, 7]) (by kernel_rfl) (by simp) ?_
    refine ((AllReadyH.cons rfl (fun K' hK => ?_) (AllReadyH.cons rfl (fun K' hK => ?_) AllReadyH.nil)))
    · skip
      go_simp
      go_at_call 40
      refine (HTX.out _).mono ?_
      rintro e u1 ⟨rfl, b4⟩
      have BX1 := Lib.hid (BX0.out.trans (b4.mono BX0.out.size))
      have SC1 := Lib.hid (SC0.out.on b4)
      clear b4
      refine hK.out _ _ ?_ (fun hHeld => ?_)
      · (try dsimp only)
        exact HQ.out _ BX1.out
      clear hK K'
      try simp only [Act.put, List.setIfInBounds_toArray, List.set_cons_zero, List.set_cons_succ]
      refine wpAnyH_ready (rs := [3, 7]) (by kernel_rfl) (by simp) ?_
      refine ((AllReadyH.cons rfl (fun K' hK => ?_) (AllReadyH.cons rfl (fun K' hK => ?_) AllReadyH.nil)))
      · skip
        go_simp
        go_at_call 41
        refine (HIM.out _ _ _ (Lib.hid (HT.out.below (HB0.out _ BX1.out))) SC1 M).mono ?_
        rintro e u2 ⟨v2, rfl, o4, b4⟩
        have BX2 := Lib.hid (BX1.out.trans (b4.mono BX1.out.size))
        have OB2 := Lib.hid (o4.base BX1.out.size)
        have oq := o4
        obtain ⟨va, vb, rfl, oa, ob, _⟩ := o4
        obtain ⟨pa, ka, rfl, _⟩ := own_in oa
        obtain ⟨pb, kb, rfl, _⟩ := own_in ob
        clear oa ob
        clear oq
        clear b4
        refine hK.out _ _ ?_ (fun hHeld => ?_)
        · (try dsimp only)
          exact HQ.out _ BX2.out
        clear hK K'
        try simp only [Act.put, List.setIfInBounds_toArray, List.set_cons_zero, List.set_cons_succ]
        refine held_take (i := 4) (d := 31) (v := ?_) rfl rfl (by kernel_rfl) (by kernel_rfl) (by kernel_rfl) (fun _ _ _ h => h) (by rfl) ?_ (by assumption) ?_
        rotate_left
        · intro w hSw
          (try dsimp only at hSw)
          go_simp
          try with_reducible rfl
        try simp only [Act.put, List.setIfInBounds_toArray, List.set_cons_zero, List.set_cons_succ]
        refine held_take (i := 5) (d := 36) (v := ?_) rfl rfl (by kernel_rfl) (by kernel_rfl) (by kernel_rfl) (fun _ _ _ h => h) (by rfl) ?_ (by assumption) ?_
        rotate_left
        · intro w hSw
          (try dsimp only at hSw)
          go_simp
          try with_reducible rfl
        try simp only [Act.put, List.setIfInBounds_toArray, List.set_cons_zero, List.set_cons_succ]
        refine held_take (i := 6) (d := 37) (v := ?_) rfl rfl (by kernel_rfl) (by kernel_rfl) (by kernel_rfl) (fun _ _ _ h => h) (by rfl) ?_ (by assumption) ?_
        rotate_left
        · intro w hSw
          (try dsimp only at hSw)
          go_simp
          try with_reducible rfl
        try simp only [Act.put, List.setIfInBounds_toArray, List.set_cons_zero, List.set_cons_succ]
        refine wpAnyH_ready (rs := [7]) (by kernel_rfl) (by simp) ?_
        refine ((AllReadyH.cons rfl (fun K' hK => ?_) AllReadyH.nil))
        go_simp
        refine hK.out _ _ ?_ (fun hHeld => ?_)
        · (try dsimp only)
          exact HQ.out _ (BX2.out.alloc BX2.out.size _)
        clear hK K'
        try simp only [Act.put, List.setIfInBounds_toArray, List.set_cons_zero, List.set_cons_succ]
        have bn := one_new2 u2 (.cells #[.string ⟨#[]⟩, .slice none 0 0, .slice none 0 0, .int .i64 0] 47)
        have BX3 := Lib.hid (BX2.out.alloc BX2.out.size (.cells #[.string ⟨#[]⟩, .slice none 0 0, .slice none 0 0, .int .i64 0] 47))
        have ZB3 := Lib.hid (zer_fresh u2 47)
        obtain ⟨na, nb⟩ := own_ne OB2.out
        have OB3 := Lib.hid (OB2.out.on bn)
        obtain ⟨u3, hu3⟩ : ∃ u, u2.alloc (.cells #[.string ⟨#[]⟩, .slice none 0 0, .slice none 0 0, .int .i64 0] 47) = u := ⟨_, rfl⟩
        rw [hu3] at hHeld BX3 ZB3 OB3 ⊢
        clear hu3 bn
        refine wpAnyH_ready (rs := [8]) (by kernel_rfl) (by simp) ?_
        refine ((AllReadyH.cons rfl (fun K' hK => ?_) AllReadyH.nil))
        obtain ⟨⟨t0, t1, t2, t3, tl⟩, t4⟩ := ZB3.out
        have z0 := t4 0
        have z1 := t4 1
        have z2 := t4 2
        have z3 := t4 3
        clear t4
        go_simp
        refine hK.out _ _ ?_ (fun hHeld => ?_)
        · (try dsimp only)
          exact HQ.out _ (set4 BX3.out _ BX2.out.size _ _ _ _)
        clear hK K'
        try simp only [Act.put, List.setIfInBounds_toArray, List.set_cons_zero, List.set_cons_succ]
        refine held_take (i := 9) (d := 10) (v := ?_) rfl rfl (by kernel_rfl) (by kernel_rfl) (by kernel_rfl) (fun _ _ _ h => h) (by rfl) ?_ (by assumption) ?_
        rotate_left
        · intro w hSw
          (try dsimp only at hSw)
          go_simp
          try with_reducible rfl
        try simp only [Act.put, List.setIfInBounds_toArray, List.set_cons_zero, List.set_cons_succ]
        refine wpAnyH_done (by kernel_rfl) ?_ _
        clear t0 t1 t2 t3 tl z0 z1 z2 z3
        go_wp2_with fail
        go_meet
        exact ad_meet BX3.out ZB3.out BX2.out.size OB3.out na nb
      · skip
        go_simp
        refine hK.out _ _ ?_ (fun hHeld => ?_)
        · (try dsimp only)
          exact HQ.out _ (BX1.out.alloc BX1.out.size _)
        clear hK K'
        try simp only [Act.put, List.setIfInBounds_toArray, List.set_cons_zero, List.set_cons_succ]
        have bn := one_new2 u1 (.cells #[.string ⟨#[]⟩, .slice none 0 0, .slice none 0 0, .int .i64 0] 47)
        have BX4 := Lib.hid (BX1.out.alloc BX1.out.size (.cells #[.string ⟨#[]⟩, .slice none 0 0, .slice none 0 0, .int .i64 0] 47))
        have ZB4 := Lib.hid (zer_fresh u1 47)
        have SC4 := Lib.hid (SC1.out.on bn)
        obtain ⟨u4, hu4⟩ : ∃ u, u1.alloc (.cells #[.string ⟨#[]⟩, .slice none 0 0, .slice none 0 0, .int .i64 0] 47) = u := ⟨_, rfl⟩
        rw [hu4] at hHeld BX4 ZB4 SC4 ⊢
        clear hu4 bn
        refine wpAnyH_ready (rs := [3]) (by kernel_rfl) (by simp) ?_
        refine ((AllReadyH.cons rfl (fun K' hK => ?_) AllReadyH.nil))
        go_simp
        go_at_call 41
        refine (HIM.out _ _ _ (Lib.hid (HT.out.below (HB0.out _ BX4.out))) SC4 M).mono ?_
        rintro e u5 ⟨v5, rfl, o4, b4⟩
        have BX5 := Lib.hid (BX4.out.trans (b4.mono BX4.out.size))
        have ZB5 := Lib.hid (ZB4.out.on b4)
        have OB5 := Lib.hid (o4.base BX4.out.size)
        have oq := o4
        obtain ⟨va, vb, rfl, oa, ob, _⟩ := o4
        obtain ⟨pa, ka, rfl, _⟩ := own_in oa
        obtain ⟨pb, kb, rfl, _⟩ := own_in ob
        clear oa ob
        obtain ⟨na, nb⟩ := own_ge oq ZB4.out.1.2.2.2.2
        clear oq
        clear b4
        refine hK.out _ _ ?_ (fun hHeld => ?_)
        · (try dsimp only)
          exact HQ.out _ BX5.out
        clear hK K'
        try simp only [Act.put, List.setIfInBounds_toArray, List.set_cons_zero, List.set_cons_succ]
        refine held_take (i := 4) (d := 31) (v := ?_) rfl rfl (by kernel_rfl) (by kernel_rfl) (by kernel_rfl) (fun _ _ _ h => h) (by rfl) ?_ (by assumption) ?_
        rotate_left
        · intro w hSw
          (try dsimp only at hSw)
          go_simp
          try with_reducible rfl
        try simp only [Act.put, List.setIfInBounds_toArray, List.set_cons_zero, List.set_cons_succ]
        refine held_take (i := 5) (d := 36) (v := ?_) rfl rfl (by kernel_rfl) (by kernel_rfl) (by kernel_rfl) (fun _ _ _ h => h) (by rfl) ?_ (by assumption) ?_
        rotate_left
        · intro w hSw
          (try dsimp only at hSw)
          go_simp
          try with_reducible rfl
        try simp only [Act.put, List.setIfInBounds_toArray, List.set_cons_zero, List.set_cons_succ]
        refine held_take (i := 6) (d := 37) (v := ?_) rfl rfl (by kernel_rfl) (by kernel_rfl) (by kernel_rfl) (fun _ _ _ h => h) (by rfl) ?_ (by assumption) ?_
        rotate_left
        · intro w hSw
          (try dsimp only at hSw)
          go_simp
          try with_reducible rfl
        try simp only [Act.put, List.setIfInBounds_toArray, List.set_cons_zero, List.set_cons_succ]
        refine wpAnyH_ready (rs := [8]) (by kernel_rfl) (by simp) ?_
        refine ((AllReadyH.cons rfl (fun K' hK => ?_) AllReadyH.nil))
        obtain ⟨⟨t0, t1, t2, t3, tl⟩, t4⟩ := ZB5.out
        have z0 := t4 0
        have z1 := t4 1
        have z2 := t4 2
        have z3 := t4 3
        clear t4
        go_simp
        refine hK.out _ _ ?_ (fun hHeld => ?_)
        · (try dsimp only)
          exact HQ.out _ (set4 BX5.out _ BX1.out.size _ _ _ _)
        clear hK K'
        try simp only [Act.put, List.setIfInBounds_toArray, List.set_cons_zero, List.set_cons_succ]
        refine held_take (i := 9) (d := 10) (v := ?_) rfl rfl (by kernel_rfl) (by kernel_rfl) (by kernel_rfl) (fun _ _ _ h => h) (by rfl) ?_ (by assumption) ?_
        rotate_left
        · intro w hSw
          (try dsimp only at hSw)
          go_simp
          try with_reducible rfl
        try simp only [Act.put, List.setIfInBounds_toArray, List.set_cons_zero, List.set_cons_succ]
        refine wpAnyH_done (by kernel_rfl) ?_ _
        clear t0 t1 t2 t3 tl z0 z1 z2 z3
        go_wp2_with fail
        go_meet
        exact ad_meet BX5.out ZB5.out BX1.out.size OB5.out na nb
    · skip
      go_simp
      refine hK.out _ _ ?_ (fun hHeld => ?_)
      · (try dsimp only)
        exact HQ.out _ (BX0.out.alloc BX0.out.size _)
      clear hK K'
      try simp only [Act.put, List.setIfInBounds_toArray, List.set_cons_zero, List.set_cons_succ]
      have bn := one_new2 u0 (.cells #[.string ⟨#[]⟩, .slice none 0 0, .slice none 0 0, .int .i64 0] 47)
      have BX6 := Lib.hid (BX0.out.alloc BX0.out.size (.cells #[.string ⟨#[]⟩, .slice none 0 0, .slice none 0 0, .int .i64 0] 47))
      have ZB6 := Lib.hid (zer_fresh u0 47)
      have SC6 := Lib.hid (SC0.out.on bn)
      obtain ⟨u6, hu6⟩ : ∃ u, u0.alloc (.cells #[.string ⟨#[]⟩, .slice none 0 0, .slice none 0 0, .int .i64 0] 47) = u := ⟨_, rfl⟩
      rw [hu6] at hHeld BX6 ZB6 SC6 ⊢
      clear hu6 bn
      refine wpAnyH_ready (rs := [2]) (by kernel_rfl) (by simp) ?_
      refine ((AllReadyH.cons rfl (fun K' hK => ?_) AllReadyH.nil))
      go_simp
      go_at_call 40
      refine (HTX.out _).mono ?_
      rintro e u7 ⟨rfl, b4⟩
      have BX7 := Lib.hid (BX6.out.trans (b4.mono BX6.out.size))
      have ZB7 := Lib.hid (ZB6.out.on b4)
      have SC7 := Lib.hid (SC6.out.on b4)
      clear b4
      refine hK.out _ _ ?_ (fun hHeld => ?_)
      · (try dsimp only)
        exact HQ.out _ BX7.out
      clear hK K'
      try simp only [Act.put, List.setIfInBounds_toArray, List.set_cons_zero, List.set_cons_succ]
      refine wpAnyH_ready (rs := [3]) (by kernel_rfl) (by simp) ?_
      refine ((AllReadyH.cons rfl (fun K' hK => ?_) AllReadyH.nil))
      go_simp
      go_at_call 41
      refine (HIM.out _ _ _ (Lib.hid (HT.out.below (HB0.out _ BX7.out))) SC7 M).mono ?_
      rintro e u8 ⟨v8, rfl, o4, b4⟩
      have BX8 := Lib.hid (BX7.out.trans (b4.mono BX7.out.size))
      have ZB8 := Lib.hid (ZB7.out.on b4)
      have OB8 := Lib.hid (o4.base BX7.out.size)
      have oq := o4
      obtain ⟨va, vb, rfl, oa, ob, _⟩ := o4
      obtain ⟨pa, ka, rfl, _⟩ := own_in oa
      obtain ⟨pb, kb, rfl, _⟩ := own_in ob
      clear oa ob
      obtain ⟨na, nb⟩ := own_ge oq ZB7.out.1.2.2.2.2
      clear oq
      clear b4
      refine hK.out _ _ ?_ (fun hHeld => ?_)
      · (try dsimp only)
        exact HQ.out _ BX8.out
      clear hK K'
      try simp only [Act.put, List.setIfInBounds_toArray, List.set_cons_zero, List.set_cons_succ]
      refine held_take (i := 4) (d := 31) (v := ?_) rfl rfl (by kernel_rfl) (by kernel_rfl) (by kernel_rfl) (fun _ _ _ h => h) (by rfl) ?_ (by assumption) ?_
      rotate_left
      · intro w hSw
        (try dsimp only at hSw)
        go_simp
        try with_reducible rfl
      try simp only [Act.put, List.setIfInBounds_toArray, List.set_cons_zero, List.set_cons_succ]
      refine held_take (i := 5) (d := 36) (v := ?_) rfl rfl (by kernel_rfl) (by kernel_rfl) (by kernel_rfl) (fun _ _ _ h => h) (by rfl) ?_ (by assumption) ?_
      rotate_left
      · intro w hSw
        (try dsimp only at hSw)
        go_simp
        try with_reducible rfl
      try simp only [Act.put, List.setIfInBounds_toArray, List.set_cons_zero, List.set_cons_succ]
      refine held_take (i := 6) (d := 37) (v := ?_) rfl rfl (by kernel_rfl) (by kernel_rfl) (by kernel_rfl) (fun _ _ _ h => h) (by rfl) ?_ (by assumption) ?_
      rotate_left
      · intro w hSw
        (try dsimp only at hSw)
        go_simp
        try with_reducible rfl
      try simp only [Act.put, List.setIfInBounds_toArray, List.set_cons_zero, List.set_cons_succ]
      refine wpAnyH_ready (rs := [8]) (by kernel_rfl) (by simp) ?_
      refine ((AllReadyH.cons rfl (fun K' hK => ?_) AllReadyH.nil))
      obtain ⟨⟨t0, t1, t2, t3, tl⟩, t4⟩ := ZB8.out
      have z0 := t4 0
      have z1 := t4 1
      have z2 := t4 2
      have z3 := t4 3
      clear t4
      go_simp
      refine hK.out _ _ ?_ (fun hHeld => ?_)
      · (try dsimp only)
        exact HQ.out _ (set4 BX8.out _ BX0.out.size _ _ _ _)
      clear hK K'
      try simp only [Act.put, List.setIfInBounds_toArray, List.set_cons_zero, List.set_cons_succ]
      refine held_take (i := 9) (d := 10) (v := ?_) rfl rfl (by kernel_rfl) (by kernel_rfl) (by kernel_rfl) (fun _ _ _ h => h) (by rfl) ?_ (by assumption) ?_
      rotate_left
      · intro w hSw
        (try dsimp only at hSw)
        go_simp
        try with_reducible rfl
      try simp only [Act.put, List.setIfInBounds_toArray, List.set_cons_zero, List.set_cons_succ]
      refine wpAnyH_done (by kernel_rfl) ?_ _
      clear t0 t1 t2 t3 tl z0 z1 z2 z3
      go_wp2_with fail
      go_meet
      exact ad_meet BX8.out ZB8.out BX0.out.size OB8.out na nb
  obtain ⟨b5, p5, c5, f5, l5, rfl, rfl, hb5, b45, y5, o5, n5, n5'⟩ := hcut
  obtain ⟨w5, rfl⟩ : ∃ u, u = wc := ⟨_, rfl⟩
  have Y5 := Lib.hid y5
  have G5 := Lib.hid o5
  have A5 := Lib.hid (Ab.out.on b45)
  have P5 := Lib.hid (Pb.out.trans (b45.mono Pb.out.size))
  have S5 := Lib.hid (Sb.out.on b45).cfg
  have X5 := Lib.hid (Xb.out.on b45)
  have b4 := Pn.out.trans (b45.mono (by omega))
  have OC5 := Lib.hid (own_low OC.out b4 (Nat.le_refl _))
  have OF5 := Lib.hid (own_low OF.out b4 (Nat.le_refl _))
  have HN5 : Hid ((Value.slice p5 G.cs.length c5).ownBlock ≠ some b5 ∧ (Value.slice f5 G.fs.length l5).ownBlock ≠ some b5) := Lib.hid ⟨fun q => n5 _ q rfl, fun q => n5' _ q rfl⟩
  have hb55 : b5 < w5.heap.size := y5.2.2.2.2
  have hs45 := b45.size
  have OD5 : Hid (∀ g, (Value.slice p5 G.cs.length c5).ownBlock = some g → (Value.slice f5 G.fs.length l5).ownBlock ≠ some g) := Lib.hid (by
    obtain ⟨va, vb, hv, _, _, od⟩ := o5
    simp only [Value.agg.injEq, Array.mk.injEq, List.cons.injEq, and_true, true_and] at hv
    obtain ⟨rfl, rfl⟩ := hv
    exact od)
  clear y5 o5 n5 n5' b45 b4 HQ HB0 Sb Xb Ab Pb
  obtain ⟨y0, y1, y2, y3, _⟩ := Y5.out
  obtain ⟨z0, z1, z2, z3, _⟩ := FourIs.up F3.out P5.out hb3a
  go_wp2_with (go_at_call 42; refine (HEQ.out _ _ G _ (Lib.hid G5.out.cfg) (Lib.hid (G3.out.below P5.out)) GM).mono ?_; rintro e w6 ⟨rfl, b6⟩; have A6 := Lib.hid (A5.out.on b6); have P6 := Lib.hid (P5.out.trans (b6.mono P5.out.size)); have S6 := Lib.hid (S5.out.below b6); have X6 := Lib.hid (X5.out.on b6); have G6 := Lib.hid (G5.out.on b6); have OC6 := Lib.hid (own_low OC5.out b6 (Nat.le_refl _)); have OF6 := Lib.hid (own_low OF5.out b6 (Nat.le_refl _)); have Y6 := Lib.hid (Y5.out.on b6); have hs56 : w5.heap.size ≤ w6.heap.size := b6.size; clear b6 y0 y1 y2 y3 z0 z1 z2 z3; refine Hid.out ?_)
  refine Lib.hid ?_
  have HAB : Hid (∀ w', BX w6 w' → TwoB w (.string s) (.slice ac cs.length cc) (.slice af fs.length cf) (.int .i64 d) ⟨xi, xp, xr, xe, xb, xu, xo, xl⟩ w') := Lib.hid (fun w' h => A6.out.on h)
  have HQ : Hid (∀ w', BX w6 w' → w'.cell? ⟨w.heap.size, 0, none⟩ = some (.string s) ∧ w'.cell? ⟨w.heap.size, 1, none⟩ = some (.slice ac cs.length cc) ∧ w'.cell? ⟨w.heap.size, 2, none⟩ = some (.slice af fs.length cf) ∧ w'.cell? ⟨w.heap.size, 3, none⟩ = some (.int .i64 d) ∧ w'.cell? ⟨w4.heap.size, 0, none⟩ = some (.string s) ∧ w'.cell? ⟨w4.heap.size, 1, none⟩ = some (.slice p4 cs.length c4) ∧ w'.cell? ⟨w4.heap.size, 2, none⟩ = some (.slice f4 fs.length l4) ∧ w'.cell? ⟨w4.heap.size, 3, none⟩ = some (.int .i64 d) ∧ BX w6 w') := Lib.hid (fun w' h => by
    obtain ⟨e0, e1, e2, e3, _⟩ := (HAB.out w' h).1
    obtain ⟨x0, x1, x2, x3, _⟩ := X6.out.on h
    exact ⟨e0, e1, e2, e3, x0, x1, x2, x3, h⟩)
  go_wp2_with fail
  refine wp_region_held_drew (S := fun w' => w'.cell? ⟨w.heap.size, 0, none⟩ = some (.string s) ∧ w'.cell? ⟨w.heap.size, 1, none⟩ = some (.slice ac cs.length cc) ∧ w'.cell? ⟨w.heap.size, 2, none⟩ = some (.slice af fs.length cf) ∧ w'.cell? ⟨w.heap.size, 3, none⟩ = some (.int .i64 d) ∧ w'.cell? ⟨w4.heap.size, 0, none⟩ = some (.string s) ∧ w'.cell? ⟨w4.heap.size, 1, none⟩ = some (.slice p4 cs.length c4) ∧ w'.cell? ⟨w4.heap.size, 2, none⟩ = some (.slice f4 fs.length l4) ∧ w'.cell? ⟨w4.heap.size, 3, none⟩ = some (.int .i64 d) ∧ BX w6 w') (by kernel_rfl) ?_ (fun hHeld => ?_)
  · (try dsimp only)
    (first | (go_split_ands; refine HQ.out _ ?_; repeat' (with_reducible first | exact BX.drew0 _ | exact BX.refl _ | assumption | refine BX.call' (by assumption) ?_ | refine BX.drew ?_)))
  refine held_take (i := 0) (d := 47) (v := ?_) rfl rfl (by kernel_rfl) (by kernel_rfl) (by kernel_rfl) (fun _ _ _ h => h) (by rfl) ?_ (by assumption) ?_
  rotate_left
  · intro w hSw
    (try dsimp only at hSw)
    go_simp
    try with_reducible rfl
  try simp only [Act.put, List.setIfInBounds_toArray, List.set_cons_zero, List.set_cons_succ]
  refine held_take (i := 1) (d := 48) (v := ?_) rfl rfl (by kernel_rfl) (by kernel_rfl) (by kernel_rfl) (fun _ _ _ h => h) (by rfl) ?_ (by assumption) ?_
  rotate_left
  · intro w hSw
    (try dsimp only at hSw)
    go_simp
    try with_reducible rfl
  try simp only [Act.put, List.setIfInBounds_toArray, List.set_cons_zero, List.set_cons_succ]
  refine wpAnyH_ready (rs := [2]) (by kernel_rfl) (by simp) ?_
  refine AllReadyH.cons rfl (fun K' hK => ?_) AllReadyH.nil
  go_simp
  (first | (go_split_ands; (with_reducible refine (HTO.out _ (HA.out.below (HAB.out _ (by assumption)).bel) M).mono ?_); rintro e w7 ⟨v7, rfl, s7, b7⟩; have S7 := Lib.hid s7.cfg; clear s7) | (go_split_ands; (with_reducible refine (HEQ.out _ _ _ _ (Lib.hid (S6.out.below (bx_below (by assumption)))) S7 M).mono ?_); rintro e w8 ⟨rfl, b8⟩))
  refine hK.out _ _ ?_ (fun hHeld => ?_)
  · (try dsimp only)
    (first | (go_split_ands; refine HQ.out _ ?_; repeat' (with_reducible first | exact BX.drew0 _ | exact BX.refl _ | assumption | refine BX.call' (by assumption) ?_ | refine BX.drew ?_)))
  clear hK K'
  try simp only [Act.put, List.setIfInBounds_toArray, List.set_cons_zero, List.set_cons_succ]
  refine wpAnyH_ready (rs := [3]) (by kernel_rfl) (by simp) ?_
  refine AllReadyH.cons rfl (fun K' hK => ?_) AllReadyH.nil
  go_simp
  (first | (go_split_ands; (with_reducible refine (HTO.out _ (HA.out.below (HAB.out _ (by assumption)).bel) M).mono ?_); rintro e w7 ⟨v7, rfl, s7, b7⟩; have S7 := Lib.hid s7.cfg; clear s7) | (go_split_ands; (with_reducible refine (HEQ.out _ _ _ _ (Lib.hid (S6.out.below (bx_below (by assumption)))) S7 M).mono ?_); rintro e w8 ⟨rfl, b8⟩))
  refine hK.out _ _ ?_ (fun hHeld => ?_)
  · (try dsimp only)
    (first | (go_split_ands; refine HQ.out _ ?_; repeat' (with_reducible first | exact BX.drew0 _ | exact BX.refl _ | assumption | refine BX.call' (by assumption) ?_ | refine BX.drew ?_)))
  clear hK K'
  try simp only [Act.put, List.setIfInBounds_toArray, List.set_cons_zero, List.set_cons_succ]
  refine held_take (i := 4) (d := 51) (v := ?_) rfl rfl (by kernel_rfl) (by kernel_rfl) (by kernel_rfl) (fun _ _ _ h => h) (by rfl) ?_ (by assumption) ?_
  rotate_left
  · intro w hSw
    (try dsimp only at hSw)
    go_simp
    try with_reducible rfl
  try simp only [Act.put, List.setIfInBounds_toArray, List.set_cons_zero, List.set_cons_succ]
  refine wpAnyH_done (by kernel_rfl) ?_ _
  go_split_ands
  have h68 : BX w6 w8 := by assumption
  have b68 := bx_below h68
  have A8 := Lib.hid (HAB.out w8 h68)
  have P8 := Lib.hid (P6.out.trans (b68.mono P6.out.size))
  have G8 := Lib.hid (G6.out.on b68)
  have Y8 := Lib.hid (Y6.out.on b68)
  have OC8 := Lib.hid (own_low OC6.out b68 (Nat.le_refl _))
  have OF8 := Lib.hid (own_low OF6.out b68 (Nat.le_refl _))
  have hs68 : w6.heap.size ≤ w8.heap.size := b68.size
  have hB8 : wa.heap.size ≤ w8.heap.size := by omega
  have hkm : decide (1 + 8 * (cs.length : Int) + 5 * (fs.length : Int) < 0) = false := not_lt (by omega)
  have hkg : decide (1 + 8 * (G.cs.length : Int) + 5 * (G.fs.length : Int) < 0) = false := not_lt (by omega)
  have HN4 : Hid (∀ g, w4.heap.size ≤ g → (Value.slice p4 cs.length c4).ownBlock ≠ some g ∧ (Value.slice f4 fs.length l4).ownBlock ≠ some g) := Lib.hid (fun g h => by
    refine ⟨fun q => ?_, fun q => ?_⟩
    · have := (World.ownsRow.lt OC.out g q).2; omega
    · have := (World.ownsRow.lt OF.out g q).2; omega)
  have HMC := Lib.hid (markConfig_any s p4 f4 cs.length fs.length c4 l4 d wa.heap.size _ _ w8 OC8 OF8 OD hB8 hcl hfl)
  have hgl4 : w4.heap.size ≤ b5 := by omega
  have hgl8 : b5 < w8.heap.size := by omega
  have hsab : wa.heap.size ≤ wb.heap.size := by omega
  have hswb : w.heap.size + 2 ≤ wb.heap.size := by omega
  clear S6 X6 X5 S5 b68 A1
  go_wp2_with (go_at_call 43; refine HMC.out.mono ?_; rintro e w9 ⟨rfl, b9, o9⟩; refine Hid.out ?_)
  refine Lib.hid ?_
  have A9 := Lib.hid (A8.out.up (b9.mono hsza))
  have P9 := Lib.hid (P8.out.trans b9)
  have G9 := Lib.hid (OwnCfg.heap G8.out (fun g h h' => o9 g h' (HN4.out g (by omega)).1 (HN4.out g (by omega)).2))
  have Y9 := Lib.hid (FourIs.heap Y8.out (o9 _ hgl8 (HN4.out _ hgl4).1 (HN4.out _ hgl4).2) b9.size)
  have hs89 := b9.size
  clear b9 o9
  obtain ⟨y0, y1, y2, y3, _⟩ := Y9.out
  obtain ⟨z0, z1, z2, z3, _⟩ := FourIs.up F3.out P9.out hb3a
  go_wp2_with (go_at_call 42; refine (HEQ.out _ _ G _ (Lib.hid G9.out.cfg) (Lib.hid (G3.out.below P9.out)) GM).mono ?_; rintro e w10 ⟨rfl, b10⟩; have A10 := Lib.hid (A9.out.on b10); have P10 := Lib.hid (P9.out.trans (b10.mono P9.out.size)); have G10 := Lib.hid (G9.out.on b10); have Y10 := Lib.hid (Y9.out.on b10); have hs910 := b10.size; clear b10 y0 y1 y2 y3 z0 z1 z2 z3; refine Hid.out ?_)
  refine Lib.hid ?_
  obtain ⟨va, vb, hv, oa, ob, _⟩ := G10.out
  simp only [Value.agg.injEq, Array.mk.injEq, List.cons.injEq, and_true, true_and] at hv
  obtain ⟨rfl, rfl⟩ := hv
  have HMG := Lib.hid (markConfig_all G.s p5 f5 G.cs.length G.fs.length c5 l5 G.d wb.heap.size _ _ w10 (Lib.hid oa) (Lib.hid ob) OD5 (by omega) gcl gfl)
  have HHG := Lib.hid (fun w h h' => heldConfig_any G.s p5 f5 G.cs.length G.fs.length c5 l5 G.d wb.heap.size w h h' gcl gfl)
  have hg10 : b5 < w10.heap.size := by omega
  clear oa ob
  obtain ⟨y0, y1, y2, y3, _⟩ := Y10.out
  go_wp2_with (go_at_call 43; refine HMG.out.mono ?_; rintro e w11 ⟨rfl, oa, ob, b11, o11⟩; have A11 := Lib.hid (A10.out.up (b11.mono hswb)); have P11 := Lib.hid (P10.out.trans (b11.mono hsab)); have Y11 := Lib.hid (FourIs.heap Y10.out (o11 _ hg10 HN5.out.1 HN5.out.2) b11.size); have OA11 := Lib.hid oa; have OB11 := Lib.hid ob; clear b11 o11 oa ob y0 y1 y2 y3; refine Hid.out ?_)
  refine Lib.hid ?_
  obtain ⟨y0, y1, y2, y3, _⟩ := Y11.out
  go_wp2_with (go_at_call 44; refine (HHG.out _ OA11 OB11).mono ?_; rintro e w12 ⟨rfl, b12⟩; have A12 := Lib.hid (A11.out.on b12); have P12 := Lib.hid (P11.out.trans (b12.mono P11.out.size)); have Y12 := Lib.hid (Y11.out.on b12); have OA12 := Lib.hid (own_low OA11.out b12 (Nat.le_refl _)); have OB12 := Lib.hid (own_low OB11.out b12 (Nat.le_refl _)); clear b12 y0 y1 y2 y3; refine Hid.out ?_)
  refine Lib.hid ?_
  clear HQ HAB
  have HB0 : Hid (∀ w', Below w12.heap.size w12 w' → Below w.heap.size w w') := Lib.hid (fun w' h => (A12.out.on h).2.2.2)
  have HQ : Hid (∀ w', Below w12.heap.size w12 w' → w'.cell? ⟨w.heap.size, 0, none⟩ = some (.string s) ∧ w'.cell? ⟨w.heap.size, 1, none⟩ = some (.slice ac cs.length cc) ∧ w'.cell? ⟨w.heap.size, 2, none⟩ = some (.slice af fs.length cf) ∧ w'.cell? ⟨w.heap.size, 3, none⟩ = some (.int .i64 d) ∧ w'.cell? ⟨w.heap.size + 1, 0, none⟩ = some (.int .i64 xi) ∧ w'.cell? ⟨w.heap.size + 1, 1, none⟩ = some (.int .i64 xp) ∧ w'.cell? ⟨w.heap.size + 1, 2, none⟩ = some (.int .i64 xr) ∧ w'.cell? ⟨w.heap.size + 1, 3, none⟩ = some (.int .i64 xe) ∧ w'.cell? ⟨w.heap.size + 1, 4, none⟩ = some (.int .i64 xb) ∧ w'.cell? ⟨w.heap.size + 1, 5, none⟩ = some (.int .i64 xu) ∧ w'.cell? ⟨w.heap.size + 1, 6, none⟩ = some (.int .i64 xo) ∧ w'.cell? ⟨w.heap.size + 1, 7, none⟩ = some (.int .i64 xl) ∧ Below w12.heap.size w12 w') := Lib.hid (fun w' h => by
    obtain ⟨⟨e0, e1, e2, e3, _⟩, ⟨f0, f1, f2, f3, f4, f5, f6, f7⟩, _⟩ := A12.out.on h
    exact ⟨e0, e1, e2, e3, f0, f1, f2, f3, f4, f5, f6, f7, h⟩)
  go_upto_region 24 with fail
  go_cut [14, 15] from 79 to 86 (fun x14 x15 wx => AdR w12 G g2 x14 x15 wx)
  case first =>
    refine wp_region_held_drew (S := fun w' => w'.cell? ⟨w.heap.size, 0, none⟩ = some (.string s) ∧ w'.cell? ⟨w.heap.size, 1, none⟩ = some (.slice ac cs.length cc) ∧ w'.cell? ⟨w.heap.size, 2, none⟩ = some (.slice af fs.length cf) ∧ w'.cell? ⟨w.heap.size, 3, none⟩ = some (.int .i64 d) ∧ w'.cell? ⟨w.heap.size + 1, 0, none⟩ = some (.int .i64 xi) ∧ w'.cell? ⟨w.heap.size + 1, 1, none⟩ = some (.int .i64 xp) ∧ w'.cell? ⟨w.heap.size + 1, 2, none⟩ = some (.int .i64 xr) ∧ w'.cell? ⟨w.heap.size + 1, 3, none⟩ = some (.int .i64 xe) ∧ w'.cell? ⟨w.heap.size + 1, 4, none⟩ = some (.int .i64 xb) ∧ w'.cell? ⟨w.heap.size + 1, 5, none⟩ = some (.int .i64 xu) ∧ w'.cell? ⟨w.heap.size + 1, 6, none⟩ = some (.int .i64 xo) ∧ w'.cell? ⟨w.heap.size + 1, 7, none⟩ = some (.int .i64 xl) ∧ Below w12.heap.size w12 w') (by kernel_rfl) ?_ (fun hHeld => ?_)
    · (try dsimp only)
      exact HQ.out _ (below_drewN (Below.refl _ _) 1)
    refine held_take (i := 0) (d := 80) (v := ?_) rfl rfl (by kernel_rfl) (by kernel_rfl) (by kernel_rfl) (fun _ _ _ h => h) (by rfl) ?_ (by assumption) ?_
    rotate_left
    · intro w hSw
      (try dsimp only at hSw)
      go_simp
      try with_reducible rfl
    try simp only [Act.put, List.setIfInBounds_toArray, List.set_cons_zero, List.set_cons_succ]
    refine held_take (i := 2) (d := 82) (v := ?_) rfl rfl (by kernel_rfl) (by kernel_rfl) (by kernel_rfl) (fun _ _ _ h => h) (by rfl) ?_ (by assumption) ?_
    rotate_left
    · intro w hSw
      (try dsimp only at hSw)
      go_simp
      try with_reducible rfl
    try simp only [Act.put, List.setIfInBounds_toArray, List.set_cons_zero, List.set_cons_succ]
    have BX0 : Hid (Below w12.heap.size w12 w12.drew) := Lib.hid (below_drewN (Below.refl _ _) 1)
    obtain ⟨u0, hu0⟩ : ∃ u0, w12.drew = u0 := ⟨_, rfl⟩
    rw [hu0] at hHeld BX0 ⊢
    clear hu0
    refine wpAnyH_ready (rs := [1, 8]) (by kernel_rfl) (by simp) ?_
    refine ((AllReadyH.cons rfl (fun K' hK => ?_) (AllReadyH.cons rfl (fun K' hK => ?_) AllReadyH.nil)))
    · skip
      go_simp
      go_at_call 39
      refine (HTO.out _ (HA.out.below (HB0.out _ BX0.out)) M).mono ?_
      rintro e u1 ⟨v1, rfl, o4, b4⟩
      have BX1 := Lib.hid (BX0.out.trans (b4.mono BX0.out.size))
      have SC1 := Lib.hid o4
      obtain ⟨va, vb, rfl, oa, ob, _⟩ := o4
      obtain ⟨p2, k2, rfl, _⟩ := own_in oa
      obtain ⟨p3, k3, rfl, _⟩ := own_in ob
      clear oa ob
      clear b4
      refine hK.out _ _ ?_ (fun hHeld => ?_)
      · (try dsimp only)
        exact HQ.out _ BX1.out
      clear hK K'
      try simp only [Act.put, List.setIfInBounds_toArray, List.set_cons_zero, List.set_cons_succ]
      refine wpAnyH_ready (rs := [3, 8]) (by kernel_rfl) (by simp) ?_
      refine ((AllReadyH.cons rfl (fun K' hK => ?_) (AllReadyH.cons rfl (fun K' hK => ?_) AllReadyH.nil)))
      · skip
        go_simp
        go_at_call 40
        refine (HTX.out _).mono ?_
        rintro e u2 ⟨rfl, b4⟩
        have BX2 := Lib.hid (BX1.out.trans (b4.mono BX1.out.size))
        have SC2 := Lib.hid (SC1.out.on b4)
        clear b4
        refine hK.out _ _ ?_ (fun hHeld => ?_)
        · (try dsimp only)
          exact HQ.out _ BX2.out
        clear hK K'
        try simp only [Act.put, List.setIfInBounds_toArray, List.set_cons_zero, List.set_cons_succ]
        refine wpAnyH_ready (rs := [4, 8]) (by kernel_rfl) (by simp) ?_
        refine ((AllReadyH.cons rfl (fun K' hK => ?_) (AllReadyH.cons rfl (fun K' hK => ?_) AllReadyH.nil)))
        · skip
          go_simp
          go_at_call 41
          refine (HIM.out _ _ _ (Lib.hid (HT.out.below (HB0.out _ BX2.out))) SC2 M).mono ?_
          rintro e u3 ⟨v3, rfl, o4, b4⟩
          have BX3 := Lib.hid (BX2.out.trans (b4.mono BX2.out.size))
          have OB3 := Lib.hid (o4.base BX2.out.size)
          have oq := o4
          obtain ⟨va, vb, rfl, oa, ob, _⟩ := o4
          obtain ⟨pa, ka, rfl, _⟩ := own_in oa
          obtain ⟨pb, kb, rfl, _⟩ := own_in ob
          clear oa ob
          clear oq
          clear b4
          refine hK.out _ _ ?_ (fun hHeld => ?_)
          · (try dsimp only)
            exact HQ.out _ BX3.out
          clear hK K'
          try simp only [Act.put, List.setIfInBounds_toArray, List.set_cons_zero, List.set_cons_succ]
          refine held_take (i := 5) (d := 79) (v := ?_) rfl rfl (by kernel_rfl) (by kernel_rfl) (by kernel_rfl) (fun _ _ _ h => h) (by rfl) ?_ (by assumption) ?_
          rotate_left
          · intro w hSw
            (try dsimp only at hSw)
            go_simp
            try with_reducible rfl
          try simp only [Act.put, List.setIfInBounds_toArray, List.set_cons_zero, List.set_cons_succ]
          refine held_take (i := 6) (d := 85) (v := ?_) rfl rfl (by kernel_rfl) (by kernel_rfl) (by kernel_rfl) (fun _ _ _ h => h) (by rfl) ?_ (by assumption) ?_
          rotate_left
          · intro w hSw
            (try dsimp only at hSw)
            go_simp
            try with_reducible rfl
          try simp only [Act.put, List.setIfInBounds_toArray, List.set_cons_zero, List.set_cons_succ]
          refine held_take (i := 7) (d := 86) (v := ?_) rfl rfl (by kernel_rfl) (by kernel_rfl) (by kernel_rfl) (fun _ _ _ h => h) (by rfl) ?_ (by assumption) ?_
          rotate_left
          · intro w hSw
            (try dsimp only at hSw)
            go_simp
            try with_reducible rfl
          try simp only [Act.put, List.setIfInBounds_toArray, List.set_cons_zero, List.set_cons_succ]
          refine wpAnyH_ready (rs := [8]) (by kernel_rfl) (by simp) ?_
          refine ((AllReadyH.cons rfl (fun K' hK => ?_) AllReadyH.nil))
          go_simp
          refine hK.out _ _ ?_ (fun hHeld => ?_)
          · (try dsimp only)
            exact HQ.out _ (BX3.out.alloc BX3.out.size _)
          clear hK K'
          try simp only [Act.put, List.setIfInBounds_toArray, List.set_cons_zero, List.set_cons_succ]
          have bn := one_new2 u3 (.cells #[.string ⟨#[]⟩, .slice none 0 0, .slice none 0 0, .int .i64 0] 47)
          have BX4 := Lib.hid (BX3.out.alloc BX3.out.size (.cells #[.string ⟨#[]⟩, .slice none 0 0, .slice none 0 0, .int .i64 0] 47))
          have ZB4 := Lib.hid (zer_fresh u3 47)
          obtain ⟨na, nb⟩ := own_ne OB3.out
          have OB4 := Lib.hid (OB3.out.on bn)
          obtain ⟨u4, hu4⟩ : ∃ u, u3.alloc (.cells #[.string ⟨#[]⟩, .slice none 0 0, .slice none 0 0, .int .i64 0] 47) = u := ⟨_, rfl⟩
          rw [hu4] at hHeld BX4 ZB4 OB4 ⊢
          clear hu4 bn
          refine wpAnyH_ready (rs := [9]) (by kernel_rfl) (by simp) ?_
          refine ((AllReadyH.cons rfl (fun K' hK => ?_) AllReadyH.nil))
          obtain ⟨⟨t0, t1, t2, t3, tl⟩, t4⟩ := ZB4.out
          have z0 := t4 0
          have z1 := t4 1
          have z2 := t4 2
          have z3 := t4 3
          clear t4
          go_simp
          refine hK.out _ _ ?_ (fun hHeld => ?_)
          · (try dsimp only)
            exact HQ.out _ (set4 BX4.out _ BX3.out.size _ _ _ _)
          clear hK K'
          try simp only [Act.put, List.setIfInBounds_toArray, List.set_cons_zero, List.set_cons_succ]
          refine held_take (i := 10) (d := 15) (v := ?_) rfl rfl (by kernel_rfl) (by kernel_rfl) (by kernel_rfl) (fun _ _ _ h => h) (by rfl) ?_ (by assumption) ?_
          rotate_left
          · intro w hSw
            (try dsimp only at hSw)
            go_simp
            try with_reducible rfl
          try simp only [Act.put, List.setIfInBounds_toArray, List.set_cons_zero, List.set_cons_succ]
          refine wpAnyH_done (by kernel_rfl) ?_ _
          clear t0 t1 t2 t3 tl z0 z1 z2 z3
          go_wp2_with fail
          go_meet
          exact ad_meet BX4.out ZB4.out BX3.out.size OB4.out na nb
        · skip
          go_simp
          refine hK.out _ _ ?_ (fun hHeld => ?_)
          · (try dsimp only)
            exact HQ.out _ (BX2.out.alloc BX2.out.size _)
          clear hK K'
          try simp only [Act.put, List.setIfInBounds_toArray, List.set_cons_zero, List.set_cons_succ]
          have bn := one_new2 u2 (.cells #[.string ⟨#[]⟩, .slice none 0 0, .slice none 0 0, .int .i64 0] 47)
          have BX5 := Lib.hid (BX2.out.alloc BX2.out.size (.cells #[.string ⟨#[]⟩, .slice none 0 0, .slice none 0 0, .int .i64 0] 47))
          have ZB5 := Lib.hid (zer_fresh u2 47)
          have SC5 := Lib.hid (SC2.out.on bn)
          obtain ⟨u5, hu5⟩ : ∃ u, u2.alloc (.cells #[.string ⟨#[]⟩, .slice none 0 0, .slice none 0 0, .int .i64 0] 47) = u := ⟨_, rfl⟩
          rw [hu5] at hHeld BX5 ZB5 SC5 ⊢
          clear hu5 bn
          refine wpAnyH_ready (rs := [4]) (by kernel_rfl) (by simp) ?_
          refine ((AllReadyH.cons rfl (fun K' hK => ?_) AllReadyH.nil))
          go_simp
          go_at_call 41
          refine (HIM.out _ _ _ (Lib.hid (HT.out.below (HB0.out _ BX5.out))) SC5 M).mono ?_
          rintro e u6 ⟨v6, rfl, o4, b4⟩
          have BX6 := Lib.hid (BX5.out.trans (b4.mono BX5.out.size))
          have ZB6 := Lib.hid (ZB5.out.on b4)
          have OB6 := Lib.hid (o4.base BX5.out.size)
          have oq := o4
          obtain ⟨va, vb, rfl, oa, ob, _⟩ := o4
          obtain ⟨pa, ka, rfl, _⟩ := own_in oa
          obtain ⟨pb, kb, rfl, _⟩ := own_in ob
          clear oa ob
          obtain ⟨na, nb⟩ := own_ge oq ZB5.out.1.2.2.2.2
          clear oq
          clear b4
          refine hK.out _ _ ?_ (fun hHeld => ?_)
          · (try dsimp only)
            exact HQ.out _ BX6.out
          clear hK K'
          try simp only [Act.put, List.setIfInBounds_toArray, List.set_cons_zero, List.set_cons_succ]
          refine held_take (i := 5) (d := 79) (v := ?_) rfl rfl (by kernel_rfl) (by kernel_rfl) (by kernel_rfl) (fun _ _ _ h => h) (by rfl) ?_ (by assumption) ?_
          rotate_left
          · intro w hSw
            (try dsimp only at hSw)
            go_simp
            try with_reducible rfl
          try simp only [Act.put, List.setIfInBounds_toArray, List.set_cons_zero, List.set_cons_succ]
          refine held_take (i := 6) (d := 85) (v := ?_) rfl rfl (by kernel_rfl) (by kernel_rfl) (by kernel_rfl) (fun _ _ _ h => h) (by rfl) ?_ (by assumption) ?_
          rotate_left
          · intro w hSw
            (try dsimp only at hSw)
            go_simp
            try with_reducible rfl
          try simp only [Act.put, List.setIfInBounds_toArray, List.set_cons_zero, List.set_cons_succ]
          refine held_take (i := 7) (d := 86) (v := ?_) rfl rfl (by kernel_rfl) (by kernel_rfl) (by kernel_rfl) (fun _ _ _ h => h) (by rfl) ?_ (by assumption) ?_
          rotate_left
          · intro w hSw
            (try dsimp only at hSw)
            go_simp
            try with_reducible rfl
          try simp only [Act.put, List.setIfInBounds_toArray, List.set_cons_zero, List.set_cons_succ]
          refine wpAnyH_ready (rs := [9]) (by kernel_rfl) (by simp) ?_
          refine ((AllReadyH.cons rfl (fun K' hK => ?_) AllReadyH.nil))
          obtain ⟨⟨t0, t1, t2, t3, tl⟩, t4⟩ := ZB6.out
          have z0 := t4 0
          have z1 := t4 1
          have z2 := t4 2
          have z3 := t4 3
          clear t4
          go_simp
          refine hK.out _ _ ?_ (fun hHeld => ?_)
          · (try dsimp only)
            exact HQ.out _ (set4 BX6.out _ BX2.out.size _ _ _ _)
          clear hK K'
          try simp only [Act.put, List.setIfInBounds_toArray, List.set_cons_zero, List.set_cons_succ]
          refine held_take (i := 10) (d := 15) (v := ?_) rfl rfl (by kernel_rfl) (by kernel_rfl) (by kernel_rfl) (fun _ _ _ h => h) (by rfl) ?_ (by assumption) ?_
          rotate_left
          · intro w hSw
            (try dsimp only at hSw)
            go_simp
            try with_reducible rfl
          try simp only [Act.put, List.setIfInBounds_toArray, List.set_cons_zero, List.set_cons_succ]
          refine wpAnyH_done (by kernel_rfl) ?_ _
          clear t0 t1 t2 t3 tl z0 z1 z2 z3
          go_wp2_with fail
          go_meet
          exact ad_meet BX6.out ZB6.out BX2.out.size OB6.out na nb
      · skip
        go_simp
        refine hK.out _ _ ?_ (fun hHeld => ?_)
        · (try dsimp only)
          exact HQ.out _ (BX1.out.alloc BX1.out.size _)
        clear hK K'
        try simp only [Act.put, List.setIfInBounds_toArray, List.set_cons_zero, List.set_cons_succ]
        have bn := one_new2 u1 (.cells #[.string ⟨#[]⟩, .slice none 0 0, .slice none 0 0, .int .i64 0] 47)
        have BX7 := Lib.hid (BX1.out.alloc BX1.out.size (.cells #[.string ⟨#[]⟩, .slice none 0 0, .slice none 0 0, .int .i64 0] 47))
        have ZB7 := Lib.hid (zer_fresh u1 47)
        have SC7 := Lib.hid (SC1.out.on bn)
        obtain ⟨u7, hu7⟩ : ∃ u, u1.alloc (.cells #[.string ⟨#[]⟩, .slice none 0 0, .slice none 0 0, .int .i64 0] 47) = u := ⟨_, rfl⟩
        rw [hu7] at hHeld BX7 ZB7 SC7 ⊢
        clear hu7 bn
        refine wpAnyH_ready (rs := [3]) (by kernel_rfl) (by simp) ?_
        refine ((AllReadyH.cons rfl (fun K' hK => ?_) AllReadyH.nil))
        go_simp
        go_at_call 40
        refine (HTX.out _).mono ?_
        rintro e u8 ⟨rfl, b4⟩
        have BX8 := Lib.hid (BX7.out.trans (b4.mono BX7.out.size))
        have ZB8 := Lib.hid (ZB7.out.on b4)
        have SC8 := Lib.hid (SC7.out.on b4)
        clear b4
        refine hK.out _ _ ?_ (fun hHeld => ?_)
        · (try dsimp only)
          exact HQ.out _ BX8.out
        clear hK K'
        try simp only [Act.put, List.setIfInBounds_toArray, List.set_cons_zero, List.set_cons_succ]
        refine wpAnyH_ready (rs := [4]) (by kernel_rfl) (by simp) ?_
        refine ((AllReadyH.cons rfl (fun K' hK => ?_) AllReadyH.nil))
        go_simp
        go_at_call 41
        refine (HIM.out _ _ _ (Lib.hid (HT.out.below (HB0.out _ BX8.out))) SC8 M).mono ?_
        rintro e u9 ⟨v9, rfl, o4, b4⟩
        have BX9 := Lib.hid (BX8.out.trans (b4.mono BX8.out.size))
        have ZB9 := Lib.hid (ZB8.out.on b4)
        have OB9 := Lib.hid (o4.base BX8.out.size)
        have oq := o4
        obtain ⟨va, vb, rfl, oa, ob, _⟩ := o4
        obtain ⟨pa, ka, rfl, _⟩ := own_in oa
        obtain ⟨pb, kb, rfl, _⟩ := own_in ob
        clear oa ob
        obtain ⟨na, nb⟩ := own_ge oq ZB8.out.1.2.2.2.2
        clear oq
        clear b4
        refine hK.out _ _ ?_ (fun hHeld => ?_)
        · (try dsimp only)
          exact HQ.out _ BX9.out
        clear hK K'
        try simp only [Act.put, List.setIfInBounds_toArray, List.set_cons_zero, List.set_cons_succ]
        refine held_take (i := 5) (d := 79) (v := ?_) rfl rfl (by kernel_rfl) (by kernel_rfl) (by kernel_rfl) (fun _ _ _ h => h) (by rfl) ?_ (by assumption) ?_
        rotate_left
        · intro w hSw
          (try dsimp only at hSw)
          go_simp
          try with_reducible rfl
        try simp only [Act.put, List.setIfInBounds_toArray, List.set_cons_zero, List.set_cons_succ]
        refine held_take (i := 6) (d := 85) (v := ?_) rfl rfl (by kernel_rfl) (by kernel_rfl) (by kernel_rfl) (fun _ _ _ h => h) (by rfl) ?_ (by assumption) ?_
        rotate_left
        · intro w hSw
          (try dsimp only at hSw)
          go_simp
          try with_reducible rfl
        try simp only [Act.put, List.setIfInBounds_toArray, List.set_cons_zero, List.set_cons_succ]
        refine held_take (i := 7) (d := 86) (v := ?_) rfl rfl (by kernel_rfl) (by kernel_rfl) (by kernel_rfl) (fun _ _ _ h => h) (by rfl) ?_ (by assumption) ?_
        rotate_left
        · intro w hSw
          (try dsimp only at hSw)
          go_simp
          try with_reducible rfl
        try simp only [Act.put, List.setIfInBounds_toArray, List.set_cons_zero, List.set_cons_succ]
        refine wpAnyH_ready (rs := [9]) (by kernel_rfl) (by simp) ?_
        refine ((AllReadyH.cons rfl (fun K' hK => ?_) AllReadyH.nil))
        obtain ⟨⟨t0, t1, t2, t3, tl⟩, t4⟩ := ZB9.out
        have z0 := t4 0
        have z1 := t4 1
        have z2 := t4 2
        have z3 := t4 3
        clear t4
        go_simp
        refine hK.out _ _ ?_ (fun hHeld => ?_)
        · (try dsimp only)
          exact HQ.out _ (set4 BX9.out _ BX1.out.size _ _ _ _)
        clear hK K'
        try simp only [Act.put, List.setIfInBounds_toArray, List.set_cons_zero, List.set_cons_succ]
        refine held_take (i := 10) (d := 15) (v := ?_) rfl rfl (by kernel_rfl) (by kernel_rfl) (by kernel_rfl) (fun _ _ _ h => h) (by rfl) ?_ (by assumption) ?_
        rotate_left
        · intro w hSw
          (try dsimp only at hSw)
          go_simp
          try with_reducible rfl
        try simp only [Act.put, List.setIfInBounds_toArray, List.set_cons_zero, List.set_cons_succ]
        refine wpAnyH_done (by kernel_rfl) ?_ _
        clear t0 t1 t2 t3 tl z0 z1 z2 z3
        go_wp2_with fail
        go_meet
        exact ad_meet BX9.out ZB9.out BX1.out.size OB9.out na nb
    · skip
      go_simp
      refine hK.out _ _ ?_ (fun hHeld => ?_)
      · (try dsimp only)
        exact HQ.out _ (BX0.out.alloc BX0.out.size _)
      clear hK K'
      try simp only [Act.put, List.setIfInBounds_toArray, List.set_cons_zero, List.set_cons_succ]
      have bn := one_new2 u0 (.cells #[.string ⟨#[]⟩, .slice none 0 0, .slice none 0 0, .int .i64 0] 47)
      have BX10 := Lib.hid (BX0.out.alloc BX0.out.size (.cells #[.string ⟨#[]⟩, .slice none 0 0, .slice none 0 0, .int .i64 0] 47))
      have ZB10 := Lib.hid (zer_fresh u0 47)
      obtain ⟨u10, hu10⟩ : ∃ u, u0.alloc (.cells #[.string ⟨#[]⟩, .slice none 0 0, .slice none 0 0, .int .i64 0] 47) = u := ⟨_, rfl⟩
      rw [hu10] at hHeld BX10 ZB10 ⊢
      clear hu10 bn
      refine wpAnyH_ready (rs := [1]) (by kernel_rfl) (by simp) ?_
      refine ((AllReadyH.cons rfl (fun K' hK => ?_) AllReadyH.nil))
      go_simp
      go_at_call 39
      refine (HTO.out _ (HA.out.below (HB0.out _ BX10.out)) M).mono ?_
      rintro e u11 ⟨v11, rfl, o4, b4⟩
      have BX11 := Lib.hid (BX10.out.trans (b4.mono BX10.out.size))
      have ZB11 := Lib.hid (ZB10.out.on b4)
      have SC11 := Lib.hid o4
      obtain ⟨va, vb, rfl, oa, ob, _⟩ := o4
      obtain ⟨p2, k2, rfl, _⟩ := own_in oa
      obtain ⟨p3, k3, rfl, _⟩ := own_in ob
      clear oa ob
      clear b4
      refine hK.out _ _ ?_ (fun hHeld => ?_)
      · (try dsimp only)
        exact HQ.out _ BX11.out
      clear hK K'
      try simp only [Act.put, List.setIfInBounds_toArray, List.set_cons_zero, List.set_cons_succ]
      refine wpAnyH_ready (rs := [3]) (by kernel_rfl) (by simp) ?_
      refine ((AllReadyH.cons rfl (fun K' hK => ?_) AllReadyH.nil))
      go_simp
      go_at_call 40
      refine (HTX.out _).mono ?_
      rintro e u12 ⟨rfl, b4⟩
      have BX12 := Lib.hid (BX11.out.trans (b4.mono BX11.out.size))
      have ZB12 := Lib.hid (ZB11.out.on b4)
      have SC12 := Lib.hid (SC11.out.on b4)
      clear b4
      refine hK.out _ _ ?_ (fun hHeld => ?_)
      · (try dsimp only)
        exact HQ.out _ BX12.out
      clear hK K'
      try simp only [Act.put, List.setIfInBounds_toArray, List.set_cons_zero, List.set_cons_succ]
      refine wpAnyH_ready (rs := [4]) (by kernel_rfl) (by simp) ?_
      refine ((AllReadyH.cons rfl (fun K' hK => ?_) AllReadyH.nil))
      go_simp
      go_at_call 41
      refine (HIM.out _ _ _ (Lib.hid (HT.out.below (HB0.out _ BX12.out))) SC12 M).mono ?_
      rintro e u13 ⟨v13, rfl, o4, b4⟩
      have BX13 := Lib.hid (BX12.out.trans (b4.mono BX12.out.size))
      have ZB13 := Lib.hid (ZB12.out.on b4)
      have OB13 := Lib.hid (o4.base BX12.out.size)
      have oq := o4
      obtain ⟨va, vb, rfl, oa, ob, _⟩ := o4
      obtain ⟨pa, ka, rfl, _⟩ := own_in oa
      obtain ⟨pb, kb, rfl, _⟩ := own_in ob
      clear oa ob
      obtain ⟨na, nb⟩ := own_ge oq ZB12.out.1.2.2.2.2
      clear oq
      clear b4
      refine hK.out _ _ ?_ (fun hHeld => ?_)
      · (try dsimp only)
        exact HQ.out _ BX13.out
      clear hK K'
      try simp only [Act.put, List.setIfInBounds_toArray, List.set_cons_zero, List.set_cons_succ]
      refine held_take (i := 5) (d := 79) (v := ?_) rfl rfl (by kernel_rfl) (by kernel_rfl) (by kernel_rfl) (fun _ _ _ h => h) (by rfl) ?_ (by assumption) ?_
      rotate_left
      · intro w hSw
        (try dsimp only at hSw)
        go_simp
        try with_reducible rfl
      try simp only [Act.put, List.setIfInBounds_toArray, List.set_cons_zero, List.set_cons_succ]
      refine held_take (i := 6) (d := 85) (v := ?_) rfl rfl (by kernel_rfl) (by kernel_rfl) (by kernel_rfl) (fun _ _ _ h => h) (by rfl) ?_ (by assumption) ?_
      rotate_left
      · intro w hSw
        (try dsimp only at hSw)
        go_simp
        try with_reducible rfl
      try simp only [Act.put, List.setIfInBounds_toArray, List.set_cons_zero, List.set_cons_succ]
      refine held_take (i := 7) (d := 86) (v := ?_) rfl rfl (by kernel_rfl) (by kernel_rfl) (by kernel_rfl) (fun _ _ _ h => h) (by rfl) ?_ (by assumption) ?_
      rotate_left
      · intro w hSw
        (try dsimp only at hSw)
        go_simp
        try with_reducible rfl
      try simp only [Act.put, List.setIfInBounds_toArray, List.set_cons_zero, List.set_cons_succ]
      refine wpAnyH_ready (rs := [9]) (by kernel_rfl) (by simp) ?_
      refine ((AllReadyH.cons rfl (fun K' hK => ?_) AllReadyH.nil))
      obtain ⟨⟨t0, t1, t2, t3, tl⟩, t4⟩ := ZB13.out
      have z0 := t4 0
      have z1 := t4 1
      have z2 := t4 2
      have z3 := t4 3
      clear t4
      go_simp
      refine hK.out _ _ ?_ (fun hHeld => ?_)
      · (try dsimp only)
        exact HQ.out _ (set4 BX13.out _ BX0.out.size _ _ _ _)
      clear hK K'
      try simp only [Act.put, List.setIfInBounds_toArray, List.set_cons_zero, List.set_cons_succ]
      refine held_take (i := 10) (d := 15) (v := ?_) rfl rfl (by kernel_rfl) (by kernel_rfl) (by kernel_rfl) (fun _ _ _ h => h) (by rfl) ?_ (by assumption) ?_
      rotate_left
      · intro w hSw
        (try dsimp only at hSw)
        go_simp
        try with_reducible rfl
      try simp only [Act.put, List.setIfInBounds_toArray, List.set_cons_zero, List.set_cons_succ]
      refine wpAnyH_done (by kernel_rfl) ?_ _
      clear t0 t1 t2 t3 tl z0 z1 z2 z3
      go_wp2_with fail
      go_meet
      exact ad_meet BX13.out ZB13.out BX0.out.size OB13.out na nb
  obtain ⟨b14, p14, c14, f14, l14, rfl, rfl, hb14, bx14, y14, o14, _, _⟩ := hcut
  obtain ⟨w14, rfl⟩ : ∃ u, u = wc := ⟨_, rfl⟩
  have A14 := Lib.hid (A12.out.on bx14)
  have P14 := Lib.hid (P12.out.trans (bx14.mono P12.out.size))
  have Y14 := Lib.hid (Y12.out.on bx14)
  have OA14 := Lib.hid (own_low OA12.out bx14 (Nat.le_refl _))
  have OB14 := Lib.hid (own_low OB12.out bx14 (Nat.le_refl _))
  have G14 := Lib.hid o14.cfg
  have F14 := Lib.hid y14
  clear bx14 y14 o14 HQ HB0
  obtain ⟨y0, y1, y2, y3, _⟩ := F14.out
  obtain ⟨z0, z1, z2, z3, _⟩ := FourIs.up F3.out P14.out hb3a
  go_wp2_with (go_at_call 42; refine (HEQ.out _ _ G _ G14 (Lib.hid (G3.out.below P14.out)) GM).mono ?_; rintro e w15 ⟨rfl, b15⟩; have A15 := Lib.hid (A14.out.on b15); have Y15 := Lib.hid (Y14.out.on b15); have OA15 := Lib.hid (own_low OA14.out b15 (Nat.le_refl _)); have OB15 := Lib.hid (own_low OB14.out b15 (Nat.le_refl _)); clear b15 y0 y1 y2 y3 z0 z1 z2 z3; refine Hid.out ?_)
  refine Lib.hid ?_
  obtain ⟨y0, y1, y2, y3, _⟩ := Y15.out
  go_wp2_with (go_at_call 44; refine (HHG.out _ OA15 OB15).mono ?_; rintro e w16 ⟨rfl, b16⟩; have A16 := Lib.hid (A15.out.on b16); clear b16)
  go_ret
  exact ⟨rfl, A16.out.2.2.2⟩

theorem contract (H : Type) (enc : TypeId × Value → H) (W : World) (base : Nat) (args : Array Value) (ds gs : List (DataW H)) (before : List MemPlace)
    (hval : ∀ (j : Nat) t v, Tryd.f5.params[j]? = some t → args[j]? = some v → Value.okWide Tryd.prog W .any base t v)
    (hW : DataW.Whole enc Tryd.prog Tryd.f5.params.toList Rows.fnExactAddClassSpec.vars false W args.toList ds gs before) (hL : laidMetH Tryd.prog Rows.fnExactAddClassRow.laid W) :
    Calls Tryd.prog 5 args W fun e W' => ∃ v, e = .returned v ∧ Rows.fnExactAddClassSpec.post enc Tryd.prog Tryd.f5 false true false false W args v W' := by
  have hW' := hW
  obtain ⟨p, q, hA0, hV, rfl, hfz, hnd⟩ := hW
  have hA : DataW.TrodAll enc Tryd.prog W 0 (fun _ => true) true Tryd.f5.params.toList args.toList ds p := hA0
  rw [Tryd.params5] at hA hval
  obtain ⟨v0, vs0, d0, ds0, p0, q0, hargs, rfl, rfl, h0, r0⟩ := trodAll_cons hA
  obtain ⟨v1, vs1, d1, ds1, p1, q1, rfl, rfl, rfl, h1, r1⟩ := trodAll_cons r0
  obtain ⟨rfl, rfl, rfl⟩ := trodAll_nil r1
  obtain rfl : args = #[v0, v1] := by cases args; simp_all
  have k0 := h0
  have lt0 : ∀ x ∈ p0, x.block < W.heap.size := by obtain ⟨m, hm⟩ := k0; exact DataW.trod_lt m _ _ _ hm
  obtain ⟨c0, hc0⟩ := open_cfg (hval 0 66 v0 rfl rfl) h0
  have k1 := h1
  have lt1 : ∀ x ∈ p1, x.block < W.heap.size := by obtain ⟨m, hm⟩ := k1; exact DataW.trod_lt m _ _ _ hm
  obtain ⟨x1, hx1⟩ := open_cls (hval 1 67 v1 rfl rfl) h1
  subst hx1
  have hV2 := hV
  obtain ⟨gV, tV, cV, fV, dV, pV, rfl, _, _, _, _, rfl⟩ := trodVars_one hV
  clear hA0
  refine (walk W (kwt_of_head hL) v0 c0 hc0 x1).mono fun e W' ⟨he, bel⟩ => ?_
  subst he
  exact ⟨_, rfl, _, _, _, [], _, _, hW', trodAll_mk1 (shut_bool Tryd.underlying4 _), (trodAll_cons_mk (Below.trod laidOut (by kernel_rfl) (of_decide_eq_true (by kernel_rfl)) k0 bel lt0) (trodAll_cons_mk (Below.trod laidOut (by kernel_rfl) (of_decide_eq_true (by kernel_rfl)) k1 bel lt1) trodAll_mk0)), Below.trodVars laidOut bel (by kernel_rfl) hV2, bel.frame _, fun h => by cases h⟩

theorem laid_met (os : Os) : laidMet Tryd.prog Rows.fnExactAddClassRow.laid ((laidWorldK os).forCall (fun _ _ => 0) ⟨#[], #[.agg #[.string ByteArray.empty, .slice none 0 0, .slice none 0 0, .int .i64 0], .agg #[.int .i64 0, .int .i64 0, .int .i64 0, .int .i64 0, .int .i64 0, .int .i64 0, .int .i64 0, .int .i64 0]], []⟩).memory :=
  laidMet_of_run' 8 (by kernel_rfl) (by kernel_rfl)
theorem reads (os : Os) {H : Type} (enc : TypeId × Value → H) : ∃ places, DataW.whole enc Tryd.prog ((laidWorldK os).forCall (fun _ _ => 0) ⟨#[], #[.agg #[.string ByteArray.empty, .slice none 0 0, .slice none 0 0, .int .i64 0], .agg #[.int .i64 0, .int .i64 0, .int .i64 0, .int .i64 0, .int .i64 0, .int .i64 0, .int .i64 0, .int .i64 0]], []⟩).memory Tryd.f5.params.toList Rows.fnExactAddClassSpec.vars false (#[.agg #[.string ByteArray.empty, .slice none 0 0, .slice none 0 0, .int .i64 0], .agg #[.int .i64 0, .int .i64 0, .int .i64 0, .int .i64 0, .int .i64 0, .int .i64 0, .int .i64 0, .int .i64 0]] : Array Value).toList 8 = some ([.agg [.lit (.string []), .nil, .nil, .lit (.int .i64 0)], .agg [.lit (.int .i64 0), .lit (.int .i64 0), .lit (.int .i64 0), .lit (.int .i64 0), .lit (.int .i64 0), .lit (.int .i64 0), .lit (.int .i64 0), .lit (.int .i64 0)]], [Rows.laid_loop_example_g00838_impl_keyWords], places) :=
  ⟨[.cell 1 0, .cell 1 1, .cell 1 2, .cell 1 3, .cell 1 4, .cell 1 5, .cell 1 6, .cell 1 7, .cell 1 8, .cell 1 9, .cell 1 10, .cell 1 11, .cell 1 12, .cell 1 13], by kernel_rfl⟩

set_option maxRecDepth 100000 in
theorem lifted (os : Os) (started : os.Started) (H : Type) (enc : TypeId × Value → H) (F : Stop.Interp) :
    ReturnsInHanded {} Tryd.checked os 5 .any ((OpenSpec.ofChange Rows.fnExactAddClassSpec).preRow enc Tryd.prog Tryd.f5 Rows.fnExactAddClassRow.domain false Rows.fnExactAddClassRow.laid) (((OpenSpec.ofChange Rows.fnExactAddClassSpec).at F).post enc Tryd.prog Tryd.f5 false true false false) := by
  obtain ⟨places, hx⟩ := reads os enc
  refine returnsInHanded_of_row (C := Tryd.checked) (s := OpenSpec.ofChange Rows.fnExactAddClassSpec) own started (by kernel_rfl) Tryd.func5
    (witness_row_at (enc := enc) (C := Tryd.checked) false (laidWorldK os) #[.agg #[.string ByteArray.empty, .slice none 0 0, .slice none 0 0, .int .i64 0], .agg #[.int .i64 0, .int .i64 0, .int .i64 0, .int .i64 0, .int .i64 0, .int .i64 0, .int .i64 0, .int .i64 0]] rfl (by kernel_rfl) (by kernel_rfl) (by kernel_rfl)
      (OpenSpec.preRow_of_cond 8 hx (by kernel_rfl) (fun k hk => by cases hk) (by kernel_rfl) (laid_met os))) ?_
  intro W base args ds gs before hval hW _ _ _ hL _ _
  exact contract H enc W base args ds gs before hval hW hL

theorem said : Rows.FnExactAddClassSaid :=
  OpenClaim.holds_of_cond 5 Tryd.f5 rfl rfl rfl rfl rfl rfl rfl ⟨rfl, rfl, rfl, rfl, rfl⟩ rfl rfl rfl rfl rfl (by kernel_rfl) Tryd.func5 (by kernel_rfl)
    (of_decide_eq_true (by kernel_rfl)) (by unfold Func.isWrapper; first | (rw [if_pos (by decide +kernel)]; kernel_rfl) | (rw [if_neg (by decide +kernel)]; exact ⟨rfl, rfl⟩))
    (fun os started H enc _ F => by rw [OpenClaim.pre_eq_preRow]; exact lifted os started H enc F)

theorem plain (f : FuncId) (fn : Func) (hf : Tryd.pinned.checked.prog.funcNamed "loop.example/g00838/laws.FnExactAddClass" = some f) (hfn : Tryd.pinned.checked.prog.funcs[f]? = some fn) :
    true = Tryd.pinned.checked.prog.looks [] ∧ ∀ (j : Nat) t, fn.params[j]? = some t → Tryd.pinned.checked.prog.wantsStandIn t = false := by
  obtain rfl : f = 5 := Option.some.inj ((show Tryd.prog.funcNamed "loop.example/g00838/laws.FnExactAddClass" = some 5 by kernel_rfl).symm.trans hf) |>.symm
  obtain rfl : fn = Tryd.f5 := (Option.some.inj (Tryd.func5.symm.trans hfn)).symm
  refine ⟨by kernel_rfl, fun j t ht => ?_⟩
  rw [Tryd.params5] at ht
  have hm : t ∈ [66, 67] := by simpa using Array.mem_of_getElem? ht
  have hall : ([66, 67].all fun u => !Tryd.prog.wantsStandIn u) = true := by kernel_rfl
  exact (show Tryd.prog.wantsStandIn t = false by simpa using List.all_eq_true.1 hall t hm)

theorem proved : Rows.FnExactAddClassCardSaid :=
  Claim7.holds_tied_plain_at .later [] _ _ _ _ said (fun _ h => by cases h) (by kernel_rfl) (fun _ h => by cases h) fnExactAddClass_row_tie rfl ⟨rfl, rfl⟩ (by kernel_rfl) rfl plain (by kernel_rfl)
end Go.Proofs.YthpejbdbbofaaaaDoor.fnExactAddClass

