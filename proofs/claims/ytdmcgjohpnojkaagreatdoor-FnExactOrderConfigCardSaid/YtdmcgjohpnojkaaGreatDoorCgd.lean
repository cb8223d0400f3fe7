/- SetLimit, the program's: a copy with one limit changed. -/
import Derived.Test.YtdmcgjohpnojkaaGreatDoorCgb
import Derived.Test.YtdmcgjohpnojkaaGreatDoorCgc
namespace Go.Proofs.YtdmcgjohpnojkaaGreatDoor
set_option maxRecDepth 100000
open Go.RowKit
set_option linter.unusedVariables false

def cfg0 : Cfg := ⟨⟨#[]⟩, [], [], 0⟩
def setL (c : Cfg) (k : Nat) (lim : Int) : Cfg := ⟨c.s, c.cs.set k { c.cs.getD k cls0 with l := lim }, c.fs, c.d⟩
def slK (c : Cfg) (id : Int) : Nat := match fnd c.cs id with | .none => 0 | .some k => k
theorem slK_some {c : Cfg} {id : Int} {k : Nat} (h : fnd c.cs id = Option.some k) : slK c id = k := by unfold slK; rw [h]
def resSetLimit2 (c : Cfg) (id lim : Int) : Bool := (goodC c && leafB c.cs id) && goodC (setL c (slK c id) lim)
def resSetLimit1 (c : Cfg) (id lim : Int) : Cfg := if resSetLimit2 c id lim then setL c (slK c id) lim else cfg0
theorem sl_no {c : Cfg} {id : Int} (lim : Int) (h : (goodC c && leafB c.cs id) = false) : resSetLimit1 c id lim = cfg0 ∧ resSetLimit2 c id lim = false := by
  have : resSetLimit2 c id lim = false := by unfold resSetLimit2; rw [h]; rfl
  unfold resSetLimit1; rw [this]; exact ⟨rfl, rfl⟩
theorem sl_yes {c : Cfg} {id lim : Int} {k : Nat} (h : (goodC c && leafB c.cs id) = true) (hf : fnd c.cs id = Option.some k) : resSetLimit1 c id lim = (if goodC (setL c k lim) then setL c k lim else cfg0) ∧ resSetLimit2 c id lim = goodC (setL c k lim) := by
  have : resSetLimit2 c id lim = goodC (setL c k lim) := by unfold resSetLimit2; rw [h, slK_some hf]; rfl
  unfold resSetLimit1; rw [this, slK_some hf]; exact ⟨rfl, rfl⟩
def SaysCB (w : World) (c : Cfg) (b : Bool) (e : Ending) (w' : World) : Prop := ∃ v, e = .returned (.tuple #[v, .bool b]) ∧ OwnCfg w' w.heap.size v c ∧ Below w.heap.size w w'
theorem own_zV (w : World) (B : Nat) : OwnCfg w B zV cfg0 := ⟨.slice none 0 0, .slice none 0 0, rfl, World.ownsRow_nil _ _ _ _, World.ownsRow_nil _ _ _ _, fun g h => by cases h⟩
theorem OwnCfg.st {w : World} {B : Nat} {v : Value} {c : Cfg} (h : OwnCfg w B v c) {p : Addr} (hp : p.block < B) (u : Value) : OwnCfg (w.setCell p u) B v c := by
  obtain ⟨vc, vf, hv, a, b, d⟩ := h
  exact ⟨vc, vf, hv, own_set a hp u, own_set b hp u, d⟩
theorem OwnCfg.base {w : World} {B B' : Nat} {v : Value} {c : Cfg} (h : OwnCfg w B v c) (hB : B' ≤ B) : OwnCfg w B' v c := by
  obtain ⟨vc, vf, hv, a, b, d⟩ := h
  exact ⟨vc, vf, hv, own_base a hB, own_base b hB, d⟩
theorem OwnCfg.on {w w' : World} {B : Nat} {v : Value} {c : Cfg} (h : OwnCfg w B v c) (hb : Below w.heap.size w w') : OwnCfg w' B v c := by
  obtain ⟨vc, vf, hv, a, b, d⟩ := h
  exact ⟨vc, vf, hv, own_low a hb (Nat.le_refl _), own_low b hb (Nat.le_refl _), d⟩
theorem OwnCfg.set4 {w : World} {B g : Nat} {v : Value} {c : Cfg} (h : OwnCfg w B v c) (hg : g < B) (v0 v1 v2 v3 : Value) : OwnCfg ((((w.setCell ⟨g, 0, none⟩ v0).setCell ⟨g, 1, none⟩ v1).setCell ⟨g, 2, none⟩ v2).setCell ⟨g, 3, none⟩ v3) B v c :=
  (((h.st (p := ⟨g, 0, none⟩) hg v0).st (p := ⟨g, 1, none⟩) hg v1).st (p := ⟨g, 2, none⟩) hg v2).st (p := ⟨g, 3, none⟩) hg v3
theorem clsCs_set : ∀ (cs : List Cls) (k : Nat) (lim : Int), k < cs.length → (clsCs cs).set (k * 8 + 7) (.int .i64 lim) = clsCs (cs.set k { cs.getD k cls0 with l := lim })
  | [], k, lim, h => absurd h (by simp)
  | x :: r, 0, lim, _ => by simp [clsCs_cons, clsC]
  | x :: r, k + 1, lim, h => by
    have ih := clsCs_set r k lim (by simpa using h)
    rw [show (k + 1) * 8 + 7 = (k * 8 + 7) + 8 by omega]
    simp only [List.getD_cons_succ, List.set_cons_succ, clsCs_cons, clsC, List.cons_append, List.nil_append]
    rw [ih]
theorem setL_M {c : Cfg} (h : CfgM c) (k : Nat) (lim : Int) : CfgM (setL c k lim) := by
  obtain ⟨a, b, d⟩ := h
  exact ⟨a, by show (c.cs.set k _).length ≤ _; rw [List.length_set]; exact b, d⟩
theorem OwnCfg.lim {w : World} {B g cc : Nat} {s : ByteArray} {cs : List Cls} {fs : List Flt} {vf : Value} {d : Int} (h : OwnCfg w B (.agg #[.string s, .slice (some ⟨g, 0, none⟩) cs.length cc, vf, .int .i64 d]) ⟨s, cs, fs, d⟩) (k : Nat) (hk : k < cs.length) (lim : Int) :
    OwnCfg (w.setCell ⟨g, k * 8 + 7, none⟩ (.int .i64 lim)) B (.agg #[.string s, .slice (some ⟨g, 0, none⟩) cs.length cc, vf, .int .i64 d]) (setL ⟨s, cs, fs, d⟩ k lim) := by
  obtain ⟨vc', vf', hv, a, b, dd⟩ := h
  simp only [Value.agg.injEq, Array.mk.injEq, List.cons.injEq, and_true, true_and] at hv
  obtain ⟨rfl, rfl⟩ := hv
  simp only at a b
  refine ⟨_, _, rfl, ?_, ?_, dd⟩
  · show World.ownsRow _ _ _ _ _ (cs.set k { cs.getD k cls0 with l := lim }).length (clsCs (cs.set k { cs.getD k cls0 with l := lim }))
    rw [List.length_set, ← clsCs_set cs k lim hk]
    exact own_store a _ _
  · exact own_onl b (onl_set (fun _ _ => rfl) _ _) (fun g' h' q => dd g' (by rw [← q]; rfl) h')
theorem Four.on {w w1 : World} {b : Nat} (h : Four w b) (hb : b < w.heap.size) (bb : Below w.heap.size w w1) : Four w1 b := by
  obtain ⟨h0, h1, h2, h3⟩ := h
  refine ⟨?_, ?_, ?_, ?_⟩ <;> rw [(bcell bb).1 _ _ hb] <;> assumption
/-- the box of a result, still empty -/
def Zer (w : World) (b : Nat) : Prop := FourIs w b (.string ⟨#[]⟩) (.slice none 0 0) (.slice none 0 0) (.int .i64 0) ∧ FroB w b
theorem Zer.on {w w1 : World} {b : Nat} (h : Zer w b) (bb : Below w.heap.size w w1) : Zer w1 b := ⟨h.1.on bb, h.2.on bb h.1.2.2.2.2⟩
theorem Zer.set {w : World} {b : Nat} (h : Zer w b) {g j : Nat} (hg : b ≠ g) (v : Value) : Zer (w.setCell ⟨g, j, none⟩ v) b := by
  obtain ⟨⟨h0, h1, h2, h3, hb⟩, hf⟩ := h
  refine ⟨⟨?_, ?_, ?_, ?_, by rw [Go.Deep.nblk_setCell]; exact hb⟩, hf.set _ _⟩ <;> rw [World.cell?_setCell_other _ _ _ _ (by simp)] <;> assumption
theorem Zer.four {w : World} {b : Nat} (h : Zer w b) : Four w b := by
  obtain ⟨⟨h0, h1, h2, h3, hb⟩, hf⟩ := h
  refine ⟨?_, ?_, ?_, ?_⟩ <;> simp only [h0, h1, h2, h3, Option.isSome]
theorem zer_new {w w1 : World} {o : Obj} {t : TypeId} (b : Below ((w.alloc o).alloc (.cells #[.string ⟨#[]⟩, .slice none 0 0, .slice none 0 0, .int .i64 0] t)).heap.size ((w.alloc o).alloc (.cells #[.string ⟨#[]⟩, .slice none 0 0, .slice none 0 0, .int .i64 0] t)) w1) : Zer w1 (w.heap.size + 1) := by
  have h : Zer ((w.alloc o).alloc (.cells #[.string ⟨#[]⟩, .slice none 0 0, .slice none 0 0, .int .i64 0] t)) (w.heap.size + 1) := by
    have := (box_four (Below.refl _ ((w.alloc o).alloc (.cells #[.string ⟨#[]⟩, .slice none 0 0, .slice none 0 0, .int .i64 0] t)))).1
    rw [show (w.alloc o).heap.size = w.heap.size + 1 by simp] at this
    exact ⟨this, by have q := FroB.new (w.alloc o) #[.string ⟨#[]⟩, .slice none 0 0, .slice none 0 0, .int .i64 0] t; rw [show (w.alloc o).heap.size = w.heap.size + 1 by simp] at q; exact q⟩
  exact h.on b
set_option maxHeartbeats 6400000 in
theorem implSetLimit_any (v : Value) (c : Cfg) (B : Nat) (id lim : Int) (w : World) (HK : Hid (Kwt w)) (HV : Hid (OwnCfg w B v c)) (HM : Hid (CfgM c)) :
    Calls Tryz.prog 41 #[v, .int .i64 id, .int .i64 lim] w (SaysCB w (resSetLimit1 c id lim) (resSetLimit2 c id lim)) := by
  have HFL := Lib.hid (fun w' (b : Below w.heap.size w w') => findLeaf_any v c id w' (Lib.hid (HK.out.below b)) (Lib.hid (HV.out.cfg.below b)) HM)
  have HCO := Lib.hid (fun w' (b : Below w.heap.size w w') h1 => copyOf_any v c B w' (Lib.hid (HV.out.on b)) HM h1)
  obtain ⟨vc, vf, rfl, oc, of, od⟩ := HV.out
  obtain ⟨ac, cc, rfl, _⟩ := own_in oc
  obtain ⟨af, cf, rfl, _⟩ := own_in of
  clear oc of od
  obtain ⟨s, cs, fs, d⟩ := c
  simp only at HFL HCO ⊢
  cases hl : (goodC ⟨s, cs, fs, d⟩ && leafB cs id)
  · obtain ⟨x1, x2⟩ := sl_no (c := ⟨s, cs, fs, d⟩) lim hl
    obtain ⟨y1, y2⟩ := fL_no (c := ⟨s, cs, fs, d⟩) (id := id) hl
    rw [x1, x2]
    rw [y1, y2] at HFL
    clear x1 x2 y1 y2 hl HCO HV HM
    go_enter Tryz.func41, Tryz.ntmps41
    go_wp2_with (go_at_call 93; refine (HFL.out _ (two_new _ _ _)).mono ?_; rintro e w1 ⟨rfl, b1⟩; have B1 := Lib.hid (two_below b1); have hz1 := two_size b1; obtain ⟨hc1, hf1⟩ := bcell b1; clear b1)
    have F1 : Four w1 (w.heap.size + 1) := by
      refine ⟨?_, ?_, ?_, ?_⟩ <;> rw [hc1 _ _ (by simp)] <;> simp [go_sem]
    obtain ⟨r0, r1, r2, r3⟩ := read4 F1 (.string ⟨#[]⟩) (.slice none 0 0) (.slice none 0 0) (.int .i64 0) _ rfl
    exact bodyPost_ret (v := .tuple #[zV, .bool false]) (by simp [results, Tryz.results41, go_sem, r0, r1, r2, r3, zV]) rfl ⟨_, rfl, own_zV _ _, set4 B1.out _ (Nat.le_succ _) _ _ _ _⟩
  · obtain ⟨k, hf⟩ : ∃ k, fnd cs id = Option.some k := by
      have : (fnd cs id).isSome = true := by
        have h2 := (Bool.and_eq_true_iff.1 hl).2
        unfold leafB at h2
        exact (Bool.and_eq_true_iff.1 h2).1
      exact Option.isSome_iff_exists.1 this
    obtain ⟨x1, x2⟩ := sl_yes (c := ⟨s, cs, fs, d⟩) (lim := lim) hl hf
    obtain ⟨y1, y2⟩ := fL_yes (c := ⟨s, cs, fs, d⟩) (id := id) hl hf
    have hk := (fnd_get cs id k hf).1
    rw [x1, x2]
    obtain ⟨b, hb⟩ : ∃ b, goodC (setL ⟨s, cs, fs, d⟩ k lim) = b := ⟨_, rfl⟩
    rw [hb]
    obtain ⟨rc, hrc⟩ : ∃ rc, (if b = true then setL ⟨s, cs, fs, d⟩ k lim else cfg0) = rc := ⟨_, rfl⟩
    rw [hrc]
    have HRC := Lib.hid hrc
    have HB := Lib.hid hb
    rw [y1, y2] at HFL
    have HCO1 := Lib.hid (fun w' b => HCO.out w' b (by omega))
    have HMS := Lib.hid (setL_M HM.out k lim)
    clear x1 x2 y1 y2 hl HCO HV HM hf hb hrc
    go_enter Tryz.func41, Tryz.ntmps41
    go_wp2_with (go_at_call 93; refine (HFL.out _ (two_new _ _ _)).mono ?_; rintro e w1 ⟨rfl, b1⟩; have B1 := Lib.hid (two_below b1); have hz1 := two_size b1; have X1 := Lib.hid (copy_box b1); have F1 := Lib.hid (zer_new b1); obtain ⟨e0, e1, e2, e3, _⟩ := X1.out; clear b1; refine Hid.out ?_)
    refine Lib.hid ?_
    go_wp2_with (go_at_call 80; refine (HCO1.out _ B1.out).mono ?_; rintro e w2 ⟨v2, rfl, o2, b2⟩; have O2 := Lib.hid o2; have B2 := Lib.hid b2; obtain ⟨vc2, vf2, rfl, oc2, of2, od2⟩ := o2; obtain ⟨a2, k2, rfl, i2⟩ := own_in oc2; obtain ⟨f2, l2, rfl, _⟩ := own_in of2; obtain ⟨g, rfl, _, hg⟩ := i2 (by simp only; omega); simp only at O2 oc2 hg; clear e0 e1 e2 e3 of2 od2 i2 b2; refine Hid.out ?_)
    refine Lib.hid ?_
    have OR := own_low oc2 (one_new2 w2 (Obj.cells #[.string s, .slice (some ⟨g, 0, none⟩) cs.length k2, .slice f2 fs.length l2, .int .i64 d] 54)) (Nat.le_refl _)
    obtain ⟨u7, c7⟩ := own_cell OR (k * 8 + 7) (by omega)
    have f7 := World.ownsRow.frozenAt OR (k * 8 + 7)
    have hgl := (World.ownsRow.lt oc2 g rfl).1
    have hz2 := B2.out.size
    have hgw : w.heap.size ≤ g := by omega
    have BS : Hid (Below w.heap.size w (w2.setCell ⟨g, k * 8 + 7, none⟩ (.int .i64 lim))) := Lib.hid ((B1.out.trans (B2.out.mono (by omega))).setCell hgw _)
    have B3 : Hid (Below w.heap.size w ((w2.setCell ⟨g, k * 8 + 7, none⟩ (.int .i64 lim)).alloc (Obj.cells #[.string s, .slice (some ⟨g, 0, none⟩) cs.length k2, .slice f2 fs.length l2, .int .i64 d] 54))) := Lib.hid (BS.out.alloc BS.out.size _)
    have O3 : Hid (OwnCfg ((w2.setCell ⟨g, k * 8 + 7, none⟩ (.int .i64 lim)).alloc (Obj.cells #[.string s, .slice (some ⟨g, 0, none⟩) cs.length k2, .slice f2 fs.length l2, .int .i64 d] 54)) w1.heap.size (.agg #[.string s, .slice (some ⟨g, 0, none⟩) cs.length k2, .slice f2 fs.length l2, .int .i64 d]) (setL ⟨s, cs, fs, d⟩ k lim)) := Lib.hid ((O2.out.lim k hk lim).on (one_new2 _ _))
    have F3 : Hid (Zer ((w2.setCell ⟨g, k * 8 + 7, none⟩ (.int .i64 lim)).alloc (Obj.cells #[.string s, .slice (some ⟨g, 0, none⟩) cs.length k2, .slice f2 fs.length l2, .int .i64 d] 54)) (w.heap.size + 1)) := Lib.hid (((F1.out.on B2.out).set (by omega) _).on (one_new2 _ _))
    have HIV := Lib.hid (ifValid_any _ _ _ (Lib.hid (HK.out.below B3.out)) (Lib.hid O3.out.cfg) HMS)
    have hz3 : w.heap.size + 1 < ((w2.setCell ⟨g, k * 8 + 7, none⟩ (.int .i64 lim)).alloc (Obj.cells #[.string s, .slice (some ⟨g, 0, none⟩) cs.length k2, .slice f2 fs.length l2, .int .i64 d] 54)).heap.size := by simp; omega
    have HZ3 := Lib.hid hz3
    have n1 : ¬ g = w2.heap.size := by omega
    have n2 : ¬ w2.heap.size = g := by omega
    rw [HB.out] at HIV
    clear OR oc2 hz3 BS HB
    cases b
    · obtain rfl : cfg0 = rc := HRC.out
      unfold SaysIf at HIV
      simp only [Bool.false_eq_true, if_false] at HIV
      unfold zV at HIV
      go_wp2_with (go_at_call 86; refine HIV.out.mono ?_; rintro e w4 ⟨rfl, b4⟩; have B4 := Lib.hid b4; clear b4; refine Hid.out ?_)
      refine Lib.hid ?_
      obtain ⟨⟨x0, x1, x2, x3, _⟩, x4⟩ := F3.out.on B4.out
      have y0 := x4 0
      have y1 := x4 1
      have y2 := x4 2
      have y3 := x4 3
      clear c7 f7 x4
      go_wp2_with fail
      have F4 := (F3.out.on B4.out).four
      obtain ⟨r0, r1, r2, r3⟩ := read4 F4 (.string ⟨#[]⟩) (.slice none 0 0) (.slice none 0 0) (.int .i64 0) _ rfl
      exact bodyPost_ret (v := .tuple #[zV, .bool false]) (by simp [results, Tryz.results41, go_sem, r0, r1, r2, r3, zV]) rfl ⟨_, rfl, own_zV _ _, set4 (B3.out.trans (B4.out.mono B3.out.size)) _ (Nat.le_succ _) _ _ _ _⟩
    · obtain rfl : setL ⟨s, cs, fs, d⟩ k lim = rc := HRC.out
      unfold SaysIf at HIV
      simp only [if_true] at HIV
      go_wp2_with (go_at_call 86; refine HIV.out.mono ?_; rintro e w4 ⟨rfl, b4⟩; have B4 := Lib.hid b4; clear b4; refine Hid.out ?_)
      refine Lib.hid ?_
      obtain ⟨⟨x0, x1, x2, x3, _⟩, x4⟩ := F3.out.on B4.out
      have y0 := x4 0
      have y1 := x4 1
      have y2 := x4 2
      have y3 := x4 3
      clear c7 f7 x4
      go_wp2_with fail
      have F4 := (F3.out.on B4.out).four
      obtain ⟨r0, r1, r2, r3⟩ := read4 F4 (.string s) (.slice (some ⟨g, 0, none⟩) cs.length k2) (.slice f2 fs.length l2) (.int .i64 d) _ rfl
      exact bodyPost_ret (v := .tuple #[(.agg #[.string s, .slice (some ⟨g, 0, none⟩) cs.length k2, .slice f2 fs.length l2, .int .i64 d]), .bool true]) (by simp [results, Tryz.results41, go_sem, r0, r1, r2, r3]) rfl ⟨_, rfl, ((O3.out.on B4.out).set4 hz1 _ _ _ _).base (by omega), set4 (B3.out.trans (B4.out.mono B3.out.size)) _ (Nat.le_succ _) _ _ _ _⟩
end Go.Proofs.YtdmcgjohpnojkaaGreatDoor
