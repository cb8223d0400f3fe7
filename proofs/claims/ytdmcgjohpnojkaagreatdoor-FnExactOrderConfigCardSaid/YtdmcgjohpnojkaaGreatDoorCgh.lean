/- DropClass, the program's. -/
import Derived.Test.YtdmcgjohpnojkaaGreatDoorCgf
import Derived.Test.YtdmcgjohpnojkaaGreatDoorCgg
namespace Go.Proofs.YtdmcgjohpnojkaaGreatDoor
set_option maxRecDepth 100000
open Go.RowKit
set_option linter.unusedVariables false

theorem FourIs.same {w w' : World} {b : Nat} {a0 a1 a2 a3 : Value} (h : FourIs w b a0 a1 a2 a3) (e : w'.heap[b]? = w.heap[b]?) (hs : w.heap.size ≤ w'.heap.size) : FourIs w' b a0 a1 a2 a3 := by
  obtain ⟨h0, h1, h2, h3, hb⟩ := h
  exact ⟨(cell_heap e 0).trans h0, (cell_heap e 1).trans h1, (cell_heap e 2).trans h2, (cell_heap e 3).trans h3, Nat.lt_of_lt_of_le hb hs⟩
theorem FroB.same {w w' : World} {b : Nat} (h : FroB w b) (e : w'.heap[b]? = w.heap[b]?) : FroB w' b := fun o => (World.frozen?_of_block (a := ⟨b, o, none⟩) e).trans (h o)
theorem Zer.same {w w' : World} {b : Nat} (h : Zer w b) (e : w'.heap[b]? = w.heap[b]?) (hs : w.heap.size ≤ w'.heap.size) : Zer w' b := ⟨h.1.same e hs, h.2.same e⟩
/-! A class taken out of a list. -/
def cut (cs : List Cls) (k : Nat) : List Cls := cs.take k ++ cs.drop (k + 1)
def cutC (c : Cfg) (k : Nat) : Cfg := ⟨c.s, cut c.cs k, c.fs, c.d⟩
theorem cut_length {cs : List Cls} {k : Nat} (h : k < cs.length) : (cut cs k).length = cs.length - 1 := by unfold cut; rw [List.length_append, List.length_take, List.length_drop]; omega
theorem clsCs_take : ∀ (cs : List Cls) (k : Nat), (clsCs cs).take (k * 8) = clsCs (cs.take k)
  | [], k => by simp [clsCs]
  | x :: r, 0 => by simp [clsCs]
  | x :: r, k + 1 => by
    rw [show (k + 1) * 8 = k * 8 + 8 by omega]
    simp only [List.take_succ_cons, clsCs_cons, clsC, List.cons_append, List.nil_append]
    rw [clsCs_take r k]
theorem clsCs_drop : ∀ (cs : List Cls) (k : Nat), (clsCs cs).drop (k * 8) = clsCs (cs.drop k)
  | [], k => by simp [clsCs]
  | x :: r, 0 => by simp
  | x :: r, k + 1 => by
    rw [show (k + 1) * 8 = k * 8 + 8 by omega]
    simp only [List.drop_succ_cons, clsCs_cons, clsC, List.cons_append, List.nil_append]
    exact clsCs_drop r k
theorem clsCs_cut (cs : List Cls) (k : Nat) : (clsCs cs).take (k * 8) ++ (clsCs cs).drop ((k + 1) * 8) = clsCs (cut cs k) := by
  unfold cut; rw [clsCs_append, clsCs_take, clsCs_drop]
theorem cut_get {cs : List Cls} {k : Nat} (h : k < cs.length) (j : Nat) : (cut cs k).getD j cls0 = cs.getD (if j < k then j else j + 1) cls0 := by
  unfold cut
  simp only [List.getD_eq_getElem?_getD]
  congr 1
  by_cases hj : j < k
  · rw [if_pos hj, List.getElem?_append_left (by rw [List.length_take]; omega), List.getElem?_take_of_lt hj]
  · rw [if_neg hj, List.getElem?_append_right (by rw [List.length_take]; omega), List.getElem?_drop, List.length_take]
    congr 1; omega
theorem cut_inc {cs : List Cls} {k : Nat} (h : k < cs.length) (hi : IncC cs) : IncC (cut cs k) := fun a b hab hb => by
  rw [cut_get h, cut_get h]
  rw [cut_length h] at hb
  refine hi _ _ ?_ ?_ <;> split <;> (try split) <;> omega
def dropL (c : Cfg) (k : Nat) : Cfg := match fnd (cut c.cs k) (c.cs.getD k cls0).p with
  | .none => cutC c k
  | .some i => if hasK (cut c.cs k) (c.cs.getD k cls0).p then cutC c k else setL (cutC c k) i (c.cs.getD k cls0).l
theorem dropL_none {c : Cfg} {k : Nat} {x : Cls} (hx : c.cs.getD k cls0 = x) (h : fnd (cut c.cs k) x.p = Option.none) : dropL c k = cutC c k := by unfold dropL; rw [hx, h]
theorem dropL_kids {c : Cfg} {k i : Nat} {x : Cls} (hx : c.cs.getD k cls0 = x) (h : fnd (cut c.cs k) x.p = Option.some i) (hk : hasK (cut c.cs k) x.p = true) : dropL c k = cutC c k := by unfold dropL; rw [hx, h]; simp [hk]
theorem dropL_leaf {c : Cfg} {k i : Nat} {x : Cls} (hx : c.cs.getD k cls0 = x) (h : fnd (cut c.cs k) x.p = Option.some i) (hk : hasK (cut c.cs k) x.p = false) : dropL c k = setL (cutC c k) i x.l := by unfold dropL; rw [hx, h]; simp [hk]
theorem cutC_M {c : Cfg} {k : Nat} (hk : k < c.cs.length) (h : CfgM c) : CfgM (cutC c k) := ⟨h.1, by show (cut c.cs k).length ≤ _; rw [cut_length hk]; have := h.2.1; omega, h.2.2⟩
theorem dropL_M {c : Cfg} {k : Nat} (hk : k < c.cs.length) (h : CfgM c) : CfgM (dropL c k) := by
  unfold dropL
  split
  · exact cutC_M hk h
  · split
    · exact cutC_M hk h
    · exact setL_M (cutC_M hk h) _ _
def resDropClass2 (c : Cfg) (id : Int) : Bool := (goodC c && leafB c.cs id) && goodC (dropL c (slK c id))
def resDropClass1 (c : Cfg) (id : Int) : Cfg := if resDropClass2 c id then dropL c (slK c id) else cfg0
theorem dp_no {c : Cfg} {id : Int} (h : (goodC c && leafB c.cs id) = false) : resDropClass1 c id = cfg0 ∧ resDropClass2 c id = false := by
  have : resDropClass2 c id = false := by unfold resDropClass2; rw [h]; rfl
  unfold resDropClass1; rw [this]; exact ⟨rfl, rfl⟩
theorem dp_yes {c : Cfg} {id : Int} {k : Nat} (h : (goodC c && leafB c.cs id) = true) (hf : fnd c.cs id = Option.some k) : resDropClass1 c id = (if goodC (dropL c k) then dropL c k else cfg0) ∧ resDropClass2 c id = goodC (dropL c k) := by
  have : resDropClass2 c id = goodC (dropL c k) := by unfold resDropClass2; rw [h, slK_some hf]; rfl
  unfold resDropClass1; rw [this, slK_some hf]; exact ⟨rfl, rfl⟩
set_option maxHeartbeats 12800000 in
theorem implDropClass_any (v : Value) (c : Cfg) (B : Nat) (id : Int) (w : World) (HK : Hid (Kwt w)) (HV : Hid (OwnCfg w B v c)) (HM : Hid (CfgM c)) :
    Calls Tryz.prog 38 #[v, .int .i64 id] w (SaysCB w (resDropClass1 c id) (resDropClass2 c id)) := by
  have HFL := Lib.hid (fun w' (b : Below w.heap.size w w') => findLeaf_any v c id w' (Lib.hid (HK.out.below b)) (Lib.hid (HV.out.cfg.below b)) HM)
  have HCO := Lib.hid (fun w' (b : Below w.heap.size w w') h1 => copyOf_any v c B w' (Lib.hid (HV.out.on b)) HM h1)
  obtain ⟨vc, vf, rfl, oc, of, od⟩ := HV.out
  obtain ⟨ac, cc, rfl, ic⟩ := own_in oc
  obtain ⟨af, cf, rfl, _⟩ := own_in of
  clear oc of od
  obtain ⟨s, cs, fs, d⟩ := c
  have q1 : cs.length ≤ 1048576 := HM.out.2.1
  simp only at HFL HCO ic ⊢
  have HI := Lib.hid ic
  clear ic
  cases hl : (goodC ⟨s, cs, fs, d⟩ && leafB cs id)
  · obtain ⟨x1, x2⟩ := dp_no (c := ⟨s, cs, fs, d⟩) hl
    obtain ⟨y1, y2⟩ := fL_no (c := ⟨s, cs, fs, d⟩) (id := id) hl
    rw [x1, x2]
    rw [y1, y2] at HFL
    clear x1 x2 y1 y2 hl HCO HV HM
    go_enter Tryz.func38, Tryz.ntmps38
    go_wp2_with (go_at_call 93; refine (HFL.out _ (two_new _ _ _)).mono ?_; rintro e w1 ⟨rfl, b1⟩; have B1 := Lib.hid (two_below b1); have Z1 := Lib.hid (zer_new b1); clear b1; refine Hid.out ?_)
    refine Lib.hid ?_
    obtain ⟨⟨x0, x1, x2, x3, _⟩, x4⟩ := Z1.out
    have y0 := x4 0
    have y1 := x4 1
    have y2 := x4 2
    have y3 := x4 3
    clear x4
    go_wp2_with fail
    obtain ⟨r0, r1, r2, r3⟩ := read4 Z1.out.four (.string ⟨#[]⟩) (.slice none 0 0) (.slice none 0 0) (.int .i64 0) _ rfl
    exact bodyPost_ret (v := .tuple #[zV, .bool false]) (by simp [results, Tryz.results38, go_sem, r0, r1, r2, r3, zV]) rfl ⟨_, rfl, own_zV _ _, set4 B1.out _ (Nat.le_succ _) _ _ _ _⟩
  · obtain ⟨k, hf⟩ : ∃ k, fnd cs id = Option.some k := by
      have : (fnd cs id).isSome = true := by
        have h2 := (Bool.and_eq_true_iff.1 hl).2
        unfold leafB at h2
        exact (Bool.and_eq_true_iff.1 h2).1
      exact Option.isSome_iff_exists.1 this
    obtain ⟨x1, x2⟩ := dp_yes (c := ⟨s, cs, fs, d⟩) hl hf
    obtain ⟨y1, y2⟩ := fL_yes (c := ⟨s, cs, fs, d⟩) (id := id) hl hf
    have hk := (fnd_get cs id k hf).1
    rw [x1, x2]
    have G := good_of (Bool.and_eq_true_iff.1 hl).1
    have h24 : cs.length ≤ 24 := G.n24
    have hinc : IncC cs := okL_inc cs 0 G.ok
    have HIN := Lib.hid (cut_inc hk hinc)
    have hcl := cut_length hk
    have HMS := Lib.hid (dropL_M (c := ⟨s, cs, fs, d⟩) hk HM.out)
    obtain ⟨b, hb⟩ : ∃ b, goodC (dropL ⟨s, cs, fs, d⟩ k) = b := ⟨_, rfl⟩
    rw [hb]
    obtain ⟨rc, hrc⟩ : ∃ rc, (if b = true then dropL ⟨s, cs, fs, d⟩ k else cfg0) = rc := ⟨_, rfl⟩
    rw [hrc]
    have HRC := Lib.hid hrc
    have HB := Lib.hid hb
    rw [y1, y2] at HFL
    have HCO1 := Lib.hid (fun w' b => HCO.out w' b (by omega))
    have HPL := Lib.hid (fun ac cc id w HI => placeOf_any ac (cs.length - 1) cc (cut cs k) id w HI (Lib.hid hcl) (by omega) HIN)
    have HPM := Lib.hid (fun ac cc w HI => parentMarks_any ac (cs.length - 1) cc (cut cs k) w HI (Lib.hid hcl) (by omega) HIN (by omega))
    clear x1 x2 y1 y2 hl HCO HV HM hf hb hrc G
    go_enter Tryz.func38, Tryz.ntmps38
    go_wp2_with (go_at_call 93; refine (HFL.out _ (two_new _ _ _)).mono ?_; rintro e w1 ⟨rfl, b1⟩; have B1 := Lib.hid (two_below b1); have Z1 := Lib.hid (zer_new b1); have X1 := Lib.hid (copy_box b1); obtain ⟨e0, e1, e2, e3, _⟩ := X1.out; clear b1; refine Hid.out ?_)
    refine Lib.hid ?_
    have hz1 : w.heap.size + 1 < w1.heap.size := Z1.out.1.2.2.2.2
    go_wp2_with (go_at_call 80; refine (HCO1.out _ B1.out).mono ?_; rintro e w2 ⟨v2, rfl, o2, b2⟩; have O2 := Lib.hid o2; have B2 := Lib.hid b2; obtain ⟨vc2, vf2, rfl, oc2, of2, od2⟩ := o2; obtain ⟨a2, k2, rfl, i2⟩ := own_in oc2; obtain ⟨f2, l2, rfl, _⟩ := own_in of2; obtain ⟨g, rfl, _, hg⟩ := i2 (by simp only; omega); simp only at O2 oc2 of2 od2 hg; have OC2 := Lib.hid oc2; have OF2 := Lib.hid of2; have OD2 := Lib.hid od2; clear e0 e1 e2 e3 of2 od2 i2 b2 oc2; refine Hid.out ?_)
    refine Lib.hid ?_
    have hgl := (World.ownsRow.lt OC2.out g rfl).1
    have hz2 := B2.out.size
    have hgw : w.heap.size ≤ g := by omega
    have HD := Lib.hid (fun w' HO => delete_any w1.heap.size g cs.length k2 k (clsCs cs) w' HO (Lib.hid (clsCs_one cs)) hk q1)
    go_wp2_with (go_at_call 94; refine (HD.out _ (Lib.hid (own_low OC2.out (one_new2 _ _) (Nat.le_refl _)))).mono ?_; rintro e w3 ⟨rfl, o3, b3, h3⟩; have O3 := Lib.hid o3; have B3 := Lib.hid b3; have H3 := Lib.hid h3; clear o3 b3 h3; refine Hid.out ?_)
    refine Lib.hid ?_
    have hsW : (w2.alloc (Obj.cells #[.string s, .slice (some ⟨g, 0, none⟩) cs.length k2, .slice f2 fs.length l2, .int .i64 d] 54)).heap.size = w2.heap.size + 1 := by simp
    have hs3 : w2.heap.size + 1 ≤ w3.heap.size := by have := B3.out.size; omega
    have hg2 : g < w2.heap.size := hg
    have HX8 : Hid (FourIs w3 w2.heap.size (.string s) (.slice (some ⟨g, 0, none⟩) cs.length k2) (.slice f2 fs.length l2) (.int .i64 d)) := Lib.hid ((box_four (Below.refl _ (w2.alloc (Obj.cells #[.string s, .slice (some ⟨g, 0, none⟩) cs.length k2, .slice f2 fs.length l2, .int .i64 d] 54)))).1.same (H3.out _ (by omega) (by omega)) B3.out.size)
    have HF8 : Hid (FroB w3 w2.heap.size) := Lib.hid ((FroB.new w2 _ _).same (H3.out _ (by omega) (by omega)))
    have HX3 : Hid (FourIs w3 w.heap.size (.string s) (.slice ac cs.length cc) (.slice af fs.length cf) (.int .i64 d)) := Lib.hid (((X1.out.on B2.out).on (one_new2 w2 (Obj.cells #[.string s, .slice (some ⟨g, 0, none⟩) cs.length k2, .slice f2 fs.length l2, .int .i64 d] 54))).same (H3.out _ (by omega) (by omega)) B3.out.size)
    have HZ3 : Hid (Zer w3 (w.heap.size + 1)) := Lib.hid (((Z1.out.on B2.out).on (one_new2 w2 (Obj.cells #[.string s, .slice (some ⟨g, 0, none⟩) cs.length k2, .slice f2 fs.length l2, .int .i64 d] 54))).same (H3.out _ (by omega) (by omega)) B3.out.size)
    have BW3 : Hid (Below w.heap.size w w3) := Lib.hid (((B1.out.trans (B2.out.mono (by omega))).trans ((one_new2 w2 (Obj.cells #[.string s, .slice (some ⟨g, 0, none⟩) cs.length k2, .slice f2 fs.length l2, .int .i64 d] 54)).mono (by omega))).trans (B3.out.mono (by omega)))
    have OF3 : Hid (w3.ownsRow w1.heap.size 113 5 (.slice f2 fs.length l2) fs.length (fltCs fs)) := Lib.hid (own_heap (own_low OF2.out (one_new2 w2 (Obj.cells #[.string s, .slice (some ⟨g, 0, none⟩) cs.length k2, .slice f2 fs.length l2, .int .i64 d] 54)) (Nat.le_refl _)) (fun q hq => H3.out q (by have := (World.ownsRow.lt OF2.out q hq).2; omega) (fun e => OD2.out g rfl (by rw [hq, e]))))
    obtain ⟨gc, hgc, htc, hgc2⟩ := HI.out (by omega)
    obtain ⟨x, hx⟩ : ∃ x, cs.getD k cls0 = x := ⟨_, rfl⟩
    have HXX := Lib.hid hx
    obtain ⟨a0, a1, a2, a3, a4, a5, a6, a7⟩ := (htc.below BW3.out hgc2).cls k hk x hx
    subst hgc
    obtain ⟨xi, xp, xr, xe, xb, xu, xo, xl⟩ := x
    simp only at a0 a1 a2 a3 a4 a5 a6 a7
    obtain ⟨z0, z1, z2, z3, _⟩ := HX8.out
    obtain ⟨e0, e1, e2, e3, _⟩ := HX3.out
    have f1 := HF8.out 1
    have n1 : ¬ w.heap.size = w2.heap.size := by omega
    have n2 : ¬ w2.heap.size = w.heap.size := by omega
    have n3 : ¬ gc = w2.heap.size := by omega
    have n4 : ¬ w2.heap.size = gc := by omega
    clear hx htc
    have BU : Hid (Below w.heap.size w ((w3.setCell ⟨w2.heap.size, 1, none⟩ (.slice (some ⟨g, 0, none⟩) (cs.length - 1) k2)).alloc (Obj.cells #[.int .i64 xi, .int .i64 xp, .int .i64 xr, .int .i64 xe, .int .i64 xb, .int .i64 xu, .int .i64 xo, .int .i64 xl] 63))) := Lib.hid ((BW3.out.setCell (p := ⟨w2.heap.size, 1, none⟩) (by show w.heap.size ≤ w2.heap.size; omega) _).alloc (by rw [Go.Deep.nblk_setCell]; omega) _)
    have OU : Hid (OwnCfg ((w3.setCell ⟨w2.heap.size, 1, none⟩ (.slice (some ⟨g, 0, none⟩) (cs.length - 1) k2)).alloc (Obj.cells #[.int .i64 xi, .int .i64 xp, .int .i64 xr, .int .i64 xe, .int .i64 xb, .int .i64 xu, .int .i64 xo, .int .i64 xl] 63)) w1.heap.size (.agg #[.string s, .slice (some ⟨g, 0, none⟩) (cs.length - 1) k2, .slice f2 fs.length l2, .int .i64 d]) (cutC ⟨s, cs, fs, d⟩ k)) := Lib.hid ((show OwnCfg (w3.setCell ⟨w2.heap.size, 1, none⟩ (.slice (some ⟨g, 0, none⟩) (cs.length - 1) k2)) w1.heap.size (.agg #[.string s, .slice (some ⟨g, 0, none⟩) (cs.length - 1) k2, .slice f2 fs.length l2, .int .i64 d]) (cutC ⟨s, cs, fs, d⟩ k) from ⟨_, _, rfl, by
        show World.ownsRow _ _ _ _ _ (cut cs k).length (clsCs (cut cs k))
        rw [cut_length hk, ← clsCs_cut]
        exact own_onl O3.out (onl_set (fun _ _ => rfl) _ _) (fun q hq e => by cases hq; simp only [Option.some.injEq] at e; omega), own_onl OF3.out (onl_set (fun _ _ => rfl) _ _) (fun q hq e => by
          have h1 := (World.ownsRow.lt OF2.out q hq).2
          simp only [Option.some.injEq] at e; omega), fun q hq => OD2.out q (by cases hq; rfl)⟩).on (one_new2 _ _))
    have XU : Hid (FourIs ((w3.setCell ⟨w2.heap.size, 1, none⟩ (.slice (some ⟨g, 0, none⟩) (cs.length - 1) k2)).alloc (Obj.cells #[.int .i64 xi, .int .i64 xp, .int .i64 xr, .int .i64 xe, .int .i64 xb, .int .i64 xu, .int .i64 xo, .int .i64 xl] 63)) w2.heap.size (.string s) (.slice (some ⟨g, 0, none⟩) (cs.length - 1) k2) (.slice f2 fs.length l2) (.int .i64 d)) := Lib.hid ((HX8.out.set1 _).on (one_new2 _ _))
    have ZU : Hid (Zer ((w3.setCell ⟨w2.heap.size, 1, none⟩ (.slice (some ⟨g, 0, none⟩) (cs.length - 1) k2)).alloc (Obj.cells #[.int .i64 xi, .int .i64 xp, .int .i64 xr, .int .i64 xe, .int .i64 xb, .int .i64 xu, .int .i64 xo, .int .i64 xl] 63)) (w.heap.size + 1)) := Lib.hid ((HZ3.out.set (by omega) _).on (one_new2 _ _))
    have EU : Hid (EightB ((w3.setCell ⟨w2.heap.size, 1, none⟩ (.slice (some ⟨g, 0, none⟩) (cs.length - 1) k2)).alloc (Obj.cells #[.int .i64 xi, .int .i64 xp, .int .i64 xr, .int .i64 xe, .int .i64 xb, .int .i64 xu, .int .i64 xo, .int .i64 xl] 63)) w3.heap.size ⟨xi, xp, xr, xe, xb, xu, xo, xl⟩) := Lib.hid (by
      have q := (box_eight (Below.refl _ ((w3.setCell ⟨w2.heap.size, 1, none⟩ (.slice (some ⟨g, 0, none⟩) (cs.length - 1) k2)).alloc (Obj.cells #[.int .i64 xi, .int .i64 xp, .int .i64 xr, .int .i64 xe, .int .i64 xb, .int .i64 xu, .int .i64 xo, .int .i64 xl] 63)))).1
      rw [Go.Deep.nblk_setCell] at q
      exact q)
    have hu3 : w3.heap.size < ((w3.setCell ⟨w2.heap.size, 1, none⟩ (.slice (some ⟨g, 0, none⟩) (cs.length - 1) k2)).alloc (Obj.cells #[.int .i64 xi, .int .i64 xp, .int .i64 xr, .int .i64 xe, .int .i64 xb, .int .i64 xu, .int .i64 xo, .int .i64 xl] 63)).heap.size := by simp
    have HIU : Hid (InX ((w3.setCell ⟨w2.heap.size, 1, none⟩ (.slice (some ⟨g, 0, none⟩) (cs.length - 1) k2)).alloc (Obj.cells #[.int .i64 xi, .int .i64 xp, .int .i64 xr, .int .i64 xe, .int .i64 xb, .int .i64 xu, .int .i64 xo, .int .i64 xl] 63)) (some ⟨g, 0, none⟩) (cs.length - 1) (clsCs (cut cs k))) := Lib.hid (by
      obtain ⟨vc3, vf3, hv3, oc3, _, _⟩ := OU.out
      simp only [Value.agg.injEq, Array.mk.injEq, List.cons.injEq, and_true] at hv3
      obtain ⟨_, rfl, rfl, _⟩ := hv3
      rw [show (cutC ⟨s, cs, fs, d⟩ k).cs.length = cs.length - 1 from hcl] at oc3
      obtain ⟨a, c', e1, ih⟩ := own_in oc3
      cases e1
      exact ih)
    have hxp : (cs.getD k cls0) = ⟨xi, xp, xr, xe, xb, xu, xo, xl⟩ := HXX.out
    have HPLX := Lib.hid (HPL.out (some ⟨g, 0, none⟩) k2 xp _ HIU)
    cases hfn : fnd (cut cs k) xp with
    | none =>
      have hD := dropL_none (c := ⟨s, cs, fs, d⟩) hxp hfn
      have hb0 := plc_of_none HIN.out hfn
      rw [hb0] at HPLX
      rw [hD] at HMS HB HRC
      clear hD hb0 hfn hxp
      go_wp2_with (go_at_call 76; refine HPLX.out.mono ?_; rintro e wz ⟨rfl, bz⟩; have BZ := Lib.hid (BU.out.trans (bz.mono BU.out.size)); have OZ := Lib.hid (OU.out.on bz); have X8Z := Lib.hid (XU.out.on bz); have ZZ := Lib.hid (ZU.out.on bz); clear bz z0 z1 z2 z3 e0 e1 e2 e3 a0 a1 a2 a3 a4 a5 a6 a7 f1; refine Hid.out ?_)
      refine Lib.hid ?_
      have HIV := Lib.hid (ifValid_any _ _ _ (Lib.hid (HK.out.below BZ.out)) (Lib.hid OZ.out.cfg) HMS)
      rw [HB.out] at HIV
      obtain ⟨z0, z1, z2, z3, _⟩ := X8Z.out
      cases b
      · obtain rfl : cfg0 = rc := HRC.out
        unfold SaysIf at HIV
        simp only [Bool.false_eq_true, if_false] at HIV
        unfold zV at HIV
        go_wp2_with (go_at_call 86; refine HIV.out.mono ?_; rintro e wv ⟨rfl, bv⟩; have BV := Lib.hid bv; clear bv; refine Hid.out ?_)
        refine Lib.hid ?_
        clear z0 z1 z2 z3
        obtain ⟨⟨x0, x1, x2, x3, _⟩, x4⟩ := ZZ.out.on BV.out
        have y0 := x4 0
        have y1 := x4 1
        have y2 := x4 2
        have y3 := x4 3
        clear x4
        go_wp2_with fail
        have F4 := (ZZ.out.on BV.out).four
        obtain ⟨r0, r1, r2, r3⟩ := read4 F4 (.string ⟨#[]⟩) (.slice none 0 0) (.slice none 0 0) (.int .i64 0) _ rfl
        exact bodyPost_ret (v := .tuple #[zV, .bool false]) (by simp [results, Tryz.results38, go_sem, r0, r1, r2, r3, zV]) rfl ⟨_, rfl, own_zV _ _, set4 (BZ.out.trans (BV.out.mono BZ.out.size)) _ (Nat.le_succ _) _ _ _ _⟩
      · obtain rfl : cutC ⟨s, cs, fs, d⟩ k = rc := HRC.out
        unfold SaysIf at HIV
        simp only [if_true] at HIV
        skip
        go_wp2_with (go_at_call 86; refine HIV.out.mono ?_; rintro e wv ⟨rfl, bv⟩; have BV := Lib.hid bv; clear bv; refine Hid.out ?_)
        refine Lib.hid ?_
        clear z0 z1 z2 z3
        obtain ⟨⟨x0, x1, x2, x3, _⟩, x4⟩ := ZZ.out.on BV.out
        have y0 := x4 0
        have y1 := x4 1
        have y2 := x4 2
        have y3 := x4 3
        clear x4
        go_wp2_with fail
        have F4 := (ZZ.out.on BV.out).four
        obtain ⟨r0, r1, r2, r3⟩ := read4 F4 (.string s) (.slice (some ⟨g, 0, none⟩) (cs.length - 1) k2) (.slice f2 fs.length l2) (.int .i64 d) _ rfl
        exact bodyPost_ret (v := .tuple #[(.agg #[.string s, .slice (some ⟨g, 0, none⟩) (cs.length - 1) k2, .slice f2 fs.length l2, .int .i64 d]), .bool true]) (by simp [results, Tryz.results38, go_sem, r0, r1, r2, r3]) rfl ⟨_, rfl, ((OZ.out.on BV.out).set4 hz1 _ _ _ _).base (by omega), set4 (BZ.out.trans (BV.out.mono BZ.out.size)) _ (Nat.le_succ _) _ _ _ _⟩

    | some i =>
      obtain ⟨hp1, hp2⟩ := plc_of_fnd HIN.out hfn
      have hig := fnd_get _ _ _ hfn
      have hin : i < cs.length - 1 := by have := hig.1; omega
      have hmk : mkP (cut cs k) (cs.length - 1) i = hasK (cut cs k) xp := by rw [mkP_all HIN.out _ i hcl hin, hig.2]
      have hix := fun w => run_index_marks w (cut cs k) (cs.length - 1) i (by omega)
      rw [hmk] at hix
      rw [hp1, hp2] at HPLX
      cases hh : hasK (cut cs k) xp
      · have hD := dropL_leaf (c := ⟨s, cs, fs, d⟩) hxp hfn hh
        rw [hD] at HMS HB HRC
        rw [hh] at hix
        clear hD hfn hxp hh hp1 hp2 hig hmk
        go_wp2_with (go_at_call 76; refine HPLX.out.mono ?_; rintro e u1 ⟨rfl, b1⟩; have B4 := Lib.hid (BU.out.trans (b1.mono BU.out.size)); have O4 := Lib.hid (OU.out.on b1); have X4 := Lib.hid (XU.out.on b1); have Z4 := Lib.hid (ZU.out.on b1); have E4 := Lib.hid (EU.out.on2 b1 hu3); have I4 := Lib.hid (HIU.out.below b1); have hs1 := b1.size; clear b1 z0 z1 z2 z3 e0 e1 e2 e3 a0 a1 a2 a3 a4 a5 a6 a7 f1; obtain ⟨z0, z1, z2, z3, _⟩ := X4.out; refine Hid.out ?_)
        refine Lib.hid ?_
        go_wp2_with (go_at_call 95; refine (HPM.out _ _ _ I4).mono ?_; rintro e u2 ⟨rfl, b1⟩; have B5 := Lib.hid (B4.out.trans (b1.mono B4.out.size)); have O5 := Lib.hid (O4.out.on b1); have X5 := Lib.hid (X4.out.on b1); have Z5 := Lib.hid (Z4.out.on b1); have E5 := Lib.hid (E4.out.on2 b1 (by omega)); clear b1 z0 z1 z2 z3; obtain ⟨z0, z1, z2, z3, _⟩ := X5.out; obtain ⟨a0, a1, a2, a3, a4, a5, a6, a7⟩ := E5.out; refine Hid.out ?_)
        refine Lib.hid ?_
        try simp only at a0 a1 a2 a3 a4 a5 a6 a7
        obtain ⟨vc3, vf3, hv3, oc3, _, _⟩ := O5.out
        simp only [Value.agg.injEq, Array.mk.injEq, List.cons.injEq, and_true] at hv3
        obtain ⟨_, rfl, rfl, _⟩ := hv3
        rw [show (cutC ⟨s, cs, fs, d⟩ k).cs.length = cs.length - 1 from hcl] at oc3
        obtain ⟨u7, c7⟩ := own_cell oc3 (i * 8 + 7) (by omega)
        have f7 := World.ownsRow.frozenAt oc3 (i * 8 + 7)
        have OZ : Hid (OwnCfg (u2.setCell ⟨g, i * 8 + 7, none⟩ (.int .i64 xl)) w1.heap.size (.agg #[.string s, .slice (some ⟨g, 0, none⟩) (cs.length - 1) k2, .slice f2 fs.length l2, .int .i64 d]) (setL (cutC ⟨s, cs, fs, d⟩ k) i xl)) := Lib.hid (by
          have q := O5.out
          unfold cutC at q
          rw [← hcl] at q
          have r := q.lim i (by rw [hcl]; exact hin) xl
          rw [hcl] at r
          exact r)
        have BZ : Hid (Below w.heap.size w (u2.setCell ⟨g, i * 8 + 7, none⟩ (.int .i64 xl))) := Lib.hid (B5.out.setCell hgw _)
        have X8Z : Hid (FourIs (u2.setCell ⟨g, i * 8 + 7, none⟩ (.int .i64 xl)) w2.heap.size (.string s) (.slice (some ⟨g, 0, none⟩) (cs.length - 1) k2) (.slice f2 fs.length l2) (.int .i64 d)) := Lib.hid (X5.out.far (by omega) _)
        have ZZ : Hid (Zer (u2.setCell ⟨g, i * 8 + 7, none⟩ (.int .i64 xl)) (w.heap.size + 1)) := Lib.hid (Z5.out.set (by omega) _)
        have n5 : ¬ w2.heap.size = g := by omega
        have n6 : ¬ g = w2.heap.size := by omega
        clear oc3
        have HIV := Lib.hid (ifValid_any _ _ _ (Lib.hid (HK.out.below BZ.out)) (Lib.hid OZ.out.cfg) HMS)
        rw [HB.out] at HIV
        obtain ⟨z0, z1, z2, z3, _⟩ := X8Z.out
        cases b
        · obtain rfl : cfg0 = rc := HRC.out
          unfold SaysIf at HIV
          simp only [Bool.false_eq_true, if_false] at HIV
          unfold zV at HIV
          go_wp2_with (go_at_call 86; refine HIV.out.mono ?_; rintro e wv ⟨rfl, bv⟩; have BV := Lib.hid bv; clear bv; refine Hid.out ?_)
          refine Lib.hid ?_
          clear z0 z1 z2 z3
          obtain ⟨⟨x0, x1, x2, x3, _⟩, x4⟩ := ZZ.out.on BV.out
          have y0 := x4 0
          have y1 := x4 1
          have y2 := x4 2
          have y3 := x4 3
          clear x4
          go_wp2_with fail
          have F4 := (ZZ.out.on BV.out).four
          obtain ⟨r0, r1, r2, r3⟩ := read4 F4 (.string ⟨#[]⟩) (.slice none 0 0) (.slice none 0 0) (.int .i64 0) _ rfl
          exact bodyPost_ret (v := .tuple #[zV, .bool false]) (by simp [results, Tryz.results38, go_sem, r0, r1, r2, r3, zV]) rfl ⟨_, rfl, own_zV _ _, set4 (BZ.out.trans (BV.out.mono BZ.out.size)) _ (Nat.le_succ _) _ _ _ _⟩
        · obtain rfl : setL (cutC ⟨s, cs, fs, d⟩ k) i xl = rc := HRC.out
          unfold SaysIf at HIV
          simp only [if_true] at HIV
          skip
          go_wp2_with (go_at_call 86; refine HIV.out.mono ?_; rintro e wv ⟨rfl, bv⟩; have BV := Lib.hid bv; clear bv; refine Hid.out ?_)
          refine Lib.hid ?_
          clear z0 z1 z2 z3
          obtain ⟨⟨x0, x1, x2, x3, _⟩, x4⟩ := ZZ.out.on BV.out
          have y0 := x4 0
          have y1 := x4 1
          have y2 := x4 2
          have y3 := x4 3
          clear x4
          go_wp2_with fail
          have F4 := (ZZ.out.on BV.out).four
          obtain ⟨r0, r1, r2, r3⟩ := read4 F4 (.string s) (.slice (some ⟨g, 0, none⟩) (cs.length - 1) k2) (.slice f2 fs.length l2) (.int .i64 d) _ rfl
          exact bodyPost_ret (v := .tuple #[(.agg #[.string s, .slice (some ⟨g, 0, none⟩) (cs.length - 1) k2, .slice f2 fs.length l2, .int .i64 d]), .bool true]) (by simp [results, Tryz.results38, go_sem, r0, r1, r2, r3]) rfl ⟨_, rfl, ((OZ.out.on BV.out).set4 hz1 _ _ _ _).base (by omega), set4 (BZ.out.trans (BV.out.mono BZ.out.size)) _ (Nat.le_succ _) _ _ _ _⟩

      · have hD := dropL_kids (c := ⟨s, cs, fs, d⟩) hxp hfn hh
        rw [hD] at HMS HB HRC
        rw [hh] at hix
        clear hD hfn hxp hh hp1 hp2 hig hmk
        go_wp2_with (go_at_call 76; refine HPLX.out.mono ?_; rintro e u1 ⟨rfl, b1⟩; have B4 := Lib.hid (BU.out.trans (b1.mono BU.out.size)); have O4 := Lib.hid (OU.out.on b1); have X4 := Lib.hid (XU.out.on b1); have Z4 := Lib.hid (ZU.out.on b1); have I4 := Lib.hid (HIU.out.below b1); clear b1 z0 z1 z2 z3 e0 e1 e2 e3 a0 a1 a2 a3 a4 a5 a6 a7 f1; obtain ⟨z0, z1, z2, z3, _⟩ := X4.out; refine Hid.out ?_)
        refine Lib.hid ?_
        go_wp2_with (go_at_call 95; refine (HPM.out _ _ _ I4).mono ?_; rintro e u2 ⟨rfl, b1⟩; have BZ := Lib.hid (B4.out.trans (b1.mono B4.out.size)); have OZ := Lib.hid (O4.out.on b1); have X8Z := Lib.hid (X4.out.on b1); have ZZ := Lib.hid (Z4.out.on b1); clear b1 z0 z1 z2 z3; refine Hid.out ?_)
        refine Lib.hid ?_
        have HIV := Lib.hid (ifValid_any _ _ _ (Lib.hid (HK.out.below BZ.out)) (Lib.hid OZ.out.cfg) HMS)
        rw [HB.out] at HIV
        obtain ⟨z0, z1, z2, z3, _⟩ := X8Z.out
        cases b
        · obtain rfl : cfg0 = rc := HRC.out
          unfold SaysIf at HIV
          simp only [Bool.false_eq_true, if_false] at HIV
          unfold zV at HIV
          go_wp2_with (go_at_call 86; refine HIV.out.mono ?_; rintro e wv ⟨rfl, bv⟩; have BV := Lib.hid bv; clear bv; refine Hid.out ?_)
          refine Lib.hid ?_
          clear z0 z1 z2 z3
          obtain ⟨⟨x0, x1, x2, x3, _⟩, x4⟩ := ZZ.out.on BV.out
          have y0 := x4 0
          have y1 := x4 1
          have y2 := x4 2
          have y3 := x4 3
          clear x4
          go_wp2_with fail
          have F4 := (ZZ.out.on BV.out).four
          obtain ⟨r0, r1, r2, r3⟩ := read4 F4 (.string ⟨#[]⟩) (.slice none 0 0) (.slice none 0 0) (.int .i64 0) _ rfl
          exact bodyPost_ret (v := .tuple #[zV, .bool false]) (by simp [results, Tryz.results38, go_sem, r0, r1, r2, r3, zV]) rfl ⟨_, rfl, own_zV _ _, set4 (BZ.out.trans (BV.out.mono BZ.out.size)) _ (Nat.le_succ _) _ _ _ _⟩
        · obtain rfl : cutC ⟨s, cs, fs, d⟩ k = rc := HRC.out
          unfold SaysIf at HIV
          simp only [if_true] at HIV
          skip
          go_wp2_with (go_at_call 86; refine HIV.out.mono ?_; rintro e wv ⟨rfl, bv⟩; have BV := Lib.hid bv; clear bv; refine Hid.out ?_)
          refine Lib.hid ?_
          clear z0 z1 z2 z3
          obtain ⟨⟨x0, x1, x2, x3, _⟩, x4⟩ := ZZ.out.on BV.out
          have y0 := x4 0
          have y1 := x4 1
          have y2 := x4 2
          have y3 := x4 3
          clear x4
          go_wp2_with fail
          have F4 := (ZZ.out.on BV.out).four
          obtain ⟨r0, r1, r2, r3⟩ := read4 F4 (.string s) (.slice (some ⟨g, 0, none⟩) (cs.length - 1) k2) (.slice f2 fs.length l2) (.int .i64 d) _ rfl
          exact bodyPost_ret (v := .tuple #[(.agg #[.string s, .slice (some ⟨g, 0, none⟩) (cs.length - 1) k2, .slice f2 fs.length l2, .int .i64 d]), .bool true]) (by simp [results, Tryz.results38, go_sem, r0, r1, r2, r3]) rfl ⟨_, rfl, ((OZ.out.on BV.out).set4 hz1 _ _ _ _).base (by omega), set4 (BZ.out.trans (BV.out.mono BZ.out.size)) _ (Nat.le_succ _) _ _ _ _⟩

end Go.Proofs.YtdmcgjohpnojkaaGreatDoor
