import Derived.Test.YthgbhnedfdnfpaaDoorPkl
import Derived.Deep.WholeRow
/- The program's limits, targets and names. -/
namespace Go.Proofs.YthgbhnedfdnfpaaDoor
set_option maxRecDepth 100000
open Go.RowKit
set_option linter.unusedVariables false

theorem marks_store (w : World) (cs : List Cls) (k : Nat) : (storeCells ⟨w.heap.size, 0, none⟩ (mkX cs k) 0).run Tryd.prog (w.alloc (.cells #[.bool false, .bool false, .bool false, .bool false, .bool false, .bool false, .bool false, .bool false, .bool false, .bool false, .bool false, .bool false, .bool false, .bool false, .bool false, .bool false, .bool false, .bool false, .bool false, .bool false, .bool false, .bool false, .bool false, .bool false] 52)) = .ok () (w.alloc (.cells (mkX cs k).toArray 52)) := by
  have := run_storeCells_new (P := Tryd.prog) w 52 #[.bool false, .bool false, .bool false, .bool false, .bool false, .bool false, .bool false, .bool false, .bool false, .bool false, .bool false, .bool false, .bool false, .bool false, .bool false, .bool false, .bool false, .bool false, .bool false, .bool false, .bool false, .bool false, .bool false, .bool false] (mkX cs k).toArray (by rw [mkX_asize]; exact infoB24) (by rw [mkX_asize]; rfl) (all_oneCell_toArray (mkX_one cs k))
  simpa using this
theorem marks_lit (w : World) (B : Nat) (hB : B ≤ w.heap.size) (cs : List Cls) (k : Nat) : MarkA (w.alloc (.cells (mkX cs k).toArray 52)) B w.heap.size (mkX cs k) := by
  unfold MarkA
  have := World.ownsRow_lit (base := B) (e := 52) (size := 1) w (mkX cs k).toArray 24 hB (by unfold maxLen; omega) (by rw [mkX_asize])
  simpa using this
theorem limOk_kid {cs : List Cls} {x : Cls} (h : hasK cs x.i = true) : limOk cs x = (x.l == 0) := by unfold limOk; rw [h]; rfl
theorem limOk_leaf {cs : List Cls} {x : Cls} (h : hasK cs x.i = false) : limOk cs x = inB x.l 1 60 := by unfold limOk; rw [h]; rfl
def LmRel (w : World) (M n : Nat) (cs : List Cls) (B : Bool) (i : Value) (wr : World) : Prop :=
  ∃ k : Nat, k ≤ n ∧ i = .int .i64 k ∧ MarkA wr w.heap.size M (mkX cs n) ∧ Below w.heap.size w wr ∧ Hid (fromK (fun k => limOk cs (cs.getD k cls0)) n k = B)
set_option maxHeartbeats 3200000 in
theorem limitsFit_any (ac : Option Addr) (n cc : Nat) (cs : List Cls) (w : World) (HI : Hid (InX w ac n (clsCs cs))) (hn : Hid (cs.length = n)) (hm : n ≤ 1048576) (hi : Hid (IncC cs)) (h24 : n ≤ 24) :
    Calls Tryd.prog 48 #[(.slice ac n cc)] w (SaysB w (lfG cs)) := by
  obtain ⟨B, hB⟩ : ∃ B, lfG cs = B := ⟨_, rfl⟩
  have H0 : Hid (fromK (fun k => limOk cs (cs.getD k cls0)) n 0 = B) := Lib.hid (by rw [← hB]; unfold lfG; rw [hn.out])
  have HMK := Lib.hid (fun w HI => parentMarks_any ac n cc cs w HI hn hm hi h24)
  rw [hB]
  clear hB
  go_enter Tryd.func48, Tryd.ntmps48
  go_wp2_with (go_at_call 30; refine (HMK.out _ HI).mono ?_; rintro e w1 ⟨rfl, b1⟩; have B1 := Lib.hid b1; have hst := marks_store w1 cs n; clear b1)
  go_loopw [10] (fun i wr => LmRel w w1.heap.size n cs B i wr) (fun i _ => n - (intOf i).toNat)
  case atStart => exact ⟨0, Nat.zero_le _, rfl, marks_lit w1 _ B1.out.size cs n, B1.out.alloc B1.out.size _, H0⟩
  case round =>
    obtain ⟨k, hk, rfl, hmk, hb, HP⟩ := hrel
    have HB := Lib.hid hb
    have HM := Lib.hid hmk
    have hgm : w1.heap.size < wr.heap.size := (World.ownsRow.lt hmk _ rfl).2
    clear hmk
    by_cases hlt : k < n
    · obtain ⟨g, rfl, ht, hg⟩ := HI.out (by omega)
      obtain ⟨x, hx⟩ : ∃ x, cs.getD k cls0 = x := ⟨_, rfl⟩
      have hl1 : k < cs.length := by rw [hn.out]; exact hlt
      obtain ⟨a0, a1, a2, a3, a4, a5, a6, a7⟩ := (ht.below hb hg).cls k hl1 x hx
      have HE := Lib.hid (fromK_at (fun k => limOk cs (cs.getD k cls0)) n k hlt)
      have HEx : Hid (limOk cs (cs.getD k cls0) = limOk cs x) := Lib.hid (by rw [hx])
      have hmk := HM.out.at k (by omega)
      rw [mkP_all hi.out n k hn.out hlt, hx] at hmk
      have hk24 : (k : Int) < 24 := by omega
      have BA := Lib.hid (one_new2 wr (Obj.cells #[.int .i64 x.i, .int .i64 x.p, .int .i64 x.r, .int .i64 x.e, .int .i64 x.b, .int .i64 x.u, .int .i64 x.o, .int .i64 x.l] 43))
      rcases Bool.eq_false_or_eq_true (hasK cs x.i) with hh | hh
      · have HLM := Lib.hid (limOk_kid hh)
        rw [hh] at hmk
        have hma := fun o => ((bcell (one_new2 wr o)).1 _ k hgm).trans hmk
        by_cases hz : x.l = 0
        · have HX := Lib.hid (show fromK (fun k => limOk cs (cs.getD k cls0)) n (k + 1) = B by rw [← HP.out, HE.out, HEx.out, HLM.out, hz]; rfl)
          have dz : (x.l == 0) = true := by simpa using hz
          have dzn : (x.l != 0) = false := by simp [hz]
          obtain ⟨xi, xp, xr, xe, xb, xu, xo, xl⟩ := x
          simp only at a0 a1 a2 a3 a4 a5 a6 a7 BA dz dzn
          clear hb hx hl1 ht hh hz hmk
          go_wp2_with fail
          go_roundw
          case rel => exact ⟨k + 1, by omega, by go_num, HM.out.low BA.out hgm, HB.out.trans (BA.out.mono HB.out.size), HX⟩
          case measure => simp [intOf]; omega
        · have HX : Hid (B = false) := Lib.hid (by rw [← HP.out, HE.out, HEx.out, HLM.out, beq_eq_false_iff_ne.2 hz]; rfl)
          have dz : (x.l == 0) = false := by simpa using hz
          have dzn : (x.l != 0) = true := by simp [hz]
          obtain ⟨xi, xp, xr, xe, xb, xu, xo, xl⟩ := x
          simp only at a0 a1 a2 a3 a4 a5 a6 a7 BA dz dzn
          clear hb hx hl1 ht hh hz hmk
          go_wp2_with fail
          go_ret
          exact ⟨ret_bool HX.out.symm, HB.out.trans (BA.out.mono HB.out.size)⟩
      · have HLM := Lib.hid (limOk_leaf hh)
        rw [hh] at hmk
        have hma := fun o => ((bcell (one_new2 wr o)).1 _ k hgm).trans hmk
        have HN := Lib.hid (fun w => isIn_any x.l 1 60 w)
        rcases Bool.eq_false_or_eq_true (inB x.l 1 60) with hz | hz
        · have HX := Lib.hid (show fromK (fun k => limOk cs (cs.getD k cls0)) n (k + 1) = B by rw [← HP.out, HE.out, HEx.out, HLM.out, hz, Bool.true_and])
          rw [hz] at HN
          obtain ⟨xi, xp, xr, xe, xb, xu, xo, xl⟩ := x
          simp only at a0 a1 a2 a3 a4 a5 a6 a7 BA HN
          clear hb hx hl1 ht hh hz hmk
          go_wp2_with (go_at_call 66; refine (HN.out _).mono ?_; rintro e w' ⟨rfl, rfl⟩)
          go_roundw
          case rel => exact ⟨k + 1, by omega, by go_num, HM.out.low BA.out hgm, HB.out.trans (BA.out.mono HB.out.size), HX⟩
          case measure => simp [intOf]; omega
        · have HX : Hid (B = false) := Lib.hid (by rw [← HP.out, HE.out, HEx.out, HLM.out, hz, Bool.false_and])
          rw [hz] at HN
          obtain ⟨xi, xp, xr, xe, xb, xu, xo, xl⟩ := x
          simp only at a0 a1 a2 a3 a4 a5 a6 a7 BA HN
          clear hb hx hl1 ht hh hz hmk
          go_wp2_with (go_at_call 66; refine (HN.out _).mono ?_; rintro e w' ⟨rfl, rfl⟩)
          go_ret
          exact ⟨ret_bool HX.out.symm, HB.out.trans (BA.out.mono HB.out.size)⟩
    · have HX : Hid (true = B) := Lib.hid (by rw [← HP.out, fromK_end _ n k (by omega)])
      clear hb
      go_wp2_with fail
      go_ret
      exact ⟨ret_bool HX.out, HB.out⟩
set_option maxHeartbeats 3200000 in
theorem isLeaf_any (s : ByteArray) (ac : Option Addr) (vf : Value) (n cc : Nat) (d : Int) (cs : List Cls) (c0 B M : Nat) (id : Int) (w : World) (HI : Hid (InX w ac n (clsCs cs))) (hn : Hid (cs.length = n)) (hm : n ≤ 1048576) (hi : Hid (IncC cs)) (h24 : n ≤ 24) (HF : Hid (FourIs w c0 (.string s) (.slice ac n cc) vf (.int .i64 d))) (HM : Hid (MarkA w B M (mkX cs n))) :
    Calls Tryd.prog 68 #[.int .i64 id, .pointer (some ⟨c0, 0, none⟩), .pointer (some ⟨M, 0, none⟩)] w (SaysB w (leafB cs id)) := by
  obtain ⟨e0, e1, e2, e3, hgc⟩ := HF.out
  have HPL := Lib.hid (fun w HI => placeOf_any ac n cc cs id w HI hn hm hi)
  have hgm : M < w.heap.size := (World.ownsRow.lt HM.out _ rfl).2
  cases hf : fnd cs id with
  | none =>
    have HX : Hid (leafB cs id = false) := Lib.hid (by unfold leafB; rw [hf]; rfl)
    rw [plc_of_none hi.out hf] at HPL
    generalize plc cs id = pl at HPL
    clear hf
    go_enter Tryd.func68, Tryd.ntmps68
    go_wp2_with (go_at_call 23; refine (HPL.out _ HI).mono ?_; rintro e w1 ⟨rfl, b1⟩; have B1 := Lib.hid b1; clear b1)
    go_ret
    exact ⟨ret_bool HX.out.symm, B1.out⟩
  | some j =>
    have hj := fnd_get cs id j hf
    have hjn : j < n := by rw [← hn.out]; exact hj.1
    have hj24 : (j : Int) < 24 := by omega
    obtain ⟨b, hb⟩ : ∃ b, hasK cs id = b := ⟨_, rfl⟩
    have HX : Hid (leafB cs id = !b) := Lib.hid (by unfold leafB; rw [hf, hb]; rfl)
    have hmk := HM.out.at j (by omega)
    rw [mkP_all hi.out n j hn.out hjn, hj.2, hb] at hmk
    have HMK := Lib.hid hmk
    rw [(plc_of_fnd hi.out hf).1, (plc_of_fnd hi.out hf).2] at HPL
    clear hf hj hb hmk
    go_enter Tryd.func68, Tryd.ntmps68
    go_wp2_with (go_at_call 23; refine (HPL.out _ HI).mono ?_; rintro e w1 ⟨rfl, b1⟩; have B1 := Lib.hid b1; have m1 := ((bcell b1).1 M j hgm).trans HMK.out; clear b1)
    go_ret
    exact ⟨ret_bool HX.out.symm, B1.out⟩
end Go.Proofs.YthgbhnedfdnfpaaDoor

/- The program's check of all targets, of a name, and of a whole configuration. -/
namespace Go.Proofs.YthgbhnedfdnfpaaDoor
set_option maxRecDepth 100000
open Go.RowKit
set_option linter.unusedVariables false

def LdRel (w : World) (M m n : Nat) (a0 a1 a2 a3 : Value) (cs : List Cls) (fs : List Flt) (L : Bool) (i : Value) (wr : World) : Prop :=
  ∃ k : Nat, k ≤ m ∧ i = .int .i64 k ∧ FourIs wr w.heap.size a0 a1 a2 a3 ∧ MarkA wr w.heap.size M (mkX cs n) ∧ Below w.heap.size w wr ∧ Hid (lvF cs (fs.drop k) = L)
set_option maxHeartbeats 3200000 in
theorem leadToLeaves_any (s : ByteArray) (ac af : Option Addr) (n cc m cf : Nat) (d : Int) (cs : List Cls) (fs : List Flt) (w : World) (HI : Hid (InX w ac n (clsCs cs))) (hn : Hid (cs.length = n)) (hm : n ≤ 1048576) (HJ : Hid (InX w af m (fltCs fs))) (hf : Hid (fs.length = m)) (hmf : m ≤ 1048576) (hi : Hid (IncC cs)) (h24 : n ≤ 24) :
    Calls Tryd.prog 50 #[(.agg #[.string s, .slice ac n cc, .slice af m cf, .int .i64 d])] w (SaysB w (lvF cs fs && dfG cs d)) := by
  obtain ⟨L, hL⟩ : ∃ L, lvF cs fs = L := ⟨_, rfl⟩
  have H0 : Hid (lvF cs (fs.drop 0) = L) := Lib.hid hL
  have HMK := Lib.hid (fun w HI => parentMarks_any ac n cc cs w HI hn hm hi h24)
  have HLF := Lib.hid (fun c0 B M id w HI HF HM => isLeaf_any s ac (.slice af m cf) n cc d cs c0 B M id w HI hn hm hi h24 HF HM)
  have HD : Hid (dfG cs d = ((d == 0) || leafB cs d)) := Lib.hid rfl
  rw [hL]
  generalize dfG cs d = D at HD ⊢
  clear hL
  go_enter Tryd.func50, Tryd.ntmps50
  go_wp2_with (go_at_call 30; refine (HMK.out _ (Lib.hid (HI.out.below (one_new2 _ _)))).mono ?_; rintro e w1 ⟨rfl, b1⟩; have B1 := Lib.hid (box_four b1).2; have F1 := Lib.hid (box_four b1).1; have hst := marks_store w1 cs n; have hz1 : w.heap.size < w1.heap.size := (box_four b1).1.2.2.2.2; have ce := fun o => ((bcell (one_new2 w1 o)).1 _ 2 hz1).trans (box_four b1).1.2.2.1; clear b1)
  go_loopw [14] (fun i wr => LdRel w w1.heap.size m n (.string s) (.slice ac n cc) (.slice af m cf) (.int .i64 d) cs fs L i wr) (fun i _ => m - (intOf i).toNat)
  case atStart => exact ⟨0, Nat.zero_le _, rfl, F1.out.on (one_new2 _ _), marks_lit w1 _ B1.out.size cs n, B1.out.alloc B1.out.size _, H0⟩
  case round =>
    obtain ⟨k, hk, rfl, hfo, hmk, hb, HP⟩ := hrel
    have HB := Lib.hid hb
    have HM := Lib.hid hmk
    have HFO := Lib.hid hfo
    obtain ⟨e0, e1, e2, e3, hgc⟩ := hfo
    clear hmk hst ce
    by_cases hlt : k < m
    · obtain ⟨g, rfl, ht, hg⟩ := HJ.out (by omega)
      have hl1 : k < fs.length := by rw [hf.out]; exact hlt
      obtain ⟨x, hx⟩ : ∃ x, fs.getD k flt0 = x := ⟨_, rfl⟩
      obtain ⟨a0, a1, a2, a3, a4⟩ := (ht.below hb hg).flt k hl1 x hx
      have HE := Lib.hid (lvF_at cs fs k hl1 x hx)
      have BA := Lib.hid (one_new2 wr (Obj.cells #[.int .i64 x.o, .int .i64 x.f, .int .i64 x.m, .int .i64 x.v, .int .i64 x.t] 77))
      have HLx := Lib.hid (HLF.out w.heap.size w.heap.size w1.heap.size x.t)
      have hgm : w1.heap.size < wr.heap.size := (World.ownsRow.lt HM.out _ rfl).2
      rcases Bool.eq_false_or_eq_true (leafB cs x.t) with hl | hl
      · have HX := Lib.hid (show lvF cs (fs.drop (k + 1)) = L by rw [← HP.out, HE.out, hl, Bool.true_and])
        rw [hl] at HLx
        obtain ⟨xo, xf, xm, xv, xt⟩ := x
        simp only at a0 a1 a2 a3 a4 BA HLx
        clear hb hx hl1 ht hl
        go_wp2_with (go_at_call 68; refine (HLx.out _ (Lib.hid (HI.out.below (HB.out.trans (BA.out.mono HB.out.size)))) (Lib.hid (HFO.out.on BA.out)) (Lib.hid (HM.out.low BA.out hgm))).mono ?_; rintro e w2 ⟨rfl, b2⟩; have B2 := Lib.hid (BA.out.trans (b2.mono BA.out.size)); clear b2)
        go_roundw
        case rel => exact ⟨k + 1, by omega, by go_num, HFO.out.on B2.out, HM.out.low B2.out hgm, HB.out.trans (B2.out.mono HB.out.size), HX⟩
        case measure => simp [intOf]; omega
      · have HX : Hid (L = false) := Lib.hid (by rw [← HP.out, HE.out, hl, Bool.false_and])
        rw [hl] at HLx
        obtain ⟨xo, xf, xm, xv, xt⟩ := x
        simp only at a0 a1 a2 a3 a4 BA HLx
        clear hb hx hl1 ht hl
        go_wp2_with (go_at_call 68; refine (HLx.out _ (Lib.hid (HI.out.below (HB.out.trans (BA.out.mono HB.out.size)))) (Lib.hid (HFO.out.on BA.out)) (Lib.hid (HM.out.low BA.out hgm))).mono ?_; rintro e w2 ⟨rfl, b2⟩; have B2 := Lib.hid (BA.out.trans (b2.mono BA.out.size)); clear b2)
        go_ret
        exact ⟨ret_bool (by rw [HX.out]; rfl), HB.out.trans (B2.out.mono HB.out.size)⟩
    · have HX : Hid (L = true) := Lib.hid (by rw [← HP.out, lvF_end cs fs k (by rw [hf.out]; omega)])
      have HLx := Lib.hid (HLF.out w.heap.size w.heap.size w1.heap.size d)
      clear hb
      by_cases hd : d = 0
      · have d0 : (d == 0) = true := by simpa using hd
        have HY : Hid (D = true) := Lib.hid (by rw [HD.out, d0]; rfl)
        clear hd
        go_wp2_with fail
        go_ret
        exact ⟨ret_bool (by rw [HX.out, HY.out]; rfl), HB.out⟩
      · have d0 : (d == 0) = false := by simpa using hd
        have HY : Hid (D = leafB cs d) := Lib.hid (by rw [HD.out, d0]; rfl)
        generalize leafB cs d = q at HY HLx
        clear hd
        go_wp2_with (go_at_call 68; refine (HLx.out _ (Lib.hid (HI.out.below HB.out)) HFO HM).mono ?_; rintro e w2 ⟨rfl, b2⟩; have B2 := Lib.hid (HB.out.trans (b2.mono HB.out.size)); clear b2)
        go_ret
        exact ⟨ret_bool (by rw [HX.out, HY.out]; rfl), B2.out⟩
end Go.Proofs.YthgbhnedfdnfpaaDoor
