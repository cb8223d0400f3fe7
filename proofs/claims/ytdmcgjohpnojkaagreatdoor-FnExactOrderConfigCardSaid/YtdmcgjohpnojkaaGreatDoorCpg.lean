/- The program's limits, targets and names. -/
import Derived.Test.YtdmcgjohpnojkaaGreatDoorCpe
import Derived.Deep.WholeRow
namespace Go.Proofs.YtdmcgjohpnojkaaGreatDoor
set_option maxRecDepth 100000
open Go.RowKit
set_option linter.unusedVariables false

theorem marks_store (w : World) (cs : List Cls) (k : Nat) : (storeCells ⟨w.heap.size, 0, none⟩ (mkX cs k) 0).run Tryz.prog (w.alloc (.cells #[.bool false, .bool false, .bool false, .bool false, .bool false, .bool false, .bool false, .bool false, .bool false, .bool false, .bool false, .bool false, .bool false, .bool false, .bool false, .bool false, .bool false, .bool false, .bool false, .bool false, .bool false, .bool false, .bool false, .bool false] 123)) = .ok () (w.alloc (.cells (mkX cs k).toArray 123)) := by
  have := run_storeCells_new (P := Tryz.prog) w 123 #[.bool false, .bool false, .bool false, .bool false, .bool false, .bool false, .bool false, .bool false, .bool false, .bool false, .bool false, .bool false, .bool false, .bool false, .bool false, .bool false, .bool false, .bool false, .bool false, .bool false, .bool false, .bool false, .bool false, .bool false] (mkX cs k).toArray (by rw [mkX_asize]; exact infoB24) (by rw [mkX_asize]; rfl) (all_oneCell_toArray (mkX_one cs k))
  simpa using this
theorem marks_lit (w : World) (B : Nat) (hB : B ≤ w.heap.size) (cs : List Cls) (k : Nat) : MarkA (w.alloc (.cells (mkX cs k).toArray 123)) B w.heap.size (mkX cs k) := by
  unfold MarkA
  have := World.ownsRow_lit (base := B) (e := 123) (size := 1) w (mkX cs k).toArray 24 hB (by unfold maxLen; omega) (by rw [mkX_asize])
  simpa using this
theorem limOk_kid {cs : List Cls} {x : Cls} (h : hasK cs x.i = true) : limOk cs x = (x.l == 0) := by unfold limOk; rw [h]; rfl
theorem limOk_leaf {cs : List Cls} {x : Cls} (h : hasK cs x.i = false) : limOk cs x = inB x.l 1 60 := by unfold limOk; rw [h]; rfl
def LmRel (w : World) (M n : Nat) (cs : List Cls) (B : Bool) (i : Value) (wr : World) : Prop :=
  ∃ k : Nat, k ≤ n ∧ i = .int .i64 k ∧ MarkA wr w.heap.size M (mkX cs n) ∧ Below w.heap.size w wr ∧ Hid (fromK (fun k => limOk cs (cs.getD k cls0)) n k = B)
set_option maxHeartbeats 3200000 in
theorem limitsFit_any (ac : Option Addr) (n cc : Nat) (cs : List Cls) (w : World) (HI : Hid (InX w ac n (clsCs cs))) (hn : Hid (cs.length = n)) (hm : n ≤ 1048576) (hi : Hid (IncC cs)) (h24 : n ≤ 24) :
    Calls Tryz.prog 104 #[(.slice ac n cc)] w (SaysB w (lfG cs)) := by
  obtain ⟨B, hB⟩ : ∃ B, lfG cs = B := ⟨_, rfl⟩
  have H0 : Hid (fromK (fun k => limOk cs (cs.getD k cls0)) n 0 = B) := Lib.hid (by rw [← hB]; unfold lfG; rw [hn.out])
  have HMK := Lib.hid (fun w HI => parentMarks_any ac n cc cs w HI hn hm hi h24)
  rw [hB]
  clear hB
  go_enter Tryz.func104, Tryz.ntmps104
  go_wp2_with (go_at_call 95; refine (HMK.out _ HI).mono ?_; rintro e w1 ⟨rfl, b1⟩; have B1 := Lib.hid b1; have hst := marks_store w1 cs n; clear b1)
  go_loopw [10] (fun i wr => LmRel w w1.heap.size n cs B i wr) (fun i _ => n - (intOf i).toNat)
  case atStart => exact ⟨0, Nat.zero_le _, rfl, marks_lit w1 _ B1.out.size cs n, B1.out.alloc B1.out.size _, H0⟩
  case round =>
    obtain ⟨k, hk, rfl, hmk, hb, HP⟩ := hrel
    have HB := Lib.hid hb
    have HM := Lib.hid hmk
    have hgm : w1.heap.size < wr.heap.size := (World.ownsRow.lt hmk _ rfl).2
    clear hmk
    by_cases hlt : k < n
    · obtain ⟨g, rfl, ht, hg⟩ := HI.out (by omega)
      obtain ⟨x, hx⟩ : ∃ x, cs.getD k cls0 = x := ⟨_, rfl⟩
      have hl1 : k < cs.length := by rw [hn.out]; exact hlt
      obtain ⟨a0, a1, a2, a3, a4, a5, a6, a7⟩ := (ht.below hb hg).cls k hl1 x hx
      have HE := Lib.hid (fromK_at (fun k => limOk cs (cs.getD k cls0)) n k hlt)
      have HEx : Hid (limOk cs (cs.getD k cls0) = limOk cs x) := Lib.hid (by rw [hx])
      have hmk := HM.out.at k (by omega)
      rw [mkP_all hi.out n k hn.out hlt, hx] at hmk
      have hk24 : (k : Int) < 24 := by omega
      have BA := Lib.hid (one_new2 wr (Obj.cells #[.int .i64 x.i, .int .i64 x.p, .int .i64 x.r, .int .i64 x.e, .int .i64 x.b, .int .i64 x.u, .int .i64 x.o, .int .i64 x.l] 63))
      rcases Bool.eq_false_or_eq_true (hasK cs x.i) with hh | hh
      · have HLM := Lib.hid (limOk_kid hh)
        rw [hh] at hmk
        have hma := fun o => ((bcell (one_new2 wr o)).1 _ k hgm).trans hmk
        by_cases hz : x.l = 0
        · have HX := Lib.hid (show fromK (fun k => limOk cs (cs.getD k cls0)) n (k + 1) = B by rw [← HP.out, HE.out, HEx.out, HLM.out, hz]; rfl)
          have dz : (x.l == 0) = true := by simpa using hz
          have dzn : (x.l != 0) = false := by simp [hz]
          obtain ⟨xi, xp, xr, xe, xb, xu, xo, xl⟩ := x
          simp only at a0 a1 a2 a3 a4 a5 a6 a7 BA dz dzn
          clear hb hx hl1 ht hh hz hmk
          go_wp2_with fail
          go_roundw
          case rel => exact ⟨k + 1, by omega, by go_num, HM.out.low BA.out hgm, HB.out.trans (BA.out.mono HB.out.size), HX⟩
          case measure => simp [intOf]; omega
        · have HX : Hid (B = false) := Lib.hid (by rw [← HP.out, HE.out, HEx.out, HLM.out, beq_eq_false_iff_ne.2 hz]; rfl)
          have dz : (x.l == 0) = false := by simpa using hz
          have dzn : (x.l != 0) = true := by simp [hz]
          obtain ⟨xi, xp, xr, xe, xb, xu, xo, xl⟩ := x
          simp only at a0 a1 a2 a3 a4 a5 a6 a7 BA dz dzn
          clear hb hx hl1 ht hh hz hmk
          go_wp2_with fail
          go_ret
          exact ⟨ret_bool HX.out.symm, HB.out.trans (BA.out.mono HB.out.size)⟩
      · have HLM := Lib.hid (limOk_leaf hh)
        rw [hh] at hmk
        have hma := fun o => ((bcell (one_new2 wr o)).1 _ k hgm).trans hmk
        have HN := Lib.hid (fun w => isIn_any x.l 1 60 w)
        rcases Bool.eq_false_or_eq_true (inB x.l 1 60) with hz | hz
        · have HX := Lib.hid (show fromK (fun k => limOk cs (cs.getD k cls0)) n (k + 1) = B by rw [← HP.out, HE.out, HEx.out, HLM.out, hz, Bool.true_and])
          rw [hz] at HN
          obtain ⟨xi, xp, xr, xe, xb, xu, xo, xl⟩ := x
          simp only at a0 a1 a2 a3 a4 a5 a6 a7 BA HN
          clear hb hx hl1 ht hh hz hmk
          go_wp2_with (go_at_call 152; refine (HN.out _).mono ?_; rintro e w' ⟨rfl, rfl⟩)
          go_roundw
          case rel => exact ⟨k + 1, by omega, by go_num, HM.out.low BA.out hgm, HB.out.trans (BA.out.mono HB.out.size), HX⟩
          case measure => simp [intOf]; omega
        · have HX : Hid (B = false) := Lib.hid (by rw [← HP.out, HE.out, HEx.out, HLM.out, hz, Bool.false_and])
          rw [hz] at HN
          obtain ⟨xi, xp, xr, xe, xb, xu, xo, xl⟩ := x
          simp only at a0 a1 a2 a3 a4 a5 a6 a7 BA HN
          clear hb hx hl1 ht hh hz hmk
          go_wp2_with (go_at_call 152; refine (HN.out _).mono ?_; rintro e w' ⟨rfl, rfl⟩)
          go_ret
          exact ⟨ret_bool HX.out.symm, HB.out.trans (BA.out.mono HB.out.size)⟩
    · have HX : Hid (true = B) := Lib.hid (by rw [← HP.out, fromK_end _ n k (by omega)])
      clear hb
      go_wp2_with fail
      go_ret
      exact ⟨ret_bool HX.out, HB.out⟩
set_option maxHeartbeats 3200000 in
theorem isLeaf_any (s : ByteArray) (ac : Option Addr) (vf : Value) (n cc : Nat) (d : Int) (cs : List Cls) (c0 B M : Nat) (id : Int) (w : World) (HI : Hid (InX w ac n (clsCs cs))) (hn : Hid (cs.length = n)) (hm : n ≤ 1048576) (hi : Hid (IncC cs)) (h24 : n ≤ 24) (HF : Hid (FourIs w c0 (.string s) (.slice ac n cc) vf (.int .i64 d))) (HM : Hid (MarkA w B M (mkX cs n))) :
    Calls Tryz.prog 154 #[.int .i64 id, .pointer (some ⟨c0, 0, none⟩), .pointer (some ⟨M, 0, none⟩)] w (SaysB w (leafB cs id)) := by
  obtain ⟨e0, e1, e2, e3, hgc⟩ := HF.out
  have HPL := Lib.hid (fun w HI => placeOf_any ac n cc cs id w HI hn hm hi)
  have hgm : M < w.heap.size := (World.ownsRow.lt HM.out _ rfl).2
  cases hf : fnd cs id with
  | none =>
    have HX : Hid (leafB cs id = false) := Lib.hid (by unfold leafB; rw [hf]; rfl)
    rw [plc_of_none hi.out hf] at HPL
    generalize plc cs id = pl at HPL
    clear hf
    go_enter Tryz.func154, Tryz.ntmps154
    go_wp2_with (go_at_call 76; refine (HPL.out _ HI).mono ?_; rintro e w1 ⟨rfl, b1⟩; have B1 := Lib.hid b1; clear b1)
    go_ret
    exact ⟨ret_bool HX.out.symm, B1.out⟩
  | some j =>
    have hj := fnd_get cs id j hf
    have hjn : j < n := by rw [← hn.out]; exact hj.1
    have hj24 : (j : Int) < 24 := by omega
    obtain ⟨b, hb⟩ : ∃ b, hasK cs id = b := ⟨_, rfl⟩
    have HX : Hid (leafB cs id = !b) := Lib.hid (by unfold leafB; rw [hf, hb]; rfl)
    have hmk := HM.out.at j (by omega)
    rw [mkP_all hi.out n j hn.out hjn, hj.2, hb] at hmk
    have HMK := Lib.hid hmk
    rw [(plc_of_fnd hi.out hf).1, (plc_of_fnd hi.out hf).2] at HPL
    clear hf hj hb hmk
    go_enter Tryz.func154, Tryz.ntmps154
    go_wp2_with (go_at_call 76; refine (HPL.out _ HI).mono ?_; rintro e w1 ⟨rfl, b1⟩; have B1 := Lib.hid b1; have m1 := ((bcell b1).1 M j hgm).trans HMK.out; clear b1)
    go_ret
    exact ⟨ret_bool HX.out.symm, B1.out⟩
end Go.Proofs.YtdmcgjohpnojkaaGreatDoor
