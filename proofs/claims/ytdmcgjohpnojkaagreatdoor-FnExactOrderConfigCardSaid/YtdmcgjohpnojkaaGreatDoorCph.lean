/- The program's check of all targets, of a name, and of a whole configuration. -/
import Derived.Test.YtdmcgjohpnojkaaGreatDoorCpg
namespace Go.Proofs.YtdmcgjohpnojkaaGreatDoor
set_option maxRecDepth 100000
open Go.RowKit
set_option linter.unusedVariables false

def LdRel (w : World) (M m n : Nat) (a0 a1 a2 a3 : Value) (cs : List Cls) (fs : List Flt) (L : Bool) (i : Value) (wr : World) : Prop :=
  ∃ k : Nat, k ≤ m ∧ i = .int .i64 k ∧ FourIs wr w.heap.size a0 a1 a2 a3 ∧ MarkA wr w.heap.size M (mkX cs n) ∧ Below w.heap.size w wr ∧ Hid (lvF cs (fs.drop k) = L)
set_option maxHeartbeats 3200000 in
theorem leadToLeaves_any (s : ByteArray) (ac af : Option Addr) (n cc m cf : Nat) (d : Int) (cs : List Cls) (fs : List Flt) (w : World) (HI : Hid (InX w ac n (clsCs cs))) (hn : Hid (cs.length = n)) (hm : n ≤ 1048576) (HJ : Hid (InX w af m (fltCs fs))) (hf : Hid (fs.length = m)) (hmf : m ≤ 1048576) (hi : Hid (IncC cs)) (h24 : n ≤ 24) :
    Calls Tryz.prog 106 #[(.agg #[.string s, .slice ac n cc, .slice af m cf, .int .i64 d])] w (SaysB w (lvF cs fs && dfG cs d)) := by
  obtain ⟨L, hL⟩ : ∃ L, lvF cs fs = L := ⟨_, rfl⟩
  have H0 : Hid (lvF cs (fs.drop 0) = L) := Lib.hid hL
  have HMK := Lib.hid (fun w HI => parentMarks_any ac n cc cs w HI hn hm hi h24)
  have HLF := Lib.hid (fun c0 B M id w HI HF HM => isLeaf_any s ac (.slice af m cf) n cc d cs c0 B M id w HI hn hm hi h24 HF HM)
  have HD : Hid (dfG cs d = ((d == 0) || leafB cs d)) := Lib.hid rfl
  rw [hL]
  generalize dfG cs d = D at HD ⊢
  clear hL
  go_enter Tryz.func106, Tryz.ntmps106
  go_wp2_with (go_at_call 95; refine (HMK.out _ (Lib.hid (HI.out.below (one_new2 _ _)))).mono ?_; rintro e w1 ⟨rfl, b1⟩; have B1 := Lib.hid (box_four b1).2; have F1 := Lib.hid (box_four b1).1; have hst := marks_store w1 cs n; have hz1 : w.heap.size < w1.heap.size := (box_four b1).1.2.2.2.2; have ce := fun o => ((bcell (one_new2 w1 o)).1 _ 2 hz1).trans (box_four b1).1.2.2.1; clear b1)
  go_loopw [14] (fun i wr => LdRel w w1.heap.size m n (.string s) (.slice ac n cc) (.slice af m cf) (.int .i64 d) cs fs L i wr) (fun i _ => m - (intOf i).toNat)
  case atStart => exact ⟨0, Nat.zero_le _, rfl, F1.out.on (one_new2 _ _), marks_lit w1 _ B1.out.size cs n, B1.out.alloc B1.out.size _, H0⟩
  case round =>
    obtain ⟨k, hk, rfl, hfo, hmk, hb, HP⟩ := hrel
    have HB := Lib.hid hb
    have HM := Lib.hid hmk
    have HFO := Lib.hid hfo
    obtain ⟨e0, e1, e2, e3, hgc⟩ := hfo
    clear hmk hst ce
    by_cases hlt : k < m
    · obtain ⟨g, rfl, ht, hg⟩ := HJ.out (by omega)
      have hl1 : k < fs.length := by rw [hf.out]; exact hlt
      obtain ⟨x, hx⟩ : ∃ x, fs.getD k flt0 = x := ⟨_, rfl⟩
      obtain ⟨a0, a1, a2, a3, a4⟩ := (ht.below hb hg).flt k hl1 x hx
      have HE := Lib.hid (lvF_at cs fs k hl1 x hx)
      have BA := Lib.hid (one_new2 wr (Obj.cells #[.int .i64 x.o, .int .i64 x.f, .int .i64 x.m, .int .i64 x.v, .int .i64 x.t] 113))
      have HLx := Lib.hid (HLF.out w.heap.size w.heap.size w1.heap.size x.t)
      have hgm : w1.heap.size < wr.heap.size := (World.ownsRow.lt HM.out _ rfl).2
      rcases Bool.eq_false_or_eq_true (leafB cs x.t) with hl | hl
      · have HX := Lib.hid (show lvF cs (fs.drop (k + 1)) = L by rw [← HP.out, HE.out, hl, Bool.true_and])
        rw [hl] at HLx
        obtain ⟨xo, xf, xm, xv, xt⟩ := x
        simp only at a0 a1 a2 a3 a4 BA HLx
        clear hb hx hl1 ht hl
        go_wp2_with (go_at_call 154; refine (HLx.out _ (Lib.hid (HI.out.below (HB.out.trans (BA.out.mono HB.out.size)))) (Lib.hid (HFO.out.on BA.out)) (Lib.hid (HM.out.low BA.out hgm))).mono ?_; rintro e w2 ⟨rfl, b2⟩; have B2 := Lib.hid (BA.out.trans (b2.mono BA.out.size)); clear b2)
        go_roundw
        case rel => exact ⟨k + 1, by omega, by go_num, HFO.out.on B2.out, HM.out.low B2.out hgm, HB.out.trans (B2.out.mono HB.out.size), HX⟩
        case measure => simp [intOf]; omega
      · have HX : Hid (L = false) := Lib.hid (by rw [← HP.out, HE.out, hl, Bool.false_and])
        rw [hl] at HLx
        obtain ⟨xo, xf, xm, xv, xt⟩ := x
        simp only at a0 a1 a2 a3 a4 BA HLx
        clear hb hx hl1 ht hl
        go_wp2_with (go_at_call 154; refine (HLx.out _ (Lib.hid (HI.out.below (HB.out.trans (BA.out.mono HB.out.size)))) (Lib.hid (HFO.out.on BA.out)) (Lib.hid (HM.out.low BA.out hgm))).mono ?_; rintro e w2 ⟨rfl, b2⟩; have B2 := Lib.hid (BA.out.trans (b2.mono BA.out.size)); clear b2)
        go_ret
        exact ⟨ret_bool (by rw [HX.out]; rfl), HB.out.trans (B2.out.mono HB.out.size)⟩
    · have HX : Hid (L = true) := Lib.hid (by rw [← HP.out, lvF_end cs fs k (by rw [hf.out]; omega)])
      have HLx := Lib.hid (HLF.out w.heap.size w.heap.size w1.heap.size d)
      clear hb
      by_cases hd : d = 0
      · have d0 : (d == 0) = true := by simpa using hd
        have HY : Hid (D = true) := Lib.hid (by rw [HD.out, d0]; rfl)
        clear hd
        go_wp2_with fail
        go_ret
        exact ⟨ret_bool (by rw [HX.out, HY.out]; rfl), HB.out⟩
      · have d0 : (d == 0) = false := by simpa using hd
        have HY : Hid (D = leafB cs d) := Lib.hid (by rw [HD.out, d0]; rfl)
        generalize leafB cs d = q at HY HLx
        clear hd
        go_wp2_with (go_at_call 154; refine (HLx.out _ (Lib.hid (HI.out.below HB.out)) HFO HM).mono ?_; rintro e w2 ⟨rfl, b2⟩; have B2 := Lib.hid (HB.out.trans (b2.mono HB.out.size)); clear b2)
        go_ret
        exact ⟨ret_bool (by rw [HX.out, HY.out]; rfl), B2.out⟩
end Go.Proofs.YtdmcgjohpnojkaaGreatDoor
