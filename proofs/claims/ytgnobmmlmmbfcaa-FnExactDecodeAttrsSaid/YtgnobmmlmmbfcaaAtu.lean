/- The reader's list: the model's. -/
import Derived.Test.YtgnobmmlmmbfcaaAts
namespace Go.Proofs.Ytgnobmmlmmbfcaa
open Go.RowKit
set_option linter.unusedVariables false
set_option linter.unusedSimpArgs false
set_option maxRecDepth 100000

def LrRel (g r8 : Nat) (s : ByteArray) (v0 : Value) (w1 : World) (dp a0 en : Nat) (R : List At × (Nat × Nat)) (av : Value) (wr : World) : Prop :=
  ∃ (a : Nat) (out : List At) (v : Value), av = .int .i64 (a : Int) ∧ a0 ≤ a ∧ a ≤ en ∧ out.length ≤ 400 ∧ RdrAt wr g s 40 v out ∧ BoxAt wr r8 #[.int .i64 0, .int .i64 0] 24 ∧ Kp g v0 v w1 wr ∧ Hid (LS s dp a en out = R)
/-- the end of a call: the result's cell is written -/
theorem list_ret {w w1 wr : World} {g : Nat} {s : ByteArray} {v0 v : Value} {out : List At} (hg : g < w.heap.size) (h1 : w1 = w.alloc (.cells #[.int .i64 0, .int .i64 0] 24)) (h : RdrAt wr g s 40 v out) (k : Kp g v0 v w1 wr) (ho : v0.ownBlock ≠ some w.heap.size) (a b : Value) :
    ∃ v', RdrAt ((wr.setCell ⟨w.heap.size, 0, none⟩ a).setCell ⟨w.heap.size, 1, none⟩ b) g s 40 v' out ∧ Kp g v0 v' w ((wr.setCell ⟨w.heap.size, 0, none⟩ a).setCell ⟨w.heap.size, 1, none⟩ b) := by
  subst h1
  have hv : v.ownBlock ≠ some w.heap.size := fun q => by
    rcases k.own _ q with q2 | q2
    · exact ho q2
    · exact absurd q2 (by simp)
  exact ⟨v, (h.set (by omega) hv a).set (by omega) hv b, ((((Kp.refl g v0 w).call hg (one_new2 w _)).trans k).set hg (.inr (Nat.le_refl _)) a).set hg (.inr (Nat.le_refl _)) b⟩
theorem BoxAt.set0 {w : World} {b : Nat} {x y : Value} {T : TypeId} (h : BoxAt w b #[x, y] T) (u : Value) : BoxAt (w.setCell ⟨b, 0, none⟩ u) b #[u, y] T := by
  unfold BoxAt at *
  simp [World.setCell, Array.getElem?_modify, h]
/-- the end of a call that hands on a fault -/
theorem list_fin {w w1 w2 : World} {g : Nat} {s : ByteArray} {v0 v : Value} {out : List At} (hg : g < w.heap.size) (h1 : w1 = w.alloc (.cells #[.int .i64 0, .int .i64 0] 24)) (h : RdrAt w2 g s 40 v out) (k : Kp g v0 v w1 w2) (hb : BoxAt w2 w.heap.size #[.int .i64 0, .int .i64 0] 24) (ho : v0.ownBlock ≠ some w.heap.size) (a b : Value) (o : Obj) :
    (∃ v', RdrAt (((w2.setCell ⟨w.heap.size, 0, none⟩ a).setCell ⟨w.heap.size, 1, none⟩ b).alloc o) g s 40 v' out ∧ Kp g v0 v' w (((w2.setCell ⟨w.heap.size, 0, none⟩ a).setCell ⟨w.heap.size, 1, none⟩ b).alloc o)) ∧
    (((w2.setCell ⟨w.heap.size, 0, none⟩ a).setCell ⟨w.heap.size, 1, none⟩ b).alloc o).cell? ⟨w.heap.size, 0, none⟩ = some a ∧ (((w2.setCell ⟨w.heap.size, 0, none⟩ a).setCell ⟨w.heap.size, 1, none⟩ b).alloc o).cell? ⟨w.heap.size, 1, none⟩ = some b := by
  obtain ⟨v', p, q⟩ := list_ret hg h1 h k ho a b
  have hw := ((hb.set0 a).set1 b).below (one_new2 _ o)
  exact ⟨⟨v', p.on (one_new2 _ o), q.call hg (one_new2 _ o)⟩, (hw.cell 0).trans rfl, (hw.cell 1).trans rfl⟩
theorem slice_at (s : ByteArray) (a b : Nat) (x y : Int) (hx : x = (a : Int)) (hy : y = (b : Int)) (h1 : a ≤ b) (h2 : b ≤ s.size) (w : World) : (Instr.slice 9 (.string s) (some (.int .i64 x)) (some (.int .i64 y)) none).run Try.prog w = .ok (.string (s.extract a b)) w := by
  subst hx hy
  have := run_slice_string (P := Try.prog) w 9 s .i64 .i64 (a : Int) (b : Int) Try.underlying9 (by omega) (by omega) (by omega)
  simpa using this
theorem nest_app {wx w7 w1 : World} {g r8 : Nat} {s : ByteArray} {v v0 v7 : Value} {out : List At} {x : At} (R : RdrAt wx g s 40 v out) (B : BoxAt wx r8 #[.int .i64 0, .int .i64 0] 24) (K : Kp g v0 v w1 wx) (hown : w7.ownsRow (g + 1) 35 4 v7 (out.length + 1) (atCs out ++ atC x)) (hgrow : wx.grownBy w7 v.ownBlock) (hat : ∀ k, v7.ownBlock = some k → v.ownBlock = some k ∨ wx.heap.size ≤ k) (hv : v.ownBlock ≠ some r8) (hne : r8 ≠ g) :
    RdrAt (w7.setCell ⟨g, 1, none⟩ v7) g s 40 v7 (out ++ [x]) ∧ Kp g v0 v7 w1 (w7.setCell ⟨g, 1, none⟩ v7) ∧ BoxAt (w7.setCell ⟨g, 1, none⟩ v7) r8 #[.int .i64 0, .int .i64 0] 24 ∧ v7.ownBlock ≠ some r8 ∧ w7.cell? ⟨g, 1, none⟩ = some v ∧ w7.frozen? ⟨g, 1, none⟩ = false := by
  have R7 := R.1.grown hgrow (fun q => by have := (World.ownsRow.lt R.2 g q).1; omega)
  refine ⟨R.app hown hgrow, K.trans (R.kp hgrow hat), (B.grown hgrow hv).other hne v7, fun q => ?_, (R7.cell 1).trans rfl, R7.open 1⟩
  rcases hat _ q with q2 | q2
  · exact hv q2
  · have := B.lt
    omega
def ListAt (g M : Nat) (s : ByteArray) : Prop := ∀ (dp a en : Nat) (out : List At) (v : Value) (w : World), en - a ≤ M → RdrAt w g s 40 v out → en ≤ s.size → a ≤ en → dp ≤ 9 → out.length ≤ 400 → Calls Try.prog 15 #[.pointer (some ⟨g, 0, none⟩), .int .i64 (dp : Int), .int .i64 (a : Int), .int .i64 (en : Int)] w (SaysL g s 40 v w (LS s dp a en out))
set_option maxHeartbeats 25600000 in
theorem list_of (g M dp a0 en : Nat) (out0 : List At) (s : ByteArray) (v0 : Value) (w : World) (HIH : Hid (∀ M', M' < M → ListAt g M' s)) (hM : en - a0 ≤ M) (H0 : Hid (RdrAt w g s 40 v0 out0)) (hs : s.size ≤ 6000) (hen : en ≤ s.size) (hae : a0 ≤ en) (hdp : dp ≤ 9) (hlen : out0.length ≤ 400) :
    Calls Try.prog 15 #[.pointer (some ⟨g, 0, none⟩), .int .i64 (dp : Int), .int .i64 (a0 : Int), .int .i64 (en : Int)] w (SaysL g s 40 v0 w (LS s dp a0 en out0)) := by
  obtain ⟨i0, hi, hz0, hz1, hz2⟩ := info_parts infoAt
  obtain ⟨R, hR⟩ : ∃ R, LS s dp a0 en out0 = R := ⟨_, rfl⟩
  have HR := Lib.hid hR
  rw [hR]
  have hgw := H0.out.lt
  have HO : Hid (v0.ownBlock ≠ some w.heap.size) := Lib.hid (fun q => by have := (World.ownsRow.lt H0.out.2 _ q).2; omega)
  have HK0 := Lib.hid (Kp.refl g v0 (w.alloc (.cells #[.int .i64 0, .int .i64 0] 24)))
  have HB0 := Lib.hid (box_two0 w)
  have HR0 := Lib.hid (H0.out.on (one_new2 w (.cells #[.int .i64 0, .int .i64 0] 24)))
  clear hR
  go_enter Try.func15, Try.ntmps15
  go_wp2_with fail
  go_loopw [2] (fun av wr => LrRel g w.heap.size s v0 (w.alloc (.cells #[.int .i64 0, .int .i64 0] 24)) dp a0 en R av wr) (fun av _ => en - (intOf av).toNat)
  case atStart => exact ⟨a0, out0, v0, rfl, Nat.le_refl _, hae, hlen, HR0.out, HB0.out, HK0.out, HR⟩
  case round =>
    obtain ⟨a, out, v, rfl, ha0, hae1, hlen1, hr1, hb1, hk1, HL⟩ := hrel
    have HV : Hid (v.ownBlock ≠ some w.heap.size) := Lib.hid (fun q => by
      rcases hk1.own _ q with q2 | q2
      · exact HO.out q2
      · exact absurd q2 (by simp))
    have K1 := Lib.hid hk1
    have R1 := Lib.hid hr1
    have B1 := Lib.hid hb1
    have hg8 : g ≠ w.heap.size := by omega
    have h8r : w.heap.size < wr.heap.size := hb1.lt
    clear hr1 hb1 hk1 HR0 HB0 HK0
    by_cases hlt : a < en
    · obtain ⟨ad, cc, rfl, _⟩ := own_in R1.out.2
      have HH := Lib.hid (head_any g out.length cc dp a en ad s wr (Lib.hid R1.out.1) hs hen (by omega) (by omega) (by omega))
      have dl : decide ((a : Int) < (en : Int)) = true := is_lt (by omega)
      obtain ⟨⟨fk, fa⟩, hF⟩ : ∃ p, hdF s out.length dp a en = p := ⟨_, rfl⟩
      rw [hF] at HH
      by_cases hf : 0 < fk
      · have HX : Hid (R = (out, (fk, fa))) := Lib.hid (by rw [← HL.out]; exact LS_bad hlt hF hf)
        have dk : decide ((0 : Int) < (fk : Int)) = true := is_lt (by omega)
        clear hF HL
        obtain rfl := HX.out
        go_wp2_with (go_at_call 19; refine (HH.out).mono ?_; rintro e w2 ⟨rfl, b⟩; unfold fuV; have C2 := Lib.hid b; have BA := Lib.hid (B1.out.below b); have k8 : w.heap.size < w2.heap.size := (by have := b.size; omega); clear b; refine Hid.out ?_)
        refine Lib.hid ?_
        have r0 := BA.out.cell 0
        have r1 := BA.out.cell 1
        have f0 := BA.out.open 0
        have f1 := BA.out.open 1
        have hne : ¬ w.heap.size = w2.heap.size := by omega
        have hne2 : ¬ w2.heap.size = w.heap.size := by omega
        go_wp2_with fail
        obtain ⟨hz, q0, q1⟩ := list_fin hgw rfl (R1.out.on C2.out) (K1.out.call (by simp; omega) C2.out) BA.out HO.out (.int .i64 fk) (.int .i64 fa) (.cells #[.int .i64 fk, .int .i64 fa] 24)
        exact bodyPost_ret (v := .agg #[.int .i64 fk, .int .i64 fa]) (by simp [results, Try.results15, go_sem, q0, q1]) rfl ⟨rfl, hz⟩
      · have hf0 : fk = 0 := by omega
        have HF : Hid ((hdF s out.length dp a en).1 = 0) := Lib.hid (by rw [hF]; exact hf0)
        have dk : ¬ 0 < fk := hf
        obtain ⟨h1, h2, h4, h5, h6, h7, _⟩ := hd_none HF.out
        have hpp := hd_pos h5
        have hpd := rd_pad s a
        have hk6 := rdS_lt s (a + 2)
        have HRd := Lib.hid (fun w => tvRead_any s a w (by omega) hs)
        have HRk := Lib.hid (fun w => tvRead_any s (a + 2) w (by omega) hs)
        rw [show ((a + 2 : Nat) : Int) = (a : Int) + 2 by omega] at HRk
        have HPd := Lib.hid (fun w => tvPad_any (rdS s a) w (by omega))
        clear hF hf hf0
        by_cases hkd : rdS s (a + 2) < 32768
        · have HL2 := Lib.hid ((LS_flat hlt HF.out hkd).symm.trans HL.out)
          clear HF HL
          generalize rdS s (a + 2) = kd at HL2 HRk hkd hk6
          generalize padA (rdS s a) = P at HL2 h6 h7 hpp hpd HPd
          generalize rdS s a = n at HL2 h5 h7 hpd HRd HPd
          go_upto_region 5 with (go_at_call 19; refine (HH.out).mono ?_; rintro e w2 ⟨rfl, b⟩; unfold fuV; have C2 := Lib.hid b; have BA := Lib.hid (B1.out.below b); have k8 : w.heap.size < w2.heap.size := (by have := b.size; omega); clear b)
          have X3 : Hid (Below wr.heap.size wr (w2.alloc (.cells #[.int .i64 fk, .int .i64 fa] 24))) := Lib.hid (C2.out.alloc C2.out.size _)
          obtain ⟨w3, hw3⟩ : ∃ w3, w2.alloc (.cells #[.int .i64 fk, .int .i64 fa] 24) = w3 := ⟨_, rfl⟩
          rw [hw3] at X3 ⊢
          have B3 := Lib.hid (B1.out.below X3.out)
          have R3 := Lib.hid (R1.out.on X3.out)
          have K3 := Lib.hid (K1.out.call (by simp; omega) X3.out)
          have k0 : w3.cell? ⟨g, 0, none⟩ = some (.string s) := R3.out.1.cell 0
          clear hw3 C2 BA k8 HH
          go_quiet ((go_at_call 20; first | (with_reducible exact Calls.quiet_of (HRd.out _)) | (with_reducible exact Calls.quiet_of (HRk.out _))))
          have X4 : Hid (Below w3.heap.size w3 (w3.drewN nq)) := Lib.hid (below_drewN (Below.refl _ _) nq)
          obtain ⟨w4, hw4⟩ : ∃ w4, w3.drewN nq = w4 := ⟨_, rfl⟩
          rw [hw4] at X4 ⊢
          have B4 := Lib.hid (B3.out.below X4.out)
          have R4 := Lib.hid (R3.out.on X4.out)
          have K4 := Lib.hid (K3.out.call (by simp; omega) X4.out)
          have h84 : w.heap.size < w4.heap.size := B4.out.lt
          clear hw4 k0 X3 X4 B3 R3 K3
          have d6 : decide ((kd : Int) < 32768) = true := is_lt (by omega)
          clear hkd hk6 h7
          go_upto_region 7 with fail
          refine AnyL.begin (S := fun w' => w'.cell? ⟨g, 0, none⟩ = some (.string s)) (T := fun w' => w'.cell? ⟨g, 1, none⟩ = some (.slice ad out.length cc)) (b := 22) (by kernel_rfl) ?_
          have XD : Hid (Below w4.heap.size w4 w4.drew) := Lib.hid (below_drewN (Below.refl _ _) 1)
          obtain ⟨w5, hw5⟩ : ∃ w5, w4.drew = w5 := ⟨_, rfl⟩
          rw [hw5] at XD ⊢
          have B5 := Lib.hid (B4.out.below XD.out)
          have R5 := Lib.hid (R4.out.on XD.out)
          have K5 := Lib.hid (K4.out.call (by simp; omega) XD.out)
          have h85 : w.heap.size < w5.heap.size := B5.out.lt
          have hB : w5.cell? ⟨g, 0, none⟩ = some (.string s) ∧ w5.cell? ⟨g, 1, none⟩ = some (.slice ad out.length cc) := ⟨R5.out.1.cell 0, R5.out.1.cell 1⟩
          clear hw5 XD B4 R4 K4
          have hw1 : IntKind.i64.wrap ((a : Int) + 4) = (a : Int) + 4 := IntWalk.i64_in _ (by omega)
          have hw2 : IntKind.i64.wrap ((a : Int) + (n : Int)) = (a : Int) + (n : Int) := IntWalk.i64_in _ (by omega)
          have HSl := Lib.hid (fun w => slice_at s (a + 4) (a + n) ((a : Int) + 4) ((a : Int) + (n : Int)) (by omega) (by omega) (by omega) (by omega) w)
          refine AnyL.tS (i := 0) (d := 40) (v := ?_) rfl rfl (by kernel_rfl) (by kernel_rfl) (by kernel_rfl) (by decide) (fun _ _ _ h => h) (by rfl) ?_ (by assumption) ?_
          rotate_left
          · intro w' hSw
            (try dsimp only at hSw)
            go_simp
            try with_reducible rfl
          try simp only [Act.put, List.setIfInBounds_toArray, List.set_cons_zero, List.set_cons_succ]
          refine AnyL.tS (i := 1) (d := 41) (v := ?_) rfl rfl (by kernel_rfl) (by kernel_rfl) (by kernel_rfl) (by decide) (fun _ _ _ h => h) (by rfl) ?_ (by assumption) ?_
          rotate_left
          · intro w' hSw
            (try dsimp only at hSw)
            go_simp
            try with_reducible rfl
          try simp only [Act.put, List.setIfInBounds_toArray, List.set_cons_zero, List.set_cons_succ]
          refine AnyL.tS (i := 2) (d := 42) (v := ?_) rfl rfl (by kernel_rfl) (by kernel_rfl) (by kernel_rfl) (by decide) (fun _ _ _ h => h) (by rfl) ?_ (by assumption) ?_
          rotate_left
          · intro w' hSw
            (try dsimp only at hSw)
            go_simp
            try with_reducible rfl
          try simp only [Act.put, List.setIfInBounds_toArray, List.set_cons_zero, List.set_cons_succ]
          refine AnyL.tS (i := 3) (d := 43) (v := ?_) rfl rfl (by kernel_rfl) (by kernel_rfl) (by kernel_rfl) (by decide) (fun _ _ _ h => h) (by rfl) ?_ (by assumption) ?_
          rotate_left
          · intro w' hSw
            (try dsimp only at hSw)
            go_simp
            try with_reducible rfl
          try simp only [Act.put, List.setIfInBounds_toArray, List.set_cons_zero, List.set_cons_succ]
          refine AnyL.tT (i := 4) (d := 44) (v := ?_) rfl rfl (by kernel_rfl) (by kernel_rfl) (by kernel_rfl) (by decide) (by kernel_rfl) (by kernel_rfl) (fun _ _ _ h => h) (by rfl) ?_ (by assumption) ?_
          rotate_left
          · intro w' hSw
            (try dsimp only at hSw)
            go_simp
            try with_reducible rfl
          try simp only [Act.put, List.setIfInBounds_toArray, List.set_cons_zero, List.set_cons_succ]
          refine AnyL.tS (i := 5) (d := 45) (v := ?_) rfl rfl (by kernel_rfl) (by kernel_rfl) (by kernel_rfl) (by decide) (fun _ _ _ h => h) (by rfl) ?_ (by assumption) ?_
          rotate_left
          · intro w' hSw
            (try dsimp only at hSw)
            go_simp
            try with_reducible rfl
          try simp only [Act.put, List.setIfInBounds_toArray, List.set_cons_zero, List.set_cons_succ]
          refine AnyL.tS (i := 6) (d := 46) (v := ?_) rfl rfl (by kernel_rfl) (by kernel_rfl) (by kernel_rfl) (by decide) (fun _ _ _ h => h) (by rfl) ?_ (by assumption) ?_
          rotate_left
          · intro w' hSw
            (try dsimp only at hSw)
            go_simp
            try with_reducible rfl
          try simp only [Act.put, List.setIfInBounds_toArray, List.set_cons_zero, List.set_cons_succ]
          refine AnyL.tS (i := 7) (d := 47) (v := ?_) rfl rfl (by kernel_rfl) (by kernel_rfl) (by kernel_rfl) (by decide) (fun _ _ _ h => h) (by rfl) ?_ (by assumption) ?_
          rotate_left
          · intro w' hSw
            (try dsimp only at hSw)
            go_simp
            try with_reducible rfl
          try simp only [Act.put, List.setIfInBounds_toArray, List.set_cons_zero, List.set_cons_succ]
          refine AnyL.tS (i := 8) (d := 48) (v := ?_) rfl rfl (by kernel_rfl) (by kernel_rfl) (by kernel_rfl) (by decide) (fun _ _ _ h => h) (by rfl) ?_ (by assumption) ?_
          rotate_left
          · intro w' hSw
            (try dsimp only at hSw)
            go_simp
            try with_reducible rfl
          try simp only [Act.put, List.setIfInBounds_toArray, List.set_cons_zero, List.set_cons_succ]
          refine AnyL.tS (i := 9) (d := 49) (v := ?_) rfl rfl (by kernel_rfl) (by kernel_rfl) (by kernel_rfl) (by decide) (fun _ _ _ h => h) (by rfl) ?_ (by assumption) ?_
          rotate_left
          · intro w' hSw
            (try dsimp only at hSw)
            go_simp
            try with_reducible rfl
          try simp only [Act.put, List.setIfInBounds_toArray, List.set_cons_zero, List.set_cons_succ]
          refine AnyL.tS (i := 10) (d := 50) (v := ?_) rfl rfl (by kernel_rfl) (by kernel_rfl) (by kernel_rfl) (by decide) (fun _ _ _ h => h) (by rfl) ?_ (by assumption) ?_
          rotate_left
          · intro w' hSw
            (try dsimp only at hSw)
            go_simp
            try with_reducible rfl
          try simp only [Act.put, List.setIfInBounds_toArray, List.set_cons_zero, List.set_cons_succ]
          refine AnyL.tS (i := 11) (d := 51) (v := ?_) rfl rfl (by kernel_rfl) (by kernel_rfl) (by kernel_rfl) (by decide) (fun _ _ _ h => h) (by rfl) ?_ (by assumption) ?_
          rotate_left
          · intro w' hSw
            (try dsimp only at hSw)
            go_simp
            try with_reducible rfl
          try simp only [Act.put, List.setIfInBounds_toArray, List.set_cons_zero, List.set_cons_succ]
          refine AnyL.tS (i := 12) (d := 52) (v := .int .i64 ((a : Int) + 4)) rfl rfl (by kernel_rfl) (by kernel_rfl) (by kernel_rfl) (by decide) (fun _ _ _ h => h) (by rfl) ?_ (by assumption) ?_
          · intro w' hSw
            (try dsimp only at hSw)
            go_simp
            try rw [hw1]
          try simp only [Act.put, List.setIfInBounds_toArray, List.set_cons_zero, List.set_cons_succ]
          refine AnyL.tS (i := 13) (d := 53) (v := ?_) rfl rfl (by kernel_rfl) (by kernel_rfl) (by kernel_rfl) (by decide) (fun _ _ _ h => h) (by rfl) ?_ (by assumption) ?_
          rotate_left
          · intro w' hSw
            (try dsimp only at hSw)
            go_simp
            try with_reducible rfl
          try simp only [Act.put, List.setIfInBounds_toArray, List.set_cons_zero, List.set_cons_succ]
          refine AnyL.tS (i := 14) (d := 54) (v := ?_) rfl rfl (by kernel_rfl) (by kernel_rfl) (by kernel_rfl) (by decide) (fun _ _ _ h => h) (by rfl) ?_ (by assumption) ?_
          rotate_left
          · intro w' hSw
            (try dsimp only at hSw)
            go_simp
            try with_reducible rfl
          try simp only [Act.put, List.setIfInBounds_toArray, List.set_cons_zero, List.set_cons_succ]
          refine AnyL.tS (i := 15) (d := 55) (v := .int .i64 ((a : Int) + (n : Int))) rfl rfl (by kernel_rfl) (by kernel_rfl) (by kernel_rfl) (by decide) (fun _ _ _ h => h) (by rfl) ?_ (by assumption) ?_
          · intro w' hSw
            (try dsimp only at hSw)
            go_simp
            try rw [hw2]
          try simp only [Act.put, List.setIfInBounds_toArray, List.set_cons_zero, List.set_cons_succ]
          refine AnyL.tS (i := 16) (d := 56) (v := .string (s.extract (a + 4) (a + n))) rfl rfl (by kernel_rfl) (by kernel_rfl) (by kernel_rfl) (by decide) (fun _ _ _ h => h) (by rfl) ?_ (by assumption) ?_
          · intro w' hSw
            (try dsimp only at hSw)
            go_simp
            (rw [HSl.out w']; rfl)
          try simp only [Act.put, List.setIfInBounds_toArray, List.set_cons_zero, List.set_cons_succ]
          refine AnyL.tS (i := 17) (d := 57) (v := ?_) rfl rfl (by kernel_rfl) (by kernel_rfl) (by kernel_rfl) (by decide) (fun _ _ _ h => h) (by rfl) ?_ (by assumption) ?_
          rotate_left
          · intro w' hSw
            (try dsimp only at hSw)
            go_simp
            try with_reducible rfl
          try simp only [Act.put, List.setIfInBounds_toArray, List.set_cons_zero, List.set_cons_succ]
          generalize s.extract (a + 4) (a + n) = sx at HL2 ⊢
          refine AnyL.ready (rs := [18]) (by kernel_rfl) (by simp) ?_
          refine (AllL.consN rfl (fun K' hK => ?_) AllL.nil)
          go_simp
          have bn := one_new2 w5 (Obj.cells #[.int .i64 (dp : Int), .int .i64 (kd : Int), .bool false, .string sx] 35)
          have R6 := Lib.hid (R5.out.on bn)
          have B6 := Lib.hid (B5.out.below bn)
          have K6 := Lib.hid (K5.out.call (by simp; omega) bn)
          refine hK.out _ _ ⟨R6.out.1.cell 0, R6.out.1.cell 1⟩ (fun hB => ?_)
          clear hK K' bn
          try simp only [Act.put, List.setIfInBounds_toArray, List.set_cons_zero, List.set_cons_succ]
          refine AnyL.ready (rs := [19]) (by kernel_rfl) (by simp) ?_
          refine (AllL.consN rfl (fun K' hK => ?_) AllL.nil)
          refine step_append_at _ rfl (.tmp 44) (.tmp 58) 22 rfl (g + 1) 35 i0 (.agg #[.int .i64 0, .int .i64 0, .bool false, .string ⟨#[]⟩]) 4 40 Try.underlying22 hi hz0 hz1 hz2 rfl (by decide) (.slice ad out.length cc) out.length (atCs out) (by rfl) R6.out.2 ⟨w5.heap.size, 0, none⟩ 1 1 (atC ⟨(dp : Int), (kd : Int), false, sx⟩) (by rfl) rfl (four_cells w5 ⟨(dp : Int), (kd : Int), false, sx⟩ 35) (atC_one _) (by unfold maxLen; omega) (by omega) (by simp; omega) ?_
          intro v7 w7 hown hgrow hat
          obtain ⟨ad7, cc7, rfl, _⟩ := own_in hown
          obtain ⟨v7, hv7e⟩ : ∃ v, Value.slice ad7 (out.length + 1) cc7 = v := ⟨_, rfl⟩
          rw [hv7e] at hown hat
          have hv7 : v7.ownBlock ≠ some w.heap.size := fun q => by
              rcases hat _ q with q2 | q2
              · exact HV.out q2
              · simp at q2; omega
          have R8 := Lib.hid (R6.out.app (x := ⟨(dp : Int), (kd : Int), false, sx⟩) hown hgrow)
          have K8 := Lib.hid (K6.out.trans (R6.out.kp hgrow hat))
          have R7 := Lib.hid (R6.out.1.grown hgrow (fun q => by have := (World.ownsRow.lt R6.out.2 g q).1; omega))
          have B8 := Lib.hid ((B6.out.grown hgrow HV.out).other (b' := g) (j := 1) (by omega) v7)
          clear hown hgrow hat
          subst hv7e
          refine hK.out _ _ ⟨R7.out.cell 0, R7.out.cell 1⟩ (fun hB => ?_)
          clear hK K'
          try simp only [Act.put, List.setIfInBounds_toArray, List.set_cons_zero, List.set_cons_succ]
          refine AnyL.tS (i := 20) (d := 60) (v := ?_) rfl rfl (by kernel_rfl) (by kernel_rfl) (by kernel_rfl) (by decide) (fun _ _ _ h => h) (by rfl) ?_ (by assumption) ?_
          rotate_left
          · intro w' hSw
            (try dsimp only at hSw)
            go_simp
            try with_reducible rfl
          try simp only [Act.put, List.setIfInBounds_toArray, List.set_cons_zero, List.set_cons_succ]
          refine AnyL.tS (i := 21) (d := 61) (v := ?_) rfl rfl (by kernel_rfl) (by kernel_rfl) (by kernel_rfl) (by decide) (fun _ _ _ h => h) (by rfl) ?_ (by assumption) ?_
          rotate_left
          · intro w' hSw
            (try dsimp only at hSw)
            go_simp
            try with_reducible rfl
          try simp only [Act.put, List.setIfInBounds_toArray, List.set_cons_zero, List.set_cons_succ]
          have c7 := R7.out.cell 1
          have f7 := R7.out.open 1
          refine AnyL.ready (rs := [22]) (by kernel_rfl) (by simp) ?_
          refine (AllL.consB rfl (by kernel_rfl) (fun K' hK => ?_) AllL.nil)
          go_simp
          refine hK.out _ _ (R8.out.1.cell 0) ?_
          clear hK K'
          try simp only [Act.put, List.setIfInBounds_toArray, List.set_cons_zero, List.set_cons_succ]
          refine AnyL.done (by kernel_rfl) ?_ _
          clear hB R7
          go_wp2_with (go_at_call 21; refine (HPd.out _).mono ?_; rintro e w' ⟨rfl, rfl⟩)
          go_roundw
          case rel => exact ⟨a + P, _, _, by go_num, by omega, h6, by simp; omega, R8.out, B8.out, K8.out, HL2⟩
          case measure => simp [intOf]; omega
        · obtain ⟨⟨o2, fk2, fa2⟩, hr⟩ : ∃ r, LS s (dp + 1) (a + 4) (a + rdS s a) (out ++ [⟨(dp : Int), (rdS s (a + 2) : Int) - 32768, true, ⟨#[]⟩⟩]) = r := ⟨_, rfl⟩
          have ho2 : o2.length ≤ 400 := by
            have q := LS_len (s := s) (dp := dp + 1) (a := a + 4) (en := a + rdS s a) (out := out ++ [⟨(dp : Int), (rdS s (a + 2) : Int) - 32768, true, ⟨#[]⟩⟩]) (by simp; omega)
            rw [hr] at q
            exact q
          have HL2 := Lib.hid ((LS_nest hlt HF.out hkd hr).symm.trans HL.out)
          have HC : Hid (∀ v' w', RdrAt w' g s 40 v' (out ++ [⟨(dp : Int), (rdS s (a + 2) : Int) - 32768, true, ⟨#[]⟩⟩]) → Calls Try.prog 15 #[.pointer (some ⟨g, 0, none⟩), .int .i64 ((dp : Int) + 1), .int .i64 ((a : Int) + 4), .int .i64 ((a : Int) + ((rdS s a : Nat) : Int))] w' (SaysL g s 40 v' w' (o2, (fk2, fa2)))) := Lib.hid (fun v' w' h => by
            have q := HIH.out (a + rdS s a - (a + 4)) (by omega) (dp + 1) (a + 4) (a + rdS s a) _ v' w' (Nat.le_refl _) h (by omega) (by omega) (by omega) (by simp; omega)
            rw [hr, show ((dp + 1 : Nat) : Int) = (dp : Int) + 1 by omega, show ((a + 4 : Nat) : Int) = (a : Int) + 4 by omega, show ((a + rdS s a : Nat) : Int) = (a : Int) + ((rdS s a : Nat) : Int) by omega] at q
            exact q)
          clear HF HL hr
          have hwk : IntKind.i64.wrap (((rdS s (a + 2) : Nat) : Int) - 32768) = ((rdS s (a + 2) : Nat) : Int) - 32768 := IntWalk.i64_in _ (by omega)
          have hwa : IntKind.i64.wrap ((a : Int) + 4) = (a : Int) + 4 := IntWalk.i64_in _ (by omega)
          have hwn : IntKind.i64.wrap ((a : Int) + ((rdS s a : Nat) : Int)) = (a : Int) + ((rdS s a : Nat) : Int) := IntWalk.i64_in _ (by omega)
          have hwd : IntKind.i64.wrap ((dp : Int) + 1) = (dp : Int) + 1 := IntWalk.i64_in _ (by omega)
          have d6 : decide (((rdS s (a + 2) : Nat) : Int) < 32768) = false := not_lt (by omega)
          generalize rdS s (a + 2) = kd at HL2 HRk hkd hk6 HC hwk d6 h7
          generalize padA (rdS s a) = P at HL2 h6 hpp hpd HPd
          generalize rdS s a = n at HL2 h5 h7 hpd HRd HPd HC hwn
          clear h7 hk6 hkd HIH
          go_upto_region 5 with (go_at_call 19; refine (HH.out).mono ?_; rintro e w2 ⟨rfl, b⟩; unfold fuV; have C2 := Lib.hid b; have BA := Lib.hid (B1.out.below b); have k8 : w.heap.size < w2.heap.size := (by have := b.size; omega); clear b)
          have X3 : Hid (Below wr.heap.size wr (w2.alloc (.cells #[.int .i64 fk, .int .i64 fa] 24))) := Lib.hid (C2.out.alloc C2.out.size _)
          obtain ⟨w3, hw3⟩ : ∃ w3, w2.alloc (.cells #[.int .i64 fk, .int .i64 fa] 24) = w3 := ⟨_, rfl⟩
          rw [hw3] at X3 ⊢
          have B3 := Lib.hid (B1.out.below X3.out)
          have R3 := Lib.hid (R1.out.on X3.out)
          have K3 := Lib.hid (K1.out.call (by simp; omega) X3.out)
          have k0 : w3.cell? ⟨g, 0, none⟩ = some (.string s) := R3.out.1.cell 0
          clear hw3 C2 BA k8 HH
          go_quiet ((go_at_call 20; first | (with_reducible exact Calls.quiet_of (HRd.out _)) | (with_reducible exact Calls.quiet_of (HRk.out _))))
          have X4 : Hid (Below w3.heap.size w3 (w3.drewN nq)) := Lib.hid (below_drewN (Below.refl _ _) nq)
          obtain ⟨w4, hw4⟩ : ∃ w4, w3.drewN nq = w4 := ⟨_, rfl⟩
          rw [hw4] at X4 ⊢
          have B4 := Lib.hid (B3.out.below X4.out)
          have R4 := Lib.hid (R3.out.on X4.out)
          have K4 := Lib.hid (K3.out.call (by simp; omega) X4.out)
          have h84 : w.heap.size < w4.heap.size := B4.out.lt
          have hg4 : g < w4.heap.size := by omega
          have c4 : w4.cell? ⟨g, 1, none⟩ = some (.slice ad out.length cc) := R4.out.1.cell 1
          clear hw4 k0 X3 X4 B3 R3 K3 HRd HRk
          go_wp2_with (at_builtin; refine wpList_append_at _ rfl _ _ 22 rfl (g + 1) 35 i0 (.agg #[.int .i64 0, .int .i64 0, .bool false, .string ⟨#[]⟩]) 4 40 Try.underlying22 hi hz0 hz1 hz2 rfl (by decide) (.slice ad out.length cc) out.length (atCs out) rfl (R4.out.on (one_new2 w4 (Obj.cells #[.int .i64 (dp : Int), .int .i64 ((kd : Int) - 32768), .bool true, .string ⟨#[]⟩] 35))).2 ⟨w4.heap.size, 0, none⟩ 1 1 (atC ⟨(dp : Int), (kd : Int) - 32768, true, ⟨#[]⟩⟩) rfl rfl (four_cells w4 ⟨(dp : Int), (kd : Int) - 32768, true, ⟨#[]⟩⟩ 35) (atC_one _) (by unfold maxLen; omega) (by omega) (by simp; omega) ?_; intro v7 w7 hown hgrow hat; obtain ⟨ad7, cc7, rfl, _⟩ := own_in hown; obtain ⟨r8, k8, b8, n8, c7, f7⟩ := nest_app (x := ⟨(dp : Int), (kd : Int) - 32768, true, ⟨#[]⟩⟩) (R4.out.on (one_new2 w4 (Obj.cells #[.int .i64 (dp : Int), .int .i64 ((kd : Int) - 32768), .bool true, .string ⟨#[]⟩] 35))) (B4.out.below (one_new2 w4 (Obj.cells #[.int .i64 (dp : Int), .int .i64 ((kd : Int) - 32768), .bool true, .string ⟨#[]⟩] 35))) (K4.out.call (by simp; omega) (one_new2 w4 (Obj.cells #[.int .i64 (dp : Int), .int .i64 ((kd : Int) - 32768), .bool true, .string ⟨#[]⟩] 35))) hown hgrow hat HV.out (by omega); have R8 := Lib.hid r8; have K8 := Lib.hid k8; have B8 := Lib.hid b8; have N8 := Lib.hid n8; clear r8 k8 b8 n8 hown hgrow hat; refine Hid.out ?_)
          refine Lib.hid ?_
          go_wp2_with (go_at_call 15; refine (HC.out _ _ R8.out).mono ?_; rintro e w9 ⟨rfl, v9, r9, k9⟩; unfold fuV; have R9 := Lib.hid r9; have K9 := Lib.hid (K8.out.trans k9); have B9 := Lib.hid (B8.out.keep k9 (by omega) N8.out); clear r9 k9; refine Hid.out ?_)
          refine Lib.hid ?_
          have r0 := B9.out.cell 0
          have r1 := B9.out.cell 1
          have f0 := B9.out.open 0
          have f1 := B9.out.open 1
          have h89 := B9.out.lt
          have hne : ¬ w.heap.size = w9.heap.size := by omega
          have hne2 : ¬ w9.heap.size = w.heap.size := by omega
          by_cases hf2 : 0 < fk2
          · have HX : Hid (R = (o2, (fk2, fa2))) := Lib.hid (by rw [← HL2.out, if_pos hf2])
            have dk2 : decide ((0 : Int) < (fk2 : Int)) = true := is_lt (by omega)
            obtain rfl := HX.out
            clear HL2 dk HPd
            go_wp2_with fail
            obtain ⟨hz, q0, q1⟩ := list_fin hgw rfl R9.out K9.out B9.out HO.out (.int .i64 fk2) (.int .i64 fa2) (.cells #[.int .i64 fk2, .int .i64 fa2] 24)
            exact bodyPost_ret (v := .agg #[.int .i64 fk2, .int .i64 fa2]) (by simp [results, Try.results15, go_sem, q0, q1]) rfl ⟨rfl, hz⟩
          · have HL3 : Hid (LS s dp (a + P) en o2 = R) := Lib.hid (by rw [← HL2.out, if_neg hf2])
            clear HL2 r0 r1 f0 f1 hne hne2
            go_wp2_with (go_at_call 21; refine (HPd.out _).mono ?_; rintro e w' ⟨rfl, rfl⟩)
            have bn := one_new2 w9 (.cells #[.int .i64 fk2, .int .i64 fa2] 24)
            go_roundw
            case rel => exact ⟨a + P, _, _, by go_num, by omega, h6, ho2, R9.out.on bn, B9.out.below bn, K9.out.call (by simp; omega) bn, HL3⟩
            case measure => simp [intOf]; omega
    · have HX : Hid (R = (out, (0, 0))) := Lib.hid (by rw [← HL.out]; exact LS_end hlt)
      have dl : decide ((a : Int) < (en : Int)) = false := not_lt (by omega)
      have r0 := B1.out.cell 0
      have r1 := B1.out.cell 1
      have f0 := B1.out.open 0
      have f1 := B1.out.open 1
      clear HL
      obtain rfl := HX.out
      go_wp2_with fail
      exact bodyPost_ret (v := .agg #[.int .i64 0, .int .i64 0]) (by simp [results, Try.results15, go_sem, r0, r1]) rfl ⟨rfl, list_ret hgw rfl R1.out K1.out HO.out _ _⟩
end Go.Proofs.Ytgnobmmlmmbfcaa
