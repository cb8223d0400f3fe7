/- The fault at the beginning of an attribute: the model's. -/
import Derived.Test.YtgnobmmlmmbfcaaAtq
namespace Go.Proofs.Ytgnobmmlmmbfcaa
open Go.RowKit
set_option linter.unusedVariables false
set_option maxRecDepth 100000

/-- a block with its cells, open -/
def BoxAt (w : World) (b : Nat) (cs : Array Value) (T : TypeId) : Prop := w.heap[b]? = some (.cells cs T (0, 0))
theorem BoxAt.new (w : World) (cs : Array Value) (T : TypeId) : BoxAt (w.alloc (.cells cs T)) w.heap.size cs T := by
  unfold BoxAt
  exact heap_alloc_new w _
theorem BoxAt.cell {w : World} {b : Nat} {cs : Array Value} {T : TypeId} (h : BoxAt w b cs T) (k : Nat) : w.cell? ⟨b, k, none⟩ = cs[k]? := cell_of_row w b k _ _ (0, 0) h
theorem BoxAt.open {w : World} {b : Nat} {cs : Array Value} {T : TypeId} (h : BoxAt w b cs T) (k : Nat) : w.frozen? ⟨b, k, none⟩ = false := frozen_of_row w b k _ _ h
theorem BoxAt.lt {w : World} {b : Nat} {cs : Array Value} {T : TypeId} (h : BoxAt w b cs T) : b < w.heap.size := by
  rcases Nat.lt_or_ge b w.heap.size with q | q
  · exact q
  · unfold BoxAt at h
    rw [Array.getElem?_eq_none q] at h
    cases h
theorem BoxAt.below {w w' : World} {b : Nat} {cs : Array Value} {T : TypeId} (h : BoxAt w b cs T) (f : Below w.heap.size w w') : BoxAt w' b cs T := (f.block b h.lt).trans h
theorem box_two0 (w : World) : BoxAt (w.alloc (.cells #[.int .i64 0, .int .i64 0] 24)) w.heap.size #[.int .i64 0, .int .i64 0] 24 := BoxAt.new _ _ _
/-- the result's cell behind a call -/
theorem res_cell {w w1 : World} (b : Below (w.alloc (.cells #[.int .i64 0, .int .i64 0] 24)).heap.size (w.alloc (.cells #[.int .i64 0, .int .i64 0] 24)) w1) :
    w1.cell? ⟨w.heap.size, 0, none⟩ = some (.int .i64 0) ∧ w1.cell? ⟨w.heap.size, 1, none⟩ = some (.int .i64 0) ∧ w1.frozen? ⟨w.heap.size, 0, none⟩ = false ∧ w1.frozen? ⟨w.heap.size, 1, none⟩ = false ∧ Below w.heap.size w w1 := by
  have h := (box_two0 w).below b
  exact ⟨(h.cell 0).trans rfl, (h.cell 1).trans rfl, h.open 0, h.open 1, (one_new2 w _).trans (b.mono (by simp))⟩
theorem set_two {w w1 : World} (h : Below w.heap.size w w1) (a b : Value) : Below w.heap.size w ((w1.setCell ⟨w.heap.size, 0, none⟩ a).setCell ⟨w.heap.size, 1, none⟩ b) := (h.setCell (Nat.le_refl _) _).setCell (Nat.le_refl _) _
def hzR (o : Option Nat) : Nat × Nat := match o with
  | some k => (1, k)
  | none => (0, 0)
theorem nzF_at (s : ByteArray) {j P : Nat} (h : j < P) : nzF s (P - j) j = if byS s j = 0 then nzF s (P - (j + 1)) (j + 1) else some j := by
  rw [show P - j = (P - (j + 1)) + 1 by omega, nzF]
def HzRel (w0 : World) (s : ByteArray) (a n P : Nat) (R : Nat × Nat) (v : Value) (wr : World) : Prop := ∃ j : Nat, a + n ≤ j ∧ j ≤ a + P ∧ v = .int .i64 (j : Int) ∧ Below w0.heap.size w0 wr ∧ Hid (hzR (nzF s (a + P - j) j) = R)
set_option maxHeartbeats 12800000 in
theorem head_any (g cnt cap dp a en : Nat) (ad : Option Addr) (s : ByteArray) (w : World) (HB : Hid (BoxAt w g #[.string s, .slice ad cnt cap] 40)) (hs : s.size ≤ 6000) (hen : en ≤ s.size) (hae : a ≤ en) (hdp : dp ≤ 10) (hcnt : cnt ≤ 1000) :
    Calls Try.prog 19 #[.pointer (some ⟨g, 0, none⟩), .int .i64 (dp : Int), .int .i64 (a : Int), .int .i64 (en : Int)] w (SaysU w (hdF s cnt dp a en)) := by
  obtain ⟨R, hR⟩ : ∃ R, hdF s cnt dp a en = R := ⟨_, rfl⟩
  have HR := Lib.hid hR
  rw [hR]
  unfold hdF at hR
  by_cases h1 : 8 < dp
  · rw [if_pos h1] at hR
    subst hR
    have d1 : decide ((8 : Int) < (dp : Int)) = true := is_lt (by omega)
    clear HR h1
    go_enter Try.func19, Try.ntmps19
    go_wp2_with (go_at_call 14; refine (tvFault_any 4 a _).mono ?_; rintro e wf ⟨rfl, b⟩; unfold fuV; obtain ⟨r0, r1, f0, f1, bb⟩ := res_cell (b); have BB := Lib.hid bb; clear b bb)
    exact bodyPost_ret (v := .agg #[.int .i64 4, .int .i64 (a : Int)]) (by simp [results, Try.results19, go_sem, r0, r1]) rfl ⟨rfl, set_two BB.out _ _⟩
  rw [if_neg h1] at hR
  have d1 : decide ((8 : Int) < (dp : Int)) = false := not_lt (by omega)
  have k1 : ∀ o, (w.alloc o).cell? ⟨g, 1, none⟩ = some (.slice ad cnt cap) := fun o => (HB.out.below (one_new2 w o)).cell 1
  have k0 : ∀ o, (w.alloc o).cell? ⟨g, 0, none⟩ = some (.string s) := fun o => (HB.out.below (one_new2 w o)).cell 0
  by_cases h2 : 400 ≤ cnt
  · rw [if_pos h2] at hR
    subst hR
    have d2 : decide ((400 : Int) ≤ (cnt : Int)) = true := is_le (by omega)
    clear HR h1 h2
    go_enter Try.func19, Try.ntmps19
    go_wp2_with (go_at_call 14; refine (tvFault_any 5 a _).mono ?_; rintro e wf ⟨rfl, b⟩; unfold fuV; obtain ⟨r0, r1, f0, f1, bb⟩ := res_cell (b); have BB := Lib.hid bb; clear b bb)
    exact bodyPost_ret (v := .agg #[.int .i64 5, .int .i64 (a : Int)]) (by simp [results, Try.results19, go_sem, r0, r1]) rfl ⟨rfl, set_two BB.out _ _⟩
  rw [if_neg h2] at hR
  have d2 : decide ((400 : Int) ≤ (cnt : Int)) = false := not_le (by omega)
  by_cases h3 : en < a + 4
  · rw [if_pos h3] at hR
    subst hR
    have d3 : decide ((en : Int) - (a : Int) < 4) = true := is_lt (by omega)
    clear HR h1 h2 h3
    go_enter Try.func19, Try.ntmps19
    go_wp2_with (go_at_call 14; refine (tvFault_any 6 a _).mono ?_; rintro e wf ⟨rfl, b⟩; unfold fuV; obtain ⟨r0, r1, f0, f1, bb⟩ := res_cell (b); have BB := Lib.hid bb; clear b bb)
    exact bodyPost_ret (v := .agg #[.int .i64 6, .int .i64 (a : Int)]) (by simp [results, Try.results19, go_sem, r0, r1]) rfl ⟨rfl, set_two BB.out _ _⟩
  rw [if_neg h3] at hR
  have d3 : decide ((en : Int) - (a : Int) < 4) = false := not_lt (by omega)
  obtain ⟨n, hn⟩ : ∃ n, rdS s a = n := ⟨_, rfl⟩
  obtain ⟨kd, hkd⟩ : ∃ k, rdS s (a + 2) = k := ⟨_, rfl⟩
  have hn6 := rdS_lt s a
  have hk6 := rdS_lt s (a + 2)
  have HRd := Lib.hid (fun w => tvRead_any s a w (by omega) hs)
  have HRk := Lib.hid (fun w => tvRead_any s (a + 2) w (by omega) hs)
  rw [show ((a + 2 : Nat) : Int) = (a : Int) + 2 by omega] at HRk
  rw [hn] at hR hn6 HRd
  rw [hkd] at hR hk6 HRk
  have hpd := (show n ≤ padA n ∧ padA n ≤ n + 3 by unfold padA; omega)
  obtain ⟨P, hP⟩ : ∃ P, padA n = P := ⟨_, rfl⟩
  have HPd := Lib.hid (fun w => tvPad_any n w (by omega))
  rw [hP] at hR hpd HPd
  obtain ⟨hp1, hp2⟩ := hpd
  clear hn hkd hP
  by_cases h4 : n < 4
  · rw [if_pos h4] at hR
    subst hR
    have d4 : decide ((n : Int) < 4) = true := is_lt (by omega)
    clear HR h1 h2 h3 h4
    go_enter Try.func19, Try.ntmps19
    go_wp2_with (go_at_call 20; refine (HRd.out _).mono ?_; rintro _ w1 ⟨rfl, q1, hq1⟩; have b1 : Below (w.alloc (.cells #[.int .i64 0, .int .i64 0] 24)).heap.size (w.alloc (.cells #[.int .i64 0, .int .i64 0] 24)) w1 := (by rw [hq1]; exact below_drewN (Below.refl _ _) q1); have k0 : w1.cell? ⟨g, 0, none⟩ = some (.string s) := ((HB.out.below (one_new2 w _)).below b1).cell 0; have C1 := Lib.hid b1; clear hq1 b1; refine Hid.out ?_)
    refine Lib.hid ?_
    go_wp2_with (go_at_call 14; refine (tvFault_any 3 a _).mono ?_; rintro e wf ⟨rfl, b⟩; unfold fuV; obtain ⟨r0, r1, f0, f1, bb⟩ := res_cell (C1.out.trans (b.mono C1.out.size)); have BB := Lib.hid bb; clear b bb)
    exact bodyPost_ret (v := .agg #[.int .i64 3, .int .i64 (a : Int)]) (by simp [results, Try.results19, go_sem, r0, r1]) rfl ⟨rfl, set_two BB.out _ _⟩
  rw [if_neg h4] at hR
  have d4 : decide ((n : Int) < 4) = false := not_lt (by omega)
  by_cases h5 : en < a + P
  · rw [if_pos h5] at hR
    subst hR
    have d5 : decide ((en : Int) < (a : Int) + (P : Int)) = true := is_lt (by omega)
    clear HR h1 h2 h3 h4 h5
    go_enter Try.func19, Try.ntmps19
    go_wp2_with (go_at_call 20; refine (HRd.out _).mono ?_; rintro _ w1 ⟨rfl, q1, hq1⟩; have b1 : Below (w.alloc (.cells #[.int .i64 0, .int .i64 0] 24)).heap.size (w.alloc (.cells #[.int .i64 0, .int .i64 0] 24)) w1 := (by rw [hq1]; exact below_drewN (Below.refl _ _) q1); have k0 : w1.cell? ⟨g, 0, none⟩ = some (.string s) := ((HB.out.below (one_new2 w _)).below b1).cell 0; have C1 := Lib.hid b1; clear hq1 b1; refine Hid.out ?_)
    refine Lib.hid ?_
    go_wp2_with (first | (go_at_call 21; refine (HPd.out _).mono ?_; rintro e w' ⟨rfl, rfl⟩) | (go_at_call 14; refine (tvFault_any 6 a _).mono ?_; rintro e wf ⟨rfl, b⟩; unfold fuV; obtain ⟨r0, r1, f0, f1, bb⟩ := res_cell (C1.out.trans (b.mono C1.out.size)); have BB := Lib.hid bb; clear b bb))
    exact bodyPost_ret (v := .agg #[.int .i64 6, .int .i64 (a : Int)]) (by simp [results, Try.results19, go_sem, r0, r1]) rfl ⟨rfl, set_two BB.out _ _⟩
  rw [if_neg h5] at hR
  have d5 : decide ((en : Int) < (a : Int) + (P : Int)) = false := not_lt (by omega)
  by_cases h6 : kd < 32768 ∧ 1004 < n
  · rw [if_pos h6] at hR
    subst hR
    have d6 : decide ((kd : Int) < 32768) = true := is_lt (by omega)
    have d7 : decide ((1004 : Int) < (n : Int)) = true := is_lt (by omega)
    clear HR h1 h2 h3 h4 h5 h6
    go_enter Try.func19, Try.ntmps19
    go_wp2_with (go_at_call 20; refine (HRd.out _).mono ?_; rintro _ w1 ⟨rfl, q1, hq1⟩; have b1 : Below (w.alloc (.cells #[.int .i64 0, .int .i64 0] 24)).heap.size (w.alloc (.cells #[.int .i64 0, .int .i64 0] 24)) w1 := (by rw [hq1]; exact below_drewN (Below.refl _ _) q1); have k0 : w1.cell? ⟨g, 0, none⟩ = some (.string s) := ((HB.out.below (one_new2 w _)).below b1).cell 0; have C1 := Lib.hid b1; clear hq1 b1; refine Hid.out ?_)
    refine Lib.hid ?_
    go_wp2_with (first | (go_at_call 21; refine (HPd.out _).mono ?_; rintro e w' ⟨rfl, rfl⟩) | (go_at_call 20; refine (HRk.out _).mono ?_; rintro _ w2 ⟨rfl, q2, hq2⟩; have b2 : Below (w.alloc (.cells #[.int .i64 0, .int .i64 0] 24)).heap.size (w.alloc (.cells #[.int .i64 0, .int .i64 0] 24)) w2 := (by rw [hq2]; exact below_drewN C1.out q2); have k0 : w2.cell? ⟨g, 0, none⟩ = some (.string s) := ((HB.out.below (one_new2 w _)).below b2).cell 0; have C2 := Lib.hid b2; clear hq2 b2; refine Hid.out ?_))
    refine Lib.hid ?_
    go_wp2_with (go_at_call 14; refine (tvFault_any 5 a _).mono ?_; rintro e wf ⟨rfl, b⟩; unfold fuV; obtain ⟨r0, r1, f0, f1, bb⟩ := res_cell (C2.out.trans (b.mono C2.out.size)); have BB := Lib.hid bb; clear b bb)
    exact bodyPost_ret (v := .agg #[.int .i64 5, .int .i64 (a : Int)]) (by simp [results, Try.results19, go_sem, r0, r1]) rfl ⟨rfl, set_two BB.out _ _⟩
  rw [if_neg h6] at hR
  have H0 : Hid (hzR (nzF s (a + P - (a + n)) (a + n)) = R) := Lib.hid (by rw [Nat.add_sub_add_left]; exact hR)
  clear hR HR
  by_cases h7 : kd < 32768
  · have d6 : decide ((kd : Int) < 32768) = true := is_lt (by omega)
    have d7 : decide ((1004 : Int) < (n : Int)) = false := not_lt (by omega)
    go_enter Try.func19, Try.ntmps19
    go_wp2_with (go_at_call 20; refine (HRd.out _).mono ?_; rintro _ w1 ⟨rfl, q1, hq1⟩; have b1 : Below (w.alloc (.cells #[.int .i64 0, .int .i64 0] 24)).heap.size (w.alloc (.cells #[.int .i64 0, .int .i64 0] 24)) w1 := (by rw [hq1]; exact below_drewN (Below.refl _ _) q1); have k0 : w1.cell? ⟨g, 0, none⟩ = some (.string s) := ((HB.out.below (one_new2 w _)).below b1).cell 0; have C1 := Lib.hid b1; clear hq1 b1; refine Hid.out ?_)
    refine Lib.hid ?_
    go_wp2_with (first | (go_at_call 21; refine (HPd.out _).mono ?_; rintro e w' ⟨rfl, rfl⟩) | (go_at_call 20; refine (HRk.out _).mono ?_; rintro _ w2 ⟨rfl, q2, hq2⟩; have b2 : Below (w.alloc (.cells #[.int .i64 0, .int .i64 0] 24)).heap.size (w.alloc (.cells #[.int .i64 0, .int .i64 0] 24)) w2 := (by rw [hq2]; exact below_drewN C1.out q2); have k0 : w2.cell? ⟨g, 0, none⟩ = some (.string s) := ((HB.out.below (one_new2 w _)).below b2).cell 0; have C2 := Lib.hid b2; clear hq2 b2; refine Hid.out ?_))
    refine Lib.hid ?_
    go_wp2_with fail
    go_loopw [10] (fun v wr => HzRel (w.alloc (.cells #[.int .i64 0, .int .i64 0] 24)) s a n P R v wr) (fun v _ => a + P - (intOf v).toNat)
    case atStart => exact ⟨a + n, Nat.le_refl _, by omega, by go_num, C2.out, H0⟩
    case round =>
      obtain ⟨j, hj0, hj, rfl, hb, HP⟩ := hrel
      have C3 := Lib.hid hb
      have k0 : wr.cell? ⟨g, 0, none⟩ = some (.string s) := ((HB.out.below (one_new2 w _)).below hb).cell 0
      clear hb
      by_cases hlt : j < a + P
      · have hjs : j < s.size := by omega
        have hix := byte_at s j hjs (j : Int) rfl
        have hby := Lib.hid (byS_eq hjs)
        obtain ⟨z, hz⟩ : ∃ z : Nat, (s[j]'hjs).toNat = z := ⟨_, rfl⟩
        rw [hz] at hix hby
        have HE := Lib.hid (nzF_at s hlt)
        rw [hby.out] at HE
        have dl : decide ((j : Int) < (a : Int) + (P : Int)) = true := is_lt (by omega)
        clear hz hby
        by_cases hz0 : z = 0
        · have HZ : Hid (hzR (nzF s (a + P - (j + 1)) (j + 1)) = R) := Lib.hid (by rw [← HP.out, HE.out, if_pos hz0])
          have dz2 : ((z : Int) != 0) = false := by simp; omega
          clear HE HP hz0
          go_wp2_with (go_at_call 21; refine (HPd.out _).mono ?_; rintro e w' ⟨rfl, rfl⟩)
          go_roundw
          case rel => exact ⟨j + 1, by omega, by omega, by go_num, C3.out, HZ.out⟩
          case measure => simp [intOf]; omega
        · have HZ : Hid (R = (1, j)) := Lib.hid (by rw [← HP.out, HE.out, if_neg hz0]; rfl)
          have dz2 : ((z : Int) != 0) = true := by simp; omega
          clear HE HP hz0
          obtain rfl := HZ.out
          go_wp2_with (first | (go_at_call 21; refine (HPd.out _).mono ?_; rintro e w' ⟨rfl, rfl⟩) | (go_at_call 14; refine (tvFault_any 1 j _).mono ?_; rintro e wf ⟨rfl, b⟩; unfold fuV; obtain ⟨r0, r1, f0, f1, bb⟩ := res_cell (C3.out.trans (b.mono C3.out.size)); have BB := Lib.hid bb; clear b bb))
          exact bodyPost_ret (v := .agg #[.int .i64 1, .int .i64 (j : Int)]) (by simp [results, Try.results19, go_sem, r0, r1]) rfl ⟨rfl, set_two BB.out _ _⟩
      · have hjP : j = a + P := by omega
        have HZ : Hid (R = (0, 0)) := Lib.hid (by rw [← HP.out, hjP, Nat.sub_self]; rfl)
        have dl : decide ((j : Int) < (a : Int) + (P : Int)) = false := not_lt (by omega)
        obtain ⟨r0, r1, f0, f1, bb⟩ := res_cell C3.out
        have BB := Lib.hid bb
        clear bb
        obtain rfl := HZ.out
        go_wp2_with (go_at_call 21; refine (HPd.out _).mono ?_; rintro e w' ⟨rfl, rfl⟩)
        exact bodyPost_ret (v := .agg #[.int .i64 0, .int .i64 0]) (by simp [results, Try.results19, go_sem, r0, r1]) rfl ⟨rfl, set_two BB.out _ _⟩
  · have d6 : decide ((kd : Int) < 32768) = false := not_lt (by omega)
    go_enter Try.func19, Try.ntmps19
    go_wp2_with (go_at_call 20; refine (HRd.out _).mono ?_; rintro _ w1 ⟨rfl, q1, hq1⟩; have b1 : Below (w.alloc (.cells #[.int .i64 0, .int .i64 0] 24)).heap.size (w.alloc (.cells #[.int .i64 0, .int .i64 0] 24)) w1 := (by rw [hq1]; exact below_drewN (Below.refl _ _) q1); have k0 : w1.cell? ⟨g, 0, none⟩ = some (.string s) := ((HB.out.below (one_new2 w _)).below b1).cell 0; have C1 := Lib.hid b1; clear hq1 b1; refine Hid.out ?_)
    refine Lib.hid ?_
    go_wp2_with (first | (go_at_call 21; refine (HPd.out _).mono ?_; rintro e w' ⟨rfl, rfl⟩) | (go_at_call 20; refine (HRk.out _).mono ?_; rintro _ w2 ⟨rfl, q2, hq2⟩; have b2 : Below (w.alloc (.cells #[.int .i64 0, .int .i64 0] 24)).heap.size (w.alloc (.cells #[.int .i64 0, .int .i64 0] 24)) w2 := (by rw [hq2]; exact below_drewN C1.out q2); have k0 : w2.cell? ⟨g, 0, none⟩ = some (.string s) := ((HB.out.below (one_new2 w _)).below b2).cell 0; have C2 := Lib.hid b2; clear hq2 b2; refine Hid.out ?_))
    refine Lib.hid ?_
    go_wp2_with fail
    go_loopw [10] (fun v wr => HzRel (w.alloc (.cells #[.int .i64 0, .int .i64 0] 24)) s a n P R v wr) (fun v _ => a + P - (intOf v).toNat)
    case atStart => exact ⟨a + n, Nat.le_refl _, by omega, by go_num, C2.out, H0⟩
    case round =>
      obtain ⟨j, hj0, hj, rfl, hb, HP⟩ := hrel
      have C3 := Lib.hid hb
      have k0 : wr.cell? ⟨g, 0, none⟩ = some (.string s) := ((HB.out.below (one_new2 w _)).below hb).cell 0
      clear hb
      by_cases hlt : j < a + P
      · have hjs : j < s.size := by omega
        have hix := byte_at s j hjs (j : Int) rfl
        have hby := Lib.hid (byS_eq hjs)
        obtain ⟨z, hz⟩ : ∃ z : Nat, (s[j]'hjs).toNat = z := ⟨_, rfl⟩
        rw [hz] at hix hby
        have HE := Lib.hid (nzF_at s hlt)
        rw [hby.out] at HE
        have dl : decide ((j : Int) < (a : Int) + (P : Int)) = true := is_lt (by omega)
        clear hz hby
        by_cases hz0 : z = 0
        · have HZ : Hid (hzR (nzF s (a + P - (j + 1)) (j + 1)) = R) := Lib.hid (by rw [← HP.out, HE.out, if_pos hz0])
          have dz2 : ((z : Int) != 0) = false := by simp; omega
          clear HE HP hz0
          go_wp2_with (go_at_call 21; refine (HPd.out _).mono ?_; rintro e w' ⟨rfl, rfl⟩)
          go_roundw
          case rel => exact ⟨j + 1, by omega, by omega, by go_num, C3.out, HZ.out⟩
          case measure => simp [intOf]; omega
        · have HZ : Hid (R = (1, j)) := Lib.hid (by rw [← HP.out, HE.out, if_neg hz0]; rfl)
          have dz2 : ((z : Int) != 0) = true := by simp; omega
          clear HE HP hz0
          obtain rfl := HZ.out
          go_wp2_with (first | (go_at_call 21; refine (HPd.out _).mono ?_; rintro e w' ⟨rfl, rfl⟩) | (go_at_call 14; refine (tvFault_any 1 j _).mono ?_; rintro e wf ⟨rfl, b⟩; unfold fuV; obtain ⟨r0, r1, f0, f1, bb⟩ := res_cell (C3.out.trans (b.mono C3.out.size)); have BB := Lib.hid bb; clear b bb))
          exact bodyPost_ret (v := .agg #[.int .i64 1, .int .i64 (j : Int)]) (by simp [results, Try.results19, go_sem, r0, r1]) rfl ⟨rfl, set_two BB.out _ _⟩
      · have hjP : j = a + P := by omega
        have HZ : Hid (R = (0, 0)) := Lib.hid (by rw [← HP.out, hjP, Nat.sub_self]; rfl)
        have dl : decide ((j : Int) < (a : Int) + (P : Int)) = false := not_lt (by omega)
        obtain ⟨r0, r1, f0, f1, bb⟩ := res_cell C3.out
        have BB := Lib.hid bb
        clear bb
        obtain rfl := HZ.out
        go_wp2_with (go_at_call 21; refine (HPd.out _).mono ?_; rintro e w' ⟨rfl, rfl⟩)
        exact bodyPost_ret (v := .agg #[.int .i64 0, .int .i64 0]) (by simp [results, Try.results19, go_sem, r0, r1]) rfl ⟨rfl, set_two BB.out _ _⟩
end Go.Proofs.Ytgnobmmlmmbfcaa
