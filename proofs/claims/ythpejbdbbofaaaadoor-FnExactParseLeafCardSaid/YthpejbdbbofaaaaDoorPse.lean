/- All tokens read as one part: the part of ParseLeaf, readAll and parse of the program. -/
import Derived.Test.YthpejbdbbofaaaaDoorPsc
import Derived.Test.YthpejbdbbofaaaaDoorPsq
import Derived.Defers
import Derived.Recover
namespace Go.Proofs.YthpejbdbbofaaaaDoor
set_option maxRecDepth 100000
open Go.RowKit
set_option linter.unusedVariables false
set_option linter.unusedSimpArgs false

/-- the answer and the fault of a part that all tokens are read as -/
def anP {α : Type} (ts : List Tok) (en : Int) (R : PR α) (z : α) : α × (Int × Int) := match R with
  | .ok x _ => (x, (0, 0))
  | .bad k j => (z, fltP ts en k j)
theorem alP_bad {α : Type} {ts : List Tok} {r : PR α} {k : Int} {j : Nat} (h : r = .bad k j) : alP ts r = .bad k j := by rw [h]; rfl
theorem alP_ok {α : Type} {ts : List Tok} {r : PR α} {x : α} {j : Nat} (h : r = .ok x j) (hj : j = ts.length) : alP ts r = .ok x j := by rw [h]; exact if_pos hj
theorem alP_left {α : Type} {ts : List Tok} {r : PR α} {x : α} {j : Nat} (h : r = .ok x j) (hj : ¬ j = ts.length) : alP ts r = .bad 2 j := by rw [h]; exact if_neg hj
theorem BoxAt.other2 {w : World} {c b : Nat} {cs : Array Value} {T : TypeId} (h : BoxAt w b cs T) (hb : b ≠ c) (o : Nat) (v : Value) : BoxAt (w.setCell ⟨c, o, none⟩ v) b cs T := by
  unfold BoxAt
  rw [heap_setCell_other w ⟨c, o, none⟩ b v hb]
  exact h
theorem Far.newer {g b : Nat} {w w1 : World} (h : Far g w w1) (hb : w.heap.size ≤ b) (hg : g < w.heap.size) (o : Nat) (v : Value) : Far g w (w1.setCell ⟨b, o, none⟩ v) := h.new hb hg o v
theorem BoxAt.drewN {w : World} {b : Nat} {cs : Array Value} {T : TypeId} (h : BoxAt w b cs T) (q : Nat) : BoxAt (w.drewN q) b cs T := h
theorem BoxAt.fiveO {w : World} {c b : Nat} {cs : Array Value} {T : TypeId} (h : BoxAt w b cs T) (hb : b ≠ c) (v0 v1 v2 v3 v4 : Value) : BoxAt (((((w.setCell ⟨c, 0, none⟩ v0).setCell ⟨c, 1, none⟩ v1).setCell ⟨c, 2, none⟩ v2).setCell ⟨c, 3, none⟩ v3).setCell ⟨c, 4, none⟩ v4) b cs T :=
  ((((h.other2 hb 0 _).other2 hb 1 _).other2 hb 2 _).other2 hb 3 _).other2 hb 4 _
theorem BoxAt.eightO {w : World} {c b : Nat} {cs : Array Value} {T : TypeId} (h : BoxAt w b cs T) (hb : b ≠ c) (v0 v1 v2 v3 v4 v5 v6 v7 : Value) : BoxAt ((((((((w.setCell ⟨c, 0, none⟩ v0).setCell ⟨c, 1, none⟩ v1).setCell ⟨c, 2, none⟩ v2).setCell ⟨c, 3, none⟩ v3).setCell ⟨c, 4, none⟩ v4).setCell ⟨c, 5, none⟩ v5).setCell ⟨c, 6, none⟩ v6).setCell ⟨c, 7, none⟩ v7) b cs T :=
  (((h.fiveO hb _ _ _ _ _).other2 hb 5 _).other2 hb 6 _).other2 hb 7 _
theorem two_far {g : Nat} {w W0 w1 : World} (hg : g < w.heap.size) (f : Far g W0 w1) (f0 : Far g w W0) (a b : Value) : Far g w ((w1.setCell ⟨w.heap.size + 1, 0, none⟩ a).setCell ⟨w.heap.size + 1, 1, none⟩ b) :=
  ((f0.trans f).new (Nat.le_succ _) hg 0 _).new (Nat.le_succ _) hg 1 _
def fauA (f : Int × Int) : Array Value := #[.int .i64 f.1, .int .i64 f.2]
theorem BoxAt.fault {w : World} {b : Nat} {z0 z1 : Value} {T : TypeId} (h : BoxAt w b #[z0, z1] T) (f : Int × Int) : BoxAt ((w.setCell ⟨b, 0, none⟩ (.int .i64 f.1)).setCell ⟨b, 1, none⟩ (.int .i64 f.2)) b (fauA f) T := (h.set 0 _).set 1 _
set_option maxHeartbeats 6400000 in
theorem leafPart_any (g i : Nat) (en d : Int) (p : Int) (pb : Nat) (tv cv fv : Value) (ts : List Tok) (w : World) (HP : Hid (PrAt w g tv i en cv fv d)) (HT : Hid (TkB w g tv ts)) (hi : i ≤ ts.length) (hm : ts.length ≤ 1048576) (HF : Hid (w.cell? ⟨pb, 0, none⟩ = some (.int .i64 p))) (hpb : pb < g) :
    Calls Tryd.prog 114 #[.pointer (some ⟨g, 0, none⟩), .pointer (some ⟨pb, 0, none⟩)] w (SaysR w g tv ts en cv fv d clsV (lfP ts i p)) := by
  obtain ⟨R, hR⟩ : ∃ R, lfP ts i p = R := ⟨_, rfl⟩
  rw [hR]
  unfold lfP at hR
  have R0 := Lib.hid hR
  clear hR
  have hj0 := hi
  have hgl := HP.out.lt
  have hgb : g ≠ w.heap.size := by omega
  obtain ⟨W0, hW0⟩ : ∃ W0, w.alloc (.cells #[.int .i64 0, .int .i64 0, .int .i64 0, .int .i64 0, .int .i64 0, .int .i64 0, .int .i64 0, .int .i64 0] 62) = W0 := ⟨_, rfl⟩
  have b0 : Below w.heap.size w W0 := by rw [← hW0]; exact one_new2 _ _
  have X0 : Hid (BoxAt W0 w.heap.size #[.int .i64 0, .int .i64 0, .int .i64 0, .int .i64 0, .int .i64 0, .int .i64 0, .int .i64 0, .int .i64 0] 62) := Lib.hid (by rw [← hW0]; exact BoxAt.new _ _ _)
  have P0 := Lib.hid (HP.out.below b0)
  have F0 := Lib.hid ((Far.refl g w).below b0 hgl)
  have T0 := Lib.hid (HT.out.far F0.out)
  have G0 := Lib.hid (Far.refl g W0)
  have HW := Lib.hid hW0
  clear hW0 b0
  have c0 : (w.alloc (.cells #[.int .i64 0, .int .i64 0, .int .i64 0, .int .i64 0, .int .i64 0, .int .i64 0, .int .i64 0, .int .i64 0] 62)).cell? ⟨pb, 0, none⟩ = some (.int .i64 p) := by rw [HW.out]; exact (F0.out.1.cell (p := ⟨pb, 0, none⟩) hpb).trans HF.out
  go_enter Tryd.func114, Tryd.ntmps114
  go_wp2_with fail
  rw [HW.out]
  have HC1 := Lib.hid (fun w HP HT hj => readHead_any g i en d p tv cv fv ts w HP HT hj hm)
  cases h1 : hdP ts i p with
  | bad k1 j1 =>
    have RB := Lib.hid ((PR.bind_bad h1).symm.trans R0.out)
    rw [h1] at HC1
    go_wp2_with (go_at_call 115; (with_reducible refine (HC1.out _ P0 T0 hj0).mono ?_); rintro e w1 ⟨rfl, hj1, p, f⟩; have P1 := Lib.hid p; have T1 := Lib.hid (T0.out.far f); have F1 := Lib.hid (F0.out.trans f); have G1 := Lib.hid (G0.out.trans f); clear p; clear f)
    rw [← RB.out]
    exact ⟨rfl, rfl, hj1, P1.out, F1.out⟩
  | ok x j1 =>
    have R1 := Lib.hid ((PR.bind_ok h1).symm.trans R0.out)
    rw [h1] at HC1
    unfold clsV at HC1
    go_wp2_with (go_at_call 115; (with_reducible refine (HC1.out _ P0 T0 hj0).mono ?_); rintro e w1 ⟨rfl, hj1, p, f⟩; have P1 := Lib.hid p; have T1 := Lib.hid (T0.out.far f); have F1 := Lib.hid (F0.out.trans f); have G1 := Lib.hid (G0.out.trans f); clear p; clear f)
    obtain ⟨W5, hW5⟩ : ∃ W5, w1.alloc (.cells #[.int .i64 x.i, .int .i64 x.p, .int .i64 x.r, .int .i64 x.e, .int .i64 x.b, .int .i64 x.u, .int .i64 x.o, .int .i64 x.l] 62) = W5 := ⟨_, rfl⟩
    have b5 : Below w1.heap.size w1 W5 := by rw [← hW5]; exact one_new2 _ _
    have hg5 : g < w1.heap.size := P1.out.lt
    have hs1 : w.heap.size < w1.heap.size := by have q0 := X0.out.lt; have q1 := G1.out.1.size; omega
    have Y5 : Hid (BoxAt W5 w1.heap.size #[.int .i64 x.i, .int .i64 x.p, .int .i64 x.r, .int .i64 x.e, .int .i64 x.b, .int .i64 x.u, .int .i64 x.o, .int .i64 x.l] 62) := Lib.hid (by rw [← hW5]; exact BoxAt.new _ _ _)
    have P5b := Lib.hid (P1.out.below b5)
    have F5b := Lib.hid (F1.out.below b5 P1.out.lt)
    have G5b := Lib.hid (G1.out.below b5 P1.out.lt)
    have T5b := Lib.hid (T1.out.far ((Far.refl g w1).below b5 P1.out.lt))
    have HW5 := Lib.hid hW5
    clear hW5 b5
    rw [HW5.out]
    have HC2 := Lib.hid (fun w HP HT hj => readLimit_any g j1 en d tv cv fv ts w HP HT hj hm)
    cases h2 : liP ts j1 with
    | bad k2 j2 =>
      have RB := Lib.hid ((PR.bind_bad h2).symm.trans R1.out)
      rw [h2] at HC2
      go_wp2_with (go_at_call 116; (with_reducible refine (HC2.out _ P5b T5b hj1).mono ?_); rintro e w2 ⟨rfl, hj2, p, f⟩; have P2 := Lib.hid p; have T2 := Lib.hid (T5b.out.far f); have F2 := Lib.hid (F5b.out.trans f); have G2 := Lib.hid (G5b.out.trans f); clear p; clear f)
      rw [← RB.out]
      exact ⟨rfl, rfl, hj2, P2.out, F2.out⟩
    | ok n j2 =>
      have R2 := Lib.hid ((PR.bind_ok h2).symm.trans R1.out)
      rw [h2] at HC2
      unfold intV at HC2
      go_wp2_with (go_at_call 116; (with_reducible refine (HC2.out _ P5b T5b hj1).mono ?_); rintro e w2 ⟨rfl, hj2, p, f⟩; have P2 := Lib.hid p; have T2 := Lib.hid (T5b.out.far f); have F2 := Lib.hid (F5b.out.trans f); have G2 := Lib.hid (G5b.out.trans f); clear p; have f0 := f; clear f; have X6 := Lib.hid (X0.out.far G2.out (by omega)); have Y6 := Lib.hid (Y5.out.far ((Far.refl g W5).trans f0) (by omega)); obtain ⟨x0, x1, x2, x3, x4, x5, x6, x7, xf⟩ := box_eights X6.out; obtain ⟨y0, y1, y2, y3, y4, y5, y6, y7, yf⟩ := box_eights Y6.out; have hne : w1.heap.size ≠ w.heap.size := by omega)
      have RR : Hid (PR.ok (⟨x.i, x.p, x.r, x.e, x.b, x.u, x.o, n⟩ : Cls) j2 = R) := R2
      rw [← RR.out]
      have q0 := ((((((((X6.out.other2 (b := w.heap.size) (c := w1.heap.size) (by omega) 7 (.int .i64 n)).set 0 (.int .i64 x.i)).set 1 (.int .i64 x.p)).set 2 (.int .i64 x.r)).set 3 (.int .i64 x.e)).set 4 (.int .i64 x.b)).set 5 (.int .i64 x.u)).set 6 (.int .i64 x.o)).set 7 (.int .i64 n)
      have r0 := q0.cell 0
      have r1 := q0.cell 1
      have r2 := q0.cell 2
      have r3 := q0.cell 3
      have r4 := q0.cell 4
      have r5 := q0.cell 5
      have r6 := q0.cell 6
      have r7 := q0.cell 7
      exact bodyPost_ret (v := clsV ⟨x.i, x.p, x.r, x.e, x.b, x.u, x.o, n⟩) (by simp [results, Tryd.results114, go_sem, clsV, r0, r1, r2, r3, r4, r5, r6, r7]) rfl ⟨rfl, hj2, PrAt.eight (P2.out.other (b := w1.heap.size) (by omega) 7 _) hgb _ _ _ _ _ _ _ _, Far.eight (F2.out.newer (b := w1.heap.size) (by omega) hgl 7 _) hgl _ _ _ _ _ _ _ _⟩
theorem catchIdleFilter (b : Nat) (z0 z1 : Value) (w : World) (HX : Hid (BoxAt w b #[z0, z1] 26)) :
    CallsD Tryd.prog 193 #[.pointer (some ⟨b, 0, none⟩)] .returning w fun e u' w' => e = .returned (.tuple #[]) ∧ u' = .returning ∧ w' = (w.setCell ⟨b, 0, none⟩ (.int .i64 0)).setCell ⟨b, 1, none⟩ (.int .i64 0) := by
  have c0 : w.cell? ⟨b, 0, none⟩ = some z0 := by rw [HX.out.cell 0]; rfl
  have c1 : w.cell? ⟨b, 1, none⟩ = some z1 := by rw [HX.out.cell 1]; rfl
  have f0 := HX.out.open 0
  have f1 := HX.out.open 1
  refine callsD_of_wpS Tryd.func193 rfl fun c₀ cs hu => ?_
  change Code.wpS _ _ _ { tmps := #[.pointer (some ⟨b, 0, none⟩), undef, undef, undef, undef, undef], defers := [] } _ _
  apply wpS_region
  have ta : Sem.run Tryd.prog (Instr.typeAssert Value.nilIface 20 26 true) w = .ok (.tuple #[.agg #[.int .i64 0, .int .i64 0], .bool false]) w := by kernel_rfl
  simp [wpOpsS, go_sem, recoverD, hu, Exit.thenS, ta, c0, c1, f0, f1]
  exact ⟨rfl, .returning, by rw [← hu], .tuple #[], by simp [results, Tryd.results193], rfl, rfl, rfl⟩
theorem catchPanicFilter (b : Nat) (f : Int × Int) (z0 z1 : Value) (older : List PanicEntry) (w : World) (HX : Hid (BoxAt w b #[z0, z1] 26)) :
    CallsD Tryd.prog 193 #[.pointer (some ⟨b, 0, none⟩)] (.panicking ({ v := .iface 26 (faV f), recovered := false } :: older)) w fun e u' w' =>
      e = .returned (.tuple #[]) ∧ u' = .panicking ({ v := .iface 26 (faV f), recovered := true } :: older) ∧ w' = (w.setCell ⟨b, 0, none⟩ (.int .i64 f.1)).setCell ⟨b, 1, none⟩ (.int .i64 f.2) := by
  have c0 : w.cell? ⟨b, 0, none⟩ = some z0 := by rw [HX.out.cell 0]; rfl
  have c1 : w.cell? ⟨b, 1, none⟩ = some z1 := by rw [HX.out.cell 1]; rfl
  have f0 := HX.out.open 0
  have f1 := HX.out.open 1
  obtain ⟨fk, fa⟩ := f
  unfold faV
  refine callsD_of_wpS Tryd.func193 rfl fun c₀ cs hu => ?_
  change Code.wpS _ _ _ { tmps := #[.pointer (some ⟨b, 0, none⟩), undef, undef, undef, undef, undef], defers := [] } _ _
  apply wpS_region
  have ta : Sem.run Tryd.prog (Instr.typeAssert (Value.iface 26 (.agg #[.int .i64 fk, .int .i64 fa])) 20 26 true) w = .ok (.tuple #[.agg #[.int .i64 fk, .int .i64 fa], .bool true]) w := by kernel_rfl
  simp [wpOpsS, go_sem, recoverD, hu, Exit.thenS, ta, c0, c1, f0, f1]
  exact ⟨rfl, _, rfl, .tuple #[], by simp [results, Tryd.results193], rfl, rfl, rfl⟩
set_option maxHeartbeats 6400000 in
theorem readAllFilter_any (g : Nat) (en d : Int) (tv cv fv : Value) (ts : List Tok) (w : World) (HP : Hid (PrAt w g tv 0 en cv fv d)) (HT : Hid (TkB w g tv ts)) (hm : ts.length ≤ 1048576) (HF : Hid (Fwt w)) (hgg : 2 < g) :
    Calls Tryd.prog 162 #[.pointer (some ⟨g, 0, none⟩), .func (Fn.func 108) #[] #[]] w fun e w' => e = .returned (.tuple #[fltV (anP ts en (alP ts (flP ts 0)) flt0).1, faV (anP ts en (alP ts (flP ts 0)) flt0).2]) ∧ Far g w w' := by
  have hgl := HP.out.lt
  obtain ⟨W0, hW0⟩ : ∃ W0, (w.alloc (.cells #[.int .i64 0, .int .i64 0, .int .i64 0, .int .i64 0, .int .i64 0] 77)).alloc (.cells #[.int .i64 0, .int .i64 0] 26) = W0 := ⟨_, rfl⟩
  have b0 : Below w.heap.size w W0 := by rw [← hW0]; exact two_new _ _ _
  have X4 : Hid (BoxAt W0 w.heap.size #[.int .i64 0, .int .i64 0, .int .i64 0, .int .i64 0, .int .i64 0] 77) := Lib.hid (by rw [← hW0]; exact (BoxAt.new w _ _).below (one_new2 _ _))
  have X5 : Hid (BoxAt W0 (w.heap.size + 1) #[.int .i64 0, .int .i64 0] 26) := Lib.hid (by rw [← hW0]; have q := BoxAt.new (w.alloc (.cells #[.int .i64 0, .int .i64 0, .int .i64 0, .int .i64 0, .int .i64 0] 77)) #[.int .i64 0, .int .i64 0] 26; rw [show (w.alloc (.cells #[.int .i64 0, .int .i64 0, .int .i64 0, .int .i64 0, .int .i64 0] 77)).heap.size = w.heap.size + 1 by simp] at q; exact q)
  have FA0 := Lib.hid ((Far.refl g w).below b0 hgl)
  have P0 := Lib.hid (HP.out.below b0)
  have T0 := Lib.hid (HT.out.far FA0.out)
  have HFW0 : Hid (Fwt W0) := Lib.hid (HF.out.far0 hgg FA0.out)
  have HW := Lib.hid hW0
  have hs0 : w.heap.size + 1 < W0.heap.size := X5.out.lt
  clear hW0 b0
  have hmf : ∀ (fn : Fn) (first cap : Array Value) (w : World), (Instr.makeFunc fn first cap).run Tryd.prog w = .ok (.func fn first cap) w := fun _ _ _ _ => rfl
  have HC := Lib.hid (fun w HP HT HF => readFilter_any g 0 en d tv cv fv ts w HP HT (Nat.zero_le _) hm HF hgg)
  have HFH := Lib.hid (fun j w HP HT hj => faultHere_any g j en d 2 tv cv fv ts w HP HT hj hm)
  cases h : flP ts 0 with
  | bad k j =>
    rw [h] at HC
    show Calls _ _ _ _ fun e w' => e = .returned (.tuple #[fltV flt0, faV (fltP ts en k j)]) ∧ Far g w w'
    go_enter_defers Tryd.func162, Tryd.ntmps162
    go_wp2_with fail
    rw [HW.out]
    go_wp2_with (go_at_call 108; refine (HC.out _ P0 T0 HFW0).mono ?_; rintro e w1 ⟨rfl, hj, p, f⟩; have P1 := Lib.hid p; have F1 := Lib.hid f; clear p f)
    have X41 := Lib.hid (X4.out.far F1.out (by omega))
    have X51 := Lib.hid (X5.out.far F1.out (by omega))
    refine leaves_cons (f := 193) (args := #[.pointer (some ⟨w.heap.size + 1, 0, none⟩)]) (by simp) (by simp [go_sem]) ?_
    refine (catchPanicFilter _ (fltP ts en k j) _ _ [] _ X51).mono ?_
    rintro e u' w'' ⟨rfl, rfl, rfl⟩
    have Y5 := X51.out.fault (fltP ts en k j)
    have y0 := Y5.cell 0
    have y1 := Y5.cell 1
    obtain ⟨x0, x1, x2, x3, x4, xf⟩ := box_fives ((X41.out.other2 (c := w.heap.size + 1) (by omega) 0 (.int .i64 (fltP ts en k j).1)).other2 (c := w.heap.size + 1) (by omega) 1 (.int .i64 (fltP ts en k j).2))
    simp [Leaves, settle, results, Tryd.results162, go_sem, x0, x1, x2, x3, x4, y0, y1, fauA, faV, fltV, flt0]
    exact two_far hgl F1.out FA0.out _ _
  | ok x j =>
    rw [h] at HC
    unfold fltV at HC
    obtain ⟨a, c, rfl⟩ := HT.out.form
    obtain ⟨n, hn⟩ : ∃ n, ts.length = n := ⟨_, rfl⟩
    by_cases hjn : j = ts.length
    · have hA : alP ts (PR.ok x j) = PR.ok x j := if_pos hjn
      rw [hA]
      show Calls _ _ _ _ fun e w' => e = .returned (.tuple #[fltV x, faV (0, 0)]) ∧ Far g w w'
      have d1 : decide ((j : Int) < n) = false := not_lt (by omega)
      go_enter_defers Tryd.func162, Tryd.ntmps162
      go_wp2_with fail
      rw [HW.out]
      go_wp2_with (go_at_call 108; refine (HC.out _ P0 T0 HFW0).mono ?_; rintro e w1 ⟨rfl, hj, p, f⟩; have P1 := Lib.hid p; have F1 := Lib.hid f; clear p f)
      obtain ⟨W6, hW6⟩ : ∃ W6, w1.alloc (.cells #[.int .i64 x.o, .int .i64 x.f, .int .i64 x.m, .int .i64 x.v, .int .i64 x.t] 77) = W6 := ⟨_, rfl⟩
      have b6 : Below w1.heap.size w1 W6 := by rw [← hW6]; exact one_new2 _ _
      have Y6 : Hid (BoxAt W6 w1.heap.size #[.int .i64 x.o, .int .i64 x.f, .int .i64 x.m, .int .i64 x.v, .int .i64 x.t] 77) := Lib.hid (by rw [← hW6]; exact BoxAt.new _ _ _)
      have hg1 : g < w1.heap.size := P1.out.lt
      have P6 := Lib.hid (P1.out.below b6)
      have F6 := Lib.hid (F1.out.below b6 hg1)
      have X46 := Lib.hid (X4.out.far F6.out (by omega))
      have X56 := Lib.hid (X5.out.far F6.out (by omega))
      have hs1 : w.heap.size + 1 < w1.heap.size := by have := F1.out.1.size; omega
      have HW6 := Lib.hid hW6
      clear hW6 b6
      rw [HW6.out]
      obtain ⟨c0, c1, c2, c3, c4, c5, fz⟩ := P6.out.cells
      rw [hn] at c0
      obtain ⟨x0, x1, x2, x3, x4, xf⟩ := box_fives X46.out
      have y0 : W6.cell? ⟨w.heap.size + 1, 0, none⟩ = some (.int .i64 0) := by rw [X56.out.cell 0]; rfl
      have y1 : W6.cell? ⟨w.heap.size + 1, 1, none⟩ = some (.int .i64 0) := by rw [X56.out.cell 1]; rfl
      have yf := X56.out.open
      obtain ⟨z0, z1, z2, z3, z4, zf⟩ := box_fives Y6.out
      go_quiet (fail)
      go_wp2_with fail
      refine leaves_cons (f := 193) (args := #[.pointer (some ⟨w.heap.size + 1, 0, none⟩)]) (by simp) (by simp [go_sem]) ?_
      have X5f := (((X56.out.drewN nq).fiveO (c := w.heap.size) (by omega) (.int .i64 x.o) (.int .i64 x.f) (.int .i64 x.m) (.int .i64 x.v) (.int .i64 x.t)).set 0 (.int .i64 0)).set 1 (.int .i64 0)
      refine (catchIdleFilter _ (.int .i64 0) (.int .i64 0) _ (Lib.hid X5f)).mono ?_
      rintro e u' w'' ⟨rfl, rfl, rfl⟩
      have q0 := ((((((((((X46.out.drewN nq).set 0 (.int .i64 x.o)).set 1 (.int .i64 x.f)).set 2 (.int .i64 x.m)).set 3 (.int .i64 x.v)).set 4 (.int .i64 x.t)).other2 (c := w.heap.size + 1) (by omega) 0 (.int .i64 0)).other2 (c := w.heap.size + 1) (by omega) 1 (.int .i64 0)).other2 (c := w.heap.size + 1) (by omega) 0 (.int .i64 0)).other2 (c := w.heap.size + 1) (by omega) 1 (.int .i64 0))
      have r0 := q0.cell 0
      have r1 := q0.cell 1
      have r2 := q0.cell 2
      have r3 := q0.cell 3
      have r4 := q0.cell 4
      have Y5 := BoxAt.fault X5f (0, 0)
      have y0' := Y5.cell 0
      have y1' := Y5.cell 1
      simp [Leaves, settle, results, Tryd.results162, go_sem, r0, r1, r2, r3, r4, y0', y1', fauA, faV, fltV]
      exact (((((FA0.out.trans (F6.out.drewN nq)).five hgl _ _ _ _ _).new (b := w.heap.size + 1) (by omega) hgl 0 _).new (b := w.heap.size + 1) (by omega) hgl 1 _).new (b := w.heap.size + 1) (by omega) hgl 0 _).new (b := w.heap.size + 1) (by omega) hgl 1 _
    · have hA : alP ts (PR.ok x j) = PR.bad 2 j := if_neg hjn
      rw [hA]
      show Calls _ _ _ _ fun e w' => e = .returned (.tuple #[fltV flt0, faV (fltP ts en 2 j)]) ∧ Far g w w'
      go_enter_defers Tryd.func162, Tryd.ntmps162
      go_wp2_with fail
      rw [HW.out]
      go_wp2_with (go_at_call 108; refine (HC.out _ P0 T0 HFW0).mono ?_; rintro e w1 ⟨rfl, hj, p, f⟩; have P1 := Lib.hid p; have F1 := Lib.hid f; clear p f)
      have d1 : decide ((j : Int) < n) = true := is_lt (by omega)
      have d2 : decide (j < n) = true := by simp; omega
      obtain ⟨W6, hW6⟩ : ∃ W6, w1.alloc (.cells #[.int .i64 x.o, .int .i64 x.f, .int .i64 x.m, .int .i64 x.v, .int .i64 x.t] 77) = W6 := ⟨_, rfl⟩
      have b6 : Below w1.heap.size w1 W6 := by rw [← hW6]; exact one_new2 _ _
      have Y6 : Hid (BoxAt W6 w1.heap.size #[.int .i64 x.o, .int .i64 x.f, .int .i64 x.m, .int .i64 x.v, .int .i64 x.t] 77) := Lib.hid (by rw [← hW6]; exact BoxAt.new _ _ _)
      have hg1 : g < w1.heap.size := P1.out.lt
      have P6 := Lib.hid (P1.out.below b6)
      have F6 := Lib.hid (F1.out.below b6 hg1)
      have X46 := Lib.hid (X4.out.far F6.out (by omega))
      have X56 := Lib.hid (X5.out.far F6.out (by omega))
      have hs1 : w.heap.size + 1 < w1.heap.size := by have := F1.out.1.size; omega
      have HW6 := Lib.hid hW6
      clear hW6 b6
      rw [HW6.out]
      obtain ⟨c0, c1, c2, c3, c4, c5, fz⟩ := P6.out.cells
      rw [hn] at c0
      obtain ⟨x0, x1, x2, x3, x4, xf⟩ := box_fives X46.out
      have y0 : W6.cell? ⟨w.heap.size + 1, 0, none⟩ = some (.int .i64 0) := by rw [X56.out.cell 0]; rfl
      have y1 : W6.cell? ⟨w.heap.size + 1, 1, none⟩ = some (.int .i64 0) := by rw [X56.out.cell 1]; rfl
      have yf := X56.out.open
      obtain ⟨z0, z1, z2, z3, z4, zf⟩ := box_fives Y6.out
      have T6 := Lib.hid (T0.out.far F6.out)
      have P6q : Hid (PrAt (W6.drewN 1) g (.slice a ts.length c) j en cv fv d) := P6
      have T6q : Hid (TkB (W6.drewN 1) g (.slice a ts.length c) ts) := T6
      go_quiet (fail)
      go_wp2_with (go_at_call 194; refine (HFH.out j _ (show Hid (PrAt (W6.drewN nq) g (.slice a ts.length c) j en cv fv d) from P6) (show Hid (TkB (W6.drewN nq) g (.slice a ts.length c) ts) from T6) hj).mono ?_; rintro e w7 ⟨rfl, b⟩; have B7 := Lib.hid (undrewP b); clear b)
      have F7 := Lib.hid (F6.out.below B7.out P6.out.lt)
      have X47 := Lib.hid (X46.out.below B7.out)
      have X57 := Lib.hid (X56.out.below B7.out)
      refine leaves_cons (f := 193) (args := #[.pointer (some ⟨w.heap.size + 1, 0, none⟩)]) (by simp) (by simp [go_sem]) ?_
      refine (catchPanicFilter _ (fltP ts en 2 j) _ _ [] _ X57).mono ?_
      rintro e u' w'' ⟨rfl, rfl, rfl⟩
      have Y5 := X57.out.fault (fltP ts en 2 j)
      have y0' := Y5.cell 0
      have y1' := Y5.cell 1
      have q0 := (X47.out.other2 (c := w.heap.size + 1) (by omega) 0 (.int .i64 (fltP ts en 2 j).1)).other2 (c := w.heap.size + 1) (by omega) 1 (.int .i64 (fltP ts en 2 j).2)
      have r0 := q0.cell 0
      have r1 := q0.cell 1
      have r2 := q0.cell 2
      have r3 := q0.cell 3
      have r4 := q0.cell 4
      simp [Leaves, settle, results, Tryd.results162, go_sem, r0, r1, r2, r3, r4, y0', y1', fauA, faV, fltV, flt0]
      exact two_far hgl F7.out FA0.out _ _
theorem catchIdleClass (b : Nat) (z0 z1 : Value) (w : World) (HX : Hid (BoxAt w b #[z0, z1] 26)) :
    CallsD Tryd.prog 196 #[.pointer (some ⟨b, 0, none⟩)] .returning w fun e u' w' => e = .returned (.tuple #[]) ∧ u' = .returning ∧ w' = (w.setCell ⟨b, 0, none⟩ (.int .i64 0)).setCell ⟨b, 1, none⟩ (.int .i64 0) := by
  have c0 : w.cell? ⟨b, 0, none⟩ = some z0 := by rw [HX.out.cell 0]; rfl
  have c1 : w.cell? ⟨b, 1, none⟩ = some z1 := by rw [HX.out.cell 1]; rfl
  have f0 := HX.out.open 0
  have f1 := HX.out.open 1
  refine callsD_of_wpS Tryd.func196 rfl fun c₀ cs hu => ?_
  change Code.wpS _ _ _ { tmps := #[.pointer (some ⟨b, 0, none⟩), undef, undef, undef, undef, undef], defers := [] } _ _
  apply wpS_region
  have ta : Sem.run Tryd.prog (Instr.typeAssert Value.nilIface 20 26 true) w = .ok (.tuple #[.agg #[.int .i64 0, .int .i64 0], .bool false]) w := by kernel_rfl
  simp [wpOpsS, go_sem, recoverD, hu, Exit.thenS, ta, c0, c1, f0, f1]
  exact ⟨rfl, .returning, by rw [← hu], .tuple #[], by simp [results, Tryd.results196], rfl, rfl, rfl⟩
theorem catchPanicClass (b : Nat) (f : Int × Int) (z0 z1 : Value) (older : List PanicEntry) (w : World) (HX : Hid (BoxAt w b #[z0, z1] 26)) :
    CallsD Tryd.prog 196 #[.pointer (some ⟨b, 0, none⟩)] (.panicking ({ v := .iface 26 (faV f), recovered := false } :: older)) w fun e u' w' =>
      e = .returned (.tuple #[]) ∧ u' = .panicking ({ v := .iface 26 (faV f), recovered := true } :: older) ∧ w' = (w.setCell ⟨b, 0, none⟩ (.int .i64 f.1)).setCell ⟨b, 1, none⟩ (.int .i64 f.2) := by
  have c0 : w.cell? ⟨b, 0, none⟩ = some z0 := by rw [HX.out.cell 0]; rfl
  have c1 : w.cell? ⟨b, 1, none⟩ = some z1 := by rw [HX.out.cell 1]; rfl
  have f0 := HX.out.open 0
  have f1 := HX.out.open 1
  obtain ⟨fk, fa⟩ := f
  unfold faV
  refine callsD_of_wpS Tryd.func196 rfl fun c₀ cs hu => ?_
  change Code.wpS _ _ _ { tmps := #[.pointer (some ⟨b, 0, none⟩), undef, undef, undef, undef, undef], defers := [] } _ _
  apply wpS_region
  have ta : Sem.run Tryd.prog (Instr.typeAssert (Value.iface 26 (.agg #[.int .i64 fk, .int .i64 fa])) 20 26 true) w = .ok (.tuple #[.agg #[.int .i64 fk, .int .i64 fa], .bool true]) w := by kernel_rfl
  simp [wpOpsS, go_sem, recoverD, hu, Exit.thenS, ta, c0, c1, f0, f1]
  exact ⟨rfl, _, rfl, .tuple #[], by simp [results, Tryd.results196], rfl, rfl, rfl⟩
set_option maxHeartbeats 6400000 in
theorem readAllClass_any (g : Nat) (en d : Int) (p : Int) (pb : Nat) (tv cv fv : Value) (ts : List Tok) (w : World) (HP : Hid (PrAt w g tv 0 en cv fv d)) (HT : Hid (TkB w g tv ts)) (hm : ts.length ≤ 1048576) (HF : Hid (w.cell? ⟨pb, 0, none⟩ = some (.int .i64 p))) (hpb : pb < g) :
    Calls Tryd.prog 167 #[.pointer (some ⟨g, 0, none⟩), .func (Fn.func 114) #[] #[.pointer (some ⟨pb, 0, none⟩)]] w fun e w' => e = .returned (.tuple #[clsV (anP ts en (alP ts (lfP ts 0 p)) cls0).1, faV (anP ts en (alP ts (lfP ts 0 p)) cls0).2]) ∧ Far g w w' := by
  have hgl := HP.out.lt
  obtain ⟨W0, hW0⟩ : ∃ W0, (w.alloc (.cells #[.int .i64 0, .int .i64 0, .int .i64 0, .int .i64 0, .int .i64 0, .int .i64 0, .int .i64 0, .int .i64 0] 62)).alloc (.cells #[.int .i64 0, .int .i64 0] 26) = W0 := ⟨_, rfl⟩
  have b0 : Below w.heap.size w W0 := by rw [← hW0]; exact two_new _ _ _
  have X4 : Hid (BoxAt W0 w.heap.size #[.int .i64 0, .int .i64 0, .int .i64 0, .int .i64 0, .int .i64 0, .int .i64 0, .int .i64 0, .int .i64 0] 62) := Lib.hid (by rw [← hW0]; exact (BoxAt.new w _ _).below (one_new2 _ _))
  have X5 : Hid (BoxAt W0 (w.heap.size + 1) #[.int .i64 0, .int .i64 0] 26) := Lib.hid (by rw [← hW0]; have q := BoxAt.new (w.alloc (.cells #[.int .i64 0, .int .i64 0, .int .i64 0, .int .i64 0, .int .i64 0, .int .i64 0, .int .i64 0, .int .i64 0] 62)) #[.int .i64 0, .int .i64 0] 26; rw [show (w.alloc (.cells #[.int .i64 0, .int .i64 0, .int .i64 0, .int .i64 0, .int .i64 0, .int .i64 0, .int .i64 0, .int .i64 0] 62)).heap.size = w.heap.size + 1 by simp] at q; exact q)
  have FA0 := Lib.hid ((Far.refl g w).below b0 hgl)
  have P0 := Lib.hid (HP.out.below b0)
  have T0 := Lib.hid (HT.out.far FA0.out)
  have HFW0 : Hid (W0.cell? ⟨pb, 0, none⟩ = some (.int .i64 p)) := Lib.hid ((FA0.out.1.cell (p := ⟨pb, 0, none⟩) hpb).trans HF.out)
  have HW := Lib.hid hW0
  have hs0 : w.heap.size + 1 < W0.heap.size := X5.out.lt
  clear hW0 b0
  have hmf : ∀ (fn : Fn) (first cap : Array Value) (w : World), (Instr.makeFunc fn first cap).run Tryd.prog w = .ok (.func fn first cap) w := fun _ _ _ _ => rfl
  have HC := Lib.hid (fun w HP HT HF => leafPart_any g 0 en d p pb tv cv fv ts w HP HT (Nat.zero_le _) hm HF hpb)
  have HFH := Lib.hid (fun j w HP HT hj => faultHere_any g j en d 2 tv cv fv ts w HP HT hj hm)
  cases h : lfP ts 0 p with
  | bad k j =>
    rw [h] at HC
    show Calls _ _ _ _ fun e w' => e = .returned (.tuple #[clsV cls0, faV (fltP ts en k j)]) ∧ Far g w w'
    go_enter_defers Tryd.func167, Tryd.ntmps167
    go_wp2_with fail
    rw [HW.out]
    go_wp2_with (go_at_call 114; refine (HC.out _ P0 T0 HFW0).mono ?_; rintro e w1 ⟨rfl, hj, p, f⟩; have P1 := Lib.hid p; have F1 := Lib.hid f; clear p f)
    have X41 := Lib.hid (X4.out.far F1.out (by omega))
    have X51 := Lib.hid (X5.out.far F1.out (by omega))
    refine leaves_cons (f := 196) (args := #[.pointer (some ⟨w.heap.size + 1, 0, none⟩)]) (by simp) (by simp [go_sem]) ?_
    refine (catchPanicClass _ (fltP ts en k j) _ _ [] _ X51).mono ?_
    rintro e u' w'' ⟨rfl, rfl, rfl⟩
    have Y5 := X51.out.fault (fltP ts en k j)
    have y0 := Y5.cell 0
    have y1 := Y5.cell 1
    obtain ⟨x0, x1, x2, x3, x4, x5, x6, x7, xf⟩ := box_eights ((X41.out.other2 (c := w.heap.size + 1) (by omega) 0 (.int .i64 (fltP ts en k j).1)).other2 (c := w.heap.size + 1) (by omega) 1 (.int .i64 (fltP ts en k j).2))
    simp [Leaves, settle, results, Tryd.results167, go_sem, x0, x1, x2, x3, x4, x5, x6, x7, y0, y1, fauA, faV, clsV, cls0]
    exact two_far hgl F1.out FA0.out _ _
  | ok x j =>
    rw [h] at HC
    unfold clsV at HC
    obtain ⟨a, c, rfl⟩ := HT.out.form
    obtain ⟨n, hn⟩ : ∃ n, ts.length = n := ⟨_, rfl⟩
    by_cases hjn : j = ts.length
    · have hA : alP ts (PR.ok x j) = PR.ok x j := if_pos hjn
      rw [hA]
      show Calls _ _ _ _ fun e w' => e = .returned (.tuple #[clsV x, faV (0, 0)]) ∧ Far g w w'
      have d1 : decide ((j : Int) < n) = false := not_lt (by omega)
      go_enter_defers Tryd.func167, Tryd.ntmps167
      go_wp2_with fail
      rw [HW.out]
      go_wp2_with (go_at_call 114; refine (HC.out _ P0 T0 HFW0).mono ?_; rintro e w1 ⟨rfl, hj, p, f⟩; have P1 := Lib.hid p; have F1 := Lib.hid f; clear p f)
      obtain ⟨W6, hW6⟩ : ∃ W6, w1.alloc (.cells #[.int .i64 x.i, .int .i64 x.p, .int .i64 x.r, .int .i64 x.e, .int .i64 x.b, .int .i64 x.u, .int .i64 x.o, .int .i64 x.l] 62) = W6 := ⟨_, rfl⟩
      have b6 : Below w1.heap.size w1 W6 := by rw [← hW6]; exact one_new2 _ _
      have Y6 : Hid (BoxAt W6 w1.heap.size #[.int .i64 x.i, .int .i64 x.p, .int .i64 x.r, .int .i64 x.e, .int .i64 x.b, .int .i64 x.u, .int .i64 x.o, .int .i64 x.l] 62) := Lib.hid (by rw [← hW6]; exact BoxAt.new _ _ _)
      have hg1 : g < w1.heap.size := P1.out.lt
      have P6 := Lib.hid (P1.out.below b6)
      have F6 := Lib.hid (F1.out.below b6 hg1)
      have X46 := Lib.hid (X4.out.far F6.out (by omega))
      have X56 := Lib.hid (X5.out.far F6.out (by omega))
      have hs1 : w.heap.size + 1 < w1.heap.size := by have := F1.out.1.size; omega
      have HW6 := Lib.hid hW6
      clear hW6 b6
      rw [HW6.out]
      obtain ⟨c0, c1, c2, c3, c4, c5, fz⟩ := P6.out.cells
      rw [hn] at c0
      obtain ⟨x0, x1, x2, x3, x4, x5, x6, x7, xf⟩ := box_eights X46.out
      have y0 : W6.cell? ⟨w.heap.size + 1, 0, none⟩ = some (.int .i64 0) := by rw [X56.out.cell 0]; rfl
      have y1 : W6.cell? ⟨w.heap.size + 1, 1, none⟩ = some (.int .i64 0) := by rw [X56.out.cell 1]; rfl
      have yf := X56.out.open
      obtain ⟨z0, z1, z2, z3, z4, z5, z6, z7, zf⟩ := box_eights Y6.out
      go_quiet (fail)
      go_wp2_with fail
      refine leaves_cons (f := 196) (args := #[.pointer (some ⟨w.heap.size + 1, 0, none⟩)]) (by simp) (by simp [go_sem]) ?_
      have X5f := (((X56.out.drewN nq).eightO (c := w.heap.size) (by omega) (.int .i64 x.i) (.int .i64 x.p) (.int .i64 x.r) (.int .i64 x.e) (.int .i64 x.b) (.int .i64 x.u) (.int .i64 x.o) (.int .i64 x.l)).set 0 (.int .i64 0)).set 1 (.int .i64 0)
      refine (catchIdleClass _ (.int .i64 0) (.int .i64 0) _ (Lib.hid X5f)).mono ?_
      rintro e u' w'' ⟨rfl, rfl, rfl⟩
      have q0 := (((((((((((((X46.out.drewN nq).set 0 (.int .i64 x.i)).set 1 (.int .i64 x.p)).set 2 (.int .i64 x.r)).set 3 (.int .i64 x.e)).set 4 (.int .i64 x.b)).set 5 (.int .i64 x.u)).set 6 (.int .i64 x.o)).set 7 (.int .i64 x.l)).other2 (c := w.heap.size + 1) (by omega) 0 (.int .i64 0)).other2 (c := w.heap.size + 1) (by omega) 1 (.int .i64 0)).other2 (c := w.heap.size + 1) (by omega) 0 (.int .i64 0)).other2 (c := w.heap.size + 1) (by omega) 1 (.int .i64 0))
      have r0 := q0.cell 0
      have r1 := q0.cell 1
      have r2 := q0.cell 2
      have r3 := q0.cell 3
      have r4 := q0.cell 4
      have r5 := q0.cell 5
      have r6 := q0.cell 6
      have r7 := q0.cell 7
      have Y5 := BoxAt.fault X5f (0, 0)
      have y0' := Y5.cell 0
      have y1' := Y5.cell 1
      simp [Leaves, settle, results, Tryd.results167, go_sem, r0, r1, r2, r3, r4, r5, r6, r7, y0', y1', fauA, faV, clsV]
      exact (((((FA0.out.trans (F6.out.drewN nq)).eight hgl _ _ _ _ _ _ _ _).new (b := w.heap.size + 1) (by omega) hgl 0 _).new (b := w.heap.size + 1) (by omega) hgl 1 _).new (b := w.heap.size + 1) (by omega) hgl 0 _).new (b := w.heap.size + 1) (by omega) hgl 1 _
    · have hA : alP ts (PR.ok x j) = PR.bad 2 j := if_neg hjn
      rw [hA]
      show Calls _ _ _ _ fun e w' => e = .returned (.tuple #[clsV cls0, faV (fltP ts en 2 j)]) ∧ Far g w w'
      go_enter_defers Tryd.func167, Tryd.ntmps167
      go_wp2_with fail
      rw [HW.out]
      go_wp2_with (go_at_call 114; refine (HC.out _ P0 T0 HFW0).mono ?_; rintro e w1 ⟨rfl, hj, p, f⟩; have P1 := Lib.hid p; have F1 := Lib.hid f; clear p f)
      have d1 : decide ((j : Int) < n) = true := is_lt (by omega)
      have d2 : decide (j < n) = true := by simp; omega
      obtain ⟨W6, hW6⟩ : ∃ W6, w1.alloc (.cells #[.int .i64 x.i, .int .i64 x.p, .int .i64 x.r, .int .i64 x.e, .int .i64 x.b, .int .i64 x.u, .int .i64 x.o, .int .i64 x.l] 62) = W6 := ⟨_, rfl⟩
      have b6 : Below w1.heap.size w1 W6 := by rw [← hW6]; exact one_new2 _ _
      have Y6 : Hid (BoxAt W6 w1.heap.size #[.int .i64 x.i, .int .i64 x.p, .int .i64 x.r, .int .i64 x.e, .int .i64 x.b, .int .i64 x.u, .int .i64 x.o, .int .i64 x.l] 62) := Lib.hid (by rw [← hW6]; exact BoxAt.new _ _ _)
      have hg1 : g < w1.heap.size := P1.out.lt
      have P6 := Lib.hid (P1.out.below b6)
      have F6 := Lib.hid (F1.out.below b6 hg1)
      have X46 := Lib.hid (X4.out.far F6.out (by omega))
      have X56 := Lib.hid (X5.out.far F6.out (by omega))
      have hs1 : w.heap.size + 1 < w1.heap.size := by have := F1.out.1.size; omega
      have HW6 := Lib.hid hW6
      clear hW6 b6
      rw [HW6.out]
      obtain ⟨c0, c1, c2, c3, c4, c5, fz⟩ := P6.out.cells
      rw [hn] at c0
      obtain ⟨x0, x1, x2, x3, x4, x5, x6, x7, xf⟩ := box_eights X46.out
      have y0 : W6.cell? ⟨w.heap.size + 1, 0, none⟩ = some (.int .i64 0) := by rw [X56.out.cell 0]; rfl
      have y1 : W6.cell? ⟨w.heap.size + 1, 1, none⟩ = some (.int .i64 0) := by rw [X56.out.cell 1]; rfl
      have yf := X56.out.open
      obtain ⟨z0, z1, z2, z3, z4, z5, z6, z7, zf⟩ := box_eights Y6.out
      have T6 := Lib.hid (T0.out.far F6.out)
      have P6q : Hid (PrAt (W6.drewN 1) g (.slice a ts.length c) j en cv fv d) := P6
      have T6q : Hid (TkB (W6.drewN 1) g (.slice a ts.length c) ts) := T6
      go_quiet (fail)
      go_wp2_with (go_at_call 194; refine (HFH.out j _ (show Hid (PrAt (W6.drewN nq) g (.slice a ts.length c) j en cv fv d) from P6) (show Hid (TkB (W6.drewN nq) g (.slice a ts.length c) ts) from T6) hj).mono ?_; rintro e w7 ⟨rfl, b⟩; have B7 := Lib.hid (undrewP b); clear b)
      have F7 := Lib.hid (F6.out.below B7.out P6.out.lt)
      have X47 := Lib.hid (X46.out.below B7.out)
      have X57 := Lib.hid (X56.out.below B7.out)
      refine leaves_cons (f := 196) (args := #[.pointer (some ⟨w.heap.size + 1, 0, none⟩)]) (by simp) (by simp [go_sem]) ?_
      refine (catchPanicClass _ (fltP ts en 2 j) _ _ [] _ X57).mono ?_
      rintro e u' w'' ⟨rfl, rfl, rfl⟩
      have Y5 := X57.out.fault (fltP ts en 2 j)
      have y0' := Y5.cell 0
      have y1' := Y5.cell 1
      have q0 := (X47.out.other2 (c := w.heap.size + 1) (by omega) 0 (.int .i64 (fltP ts en 2 j).1)).other2 (c := w.heap.size + 1) (by omega) 1 (.int .i64 (fltP ts en 2 j).2)
      have r0 := q0.cell 0
      have r1 := q0.cell 1
      have r2 := q0.cell 2
      have r3 := q0.cell 3
      have r4 := q0.cell 4
      have r5 := q0.cell 5
      have r6 := q0.cell 6
      have r7 := q0.cell 7
      simp [Leaves, settle, results, Tryd.results167, go_sem, r0, r1, r2, r3, r4, r5, r6, r7, y0', y1', fauA, faV, clsV, cls0]
      exact two_far hgl F7.out FA0.out _ _
end Go.Proofs.YthpejbdbbofaaaaDoor
