/- The parser's parts, the model's: limit, done, head, filter. -/
import Derived.Test.YthpejbdbbofaaaaDoorPsn
import Derived.Test.YthpejbdbbofaaaaDoorPsc
namespace Go.Proofs.YthpejbdbbofaaaaDoor
set_option maxRecDepth 100000
open Go.RowKit
set_option linter.unusedVariables false
set_option linter.unusedSimpArgs false

theorem StAt.other {w : World} {g b : Nat} {tv : Value} {i : Nat} {en : Int} {nm cv fv df d : Value} {fk fa : Int} (h : StAt w g tv i en nm cv fv df d fk fa) (hb : g ≠ b) (o : Nat) (v : Value) : StAt (w.setCell ⟨b, o, none⟩ v) g tv i en nm cv fv df d fk fa := by
  unfold StAt
  rw [heap_setCell_other w ⟨b, o, none⟩ g v hb]
  exact h
theorem BoxAt.other {w : World} {c b : Nat} {cs : Array Value} {T : TypeId} (h : BoxAt w b cs T) (hb : b ≠ c) (o : Nat) (v : Value) : BoxAt (w.setCell ⟨c, o, none⟩ v) b cs T := by
  unfold BoxAt
  rw [heap_setCell_other w ⟨c, o, none⟩ b v hb]
  exact h
theorem StAt.five {w : World} {g b : Nat} {tv : Value} {i : Nat} {en : Int} {nm cv fv df d : Value} {fk fa : Int} (h : StAt w g tv i en nm cv fv df d fk fa) (hb : g ≠ b) (v0 v1 v2 v3 v4 : Value) : StAt (((((w.setCell ⟨b, 0, none⟩ v0).setCell ⟨b, 1, none⟩ v1).setCell ⟨b, 2, none⟩ v2).setCell ⟨b, 3, none⟩ v3).setCell ⟨b, 4, none⟩ v4) g tv i en nm cv fv df d fk fa :=
  ((((h.other hb 0 _).other hb 1 _).other hb 2 _).other hb 3 _).other hb 4 _
theorem StAt.eightS {w : World} {g b : Nat} {tv : Value} {i : Nat} {en : Int} {nm cv fv df d : Value} {fk fa : Int} (h : StAt w g tv i en nm cv fv df d fk fa) (hb : g ≠ b) (v0 v1 v2 v3 v4 v5 v6 v7 : Value) : StAt ((((((((w.setCell ⟨b, 0, none⟩ v0).setCell ⟨b, 1, none⟩ v1).setCell ⟨b, 2, none⟩ v2).setCell ⟨b, 3, none⟩ v3).setCell ⟨b, 4, none⟩ v4).setCell ⟨b, 5, none⟩ v5).setCell ⟨b, 6, none⟩ v6).setCell ⟨b, 7, none⟩ v7) g tv i en nm cv fv df d fk fa :=
  (((h.five hb _ _ _ _ _).other hb 5 _).other hb 6 _).other hb 7 _
theorem TextsAt.far {w w' : World} {g b : Nat} {l : List ByteArray} (h : TextsAt w b l) (f : Far g w w') (hb : b ≠ g) (hl : b < w.heap.size) : TextsAt w' b l := fun k hk => by
  have e : w'.heap[b]? = w.heap[b]? := by
    rcases Nat.lt_or_ge b g with q | q
    · exact f.1.block b q
    · exact f.2 b (by omega) hl
  exact (World.cell?_of_block (a := ⟨b, k, none⟩) e).trans (h k hk)
theorem TextsAt.other {w : World} {b c : Nat} {l : List ByteArray} (h : TextsAt w b l) (hb : b ≠ c) (o : Nat) (v : Value) : TextsAt (w.setCell ⟨c, o, none⟩ v) b l := fun k hk =>
  (World.cell?_setCell_far w ⟨c, o, none⟩ ⟨b, k, none⟩ v (fun e => hb e.symm)).trans (h k hk)
theorem kw_mem (t : ByteArray) (k : Nat) (h : (kwA ++ sgA)[k]? = some t) : t ∈ kwA ++ sgA := List.mem_of_getElem? h
set_option maxHeartbeats 3200000 in
theorem limit_any (g i : Nat) (en : Int) (tv nm cv fv df d : Value) (ts : List Tok) (w : World) (HP : Hid (StAt w g tv i en nm cv fv df d 0 0)) (HT : Hid (TkB w g tv ts)) (hi : i ≤ ts.length) (hm : ts.length ≤ 1048576) (HG : Hid (GoodN ts)) :
    Calls Tryd.prog 111 #[.pointer (some ⟨g, 0, none⟩)] w (SaysS w g tv ts en nm cv fv df d intV (liP ts i)) := by
  obtain ⟨R, hR⟩ : ∃ R, liP ts i = R := ⟨_, rfl⟩
  rw [hR]
  unfold liP at hR
  have R0 := Lib.hid hR
  clear hR
  have HC1 := Lib.hid (fun w HP HT hj => named_any g i en tv nm cv fv df d ts tLimit w HP HT hj hm HG (Lib.hid (kw_mem _ 8 rfl)))
  go_enter Tryd.func111, Tryd.ntmps111
  cases h1 : naP ts i tLimit with
  | bad k1 j1 =>
    have RB := Lib.hid ((PR.bind_bad h1).symm.trans R0.out)
    rw [h1] at HC1
    go_wp2_with (go_at_call 156; (with_reducible refine (HC1.out _ HP HT hi).mono ?_); rintro e w1 ⟨⟨v1, rfl⟩, hj1, s, f⟩; have S1 := Lib.hid s; have F1 := Lib.hid f; clear s f)
    rw [← RB.out]
    exact bodyPost_ret (v := .tuple #[intV v1, .bool false]) (by simp [results, Tryd.results111, go_sem, intV]) rfl ⟨⟨_, rfl⟩, hj1, S1.out, F1.out⟩
  | ok n j1 =>
    have R1 := Lib.hid ((PR.bind_ok h1).symm.trans R0.out)
    rw [h1] at HC1
    go_wp2_with (go_at_call 156; (with_reducible refine (HC1.out _ HP HT hi).mono ?_); rintro e w1 ⟨rfl, hj1, s, f⟩; have S1 := Lib.hid s; have F1 := Lib.hid f; clear s f)
    have T1 := Lib.hid (HT.out.far F1.out)
    have HC2 := Lib.hid (fun w HP HT hj => stake_any g j1 en tv nm cv fv df d ts tSemi w HP HT hj hm HG (Lib.hid (kw_mem _ 16 rfl)))
    cases h2 : tkP ts j1 tSemi with
    | bad k2 j2 =>
      have RB := Lib.hid ((PR.bind_bad h2).symm.trans R1.out)
      rw [h2] at HC2
      go_wp2_with (go_at_call 161; (with_reducible refine (HC2.out _ S1 T1 hj1).mono ?_); rintro e w2 ⟨rfl, hj2, s, f⟩; have S2 := Lib.hid s; have F2 := Lib.hid f; clear s f)
      rw [← RB.out]
      exact bodyPost_ret (v := .tuple #[intV n, .bool false]) (by simp [results, Tryd.results111, go_sem, intV]) rfl ⟨⟨_, rfl⟩, hj2, S2.out, F1.out.trans F2.out⟩
    | ok u j2 =>
      have RR : Hid (PR.ok n j2 = R) := Lib.hid ((PR.bind_ok h2).symm.trans R1.out)
      rw [h2] at HC2
      go_wp2_with (go_at_call 161; (with_reducible refine (HC2.out _ S1 T1 hj1).mono ?_); rintro e w2 ⟨rfl, hj2, s, f⟩; have S2 := Lib.hid s; have F2 := Lib.hid f; clear s f)
      rw [← RR.out]
      exact bodyPost_ret (v := .tuple #[intV n, .bool true]) (by simp [results, Tryd.results111, go_sem, intV]) rfl ⟨rfl, hj2, S2.out, F1.out.trans F2.out⟩
set_option maxHeartbeats 3200000 in
theorem done_any (g i : Nat) (en : Int) (tv nm cv fv df d : Value) (ts : List Tok) (w : World) (HP : Hid (StAt w g tv i en nm cv fv df d 0 0)) (HT : Hid (TkB w g tv ts)) (hi : i ≤ ts.length) (hm : ts.length ≤ 1048576) :
    Calls Tryd.prog 106 #[.pointer (some ⟨g, 0, none⟩)] w (SaysU w g tv ts en nm cv fv df d (if i = ts.length then PR.ok () i else PR.bad 2 i)) := by
  have HF := Lib.hid (fun w HP HT => fail_any g i en 2 tv nm cv fv df d ts w HP HT hi hm)
  obtain ⟨c0, c1, c2, c8, c9, fz⟩ := HP.out.cells
  obtain ⟨a, c, rfl⟩ := HT.out.form
  obtain ⟨n, hn⟩ : ∃ n, ts.length = n := ⟨_, rfl⟩
  rw [hn] at c0 hi hm HF HP HT
  rw [hn]
  by_cases h : i = n
  · rw [if_pos h]
    have d1 : decide ((i : Int) < n) = false := not_lt (by omega)
    go_enter Tryd.func106, Tryd.ntmps106
    go_wp2_with fail
    go_quiet (fail)
    go_wp2
    go_ret
    exact ⟨rfl, by omega, HP.out, (Far.refl g w).drewN _⟩
  · rw [if_neg h]
    have d1 : decide ((i : Int) < n) = true := is_lt (by omega)
    go_enter Tryd.func106, Tryd.ntmps106
    go_wp2_with fail
    go_quiet (fail)
    go_wp2_with (go_at_call 159; refine (HF.out _ (show Hid (StAt (w.drewN nq) g _ i en nm cv fv df d 0 0) from HP) (show Hid (TkB (w.drewN nq) g _ ts) from HT)).mono ?_; rintro e w2 ⟨rfl, hj, hs, hf⟩; have S2 := Lib.hid hs; have F2 := Lib.hid hf; clear hs hf)
    go_ret
    exact ⟨rfl, by omega, S2.out, ((Far.refl g w).drewN nq).trans F2.out⟩
abbrev hdA : List ByteArray := [tClass, tRate, tCeil, tBurst, tCburst, tPrio]
def setF (k : Nat) (y : Cls) (n : Int) : Cls := match k with
  | 0 => { y with i := n }
  | 1 => { y with r := n }
  | 2 => { y with e := n }
  | 3 => { y with b := n }
  | 4 => { y with u := n }
  | _ => { y with o := n }
def hdL (ts : List Tok) : List ByteArray → Nat → Nat → Cls → PR Cls
  | [], _, j, y => .ok y j
  | t :: r, k, j, y => (naP ts j t).bind fun n j' => hdL ts r (k + 1) j' (setF k y n)
theorem hdP_hdL (ts : List Tok) (i : Nat) (p : Int) : hdP ts i p = hdL ts (hdA.drop 0) 0 i ⟨0, p, 0, 0, 0, 0, 0, 0⟩ := rfl
def clsA (x : Cls) : Array Value := #[.int .i64 x.i, .int .i64 x.p, .int .i64 x.r, .int .i64 x.e, .int .i64 x.b, .int .i64 x.u, .int .i64 x.o, .int .i64 x.l]
def HdRel (w : World) (g : Nat) (tv : Value) (ts : List Tok) (en : Int) (nm cv fv df d : Value) (r : Nat) (R : PR Cls) (v : Value) (wr : World) : Prop :=
  ∃ (k j : Nat) (y : Cls), k ≤ 6 ∧ v = .int .i64 k ∧ j ≤ ts.length ∧ StAt wr g tv j en nm cv fv df d 0 0 ∧ Far g w wr ∧ BoxAt wr (r + 1) (clsA y) 62 ∧ BoxAt wr r #[.int .i64 0, .int .i64 0, .int .i64 0, .int .i64 0, .int .i64 0, .int .i64 0, .int .i64 0, .int .i64 0] 62 ∧ TextsAt wr (r + 1 + 1) hdA ∧ r + 1 + 1 < wr.heap.size ∧ Hid (hdL ts (hdA.drop k) k j y = R)
set_option maxHeartbeats 12800000 in
theorem head_any (g i : Nat) (en : Int) (p : Int) (tv nm cv fv df d : Value) (ts : List Tok) (w : World) (HP : Hid (StAt w g tv i en nm cv fv df d 0 0)) (HT : Hid (TkB w g tv ts)) (hi : i ≤ ts.length) (hm : ts.length ≤ 1048576) (HG : Hid (GoodN ts)) :
    Calls Tryd.prog 110 #[.pointer (some ⟨g, 0, none⟩), .int .i64 p] w (SaysS w g tv ts en nm cv fv df d clsV (hdP ts i p)) := by
  obtain ⟨R, hR⟩ : ∃ R, hdP ts i p = R := ⟨_, rfl⟩
  rw [hR]
  rw [hdP_hdL] at hR
  have R0 := Lib.hid hR
  clear hR
  have hgl := HP.out.lt
  have HNA := Lib.hid (fun j t k (hk : (kwA ++ sgA)[k]? = some t) w HP HT hj => named_any g j en tv nm cv fv df d ts t w HP HT hj hm HG (Lib.hid (kw_mem _ k hk)))
  obtain ⟨W0, hW0⟩ : ∃ W0, ((w.alloc (.cells #[.int .i64 0, .int .i64 0, .int .i64 0, .int .i64 0, .int .i64 0, .int .i64 0, .int .i64 0, .int .i64 0] 62)).alloc (.cells #[.int .i64 0, .int .i64 p, .int .i64 0, .int .i64 0, .int .i64 0, .int .i64 0, .int .i64 0, .int .i64 0] 62)).alloc (.cells #[.string tClass, .string tRate, .string tCeil, .string tBurst, .string tCburst, .string tPrio] 9) = W0 := ⟨_, rfl⟩
  have HW := Lib.hid hW0
  have s1 : (w.alloc (.cells #[.int .i64 0, .int .i64 0, .int .i64 0, .int .i64 0, .int .i64 0, .int .i64 0, .int .i64 0, .int .i64 0] 62)).heap.size = w.heap.size + 1 := by simp
  have s2 : ((w.alloc (.cells #[.int .i64 0, .int .i64 0, .int .i64 0, .int .i64 0, .int .i64 0, .int .i64 0, .int .i64 0, .int .i64 0] 62)).alloc (.cells #[.int .i64 0, .int .i64 p, .int .i64 0, .int .i64 0, .int .i64 0, .int .i64 0, .int .i64 0, .int .i64 0] 62)).heap.size = w.heap.size + 1 + 1 := by simp
  have b0 : Below w.heap.size w W0 := by rw [← hW0]; exact (one_new2 _ _).trans ((two_new _ _ _).mono (by simp))
  have X4 : BoxAt W0 w.heap.size #[.int .i64 0, .int .i64 0, .int .i64 0, .int .i64 0, .int .i64 0, .int .i64 0, .int .i64 0, .int .i64 0] 62 := by rw [← hW0]; exact (BoxAt.new w _ _).below (two_new _ _ _)
  have X6 : BoxAt W0 (w.heap.size + 1) (clsA ⟨0, p, 0, 0, 0, 0, 0, 0⟩) 62 := by rw [← hW0]; have q := (BoxAt.new (w.alloc (.cells #[.int .i64 0, .int .i64 0, .int .i64 0, .int .i64 0, .int .i64 0, .int .i64 0, .int .i64 0, .int .i64 0] 62)) (clsA ⟨0, p, 0, 0, 0, 0, 0, 0⟩) 62).below (one_new2 _ (.cells #[.string tClass, .string tRate, .string tCeil, .string tBurst, .string tCburst, .string tPrio] 9)); rw [s1] at q; exact q
  have T13 : TextsAt W0 (w.heap.size + 1 + 1) hdA := by rw [← hW0]; have q := texts_new ((w.alloc (.cells #[.int .i64 0, .int .i64 0, .int .i64 0, .int .i64 0, .int .i64 0, .int .i64 0, .int .i64 0, .int .i64 0] 62)).alloc (.cells #[.int .i64 0, .int .i64 p, .int .i64 0, .int .i64 0, .int .i64 0, .int .i64 0, .int .i64 0, .int .i64 0] 62)) hdA #[.string tClass, .string tRate, .string tCeil, .string tBurst, .string tCburst, .string tPrio] rfl 9; rw [s2] at q; exact q
  have hz : w.heap.size + 1 + 1 < W0.heap.size := by rw [← hW0]; simp
  have START : Hid (HdRel w g tv ts en nm cv fv df d w.heap.size R (.int .i64 0) W0) := Lib.hid ⟨0, i, ⟨0, p, 0, 0, 0, 0, 0, 0⟩, by omega, rfl, hi, HP.out.below b0, (Far.refl g w).below b0 hgl, X6, X4, T13, hz, R0⟩
  clear hW0 s1 s2 b0 X4 X6 T13 hz R0
  go_enter Tryd.func110, Tryd.ntmps110
  go_wp2_with fail
  rw [HW.out]
  go_loopw [15] (fun v wr => HdRel w g tv ts en nm cv fv df d w.heap.size R v wr) (fun v _ => 6 - (intOf v).toNat)
  case atStart => exact START.out
  case round =>
    obtain ⟨k, j, y, hk, rfl, hj, st, fr, x6, x4, t13, hz, HR⟩ := hrel
    have ST := Lib.hid st
    have FR := Lib.hid fr
    have X6 := Lib.hid x6
    have X4 := Lib.hid x4
    have T13 := Lib.hid t13
    have TR := Lib.hid (HT.out.far fr)
    have hgr : g < wr.heap.size := st.lt
    clear st fr x6 x4 t13 START
    rcases (show k = 0 ∨ k = 1 ∨ k = 2 ∨ k = 3 ∨ k = 4 ∨ k = 5 ∨ k = 6 by omega) with rfl | rfl | rfl | rfl | rfl | rfl | rfl
    · have hc : wr.cell? ⟨w.heap.size + 1 + 1, 0, none⟩ = some (.string tClass) := T13.out 0 (by decide)
      have HN := Lib.hid (fun w HP HT hj => HNA.out j tClass 2 rfl w HP HT hj)
      have ee : (tClass.toList == tClass.toList) = true := by kernel_rfl
      cases h : naP ts j tClass with
      | bad k2 j2 =>
        have RB : Hid (PR.bad k2 j2 = R) := Lib.hid ((PR.bind_bad h).symm.trans HR.out)
        rw [h] at HN
        go_wp2_with (go_at_call 156; (with_reducible refine (HN.out _ ST TR hj).mono ?_); rintro e w1 ⟨⟨v1, rfl⟩, hj1, s1, f1⟩; have S1 := Lib.hid s1; have F1 := Lib.hid f1; clear s1 f1; have X41 := Lib.hid (X4.out.far F1.out (by omega)); obtain ⟨x0, x1, x2, x3, x4, x5, x6, x7, xf⟩ := box_eights (X41.out))
        rw [← RB.out]
        have q0 := ((((((((X41.out).set 0 (.int .i64 0)).set 1 (.int .i64 0)).set 2 (.int .i64 0)).set 3 (.int .i64 0)).set 4 (.int .i64 0)).set 5 (.int .i64 0)).set 6 (.int .i64 0)).set 7 (.int .i64 0)
        have r0 := q0.cell 0; have r1 := q0.cell 1; have r2 := q0.cell 2; have r3 := q0.cell 3; have r4 := q0.cell 4; have r5 := q0.cell 5; have r6 := q0.cell 6; have r7 := q0.cell 7
        exact bodyPost_ret (v := .tuple #[clsV cls0, .bool false]) (by simp [results, Tryd.results110, go_sem, clsV, cls0, r0, r1, r2, r3, r4, r5, r6, r7]) rfl ⟨⟨_, rfl⟩, hj1, StAt.eightS S1.out (by omega) _ _ _ _ _ _ _ _, Far.eight (FR.out.trans F1.out) hgl _ _ _ _ _ _ _ _⟩
      | ok n j2 =>
        have RB := Lib.hid ((PR.bind_ok h).symm.trans HR.out)
        rw [h] at HN
        unfold intV at HN
        go_wp2_with (go_at_call 156; (with_reducible refine (HN.out _ ST TR hj).mono ?_); rintro e w1 ⟨rfl, hj1, s1, f1⟩; have S1 := Lib.hid s1; have F1 := Lib.hid f1; clear s1 f1; have X61 := Lib.hid (X6.out.far F1.out (by omega)); have x6c : w1.cell? ⟨w.heap.size + 1, 0, none⟩ = some (.int .i64 y.i) := (by rw [X61.out.cell 0]; rfl); have x6f := X61.out.open 0)
        go_roundw
        case rel => exact ⟨1, j2, setF 0 y n, by omega, by go_num, hj1, S1.out.other (by omega) _ _, (FR.out.trans F1.out).new (by omega) hgl _ _, X61.out.set 0 (.int .i64 n), (X4.out.far F1.out (by omega)).other (by omega) _ _, (T13.out.far F1.out (by omega) hz).other (by omega) _ _, by have := F1.out.1.size; simp; omega, RB⟩
        case measure => simp [intOf]
    · have hc : wr.cell? ⟨w.heap.size + 1 + 1, 1, none⟩ = some (.string tRate) := T13.out 1 (by decide)
      have HN := Lib.hid (fun w HP HT hj => HNA.out j tRate 3 rfl w HP HT hj)
      have e0 : (tRate.toList == tClass.toList) = false := by kernel_rfl
      have ee : (tRate.toList == tRate.toList) = true := by kernel_rfl
      cases h : naP ts j tRate with
      | bad k2 j2 =>
        have RB : Hid (PR.bad k2 j2 = R) := Lib.hid ((PR.bind_bad h).symm.trans HR.out)
        rw [h] at HN
        go_wp2_with (go_at_call 156; (with_reducible refine (HN.out _ ST TR hj).mono ?_); rintro e w1 ⟨⟨v1, rfl⟩, hj1, s1, f1⟩; have S1 := Lib.hid s1; have F1 := Lib.hid f1; clear s1 f1; have X41 := Lib.hid (X4.out.far F1.out (by omega)); obtain ⟨x0, x1, x2, x3, x4, x5, x6, x7, xf⟩ := box_eights (X41.out))
        rw [← RB.out]
        have q0 := ((((((((X41.out).set 0 (.int .i64 0)).set 1 (.int .i64 0)).set 2 (.int .i64 0)).set 3 (.int .i64 0)).set 4 (.int .i64 0)).set 5 (.int .i64 0)).set 6 (.int .i64 0)).set 7 (.int .i64 0)
        have r0 := q0.cell 0; have r1 := q0.cell 1; have r2 := q0.cell 2; have r3 := q0.cell 3; have r4 := q0.cell 4; have r5 := q0.cell 5; have r6 := q0.cell 6; have r7 := q0.cell 7
        exact bodyPost_ret (v := .tuple #[clsV cls0, .bool false]) (by simp [results, Tryd.results110, go_sem, clsV, cls0, r0, r1, r2, r3, r4, r5, r6, r7]) rfl ⟨⟨_, rfl⟩, hj1, StAt.eightS S1.out (by omega) _ _ _ _ _ _ _ _, Far.eight (FR.out.trans F1.out) hgl _ _ _ _ _ _ _ _⟩
      | ok n j2 =>
        have RB := Lib.hid ((PR.bind_ok h).symm.trans HR.out)
        rw [h] at HN
        unfold intV at HN
        go_wp2_with (go_at_call 156; (with_reducible refine (HN.out _ ST TR hj).mono ?_); rintro e w1 ⟨rfl, hj1, s1, f1⟩; have S1 := Lib.hid s1; have F1 := Lib.hid f1; clear s1 f1; have X61 := Lib.hid (X6.out.far F1.out (by omega)); have x6c : w1.cell? ⟨w.heap.size + 1, 2, none⟩ = some (.int .i64 y.r) := (by rw [X61.out.cell 2]; rfl); have x6f := X61.out.open 2)
        go_roundw
        case rel => exact ⟨2, j2, setF 1 y n, by omega, by go_num, hj1, S1.out.other (by omega) _ _, (FR.out.trans F1.out).new (by omega) hgl _ _, X61.out.set 2 (.int .i64 n), (X4.out.far F1.out (by omega)).other (by omega) _ _, (T13.out.far F1.out (by omega) hz).other (by omega) _ _, by have := F1.out.1.size; simp; omega, RB⟩
        case measure => simp [intOf]
    · have hc : wr.cell? ⟨w.heap.size + 1 + 1, 2, none⟩ = some (.string tCeil) := T13.out 2 (by decide)
      have HN := Lib.hid (fun w HP HT hj => HNA.out j tCeil 4 rfl w HP HT hj)
      have e0 : (tCeil.toList == tClass.toList) = false := by kernel_rfl
      have e1 : (tCeil.toList == tRate.toList) = false := by kernel_rfl
      have ee : (tCeil.toList == tCeil.toList) = true := by kernel_rfl
      cases h : naP ts j tCeil with
      | bad k2 j2 =>
        have RB : Hid (PR.bad k2 j2 = R) := Lib.hid ((PR.bind_bad h).symm.trans HR.out)
        rw [h] at HN
        go_wp2_with (go_at_call 156; (with_reducible refine (HN.out _ ST TR hj).mono ?_); rintro e w1 ⟨⟨v1, rfl⟩, hj1, s1, f1⟩; have S1 := Lib.hid s1; have F1 := Lib.hid f1; clear s1 f1; have X41 := Lib.hid (X4.out.far F1.out (by omega)); obtain ⟨x0, x1, x2, x3, x4, x5, x6, x7, xf⟩ := box_eights (X41.out))
        rw [← RB.out]
        have q0 := ((((((((X41.out).set 0 (.int .i64 0)).set 1 (.int .i64 0)).set 2 (.int .i64 0)).set 3 (.int .i64 0)).set 4 (.int .i64 0)).set 5 (.int .i64 0)).set 6 (.int .i64 0)).set 7 (.int .i64 0)
        have r0 := q0.cell 0; have r1 := q0.cell 1; have r2 := q0.cell 2; have r3 := q0.cell 3; have r4 := q0.cell 4; have r5 := q0.cell 5; have r6 := q0.cell 6; have r7 := q0.cell 7
        exact bodyPost_ret (v := .tuple #[clsV cls0, .bool false]) (by simp [results, Tryd.results110, go_sem, clsV, cls0, r0, r1, r2, r3, r4, r5, r6, r7]) rfl ⟨⟨_, rfl⟩, hj1, StAt.eightS S1.out (by omega) _ _ _ _ _ _ _ _, Far.eight (FR.out.trans F1.out) hgl _ _ _ _ _ _ _ _⟩
      | ok n j2 =>
        have RB := Lib.hid ((PR.bind_ok h).symm.trans HR.out)
        rw [h] at HN
        unfold intV at HN
        go_wp2_with (go_at_call 156; (with_reducible refine (HN.out _ ST TR hj).mono ?_); rintro e w1 ⟨rfl, hj1, s1, f1⟩; have S1 := Lib.hid s1; have F1 := Lib.hid f1; clear s1 f1; have X61 := Lib.hid (X6.out.far F1.out (by omega)); have x6c : w1.cell? ⟨w.heap.size + 1, 3, none⟩ = some (.int .i64 y.e) := (by rw [X61.out.cell 3]; rfl); have x6f := X61.out.open 3)
        go_roundw
        case rel => exact ⟨3, j2, setF 2 y n, by omega, by go_num, hj1, S1.out.other (by omega) _ _, (FR.out.trans F1.out).new (by omega) hgl _ _, X61.out.set 3 (.int .i64 n), (X4.out.far F1.out (by omega)).other (by omega) _ _, (T13.out.far F1.out (by omega) hz).other (by omega) _ _, by have := F1.out.1.size; simp; omega, RB⟩
        case measure => simp [intOf]
    · have hc : wr.cell? ⟨w.heap.size + 1 + 1, 3, none⟩ = some (.string tBurst) := T13.out 3 (by decide)
      have HN := Lib.hid (fun w HP HT hj => HNA.out j tBurst 5 rfl w HP HT hj)
      have e0 : (tBurst.toList == tClass.toList) = false := by kernel_rfl
      have e1 : (tBurst.toList == tRate.toList) = false := by kernel_rfl
      have e2 : (tBurst.toList == tCeil.toList) = false := by kernel_rfl
      have ee : (tBurst.toList == tBurst.toList) = true := by kernel_rfl
      cases h : naP ts j tBurst with
      | bad k2 j2 =>
        have RB : Hid (PR.bad k2 j2 = R) := Lib.hid ((PR.bind_bad h).symm.trans HR.out)
        rw [h] at HN
        go_wp2_with (go_at_call 156; (with_reducible refine (HN.out _ ST TR hj).mono ?_); rintro e w1 ⟨⟨v1, rfl⟩, hj1, s1, f1⟩; have S1 := Lib.hid s1; have F1 := Lib.hid f1; clear s1 f1; have X41 := Lib.hid (X4.out.far F1.out (by omega)); obtain ⟨x0, x1, x2, x3, x4, x5, x6, x7, xf⟩ := box_eights (X41.out))
        rw [← RB.out]
        have q0 := ((((((((X41.out).set 0 (.int .i64 0)).set 1 (.int .i64 0)).set 2 (.int .i64 0)).set 3 (.int .i64 0)).set 4 (.int .i64 0)).set 5 (.int .i64 0)).set 6 (.int .i64 0)).set 7 (.int .i64 0)
        have r0 := q0.cell 0; have r1 := q0.cell 1; have r2 := q0.cell 2; have r3 := q0.cell 3; have r4 := q0.cell 4; have r5 := q0.cell 5; have r6 := q0.cell 6; have r7 := q0.cell 7
        exact bodyPost_ret (v := .tuple #[clsV cls0, .bool false]) (by simp [results, Tryd.results110, go_sem, clsV, cls0, r0, r1, r2, r3, r4, r5, r6, r7]) rfl ⟨⟨_, rfl⟩, hj1, StAt.eightS S1.out (by omega) _ _ _ _ _ _ _ _, Far.eight (FR.out.trans F1.out) hgl _ _ _ _ _ _ _ _⟩
      | ok n j2 =>
        have RB := Lib.hid ((PR.bind_ok h).symm.trans HR.out)
        rw [h] at HN
        unfold intV at HN
        go_wp2_with (go_at_call 156; (with_reducible refine (HN.out _ ST TR hj).mono ?_); rintro e w1 ⟨rfl, hj1, s1, f1⟩; have S1 := Lib.hid s1; have F1 := Lib.hid f1; clear s1 f1; have X61 := Lib.hid (X6.out.far F1.out (by omega)); have x6c : w1.cell? ⟨w.heap.size + 1, 4, none⟩ = some (.int .i64 y.b) := (by rw [X61.out.cell 4]; rfl); have x6f := X61.out.open 4)
        go_roundw
        case rel => exact ⟨4, j2, setF 3 y n, by omega, by go_num, hj1, S1.out.other (by omega) _ _, (FR.out.trans F1.out).new (by omega) hgl _ _, X61.out.set 4 (.int .i64 n), (X4.out.far F1.out (by omega)).other (by omega) _ _, (T13.out.far F1.out (by omega) hz).other (by omega) _ _, by have := F1.out.1.size; simp; omega, RB⟩
        case measure => simp [intOf]
    · have hc : wr.cell? ⟨w.heap.size + 1 + 1, 4, none⟩ = some (.string tCburst) := T13.out 4 (by decide)
      have HN := Lib.hid (fun w HP HT hj => HNA.out j tCburst 6 rfl w HP HT hj)
      have e0 : (tCburst.toList == tClass.toList) = false := by kernel_rfl
      have e1 : (tCburst.toList == tRate.toList) = false := by kernel_rfl
      have e2 : (tCburst.toList == tCeil.toList) = false := by kernel_rfl
      have e3 : (tCburst.toList == tBurst.toList) = false := by kernel_rfl
      have ee : (tCburst.toList == tCburst.toList) = true := by kernel_rfl
      cases h : naP ts j tCburst with
      | bad k2 j2 =>
        have RB : Hid (PR.bad k2 j2 = R) := Lib.hid ((PR.bind_bad h).symm.trans HR.out)
        rw [h] at HN
        go_wp2_with (go_at_call 156; (with_reducible refine (HN.out _ ST TR hj).mono ?_); rintro e w1 ⟨⟨v1, rfl⟩, hj1, s1, f1⟩; have S1 := Lib.hid s1; have F1 := Lib.hid f1; clear s1 f1; have X41 := Lib.hid (X4.out.far F1.out (by omega)); obtain ⟨x0, x1, x2, x3, x4, x5, x6, x7, xf⟩ := box_eights (X41.out))
        rw [← RB.out]
        have q0 := ((((((((X41.out).set 0 (.int .i64 0)).set 1 (.int .i64 0)).set 2 (.int .i64 0)).set 3 (.int .i64 0)).set 4 (.int .i64 0)).set 5 (.int .i64 0)).set 6 (.int .i64 0)).set 7 (.int .i64 0)
        have r0 := q0.cell 0; have r1 := q0.cell 1; have r2 := q0.cell 2; have r3 := q0.cell 3; have r4 := q0.cell 4; have r5 := q0.cell 5; have r6 := q0.cell 6; have r7 := q0.cell 7
        exact bodyPost_ret (v := .tuple #[clsV cls0, .bool false]) (by simp [results, Tryd.results110, go_sem, clsV, cls0, r0, r1, r2, r3, r4, r5, r6, r7]) rfl ⟨⟨_, rfl⟩, hj1, StAt.eightS S1.out (by omega) _ _ _ _ _ _ _ _, Far.eight (FR.out.trans F1.out) hgl _ _ _ _ _ _ _ _⟩
      | ok n j2 =>
        have RB := Lib.hid ((PR.bind_ok h).symm.trans HR.out)
        rw [h] at HN
        unfold intV at HN
        go_wp2_with (go_at_call 156; (with_reducible refine (HN.out _ ST TR hj).mono ?_); rintro e w1 ⟨rfl, hj1, s1, f1⟩; have S1 := Lib.hid s1; have F1 := Lib.hid f1; clear s1 f1; have X61 := Lib.hid (X6.out.far F1.out (by omega)); have x6c : w1.cell? ⟨w.heap.size + 1, 5, none⟩ = some (.int .i64 y.u) := (by rw [X61.out.cell 5]; rfl); have x6f := X61.out.open 5)
        go_roundw
        case rel => exact ⟨5, j2, setF 4 y n, by omega, by go_num, hj1, S1.out.other (by omega) _ _, (FR.out.trans F1.out).new (by omega) hgl _ _, X61.out.set 5 (.int .i64 n), (X4.out.far F1.out (by omega)).other (by omega) _ _, (T13.out.far F1.out (by omega) hz).other (by omega) _ _, by have := F1.out.1.size; simp; omega, RB⟩
        case measure => simp [intOf]
    · have hc : wr.cell? ⟨w.heap.size + 1 + 1, 5, none⟩ = some (.string tPrio) := T13.out 5 (by decide)
      have HN := Lib.hid (fun w HP HT hj => HNA.out j tPrio 7 rfl w HP HT hj)
      have e0 : (tPrio.toList == tClass.toList) = false := by kernel_rfl
      have e1 : (tPrio.toList == tRate.toList) = false := by kernel_rfl
      have e2 : (tPrio.toList == tCeil.toList) = false := by kernel_rfl
      have e3 : (tPrio.toList == tBurst.toList) = false := by kernel_rfl
      have e4 : (tPrio.toList == tCburst.toList) = false := by kernel_rfl
      have ee : (tPrio.toList == tPrio.toList) = true := by kernel_rfl
      cases h : naP ts j tPrio with
      | bad k2 j2 =>
        have RB : Hid (PR.bad k2 j2 = R) := Lib.hid ((PR.bind_bad h).symm.trans HR.out)
        rw [h] at HN
        go_wp2_with (go_at_call 156; (with_reducible refine (HN.out _ ST TR hj).mono ?_); rintro e w1 ⟨⟨v1, rfl⟩, hj1, s1, f1⟩; have S1 := Lib.hid s1; have F1 := Lib.hid f1; clear s1 f1; have X41 := Lib.hid (X4.out.far F1.out (by omega)); obtain ⟨x0, x1, x2, x3, x4, x5, x6, x7, xf⟩ := box_eights (X41.out))
        rw [← RB.out]
        have q0 := ((((((((X41.out).set 0 (.int .i64 0)).set 1 (.int .i64 0)).set 2 (.int .i64 0)).set 3 (.int .i64 0)).set 4 (.int .i64 0)).set 5 (.int .i64 0)).set 6 (.int .i64 0)).set 7 (.int .i64 0)
        have r0 := q0.cell 0; have r1 := q0.cell 1; have r2 := q0.cell 2; have r3 := q0.cell 3; have r4 := q0.cell 4; have r5 := q0.cell 5; have r6 := q0.cell 6; have r7 := q0.cell 7
        exact bodyPost_ret (v := .tuple #[clsV cls0, .bool false]) (by simp [results, Tryd.results110, go_sem, clsV, cls0, r0, r1, r2, r3, r4, r5, r6, r7]) rfl ⟨⟨_, rfl⟩, hj1, StAt.eightS S1.out (by omega) _ _ _ _ _ _ _ _, Far.eight (FR.out.trans F1.out) hgl _ _ _ _ _ _ _ _⟩
      | ok n j2 =>
        have RB := Lib.hid ((PR.bind_ok h).symm.trans HR.out)
        rw [h] at HN
        unfold intV at HN
        go_wp2_with (go_at_call 156; (with_reducible refine (HN.out _ ST TR hj).mono ?_); rintro e w1 ⟨rfl, hj1, s1, f1⟩; have S1 := Lib.hid s1; have F1 := Lib.hid f1; clear s1 f1; have X61 := Lib.hid (X6.out.far F1.out (by omega)); have x6c : w1.cell? ⟨w.heap.size + 1, 6, none⟩ = some (.int .i64 y.o) := (by rw [X61.out.cell 6]; rfl); have x6f := X61.out.open 6)
        go_roundw
        case rel => exact ⟨6, j2, setF 5 y n, by omega, by go_num, hj1, S1.out.other (by omega) _ _, (FR.out.trans F1.out).new (by omega) hgl _ _, X61.out.set 6 (.int .i64 n), (X4.out.far F1.out (by omega)).other (by omega) _ _, (T13.out.far F1.out (by omega) hz).other (by omega) _ _, by have := F1.out.1.size; simp; omega, RB⟩
        case measure => simp [intOf]
    · have RB : Hid (PR.ok y j = R) := HR
      obtain ⟨x0, x1, x2, x3, x4, x5, x6, x7, xf⟩ := box_eights (X4.out)
      obtain ⟨y0, y1, y2, y3, y4, y5, y6, y7, yf⟩ := box_eights (show BoxAt wr (w.heap.size + 1) #[.int .i64 y.i, .int .i64 y.p, .int .i64 y.r, .int .i64 y.e, .int .i64 y.b, .int .i64 y.u, .int .i64 y.o, .int .i64 y.l] 62 from X6.out)
      have hne : w.heap.size + 1 ≠ w.heap.size := by omega
      go_wp2_with fail
      rw [← RB.out]
      have q0 := ((((((((X4.out).set 0 (.int .i64 y.i)).set 1 (.int .i64 y.p)).set 2 (.int .i64 y.r)).set 3 (.int .i64 y.e)).set 4 (.int .i64 y.b)).set 5 (.int .i64 y.u)).set 6 (.int .i64 y.o)).set 7 (.int .i64 y.l)
      have r0 := q0.cell 0; have r1 := q0.cell 1; have r2 := q0.cell 2; have r3 := q0.cell 3; have r4 := q0.cell 4; have r5 := q0.cell 5; have r6 := q0.cell 6; have r7 := q0.cell 7
      exact bodyPost_ret (v := .tuple #[clsV y, .bool true]) (by simp [results, Tryd.results110, go_sem, clsV, r0, r1, r2, r3, r4, r5, r6, r7]) rfl ⟨rfl, hj, StAt.eightS ST.out (by omega) _ _ _ _ _ _ _ _, Far.eight FR.out hgl _ _ _ _ _ _ _ _⟩
end Go.Proofs.YthpejbdbbofaaaaDoor
