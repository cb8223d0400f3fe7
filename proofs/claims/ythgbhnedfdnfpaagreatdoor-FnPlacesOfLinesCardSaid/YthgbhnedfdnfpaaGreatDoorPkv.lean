import Derived.Test.YthgbhnedfdnfpaaGreatDoorPku
import Derived.Deep.CutBlock
/- What a law draws of configurations: the classes of a tree. -/
namespace Go.Proofs.YthgbhnedfdnfpaaGreatDoor
set_option maxRecDepth 100000
open Go.RowKit
set_option linter.unusedVariables false
set_option linter.unusedSimpArgs false

theorem lit_ints (w : World) (B : Nat) (hB : B ≤ w.heap.size) (z : Int) : (w.alloc (.cells #[.int .i64 z] 3)).ownsRow B 3 1 (.slice (some ⟨w.heap.size, 0, none⟩) 1 1) 1 (iv [z]) :=
  World.ownsRow_lit w #[.int .i64 z] 1 hB (by unfold maxLen; omega) rfl
theorem lit_cls (w : World) (B : Nat) (hB : B ≤ w.heap.size) (x : Cls) : (w.alloc (.cells #[.int .i64 x.i, .int .i64 x.p, .int .i64 x.r, .int .i64 x.e, .int .i64 x.b, .int .i64 x.u, .int .i64 x.o, .int .i64 x.l] 41)).ownsRow B 41 8 (.slice (some ⟨w.heap.size, 0, none⟩) 1 1) 1 (clsCs [x]) :=
  World.ownsRow_lit w #[.int .i64 x.i, .int .i64 x.p, .int .i64 x.r, .int .i64 x.e, .int .i64 x.b, .int .i64 x.u, .int .i64 x.o, .int .i64 x.l] 1 hB (by unfold maxLen; omega) rfl
theorem k3_new {w W v1 : World} {a : Option Addr} {n cap t : Nat} (x : Cls) (z z' : Int) (hc : CurAt v1 w.heap.size a n cap t) (hb : Bar w.heap.size W.heap.size W v1) (hw : w.heap.size < W.heap.size) :
    K3 w W a n cap t (.slice (some ⟨v1.heap.size, 0, none⟩) 1 1) (.slice (some ⟨v1.heap.size + 1, 0, none⟩) 1 1) (.slice (some ⟨v1.heap.size + 1 + 1, 0, none⟩) 1 1) [x] [z] [z'] (((v1.alloc (.cells #[.int .i64 x.i, .int .i64 x.p, .int .i64 x.r, .int .i64 x.e, .int .i64 x.b, .int .i64 x.u, .int .i64 x.o, .int .i64 x.l] 41)).alloc (.cells #[.int .i64 z] 3)).alloc (.cells #[.int .i64 z'] 3)) := by
  have hs := hb.size
  have q1 := lit_cls v1 W.heap.size hs x
  have q2 := lit_ints (v1.alloc (.cells #[.int .i64 x.i, .int .i64 x.p, .int .i64 x.r, .int .i64 x.e, .int .i64 x.b, .int .i64 x.u, .int .i64 x.o, .int .i64 x.l] 41)) W.heap.size (by simp; omega) z
  have q3 := lit_ints ((v1.alloc (.cells #[.int .i64 x.i, .int .i64 x.p, .int .i64 x.r, .int .i64 x.e, .int .i64 x.b, .int .i64 x.u, .int .i64 x.o, .int .i64 x.l] 41)).alloc (.cells #[.int .i64 z] 3)) W.heap.size (by simp; omega) z'
  simp only [World.size_alloc] at q2 q3
  refine ⟨((hc.alloc _).alloc _).alloc _, hb.trans (((Bar.of_below (one_new2 _ _)).trans ((Bar.of_below (one_new2 _ _)).mono (by simp only [World.size_alloc]; omega))).trans ((Bar.of_below (one_new2 _ _)).mono (by simp only [World.size_alloc]; omega)) |>.mono hs), World.ownsRow.alloc (World.ownsRow.alloc q1 _) _, World.ownsRow.alloc q2 _, q3, ?_, ?_, ?_⟩
  all_goals
    intro k hk q
    simp [Value.ownBlock] at hk q
    omega
theorem bar_al {c : Nat} {W v1 : World} {x : Obj} (o : OnlyBlock c (W.alloc x) v1) : Bar c W.heap.size W v1 := (Bar.of_below (one_new2 W x)).trans (Bar.of_only o W.heap.size)
theorem len_row {w : World} {B n m z : Nat} {T : TypeId} {v : Value} {xs : List Value} (h : w.ownsRow B T z v n xs) (e : n = m) : w.ownsRow B T z v m xs := e ▸ h
theorem most_ex (a b : Int) (w : World) : Calls Tryz.prog 122 #[.int .i64 a, .int .i64 b] w fun e w' => ∃ q : Int, e = .returned (.int .i64 q) ∧ w' = w := (most_any a b w).mono fun e w' ⟨h, hw⟩ => ⟨_, h, hw⟩
theorem least_ex (a b : Int) (w : World) : Calls Tryz.prog 104 #[.int .i64 a, .int .i64 b] w fun e w' => ∃ q : Int, e = .returned (.int .i64 q) ∧ w' = w := (least_any a b w).mono fun e w' ⟨h, hw⟩ => ⟨_, h, hw⟩
theorem p_snoc {L : List Cls} {y : Cls} (h : ∀ q, q < L.length → (L.getD q cls0).p = 0) (hy : y.p = 0) : ∀ q, q < (L ++ [y]).length → ((L ++ [y]).getD q cls0).p = 0 := fun q hq => by
  rw [List.getD_eq_getElem?_getD]
  by_cases h' : q < L.length
  · rw [List.getElem?_append_left h', ← List.getD_eq_getElem?_getD]; exact h q h'
  · rw [List.length_append, List.length_singleton] at hq
    rw [List.getElem?_append_right (by omega), show q - L.length = 0 by omega]
    exact hy
theorem id_val (M k tu st r : Int) (hM : M ≤ 24) (h0 : 0 ≤ k) (h1 : k < M) (t0 : 0 ≤ tu) (t1 : tu < M) (s0 : 0 ≤ st) (s1 : st < 9) (r0 : 0 ≤ r) (r1 : r < 2) :
    IntKind.i64.wrap (IntKind.i64.wrap (1 + IntKind.i64.wrap ((1 + st) * (IntKind.i64.wrap (k + tu)).tmod M)) + IntKind.i64.wrap ((IntKind.i64.wrap (r * IntKind.i64.wrap (1 + st - 1))).tdiv 2)) = 1 + (1 + st) * ((k + tu) % M) + (r * st) / 2 ∧ 0 ≤ (r * st) / 2 ∧ (r * st) / 2 < 1 + st := by
  have e1 : IntKind.i64.wrap (k + tu) = k + tu := IntWalk.i64_in _ (by omega)
  have e2 : IntKind.i64.wrap (1 + st - 1) = st := by rw [show 1 + st - 1 = st by omega]; exact IntWalk.i64_in _ (by omega)
  have hu0 : 0 ≤ (k + tu) % M := Int.emod_nonneg _ (by omega)
  have hu1 : (k + tu) % M < M := Int.emod_lt_of_pos _ (by omega)
  rw [e1, e2, Int.tmod_eq_emod_of_nonneg (by omega)]
  generalize (k + tu) % M = u at hu0 hu1 ⊢
  have hr : r = 0 ∨ r = 1 := by omega
  have hs : st = 0 ∨ st = 1 ∨ st = 2 ∨ st = 3 ∨ st = 4 ∨ st = 5 ∨ st = 6 ∨ st = 7 ∨ st = 8 := by omega
  rcases hr with rfl | rfl <;> rcases hs with rfl | rfl | rfl | rfl | rfl | rfl | rfl | rfl | rfl
  all_goals
    refine ⟨?_, by omega, by omega⟩
    rw [IntWalk.i64_in (_ * u) (by omega), IntWalk.i64_in (1 + _) (by omega), IntWalk.i64_in (_ * _) (by omega), Int.tdiv_eq_ediv_of_nonneg (by omega), IntWalk.i64_in (_ / 2) (by omega), IntWalk.i64_in _ (by omega)]
theorem least_pos (z : Int) (hz : 1 ≤ z) (w : World) : Calls Tryz.prog 104 #[.int .i64 z, .int .i64 30000] w fun e w' => ∃ q : Int, e = .returned (.int .i64 q) ∧ 1 ≤ q ∧ q ≤ 30000 ∧ w' = w :=
  (least_any z 30000 w).mono fun e w' ⟨h, hw⟩ => ⟨_, h, by split <;> omega, by split <;> omega, hw⟩
def K1Rel (s : Nat) (w W : World) (a : Option Addr) (n cap t m : Nat) (vl vp vd : Value) (wx : World) : Prop :=
  ∃ (L : List Cls) (ps ds : List Int) (t' : Nat), K3 w W a n cap t' vl vp vd L ps ds wx ∧ 1 ≤ L.length ∧ L.length ≤ m ∧ ps.length = L.length ∧ ds.length = L.length ∧ t' + s ≤ t + 2 + 6 * L.length ∧ Hid (PsOk ps) ∧ Hid (∀ q, q < L.length → (L.getD q cls0).p = 0)
def K2Rel (w W : World) (a : Option Addr) (n cap T m g c : Nat) (vp vd : Value) (ps ds : List Int) (step turn : Int) (iv : Value) (wx : World) : Prop :=
  ∃ (k : Nat) (L : List Cls) (t' : Nat), k ≤ m ∧ iv = .int .i64 k ∧ K3 w W a n cap t' (.slice (some ⟨g, 0, none⟩) m c) vp vd L ps ds wx ∧ L.length = m ∧ t' ≤ T + 2 * k ∧ Hid (∀ q, q < k → IdAt m step turn q (L.getD q cls0).i) ∧ Hid (∀ q, q < L.length → (L.getD q cls0).p = 0)
theorem K2Rel.next {m k : Nat} {step turn z : Int} {L : List Cls} (h : ∀ q, q < k → IdAt m step turn q (L.getD q cls0).i) (hk : k < L.length) (hz : IdAt m step turn k z) : ∀ q, q < k + 1 → IdAt m step turn q ((L.set k (updC (L.getD k cls0) 0 z)).getD q cls0).i := fun q hq => by
  rw [set_getD _ _ _ _ hk]
  by_cases hqk : q = k
  · subst hqk; rw [if_pos rfl]; exact hz
  · rw [if_neg hqk]; exact h q (by omega)
theorem upd_p {L : List Cls} {k j : Nat} {z : Int} (h : ∀ q, q < L.length → (L.getD q cls0).p = 0) (hk : k < L.length) (hj : j ≠ 1) : ∀ q, q < (L.set k (updC (L.getD k cls0) j z)).length → ((L.set k (updC (L.getD k cls0) j z)).getD q cls0).p = 0 := fun q hq => by
  rw [List.length_set] at hq
  rw [set_getD _ _ _ _ hk]
  by_cases hqk : q = k
  · rw [if_pos hqk]
    have := h k hk
    unfold updC
    split <;> first | exact this | (exact absurd rfl hj)
  · rw [if_neg hqk]; exact h q hq
def K4Rel (w W : World) (a : Option Addr) (n cap T m g c : Nat) (vp vd : Value) (ps ds : List Int) (I : List Cls) (iv : Value) (wx : World) : Prop :=
  ∃ (k : Nat) (L : List Cls) (t' : Nat), k ≤ m ∧ iv = .int .i64 k ∧ K3 w W a n cap t' (.slice (some ⟨g, 0, none⟩) m c) vp vd L ps ds wx ∧ L.length = m ∧ t' ≤ T + 8 * k ∧ Hid (∀ q, q < m → (L.getD q cls0).i = (I.getD q cls0).i) ∧ Hid (∀ q, q < m → (L.getD q cls0).p ≠ (I.getD (m - 1) cls0).i)
theorem upd_i {L I : List Cls} {m k j : Nat} {z : Int} (h : ∀ q, q < m → (L.getD q cls0).i = (I.getD q cls0).i) (hm : L.length = m) (hk : k < m) (hj : j ≠ 0) : ∀ q, q < m → ((L.set k (updC (L.getD k cls0) j z)).getD q cls0).i = (I.getD q cls0).i := fun q hq => by
  rw [set_getD _ _ _ _ (by omega)]
  by_cases hqk : q = k
  · subst hqk
    rw [if_pos rfl]
    have := h q hk
    unfold updC
    split <;> first | exact this | (exact absurd rfl hj)
  · rw [if_neg hqk]; exact h q hq
theorem upd_np {L : List Cls} {m k j : Nat} {z x : Int} (h : ∀ q, q < m → (L.getD q cls0).p ≠ x) (hm : L.length = m) (hk : k < m) (hj : j = 1 → z ≠ x) : ∀ q, q < m → ((L.set k (updC (L.getD k cls0) j z)).getD q cls0).p ≠ x := fun q hq => by
  rw [set_getD _ _ _ _ (by omega)]
  by_cases hqk : q = k
  · subst hqk
    rw [if_pos rfl]
    have := h q hk
    unfold updC
    split <;> first | exact this | exact hj rfl
  · rw [if_neg hqk]; exact h q hq
theorem k4_start {m : Nat} {step turn : Int} {L : List Cls} (hm : L.length = m) (h1 : 1 ≤ m) (hs : 1 ≤ step) (h : ∀ q, q < m → IdAt m step turn q (L.getD q cls0).i) (hp : ∀ q, q < L.length → (L.getD q cls0).p = 0) : ∀ q, q < m → (L.getD q cls0).p ≠ (L.getD (m - 1) cls0).i := fun q hq => by
  rw [hp q (by omega)]
  have := id_pos (h (m - 1) (by omega)) (by omega) hs
  omega
theorem k4_par {m k p : Nat} {step turn : Int} {L : List Cls} (hk : k < m) (hp : p < k) (hs : 1 ≤ step) (t0 : 0 ≤ turn) (t1 : turn < m) (h : ∀ q, q < m → IdAt m step turn q (L.getD q cls0).i) : (L.getD p cls0).i ≠ (L.getD (m - 1) cls0).i :=
  id_apart (h p (by omega)) (h (m - 1) (by omega)) hs t0 t1 (by omega) (by omega) (by omega)
def DrKls (w W : World) (a : Option Addr) (n cap : Nat) (zs : List Int) (t m : Nat) (e : Ending) (w' : World) : Prop :=
  ∃ (v : Value) (L : List Cls) (t' : Nat), e = .returned v ∧ 1 ≤ L.length ∧ L.length ≤ m ∧ HasLf L ∧ t' ≤ t + 500 ∧ Dr w w' a n cap zs t' ∧ Bar w.heap.size W.heap.size W w' ∧ w'.ownsRow W.heap.size 41 8 v L.length (clsCs L)
set_option maxHeartbeats 6400000 in
theorem dr_classes {w W : World} {a : Option Addr} {n cap t : Nat} {zs : List Int} (m : Nat) (deep : Bool) (hm : 1 ≤ m) (hm2 : m ≤ 24) (HD : Hid (Dr w W a n cap zs t)) (HL : Hid (zs.length = n)) (hn : n ≤ 9223372036854775807) (ht : t ≤ 900000) :
    Calls Tryz.prog 103 #[.pointer (some ⟨w.heap.size, 0, none⟩), .int .i64 (m : Int), .bool deep] W (DrKls w W a n cap zs t m) := by
  obtain ⟨i0, hi, hz0, hz1, hz2⟩ := info_parts infoI
  obtain ⟨j0, hj, hw0, hw1, hw2⟩ := info_parts infoCls
  have hw : w.heap.size < W.heap.size := HD.out.cur.lt
  go_enter Tryz.func103, Tryz.ntmps103
  go_upto_block 0 with (go_at_call 75; (with_reducible refine (dr_among (m := 4) (t := t) (zs := zs) (ints_of W _ _ 4 (by decide)) (by omega) (by omega) HD HL hn (by omega)).mono ?_); rintro e v1 ⟨r, t1, rfl, _, ht1, d, o⟩; have K0 := Lib.hid (k3_new (w := w) (W := W) ⟨0, 0, r, 0, 0, 0, 0, 0⟩ (-1) 1 d.cur (bar_al o) hw); clear d o)
  go_cut [7, 8, 9] from 10 to 97 (fun vl vp vd wx => K1Rel 0 w W a n cap t m vl vp vd wx)
  case first =>
    --<S
    go_wp2_with fail
    go_loopw [7, 8, 9] (fun vl vp vd wr => K1Rel 6 w W a n cap t m vl vp vd wr) (fun vl _ _ _ => m - sLen vl)
    case atStart => exact ⟨_, _, _, t1, K0.out, by simp, by simp; omega, rfl, rfl, by simp; omega, Lib.hid (fun q hq => by simp at hq; subst hq; simp), Lib.hid (fun q hq => by simp at hq; subst hq; rfl)⟩
    case round =>
      obtain ⟨L, ps, ds, t', hk, hl1, hlm, hp, hd, ht', HP, HZ⟩ := hrel
      have K := Lib.hid hk
      have HPL := Lib.hid hp
      have HDL := Lib.hid hd
      obtain ⟨gl, cl, rfl, hgl, hgl2⟩ := own_pos hk.l (by omega)
      obtain ⟨gp, cp, rfl, hgp, hgp2⟩ := own_pos (len_row hk.p hp) (show 0 < L.length from hl1)
      obtain ⟨gd, cd, rfl, hgd, hgd2⟩ := own_pos (len_row hk.d hd) (show 0 < L.length from hl1)
      have D := Lib.hid (hk.dr HD.out)
      clear hk K0
      by_cases hlt : L.length < m
      · have hlt' : (L.length : Int) < m := by omega
        go_wp2_with (go_at_call 73; (with_reducible refine (dr_pick1 (L.length : Int) (by omega) (by omega) D HL hn (by omega)).mono ?_); rintro e v2 ⟨r2, t2, rfl, ⟨r20, r21⟩, ht2, d2, o2⟩; have K2 := Lib.hid (K.out.only hw d2.cur o2); clear d2 o2; refine Hid.out ?_)
        refine Lib.hid ?_
        obtain ⟨k, rfl⟩ := Int.eq_ofNat_of_zero_le r20
        have hk1 : k < L.length := by omega
        go_upto_if 34 with fail
        go_cut [10] from 26 to 97 (fun kv wx => (∃ j : Nat, kv = .int .i64 j ∧ j < L.length) ∧ wx = v2)
        case first =>
          cases deep
          · go_wp2_with fail
            go_meet
            exact ⟨⟨k, rfl, hk1⟩, rfl⟩
          · go_wp2_with fail
            go_meet
            exact ⟨⟨L.length - 1, by go_num, by omega⟩, rfl⟩
        case rest =>
        obtain ⟨⟨k', rfl, hk2⟩, rfl⟩ := hcut
        have dz := own_intAt (len_row K2.out.d HDL.out) k' (HDL.out ▸ hk2)
        generalize ds.getD k' 0 = z0 at dz
        go_upto_if 42 with fail
        go_cut [10] from 26 to 97 (fun kv wx => (∃ j : Nat, kv = .int .i64 j ∧ j < L.length) ∧ wx = wc)
        case first =>
          rcases Bool.eq_false_or_eq_true (z0 == 8) with e8 | e8
          · go_wp2_with fail
            go_meet
            exact ⟨⟨0, by go_num, by omega⟩, rfl⟩
          · go_wp2_with fail
            go_meet
            exact ⟨⟨k', rfl, hk2⟩, rfl⟩
        case rest =>
        obtain ⟨⟨j, rfl, hj1⟩, rfl⟩ := hcut
        clear dz hk1 hk2
        obtain ⟨x0, x1, x2, x3, x4, x5, x6, x7⟩ := own_eight K2.out.l j hj1
        generalize (L.getD j cls0).r = rj at x2
        clear x0 x1 x3 x4 x5 x6 x7
        go_wp2_with fail
        go_loop [11, 50] (fun sv iv => ∃ (q : Nat) (z : Int), q ≤ L.length ∧ sv = .int .i64 z ∧ iv = .int .i64 q) (fun _ iv => L.length - (intOf iv).toNat)
        case atStart => exact ⟨0, _, Nat.zero_le _, rfl, rfl⟩
        case round =>
          obtain ⟨q, z, hq, rfl, rfl⟩ := hrel
          by_cases hql : q < L.length
          · have pz := own_intAt (len_row K2.out.p HPL.out) q (HPL.out ▸ hql)
            obtain ⟨y0, y1, y2, y3, y4, y5, y6, y7⟩ := own_eight K2.out.l q hql
            generalize ps.getD q 0 = pq at pz
            generalize (L.getD q cls0).r = rq at y2
            clear y0 y1 y3 y4 y5 y6 y7 x2
            have hqi : (q : Int) < L.length := by omega
            rcases Bool.eq_false_or_eq_true (pq == (j : Int)) with e8 | e8
            · go_wp2_with fail
              go_round
              case rel => exact ⟨q + 1, _, by omega, rfl, by go_num⟩
              case measure => simp [intOf]; omega
            · go_wp2_with fail
              go_round
              case rel => exact ⟨q + 1, _, by omega, rfl, by go_num⟩
              case measure => simp [intOf]; omega
          · clear x2
            have hqi : ¬ (q : Int) < L.length := by omega
            rcases Int.lt_or_le z 1 with hz | hz
            · have dzz := is_lt hz
              go_wp2_with fail
              go_meet
              exact ⟨L, ps, ds, t2, K2.out, hl1, hlm, HPL.out, HDL.out, by omega, HP, HZ⟩
            · have dzz := not_lt hz
              have D2 := Lib.hid (K2.out.dr HD.out)
              go_upto_region 19 with (first | (go_at_call 104; (with_reducible refine (least_pos z hz _).mono ?_); rintro e v3 ⟨lq, rfl, lq1, lq2, rfl⟩) | (go_at_call 73; (with_reducible refine (dr_pick1 lq lq1 (by omega) D2 HL hn (by omega)).mono ?_); rintro e v4 ⟨r4, t4, rfl, _, ht4, d4, o4⟩; have K4 := Lib.hid (K2.out.only hw d4.cur o4); clear d4 o4))
              clear D2
              go_cut [77] from 26 to 97 (fun bv wx => ∃ (b : Bool) (t5 : Nat), bv = .bool b ∧ t5 ≤ t4 + 2 ∧ K3 w W a n cap t5 (.slice (some ⟨gl, 0, none⟩) L.length cl) (.slice (some ⟨gp, 0, none⟩) L.length cp) (.slice (some ⟨gd, 0, none⟩) L.length cd) L ps ds wx)
              case first =>
                have D4 := Lib.hid (K4.out.dr HD.out)
                cases deep
                · go_wp2_with (go_at_call 77; (with_reducible refine (dr_one 3 (by omega) (by omega) D4 HL hn (by omega)).mono ?_); rintro e v5 ⟨r5, t5, rfl, ht5, d5, o5⟩; have K5 := Lib.hid (K4.out.only hw d5.cur o5); clear d5 o5)
                  go_meet
                  exact ⟨_, t5, rfl, by omega, K5.out⟩
                · go_wp2_with fail
                  go_meet
                  exact ⟨_, t4, rfl, by omega, K4.out⟩
              case rest =>
              obtain ⟨b, t5, rfl, ht5, hk5⟩ := hcut
              have K5 := Lib.hid hk5
              clear hk5 K4
              go_upto_if 77 with fail
              go_cut [14] from 26 to 97 (fun rv wx => (∃ zr : Int, rv = .int .i64 zr) ∧ wx = wc)
              case first =>
                cases b
                · go_wp2_with fail
                  go_meet
                  exact ⟨⟨_, rfl⟩, rfl⟩
                · go_wp2_with (go_at_call 122; (with_reducible refine (most_ex _ _ _).mono ?_); rintro e v6 ⟨zq, rfl, rfl⟩)
                  go_meet
                  exact ⟨⟨_, rfl⟩, rfl⟩
              case rest =>
              obtain ⟨⟨zr, rfl⟩, rfl⟩ := hcut
              have KA := Lib.hid (K5.out.on (one_new2 wc (.cells #[.int .i64 0, .int .i64 0, .int .i64 zr, .int .i64 0, .int .i64 0, .int .i64 0, .int .i64 0, .int .i64 0] 41)))
              go_upto_region 22 with (at_builtin; refine wpList_append_own_at _ rfl _ _ 23 rfl W.heap.size 41 j0 (.agg #[.int .i64 0, .int .i64 0, .int .i64 0, .int .i64 0, .int .i64 0, .int .i64 0, .int .i64 0, .int .i64 0]) 8 64 Tryz.underlying23 hj hw0 hw1 hw2 rfl (by decide) (.slice (some ⟨gl, 0, none⟩) L.length cl) L.length (clsCs L) (by rfl) KA.out.l ⟨wc.heap.size, 0, none⟩ 1 1 (clsC ⟨0, 0, zr, 0, 0, 0, 0, 0⟩) (by rfl) rfl (eight_cells wc ⟨0, 0, zr, 0, 0, 0, 0, 0⟩ _) (clsC_one _) (by unfold maxLen; omega) (by omega) KA.out.bar.size ?_; intro vl' w5 hown hgrow _ hat; have KB := Lib.hid (KA.out.appL hw ⟨0, 0, zr, 0, 0, 0, 0, 0⟩ hgrow hown hat); clear hown hgrow hat)
              have hsA := KB.out.bar.size
              have KC := Lib.hid (KB.out.on (one_new2 w5 (.cells #[.int .i64 (j : Int)] 3)))
              go_upto_region 23 with (at_builtin; refine wpList_append_own_at _ rfl _ _ 33 rfl W.heap.size 3 i0 (.int .i64 0) 1 8 Tryz.underlying33 hi hz0 hz1 hz2 rfl (by decide) (.slice (some ⟨gp, 0, none⟩) L.length cp) L.length (iv ps) (by rfl) (len_row KC.out.p HPL.out) ⟨w5.heap.size, 0, none⟩ 1 1 [.int .i64 (j : Int)] (by rfl) rfl (one_int w5 _ _) (by intro u hu; simp at hu; subst hu; rfl) (by unfold maxLen; omega) (by omega) KC.out.bar.size ?_; intro vp' w6 hown hgrow _ hat; have KD := Lib.hid (KC.out.appP hw (j : Int) hgrow (len_row hown (by rw [HPL.out])) hat); clear hown hgrow hat)
              have hsB := KD.out.bar.size
              have dj := own_intAt (len_row KD.out.d HDL.out) j (HDL.out ▸ hj1)
              generalize ds.getD j 0 = zj at dj
              have KE : Hid (∀ o, K3 w W a n cap t5 vl' vp' (.slice (some ⟨gd, 0, none⟩) L.length cd) (L ++ [⟨0, 0, zr, 0, 0, 0, 0, 0⟩]) (ps ++ [(j : Int)]) ds (w6.alloc o)) := Lib.hid (fun o => KD.out.on (one_new2 w6 o))
              go_wp2_with (at_builtin; refine wpList_append_own_at _ rfl _ _ 33 rfl W.heap.size 3 i0 (.int .i64 0) 1 8 Tryz.underlying33 hi hz0 hz1 hz2 rfl (by decide) (.slice (some ⟨gd, 0, none⟩) L.length cd) L.length (iv ds) (by rfl) (len_row (KE.out (.cells #[.int .i64 (wrap64 (zj + 1))] 3)).d HDL.out) ⟨w6.heap.size, 0, none⟩ 1 1 [.int .i64 (wrap64 (zj + 1))] (by rfl) rfl (one_int w6 (.int .i64 (wrap64 (zj + 1))) 3) (by intro u hu; simp at hu; subst hu; rfl) (by unfold maxLen; omega) (by omega) (KE.out (.cells #[.int .i64 (wrap64 (zj + 1))] 3)).bar.size ?_; intro vd' w7 hown hgrow _ hat; have KF := Lib.hid ((KE.out (.cells #[.int .i64 (wrap64 (zj + 1))] 3)).appD hw (wrap64 (zj + 1)) hgrow (len_row hown (by rw [HDL.out])) hat); clear hown hgrow hat)
              go_roundw
              case rel => exact ⟨_, _, _, t5, KF.out, by simp, by simp; omega, by simp [HPL.out], by simp [HDL.out], by simp; omega, Lib.hid (HP.out.snoc _ (by omega) (by rw [HPL.out]; omega)), Lib.hid (p_snoc HZ.out rfl)⟩
              case measure =>
                obtain ⟨g', c', e', _⟩ := own_pos KF.out.l (by simp)
                rw [e']
                simp [sLen]
                omega
      · have hlt' : ¬ (L.length : Int) < m := by omega
        go_wp2_with fail
        go_meet
        exact ⟨L, ps, ds, t', K.out, hl1, hlm, HPL.out, HDL.out, by omega, HP, HZ⟩
    --S>
  case rest =>
  obtain ⟨L, ps, ds, t', hk, hl1, hlm, hp, hd, ht', HP, HZ⟩ := hcut
  obtain ⟨gl, cl, rfl, hgl, hgl2⟩ := own_pos hk.l hl1
  obtain ⟨gp, cp, rfl, hgp, hgp2⟩ := own_pos (len_row hk.p hp) (show 0 < L.length from hl1)
  obtain ⟨gd, cd, rfl, hgd, hgd2⟩ := own_pos (len_row hk.d hd) (show 0 < L.length from hl1)
  have K := Lib.hid hk
  have HPL := Lib.hid hp
  have D := Lib.hid (hk.dr HD.out)
  clear hk K0 hd hp
  go_upto_region 25 with (first | (go_at_call 73; (with_reducible refine (dr_pick1 (L.length : Int) (by omega) (by omega) D HL hn (by omega)).mono ?_); rintro e v2 ⟨tu, t2, rfl, ⟨r20, r21⟩, ht2, d2, o2⟩; have D2 := Lib.hid d2; have K2 := Lib.hid (K.out.only hw d2.cur o2); clear d2 o2) | (go_at_call 73; (with_reducible refine (dr_pick1 9 (by omega) (by omega) D2 HL hn (by omega)).mono ?_); rintro e v3 ⟨st, t3, rfl, ⟨r30, r31⟩, ht3, d3, o3⟩; have D3 := Lib.hid d3; have KX := Lib.hid (K2.out.only hw d3.cur o3); clear d3 o3))
  have hst1 : 1 ≤ 1 + st := by omega
  go_wp2_with fail
  go_loopw [107] (fun iv wr => K2Rel w W a n cap t3 L.length gl cl (.slice (some ⟨gp, 0, none⟩) L.length cp) (.slice (some ⟨gd, 0, none⟩) L.length cd) ps ds (1 + st) tu iv wr) (fun iv _ => L.length - (intOf iv).toNat)
  case atStart => exact ⟨0, L, t3, Nat.zero_le _, rfl, KX.out, rfl, by omega, Lib.hid (fun q hq => absurd hq (by omega)), HZ⟩
  case round =>
    obtain ⟨k, L', t4, hk, rfl, hk4, hl4, ht4, HI, HZ'⟩ := hrel
    have K4 := Lib.hid hk4
    have D4 := Lib.hid (hk4.dr HD.out)
    clear hk4
    by_cases hlt : k < L.length
    · have hki : (k : Int) < L.length := by omega
      have hne : ¬ L = [] := fun e => by rw [e] at hl1; simp at hl1
      have hne2 : ((L.length : Int) == 0) = false := by simp; exact hne
      have K4d : Hid (K3 w W a n cap t4 (.slice (some ⟨gl, 0, none⟩) L.length cl) (.slice (some ⟨gp, 0, none⟩) L.length cp) (.slice (some ⟨gd, 0, none⟩) L.length cd) L' ps ds wr.drew) := Lib.hid (K4.out.on (below_drewN (Below.refl _ _) 1))
      have D4d := Lib.hid (K4d.out.dr HD.out)
      have hk4 : k < L'.length := by omega
      have HL4 := Lib.hid hl4
      go_upto_block 5 with fail
      go_cut [17] from 108 to 130 (fun xv wx => xv = .int .i64 k ∧ ∃ (z : Int) (t5 : Nat), IdAt L.length (1 + st) tu k z ∧ t5 ≤ t4 + 2 ∧ K3 w W a n cap t5 (.slice (some ⟨gl, 0, none⟩) L.length cl) (.slice (some ⟨gp, 0, none⟩) L.length cp) (.slice (some ⟨gd, 0, none⟩) L.length cd) (L'.set k (updC (L'.getD k cls0) 0 z)) ps ds wx)
      case first =>
        go_upto_region 28 with fail
        go_region_with (go_at_call 73; (with_reducible refine (dr_pick1 2 (by omega) (by omega) D4d HL hn (by omega)).mono ?_); rintro e v5 ⟨r5, t5, rfl, ⟨r50, r51⟩, ht5, d5, o5⟩; have K5 := Lib.hid (K4d.out.only hw d5.cur o5); clear d5 o5; have fz5 := World.ownsRow.frozenAt (len_row K5.out.l HL4.out) (k * 8); obtain ⟨x0, x1, x2, x3, x4, x5, x6, x7⟩ := own_eight (len_row K5.out.l HL4.out) k hk4; clear x1 x2 x3 x4 x5 x6 x7)
        all_goals
          go_wp2_with fail
          go_meet
          obtain ⟨q1, q2, q3⟩ := id_val L.length k tu st r5 (by omega) (by omega) (by omega) r20 r21 r30 r31 r50 r51
          exact ⟨rfl, _, t5, ⟨_, q2, q3, q1⟩, ht5, K5.out.upd HL4.out hw k 0 _ hk4 (by decide)⟩
      case rest =>
      obtain ⟨rfl, z, t5, hz, ht5, hk5⟩ := hcut
      have K5 := Lib.hid hk5
      clear hk5
      go_wp2_with fail
      go_roundw
      case rel => exact ⟨k + 1, _, t5, by omega, by go_num, K5.out, by rw [List.length_set]; exact HL4.out, by omega, Lib.hid (K2Rel.next HI.out hk4 hz), Lib.hid (upd_p HZ'.out hk4 (by decide))⟩
      case measure => simp [intOf]; omega
    · have hki : ¬ (k : Int) < L.length := by omega
      obtain rfl : k = L.length := by omega
      have HST := Lib.hid (k4_start hl4 hl1 hst1 HI.out HZ'.out)
      go_wp2_with fail
      go_loopw [133] (fun iv wr => K4Rel w W a n cap t4 L.length gl cl (.slice (some ⟨gp, 0, none⟩) L.length cp) (.slice (some ⟨gd, 0, none⟩) L.length cd) ps ds L' iv wr) (fun iv _ => L.length - (intOf iv).toNat)
      case atStart => exact ⟨0, L', t4, Nat.zero_le _, rfl, K4.out, hl4, by omega, Lib.hid (fun q hq => rfl), HST⟩
      case round =>
        obtain ⟨k, L2, t5, hk, rfl, hk5, hl5, ht5, HE, HN⟩ := hrel
        have K5 := Lib.hid hk5
        have HL5 := Lib.hid hl5
        clear hk5 HST K4
        by_cases hlt : k < L.length
        · have hki : (k : Int) < L.length := by omega
          have pk := own_intAt (len_row K5.out.p HPL.out) k (by rw [HPL.out]; exact hlt)
          have hps := HP.out k (by rw [HPL.out]; exact hlt)
          generalize ps.getD k 0 = pv at pk hps
          go_upto_if 140 with fail
          go_cut [18] from 134 to 187 (fun xv wx => xv = .int .i64 k ∧ ∃ L3 : List Cls, L3.length = L.length ∧ K3 w W a n cap t5 (.slice (some ⟨gl, 0, none⟩) L.length cl) (.slice (some ⟨gp, 0, none⟩) L.length cp) (.slice (some ⟨gd, 0, none⟩) L.length cd) L3 ps ds wx ∧ (∀ q, q < L.length → (L3.getD q cls0).i = (L'.getD q cls0).i) ∧ (∀ q, q < L.length → (L3.getD q cls0).p ≠ (L'.getD (L.length - 1) cls0).i))
          case first =>
            rcases Int.lt_or_le pv 0 with hp0 | hp0
            · have dp := not_le hp0
              go_wp2_with fail
              go_meet
              exact ⟨rfl, L2, HL5.out, K5.out, HE.out, HN.out⟩
            · have dp := is_le hp0
              obtain ⟨pn, rfl⟩ := Int.eq_ofNat_of_zero_le hp0
              obtain ⟨x0, x1, x2, x3, x4, x5, x6, x7⟩ := own_eight (len_row K5.out.l HL5.out) pn (by omega)
              obtain ⟨y0, y1, y2, y3, y4, y5, y6, y7⟩ := own_eight (len_row K5.out.l HL5.out) k (by omega)
              have fz := World.ownsRow.frozenAt (len_row K5.out.l HL5.out) (k * 8 + 1)
              have hpe := HE.out pn (by omega)
              rw [hpe] at x0
              clear x1 x2 x3 x4 x5 x6 x7 y0 y2 y3 y4 y5 y6 y7 hpe
              go_wp2_with fail
              go_meet
              exact ⟨rfl, _, by rw [List.length_set]; exact HL5.out, K5.out.upd HL5.out hw k 1 _ (by omega) (by decide), upd_i HE.out HL5.out hlt (by decide), upd_np HN.out HL5.out hlt (fun _ => k4_par hlt (by omega) hst1 r20 r21 HI.out)⟩
          case rest =>
          obtain ⟨rfl, L3, hl3, hk3, he3, hn3⟩ := hcut
          have KK := Lib.hid hk3
          have HE3 := Lib.hid he3
          have HN3 := Lib.hid hn3
          have HL3 := Lib.hid hl3
          clear hk3 he3 hn3 K5 HE HN
          have KKa : Hid (∀ o, K3 w W a n cap t5 (.slice (some ⟨gl, 0, none⟩) L.length cl) (.slice (some ⟨gp, 0, none⟩) L.length cp) (.slice (some ⟨gd, 0, none⟩) L.length cd) L3 ps ds (wc.alloc o).drew) := Lib.hid (fun o => (KK.out.on (one_new2 wc o)).on (below_drewN (Below.refl _ _) 1))
          have DKa := Lib.hid (fun o => (Lib.hid ((KKa.out o).dr HD.out)))
          have hsz := KK.out.bar.size
          obtain ⟨_, _, x2, x3, _, _, _, _⟩ := own_eight (len_row KK.out.l HL3.out) k (by omega)
          have x2a := fun o => (bcell (one_new2 wc o)).1 gl (k * 8 + 2) (World.ownsRow.lt KK.out.l gl rfl).2
          simp only [x2] at x2a
          clear x3
          go_upto_region 35 with fail
          go_cut [18] from 134 to 187 (fun xv wx => xv = .int .i64 k ∧ ∃ (L4 : List Cls) (t6 : Nat), L4.length = L.length ∧ t6 ≤ t5 + 2 ∧ K3 w W a n cap t6 (.slice (some ⟨gl, 0, none⟩) L.length cl) (.slice (some ⟨gp, 0, none⟩) L.length cp) (.slice (some ⟨gd, 0, none⟩) L.length cd) L4 ps ds wx ∧ (∀ q, q < L.length → (L4.getD q cls0).i = (L'.getD q cls0).i) ∧ (∀ q, q < L.length → (L4.getD q cls0).p ≠ (L'.getD (L.length - 1) cls0).i))
          case first =>
            go_region_with (first | (go_at_call 75; (with_reducible refine (dr_amongA (m := 5) (t := t5) (zs := zs) (Lib.hid (ints_drew (by decide))) (by omega) (by omega) (by omega) (DKa.out _) HL hn (by omega)).mono ?_); rintro e v6 ⟨r6, t6, rfl, _, ht6, d6, o6⟩; have K6 := Lib.hid ((KKa.out _).only hw d6.cur o6); clear d6 o6; obtain ⟨_, _, z2, z3, _, _, _, _⟩ := own_eight (len_row K6.out.l HL3.out) k (by omega); have fz := World.ownsRow.frozenAt (len_row K6.out.l HL3.out) (k * 8 + 3)) | (go_at_call 104; (with_reducible refine (least_ex _ _ _).mono ?_); rintro e v7 ⟨q7, rfl, rfl⟩))
            all_goals
              go_wp2_with fail
              go_meet
              exact ⟨rfl, _, t6, by rw [List.length_set]; exact HL3.out, ht6, K6.out.upd HL3.out hw k 3 _ (by omega) (by decide), upd_i HE3.out HL3.out hlt (by decide), upd_np HN3.out HL3.out hlt (fun e => by cases e)⟩
          case rest =>
          clear x2 x2a KKa DKa KK HE3 HN3 HL3
          obtain ⟨rfl, L3, t6, hl3, ht6, hk3, he3, hn3⟩ := hcut
          have KK := Lib.hid hk3
          have DK := Lib.hid (hk3.dr HD.out)
          have HE3 := Lib.hid he3
          have HN3 := Lib.hid hn3
          have HL3 := Lib.hid hl3
          have hk4 : k < L3.length := by omega
          clear hk3 he3 hn3
          go_upto_region 36 with fail
          go_cut [18] from 134 to 187 (fun xv wx => xv = .int .i64 k ∧ ∃ (L4 : List Cls) (t6 : Nat), L4.length = L.length ∧ t6 ≤ t5 + 4 ∧ K3 w W a n cap t6 (.slice (some ⟨gl, 0, none⟩) L.length cl) (.slice (some ⟨gp, 0, none⟩) L.length cp) (.slice (some ⟨gd, 0, none⟩) L.length cd) L4 ps ds wx ∧ (∀ q, q < L.length → (L4.getD q cls0).i = (L'.getD q cls0).i) ∧ (∀ q, q < L.length → (L4.getD q cls0).p ≠ (L'.getD (L.length - 1) cls0).i))
          case first =>
            go_wp2_with (go_at_call 75; (with_reducible refine (dr_among (m := 4) (t := t6) (zs := zs) (ints_of wc _ _ 4 (by decide)) (by omega) (by omega) DK HL hn (by omega)).mono ?_); rintro e v7 ⟨r7, t7, rfl, _, ht7, d7, o7⟩; have K7 := Lib.hid ((KK.out.on (one_new2 wc _)).only hw d7.cur o7); clear d7 o7; obtain ⟨z0, z1, z2, z3, z4, z5, z6, z7⟩ := own_eight (len_row K7.out.l HL3.out) k hk4; have fz := World.ownsRow.frozenAt (len_row K7.out.l HL3.out) (k * 8 + 4))
            go_meet
            exact ⟨rfl, _, t7, by rw [List.length_set]; exact HL3.out, by omega, K7.out.upd HL3.out hw k 4 _ hk4 (by decide), upd_i HE3.out HL3.out hlt (by decide), upd_np HN3.out HL3.out hlt (fun e => by cases e)⟩
          case rest =>
          clear KK HE3 HN3 HL3 DK ht6 hk4 hl3
          obtain ⟨rfl, L3, t6, hl3, ht6, hk3, he3, hn3⟩ := hcut
          have KK := Lib.hid hk3
          have DK := Lib.hid (hk3.dr HD.out)
          have HE3 := Lib.hid he3
          have HN3 := Lib.hid hn3
          have HL3 := Lib.hid hl3
          have hk4 : k < L3.length := by omega
          clear hk3 he3 hn3
          go_upto_region 37 with fail
          go_cut [18] from 134 to 187 (fun xv wx => xv = .int .i64 k ∧ ∃ (L4 : List Cls) (t6 : Nat), L4.length = L.length ∧ t6 ≤ t5 + 6 ∧ K3 w W a n cap t6 (.slice (some ⟨gl, 0, none⟩) L.length cl) (.slice (some ⟨gp, 0, none⟩) L.length cp) (.slice (some ⟨gd, 0, none⟩) L.length cd) L4 ps ds wx ∧ (∀ q, q < L.length → (L4.getD q cls0).i = (L'.getD q cls0).i) ∧ (∀ q, q < L.length → (L4.getD q cls0).p ≠ (L'.getD (L.length - 1) cls0).i))
          case first =>
            go_wp2_with (go_at_call 75; (with_reducible refine (dr_among (m := 4) (t := t6) (zs := zs) (ints_of wc _ _ 4 (by decide)) (by omega) (by omega) DK HL hn (by omega)).mono ?_); rintro e v7 ⟨r7, t7, rfl, _, ht7, d7, o7⟩; have K7 := Lib.hid ((KK.out.on (one_new2 wc _)).only hw d7.cur o7); clear d7 o7; obtain ⟨z0, z1, z2, z3, z4, z5, z6, z7⟩ := own_eight (len_row K7.out.l HL3.out) k hk4; have fz := World.ownsRow.frozenAt (len_row K7.out.l HL3.out) (k * 8 + 5))
            go_meet
            exact ⟨rfl, _, t7, by rw [List.length_set]; exact HL3.out, by omega, K7.out.upd HL3.out hw k 5 _ hk4 (by decide), upd_i HE3.out HL3.out hlt (by decide), upd_np HN3.out HL3.out hlt (fun e => by cases e)⟩
          case rest =>
          clear KK HE3 HN3 HL3 DK ht6 hk4 hl3
          obtain ⟨rfl, L3, t6, hl3, ht6, hk3, he3, hn3⟩ := hcut
          have KK := Lib.hid hk3
          have DK := Lib.hid (hk3.dr HD.out)
          have HE3 := Lib.hid he3
          have HN3 := Lib.hid hn3
          have HL3 := Lib.hid hl3
          have hk4 : k < L3.length := by omega
          clear hk3 he3 hn3
          go_wp2_with (go_at_call 73; (with_reducible refine (dr_pick1 8 (by omega) (by omega) DK HL hn (by omega)).mono ?_); rintro e v7 ⟨r7, t7, rfl, _, ht7, d7, o7⟩; have K7 := Lib.hid (KK.out.only hw d7.cur o7); clear d7 o7; obtain ⟨z0, z1, z2, z3, z4, z5, z6, z7⟩ := own_eight (len_row K7.out.l HL3.out) k hk4; have fz := World.ownsRow.frozenAt (len_row K7.out.l HL3.out) (k * 8 + 6))
          go_roundw
          case rel => exact ⟨k + 1, _, t7, by omega, by go_num, K7.out.upd HL3.out hw k 6 _ hk4 (by decide), by rw [List.length_set]; exact HL3.out, by omega, Lib.hid (upd_i HE3.out HL3.out hlt (by decide)), Lib.hid (upd_np HN3.out HL3.out hlt (fun e => by cases e))⟩
          case measure => simp [intOf]; omega
        · have hki : ¬ (k : Int) < L.length := by omega
          go_wp2_with fail
          go_ret
          have hlen := HL5.out
          refine ⟨_, L2, t5, by rw [← hlen], by omega, by omega, ⟨L2.length - 1, by omega, fun q hq => ?_⟩, by omega, K5.out.dr HD.out, K5.out.bar, ?_⟩
          · rw [HE.out _ (by omega), hlen]
            exact HN.out q (by omega)
          · rw [hlen]
            exact len_row K5.out.l hlen
end Go.Proofs.YthgbhnedfdnfpaaGreatDoor
