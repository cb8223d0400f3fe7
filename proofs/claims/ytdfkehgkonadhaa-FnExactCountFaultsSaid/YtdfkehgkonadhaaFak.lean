/- CountFaults: contracts of both sides; marks in lists of faults. -/
import Derived.Test.YtdfkehgkonadhaaFal
import Derived.Test.YtdfkehgkonadhaaOni
namespace Go.Proofs.Ytdfkehgkonadhaa
open Go.RowKit
set_option linter.unusedVariables false
set_option linter.unusedSimpArgs false

/-- how many faults of a kind -/
def cF (l : List Fa) (j : Nat) : Nat := (l.filter (fun x => x.k == (j : Int) + 1)).length
def ctL (l : List Fa) : List Nat := (List.range 7).map (cF l)
theorem ctL_length (l : List Fa) : (ctL l).length = 7 := by simp [ctL]
theorem cF_le (l : List Fa) (j : Nat) : cF l j ≤ l.length := List.length_filter_le _ _
theorem ctL_at (l : List Fa) (j : Nat) (h : j < 7) : (ctL l).getD j 0 = cF l j := by simp [ctL, h]
theorem ctL_nil : ctL [] = [0, 0, 0, 0, 0, 0, 0] := rfl
theorem ctL_more (l : List Fa) (k : Nat) (h : k < l.length) (x : Fa) (hx : l.getD k fa0 = x) (j : Nat) (hj : j < 7) (ek : x.k = (j : Int) + 1) : ctL (l.take (k + 1)) = (ctL (l.take k)).set j (cF (l.take k) j + 1) := by
  have hl : l[k] = x := by rw [← hx]; simp [List.getD_eq_getElem?_getD, h]
  apply List.ext_getElem
  · rw [List.length_set, ctL_length, ctL_length]
  · intro i h1 h2
    rw [ctL_length] at h1
    rw [List.getElem_set]
    simp only [ctL, List.getElem_map, List.getElem_range]
    unfold cF
    rw [List.take_succ_eq_append_getElem h, List.filter_append, hl, List.length_append]
    by_cases e : j = i
    · subst e
      rw [if_pos rfl]
      simp [ek]
    · rw [if_neg e]
      have : ¬ (x.k == (i : Int) + 1) = true := by simp; omega
      simp [this]
theorem nv_set (K : List Nat) (j c : Nat) : (nv K).set j (.int .i64 (c : Int)) = nv (K.set j c) := by simp [nv, List.map_set]
def resCt1 (l : List Fa) : List Nat := if lsG7 l = true then ctL l else []
theorem ct_len (l : List Fa) : (resCt1 l).length ≤ 7 := by
  unfold resCt1; split
  · rw [ctL_length]; exact Nat.le_refl _
  · simp
def SaysNK (w : World) (K : List Nat) (b : Bool) (e : Ending) (w' : World) : Prop := ∃ v, e = .returned (.tuple #[v, .bool b]) ∧ w'.ownsRow w.heap.size 3 1 v K.length (nv K) ∧ Below w.heap.size w w'
theorem nil_own (w : World) (B : Nat) (t : TypeId) (z : Nat) : w.ownsRow B t z (.slice none 0 0) 0 [] := ⟨by simp, .inl ⟨rfl, rfl⟩⟩
def CkRel (W0 : World) (l : List Fa) (n gt : Nat) (i : Value) (wr : World) : Prop := ∃ k : Nat, k ≤ n ∧ i = .int .i64 k ∧ wr.ownsRow gt 3 1 (.slice (some ⟨gt, 0, none⟩) 7 7) 7 (nv (ctL (l.take k))) ∧ Below gt W0 wr
theorem ck_start (l : List Fa) (w1 : World) : (w1.alloc (.cells (madeCells #[.int .i64 0] 7) 3)).ownsRow w1.heap.size 3 1 (.slice (some ⟨w1.heap.size, 0, none⟩) 7 7) 7 (nv (ctL (l.take 0))) ∧ Below w1.heap.size w1 (w1.alloc (.cells (madeCells #[.int .i64 0] 7) 3)) := by
  refine ⟨?_, one_new2 w1 _⟩
  have h := World.ownsRow_lit (base := w1.heap.size) (e := 3) (size := 1) w1 (madeCells #[.int .i64 0] 7) 7 (Nat.le_refl _) (by unfold maxLen; omega) (by rw [← Array.length_toList, toList_madeCells_one]; simp)
  rw [toList_madeCells_one] at h
  exact h
theorem ck_round {W0 wr : World} {gt j c : Nat} {K K' : List Nat} (ho : wr.ownsRow gt 3 1 (.slice (some ⟨gt, 0, none⟩) 7 7) 7 (nv K)) (hb : Below gt W0 wr) (hs : K.set j c = K') (v : Int) (hv : v = (c : Int)) (o : Obj) :
    ((wr.setCell ⟨gt, j, none⟩ (.int .i64 v)).alloc o).ownsRow gt 3 1 (.slice (some ⟨gt, 0, none⟩) 7 7) 7 (nv K') ∧ Below gt W0 ((wr.setCell ⟨gt, j, none⟩ (.int .i64 v)).alloc o) := by
  subst hv
  have hlt := (World.ownsRow.lt ho gt rfl).2
  have h2 := own_store ho j (.int .i64 (c : Int))
  rw [nv_set, hs] at h2
  have b2 := hb.setCell (p := ⟨gt, j, none⟩) (Nat.le_refl gt) (.int .i64 (c : Int))
  exact ⟨World.ownsRow.alloc h2 _, b2.alloc (by simp; omega) _⟩
theorem ck_cell {wr : World} {gt j : Nat} {l : List Fa} (ho : wr.ownsRow gt 3 1 (.slice (some ⟨gt, 0, none⟩) 7 7) 7 (nv (ctL l))) (hj : j < 7) :
    (∀ o, (wr.alloc o).cell? ⟨gt, j, none⟩ = some (.int .i64 (cF l j : Int))) ∧ (∀ o, (wr.alloc o).frozen? ⟨gt, j, none⟩ = false) :=
  ⟨fun o => by
    have h := World.ownsRow.cellAt (World.ownsRow.alloc (w := wr) ho o) j (by omega)
    rw [h, nv_get _ _ (by rw [ctL_length]; exact hj), ctL_at l j hj], fun o => World.ownsRow.frozenAt (World.ownsRow.alloc (w := wr) ho o) j⟩
set_option maxHeartbeats 6400000 in
theorem specCount_any (ad : Option Addr) (n cap : Nat) (l : List Fa) (w : World) (HI : Hid (InX w ad n (faCs l))) (hn : Hid (l.length = n)) (hm : n ≤ 1048576) :
    Calls Try.prog 18 #[.slice ad n cap] w (SaysNK w (resCt1 l) (lsG7 l)) := by
  have HLI := Lib.hid (erList_any ad n cap l w HI hn hm)
  cases hls : lsG7 l
  · have hr : resCt1 l = [] := by unfold resCt1; rw [hls]; rfl
    rw [hls] at HLI
    rw [hr]
    clear hls hr
    go_enter Try.func18, Try.ntmps18
    go_wp2_with (go_at_call 28; refine (HLI.out).mono ?_; rintro e w1 ⟨rfl, b⟩; have B1 := Lib.hid b; clear b)
    go_ret2
    exact ⟨_, rfl, nil_own _ _ _ _, B1.out⟩
  · have hr : resCt1 l = ctL l := by unfold resCt1; rw [hls]; rfl
    have hall := (ls7 hls).1
    have hl40 := (ls7 hls).2
    rw [hn.out] at hl40
    rw [hls] at HLI
    have HR := Lib.hid hr
    have HA := Lib.hid (fun k (hk : k < l.length) => allF_get hall k hk)
    generalize resCt1 l = R at HR ⊢
    have hmk := run_make_row' (P := Try.prog) 40 3 (.int .i64 0) 8 Try.underlying40 infoI rfl .i64 .i64 7 (by omega) (by omega)
    rw [show ((7 : Nat) : Int) = 7 from rfl] at hmk
    clear hls hr hall
    go_enter Try.func18, Try.ntmps18
    go_wp2_with (go_at_call 28; refine (HLI.out).mono ?_; rintro e w1 ⟨rfl, b⟩; have B1 := Lib.hid b; clear b)
    have HST := Lib.hid (ck_start l w1)
    go_loopw [13] (fun i wr => CkRel w1 l n w1.heap.size i wr) (fun i _ => n - (intOf i).toNat)
    case atStart => exact ⟨0, Nat.zero_le _, rfl, HST.out.1, HST.out.2⟩
    case round =>
      obtain ⟨k, hk, rfl, ho, hb⟩ := hrel
      have HO := Lib.hid ho
      have HB := Lib.hid hb
      by_cases hlt : k < n
      · obtain ⟨g, rfl, ht, hg⟩ := HI.out (by omega)
        obtain ⟨x, hx⟩ : ∃ x, l.getD k fa0 = x := ⟨_, rfl⟩
        have hl1 : k < l.length := by rw [hn.out]; exact hlt
        have hg1 := Nat.lt_of_lt_of_le hg B1.out.size
        obtain ⟨a0, a1⟩ := ((ht.below B1.out hg).below hb hg1).fa k hl1 x hx
        have hgx := faok (by have := HA.out k hl1; rw [hx] at this; exact this)
        obtain ⟨j, hj, ek⟩ : ∃ j : Nat, j < 7 ∧ x.k = (j : Int) + 1 := ⟨(x.k - 1).toNat, by have := hgx.k1; have := hgx.k7; omega, by have := hgx.k1; omega⟩
        have HM := Lib.hid (ctL_more l k hl1 x hx j hj ek)
        obtain ⟨s0, s1⟩ := ck_cell ho hj
        have hgt := (World.ownsRow.lt ho _ rfl).2
        have hc40 : cF (l.take k) j ≤ 40 := Nat.le_trans (cF_le _ _) (by rw [List.length_take]; omega)
        obtain ⟨xk, xa⟩ := x
        simp only at ek a0 a1
        subst ek
        generalize cF (l.take k) j = c at HM s0 hc40
        have hj0 : (0 : Int) ≤ j := by omega
        have hj7 : (j : Int) < 7 := by omega
        clear hb ho hx hl1 hgx ht
        go_wp2_with fail
        go_roundw
        case rel => exact ⟨k + 1, by omega, by go_num, ck_round HO.out HB.out HM.out.symm _ (by omega) _⟩
        case measure => simp [intOf]; omega
      · have hkn : k = n := by omega
        subst hkn
        have HF : Hid (wr.ownsRow w.heap.size 3 1 (.slice (some ⟨w1.heap.size, 0, none⟩) 7 7) R.length (nv R)) := Lib.hid (by
          have q := ho
          rw [List.take_of_length_le (by rw [hn.out]; exact Nat.le_refl _), ← HR.out] at q
          have e7 : R.length = 7 := by rw [HR.out, ctL_length]
          rw [e7]
          exact own_base q B1.out.size)
        have HB1 := Lib.hid (B1.out.trans (hb.mono B1.out.size))
        clear ho hb
        go_wp2_with fail
        go_ret2
        exact ⟨_, rfl, HF.out, HB1.out⟩
set_option maxHeartbeats 6400000 in
theorem implCount_any (ad : Option Addr) (n cap : Nat) (l : List Fa) (w : World) (HI : Hid (InX w ad n (faCs l))) (hn : Hid (l.length = n)) (hm : n ≤ 1048576) :
    Calls Try.prog 19 #[.slice ad n cap] w (SaysNK w (resCt1 l) (lsG7 l)) := by
  have HLI := Lib.hid (areFaults_any ad n cap l w HI hn hm)
  cases hls : lsG7 l
  · have hr : resCt1 l = [] := by unfold resCt1; rw [hls]; rfl
    rw [hls] at HLI
    rw [hr]
    clear hls hr
    go_enter Try.func19, Try.ntmps19
    go_wp2_with (go_at_call 29; refine (HLI.out).mono ?_; rintro e w1 ⟨rfl, b⟩; have B1 := Lib.hid b; clear b)
    go_ret2
    exact ⟨_, rfl, nil_own _ _ _ _, B1.out⟩
  · have hr : resCt1 l = ctL l := by unfold resCt1; rw [hls]; rfl
    have hall := (ls7 hls).1
    have hl40 := (ls7 hls).2
    rw [hn.out] at hl40
    rw [hls] at HLI
    have HR := Lib.hid hr
    have HA := Lib.hid (fun k (hk : k < l.length) => allF_get hall k hk)
    generalize resCt1 l = R at HR ⊢
    have hmk := run_make_row' (P := Try.prog) 40 3 (.int .i64 0) 8 Try.underlying40 infoI rfl .i64 .i64 7 (by omega) (by omega)
    rw [show ((7 : Nat) : Int) = 7 from rfl] at hmk
    clear hls hr hall
    go_enter Try.func19, Try.ntmps19
    go_wp2_with (go_at_call 29; refine (HLI.out).mono ?_; rintro e w1 ⟨rfl, b⟩; have B1 := Lib.hid b; clear b)
    have HST := Lib.hid (ck_start l w1)
    go_loopw [13] (fun i wr => CkRel w1 l n w1.heap.size i wr) (fun i _ => n - (intOf i).toNat)
    case atStart => exact ⟨0, Nat.zero_le _, rfl, HST.out.1, HST.out.2⟩
    case round =>
      obtain ⟨k, hk, rfl, ho, hb⟩ := hrel
      have HO := Lib.hid ho
      have HB := Lib.hid hb
      by_cases hlt : k < n
      · obtain ⟨g, rfl, ht, hg⟩ := HI.out (by omega)
        obtain ⟨x, hx⟩ : ∃ x, l.getD k fa0 = x := ⟨_, rfl⟩
        have hl1 : k < l.length := by rw [hn.out]; exact hlt
        have hg1 := Nat.lt_of_lt_of_le hg B1.out.size
        obtain ⟨a0, a1⟩ := ((ht.below B1.out hg).below hb hg1).fa k hl1 x hx
        have hgx := faok (by have := HA.out k hl1; rw [hx] at this; exact this)
        obtain ⟨j, hj, ek⟩ : ∃ j : Nat, j < 7 ∧ x.k = (j : Int) + 1 := ⟨(x.k - 1).toNat, by have := hgx.k1; have := hgx.k7; omega, by have := hgx.k1; omega⟩
        have HM := Lib.hid (ctL_more l k hl1 x hx j hj ek)
        obtain ⟨s0, s1⟩ := ck_cell ho hj
        have hgt := (World.ownsRow.lt ho _ rfl).2
        have hc40 : cF (l.take k) j ≤ 40 := Nat.le_trans (cF_le _ _) (by rw [List.length_take]; omega)
        obtain ⟨xk, xa⟩ := x
        simp only at ek a0 a1
        subst ek
        generalize cF (l.take k) j = c at HM s0 hc40
        have hj0 : (0 : Int) ≤ j := by omega
        have hj7 : (j : Int) < 7 := by omega
        clear hb ho hx hl1 hgx ht
        go_wp2_with fail
        go_roundw
        case rel => exact ⟨k + 1, by omega, by go_num, ck_round HO.out HB.out HM.out.symm _ (by omega) _⟩
        case measure => simp [intOf]; omega
      · have hkn : k = n := by omega
        subst hkn
        have HF : Hid (wr.ownsRow w.heap.size 3 1 (.slice (some ⟨w1.heap.size, 0, none⟩) 7 7) R.length (nv R)) := Lib.hid (by
          have q := ho
          rw [List.take_of_length_le (by rw [hn.out]; exact Nat.le_refl _), ← HR.out] at q
          have e7 : R.length = 7 := by rw [HR.out, ctL_length]
          rw [e7]
          exact own_base q B1.out.size)
        have HB1 := Lib.hid (B1.out.trans (hb.mono B1.out.size))
        clear ho hb
        go_wp2_with fail
        go_ret2
        exact ⟨_, rfl, HF.out, HB1.out⟩
theorem markFaultS_none (ad : Option Addr) (c : Nat) (k : Int) (w : World) :
    Calls Try.prog 21 #[.slice ad 0 c, .int .i64 k] w (fun e w' => e = .returned (.int .i64 k) ∧ w = w') := by
  go_enter Try.func21, Try.ntmps21
  go_wp2
  refine wp_loop_rounds 1 ?_
  rw [rounds_succ]
  go_wp2
  go_ret
  exact ⟨rfl, rfl⟩
def markFaultSRel (w : World) (B g n c : Nat) (k : Int) (a i : Value) (wr : World) : Prop :=
  ∃ (j : Nat) (z : Int) (xs : List Value), j ≤ n ∧ i = .int .i64 j ∧ a = .int .i64 z ∧ z = k + 2 * (j : Int) ∧ wr.ownsRow B 25 2 (.slice (some ⟨g, 0, none⟩) n c) n xs ∧ Below B w wr ∧ Onl w wr (some g)
set_option maxHeartbeats 6400000 in
theorem markFaultS_any (v : Value) (B n : Nat) (xs : List Value) (k : Int) (w : World) (HO : Hid (w.ownsRow B 25 2 v n xs)) (hm : n ≤ 1048576) (hk : 0 ≤ k) (hk2 : k ≤ 10000000) :
    Calls Try.prog 21 #[v, .int .i64 k] w (SaysMk w B v (k + 2 * (n : Int))) := by
  have h0 := HO.out
  rcases h0.2 with ⟨rfl, rfl⟩ | ⟨g, c, cur, rfl, hgB, _⟩
  · refine (markFaultS_none none 0 k w).mono ?_
    rintro e w' ⟨rfl, rfl⟩
    exact ⟨by simp, Below.refl _ _, fun _ _ => rfl⟩
  · clear h0
    go_enter Try.func21, Try.ntmps21
    go_wp2_with fail
    go_loopw [1, 5] (fun a i wr => markFaultSRel w B g n c k a i wr) (fun _ i _ => n - (intOf i).toNat)
    case atStart => exact ⟨0, k, xs, Nat.zero_le _, rfl, rfl, by omega, HO.out, Below.refl _ _, fun _ _ => rfl⟩
    case round =>
      obtain ⟨i, z, xs', hi, rfl, rfl, hz, ho, hb, hnl⟩ := hrel
      have HO1 := Lib.hid ho
      have HB1 := Lib.hid hb
      have HN1 := Lib.hid hnl
      have HZ := Lib.hid hz
      have hz0 : 0 ≤ z := by omega
      have hz1 : z ≤ 20000000 := by omega
      clear ho hb hnl hz
      by_cases hlt : i < n
      · obtain ⟨u0, c0⟩ := own_cell HO1.out (i * 2) (by omega)
        have f0 := World.ownsRow.frozenAt HO1.out (i * 2)
        obtain ⟨u1, c1⟩ := own_cell HO1.out (i * 2 + 1) (by omega)
        have f1 := World.ownsRow.frozenAt HO1.out (i * 2 + 1)
        go_wp2_with fail
        go_roundw
        case rel => exact ⟨i + 1, _, _, by omega, by go_num, rfl, by have := HZ.out; omega, own_store (own_store HO1.out _ _) _ _, ((HB1.out.setCell hgB _).setCell hgB _), onl_set (onl_set HN1.out _ _) _ _⟩
        case measure => simp [intOf]; omega
      · have hz2 : z = k + 2 * (n : Int) := by have := HZ.out; omega
        have HZ2 := Lib.hid hz2
        clear hz2
        go_wp2_with fail
        go_ret
        exact ⟨ret_int HZ2.out, HB1.out, HN1.out⟩
end Go.Proofs.Ytdfkehgkonadhaa
