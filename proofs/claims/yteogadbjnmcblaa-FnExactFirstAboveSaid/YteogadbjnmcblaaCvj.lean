/- The times at which pieces end; a sum that fits: the model's. -/
import Derived.Test.YteogadbjnmcblaaCvi
import Derived.Test.YteogadbjnmcblaaCvh
namespace Go.Proofs.Yteogadbjnmcblaa
open Go.RowKit
set_option linter.unusedVariables false

theorem put_mem (l : List Int) (x t : Int) : t ∈ putL l x ↔ t ∈ l ∨ t = x := by
  unfold putL
  split
  · rename_i h
    constructor
    · exact .inl
    · rintro (h1 | h1)
      · exact h1
      · subst h1
        rw [← h.2, List.getD_eq_getElem?_getD, List.getElem?_eq_getElem h.1]
        exact List.getElem_mem h.1
  · have e := List.take_append_drop (pkL x l) l
    constructor
    · intro h
      simp only [List.mem_append, List.mem_singleton] at h
      rcases h with (h | h) | h
      · exact .inl (List.mem_of_mem_take h)
      · exact .inr h
      · exact .inl (List.mem_of_mem_drop h)
    · rintro (h | h)
      · rw [← e, List.mem_append] at h
        simp only [List.mem_append, List.mem_singleton]
        rcases h with h | h
        · exact .inl (.inl h)
        · exact .inr h
      · simp [h]
theorem put_len (l : List Int) (x : Int) : l.length ≤ (putL l x).length ∧ (putL l x).length ≤ l.length + 1 := by
  unfold putL
  have := pkL_le x l
  split
  · omega
  · simp; omega
def timesF (a : List Int) (cs : List Cv) : List Int := cs.foldl (fun out c => putL out c.l) a
def timesL (cs : List Cv) : List Int := timesF [0, 100000] cs
theorem times_mem (cs : List Cv) (a : List Int) (t : Int) : t ∈ timesF a cs ↔ t ∈ a ∨ ∃ c ∈ cs, t = c.l := by
  unfold timesF
  induction cs generalizing a with
  | nil => simp
  | cons c r ih =>
    rw [List.foldl_cons, ih, put_mem]
    simp only [List.mem_cons]
    constructor
    · rintro ((h | h) | ⟨d, h, e⟩)
      · exact .inl h
      · exact .inr ⟨c, .inl rfl, h⟩
      · exact .inr ⟨d, .inr h, e⟩
    · rintro (h | ⟨d, h | h, e⟩)
      · exact .inl (.inl h)
      · subst h; exact .inl (.inr e)
      · exact .inr ⟨d, h, e⟩
theorem times_len (cs : List Cv) (a : List Int) : a.length ≤ (timesF a cs).length ∧ (timesF a cs).length ≤ a.length + cs.length := by
  unfold timesF
  induction cs generalizing a with
  | nil => simp
  | cons c r ih =>
    rw [List.foldl_cons]
    have h1 := ih (putL a c.l)
    have h2 := put_len a c.l
    simp only [List.length_cons]
    omega
theorem times_take (cs : List Cv) (a : List Int) (k : Nat) (h : k < cs.length) : timesF a (cs.take (k + 1)) = putL (timesF a (cs.take k)) (cs.getD k cv0).l := by
  unfold timesF
  rw [List.take_add_one, List.foldl_append]
  simp [List.getD_eq_getElem?_getD, h]
theorem times_rng {cs : List Cv} (h : allV cs = true) : ∀ t ∈ timesL cs, 0 ≤ t ∧ t ≤ 100000 := by
  intro t ht
  unfold allV at h
  rw [List.all_eq_true] at h
  rcases (times_mem cs [0, 100000] t).1 ht with q | ⟨c, hc, e⟩
  · simp at q; omega
  · have := cvok (h c hc)
    have := this.l0; have := (cvok (h c hc)).l1
    omega
theorem all_times (P : Int → Bool) (cs : List Cv) : (timesL cs).all P = (P 0 && P 100000 && cs.all (fun c => P c.l)) := by
  apply Bool.eq_iff_iff.2
  simp only [List.all_eq_true, Bool.and_eq_true]
  constructor
  · intro h
    exact ⟨⟨h 0 ((times_mem _ _ _).2 (.inl (by simp))), h 100000 ((times_mem _ _ _).2 (.inl (by simp)))⟩, fun c hc => h _ ((times_mem _ _ _).2 (.inr ⟨c, hc, rfl⟩))⟩
  · rintro ⟨⟨h0, h1⟩, h2⟩ t ht
    rcases (times_mem cs [0, 100000] t).1 ht with q | ⟨c, hc, e⟩
    · simp at q
      rcases q with rfl | rfl
      · exact h0
      · exact h1
    · subst e; exact h2 c hc
theorem fits_eq (l : List Cv) (c : Cv) (h : allV l = true) (hc : goodV c = true) : (timesL (c :: l)).all (fitT l c) = fitV l c := by
  rw [all_times, fit_zero l c h hc]
  unfold fitV
  simp only [List.all_cons, Bool.true_and]
  cases fitT l c 100000 <;> cases fitT l c c.l <;> simp
def TmRel (w : World) (cs : List Cv) (n : Nat) (s i : Value) (wr : World) : Prop := ∃ (k : Nat) (zs : List Int), k ≤ n ∧ i = .int .i64 k ∧ BX w wr ∧ wr.ownsRow w.heap.size 3 1 s zs.length (iv zs) ∧ Hid (timesF [0, 100000] (cs.take k) = zs) ∧ 1 ≤ zs.length ∧ zs.length ≤ 2 + k
set_option maxHeartbeats 3200000 in
theorem cuTimes_any (ad : Option Addr) (n cap : Nat) (cs : List Cv) (w : World) (HI : Hid (InX w ad n (cvCs cs))) (hn : Hid (cs.length = n)) (hm : n ≤ 100) :
    Calls Try.prog 52 #[.slice ad n cap] w (SaysR w w.heap.size (timesL cs)) := by
  have HO0 := Lib.hid (World.ownsRow_lit (base := w.heap.size) (e := 3) (size := 1) w #[.int .i64 0, .int .i64 100000] 2 (Nat.le_refl _) (by unfold maxLen; omega) rfl)
  obtain ⟨Z, hZ⟩ : ∃ Z, timesL cs = Z := ⟨_, rfl⟩
  have HZ := Lib.hid hZ
  rw [hZ]
  clear hZ
  go_enter Try.func52, Try.ntmps52
  go_wp2_with fail
  go_loopw [3, 9] (fun s i wr => TmRel w cs n s i wr) (fun _ i _ => n - (intOf i).toNat)
  case atStart => exact ⟨0, [0, 100000], Nat.zero_le _, rfl, one_new2 _ _, HO0.out, rfl, by simp, by simp⟩
  case round =>
    obtain ⟨k, zs, hk, rfl, hb, ho, HT, hz1, hz2⟩ := hrel
    have X1 := Lib.hid hb
    have O1 := Lib.hid ho
    by_cases hlt : k < n
    · obtain ⟨g, rfl, ht, hg⟩ := HI.out (by omega)
      obtain ⟨x, hx⟩ : ∃ x, cs.getD k cv0 = x := ⟨_, rfl⟩
      have hl1 : k < cs.length := by rw [hn.out]; exact hlt
      obtain ⟨a0, a1, a2⟩ := (ht.below hb hg).cv k hl1 x hx
      have HE := Lib.hid (times_take cs [0, 100000] k hl1)
      rw [HT.out, hx] at HE
      have HP := Lib.hid (fun o => l1Put_any w.heap.size _ zs x.l (wr.alloc o) (Lib.hid (World.ownsRow.alloc O1.out o)) hz1 (by omega) (Nat.le_trans X1.out.size (by simp)))
      have hpl := put_len zs x.l
      generalize putL zs x.l = zs2 at HE HP hpl
      obtain ⟨xf, xl, xs⟩ := x
      simp only at a0 a1 a2 HP
      clear hb ho hx hl1 ht HT
      go_wp2_with (go_at_call 61; refine (HP.out _).mono ?_; rintro e w2 ⟨v2, rfl, o2, b2⟩; have X2 := Lib.hid ((X1.out.alloc _).call b2); have O2 := Lib.hid o2; clear o2 b2)
      go_roundw
      case rel => exact ⟨k + 1, zs2, by omega, by go_num, X2.out, O2.out, HE.out, by omega, by omega⟩
      case measure => simp [intOf]; omega
    · have HX : Hid (zs = Z) := Lib.hid (by rw [← HT.out, ← HZ.out, List.take_of_length_le (by rw [hn.out]; omega)]; rfl)
      clear hb ho
      go_wp2_with fail
      go_ret
      exact ⟨_, rfl, by rw [← HX.out]; exact O1.out, X1.out⟩
theorem add0 (g j : Nat) : (⟨g, 0, none⟩ : Addr).add j = ⟨g, j, none⟩ := by unfold Addr.add; split <;> simp_all
theorem all_at (P : Int → Bool) (zs : List Int) (k : Nat) (h : k < zs.length) : (zs.drop k).all P = (P (zs.getD k 0) && (zs.drop (k + 1)).all P) := by
  rw [drop_at' zs k h, List.all_cons]
def FtRel (w wb : World) (zs : List Int) (n : Nat) (P : Int → Bool) (B : Bool) (i : Value) (wr : World) : Prop := ∃ k : Nat, k ≤ n ∧ i = .int .i64 k ∧ BX wb wr ∧ Hid ((zs.drop k).all P = B)
/-- what the walk reads of a row of integers that lies at an address -/
theorem row_cell {w w' : World} {g : Nat} {zs : List Int} (h : AtC w g (iv zs)) (hg : g < w.heap.size) (hb : Below w.heap.size w w') (k : Nat) (hk : k < zs.length) : w'.cell? ⟨g, k, none⟩ = some (.int .i64 (zs.getD k 0)) := by
  rw [(bcell hb).1 _ _ hg, h k (by rw [iv_length]; exact hk), iv_get _ _ hk]
set_option maxHeartbeats 12800000 in
theorem cuFits_any (g n cap : Nat) (l : List Cv) (c : Cv) (w : World) (HI : Hid (InX w (some ⟨g, 0, none⟩) n (cvCs l))) (hgw : g < w.heap.size) (hn : Hid (l.length = n)) (hm : n ≤ 12) (hl : Hid (allV l = true)) (hc : Hid (goodV c = true)) :
    Calls Try.prog 51 #[.slice (some ⟨g, 0, none⟩) n cap, cvV c] w (SaysB w (fitV l c)) := by
  obtain ⟨i0, hi, hz0, hz1, hz2⟩ := info_parts infoCv
  obtain ⟨B, hB⟩ : ∃ B, fitV l c = B := ⟨_, rfl⟩
  have HF : Hid ((timesL (c :: l)).all (fitT l c) = B) := Lib.hid (by rw [fits_eq l c hl.out hc.out, hB])
  have HR := Lib.hid (times_rng (cs := c :: l) (by unfold allV; rw [List.all_cons, hc.out]; exact hl.out))
  have HTL : Hid (2 ≤ (timesL (c :: l)).length ∧ (timesL (c :: l)).length ≤ 15) := Lib.hid (by have := times_len (c :: l) [0, 100000]; simp only [List.length_cons, List.length_nil, hn.out] at this; unfold timesL; omega)
  have HT := Lib.hid (fun ad cap w HI => cuTimes_any ad (1 + n) cap (c :: l) w HI (Lib.hid (by rw [List.length_cons, hn.out]; omega)) (by omega))
  have HS : Hid (∀ t w, 0 ≤ t → t ≤ 100000 → InX w (some ⟨g, 0, none⟩) n (cvCs l) → Calls Try.prog 55 #[.slice (some ⟨g, 0, none⟩) n cap, .int .i64 t] w (SaysI w (sumV l t))) := Lib.hid (fun t w h0 h1 h => cuSum_any _ n cap l t w (Lib.hid h) hn hm hl h0 h1)
  have HA : Hid (∀ t w, 0 ≤ t → t ≤ 100000 → Calls Try.prog 41 #[cvV c, .int .i64 t] w (SaysI w (atV c t))) := Lib.hid (fun t w h0 h1 => cuAt_any c t w (cvok hc.out) h0 h1)
  have HCS : Hid (cvCs (c :: l) = cvC c ++ cvCs l) := Lib.hid (cvCs_cons c l)
  have HFT : Hid (∀ t, fitT l c t = decide (sumV l t ≤ atV c t)) := Lib.hid (fun t => rfl)
  have HOL := Lib.hid (fun w => World.ownsRow_lit (base := w.heap.size) (e := 25) (size := 3) w #[.int .i64 c.f, .int .i64 c.l, .int .i64 c.s] 1 (Nat.le_refl _) (by unfold maxLen; omega) rfl)
  have HNW : Hid (∀ w', Below w.heap.size w w' → ∀ j u, (cvCs l)[j]? = some u → w'.cell? ((⟨g, 0, none⟩ : Addr).add j) = some u) := Lib.hid (fun w' hb j u hu => by
    have hj := (List.getElem?_eq_some_iff.1 hu).1
    have hp : 0 < n := by rw [cvCs_length, hn.out] at hj; omega
    obtain ⟨g', e, ht, hg⟩ := HI.out hp
    cases e
    rw [add0, (bcell hb).1 _ _ hg, ht j hj, hu])
  have HLN : Hid ((cvCs l).length = n * 3) := Lib.hid (by rw [cvCs_length, hn.out])
  have HOC : Hid (∀ u ∈ cvCs l, u.oneCell' = true) := Lib.hid (by
    intro u hu
    unfold cvCs at hu
    obtain ⟨x, _, hx⟩ := List.mem_flatMap.1 hu
    simp [cvC] at hx
    rcases hx with rfl | rfl | rfl <;> rfl)
  rw [hB]
  generalize timesL (c :: l) = zs at HF HR HT HTL
  generalize fitT l c = P at HF HFT
  generalize sumV l = su at HS HFT
  generalize atV c = at' at HA HFT
  clear hB
  obtain ⟨xf, xl, xs⟩ := c
  unfold cvV at HA ⊢
  simp only at HA HOL HT ⊢
  have HQ := Lib.hid (fun w' (h : BX (w.alloc (Obj.cells #[.int .i64 xf, .int .i64 xl, .int .i64 xs] 25)) w') => ((three_is w (.int .i64 xf) (.int .i64 xl) (.int .i64 xs) 25).on h))
  have HE : Hid (∀ w', BX (w.alloc (Obj.cells #[.int .i64 xf, .int .i64 xl, .int .i64 xs] 25)) w' → Below w.heap.size w w') := Lib.hid (fun w' h => (one_new2 w _).trans (Below.mono h (by simp)))
  have X0 := Lib.hid (BX.refl (w.alloc (Obj.cells #[.int .i64 xf, .int .i64 xl, .int .i64 xs] 25)))
  have hs2 : w.heap.size + 1 ≤ ((w.alloc (Obj.cells #[.int .i64 xf, .int .i64 xl, .int .i64 xs] 25)).alloc (Obj.cells #[.int .i64 xf, .int .i64 xl, .int .i64 xs] 25)).heap.size := by simp
  have HO1 := Lib.hid (own_base (B' := w.heap.size + 1) (HOL.out (w.alloc (Obj.cells #[.int .i64 xf, .int .i64 xl, .int .i64 xs] 25))) (by simp))
  rw [show (w.alloc (Obj.cells #[.int .i64 xf, .int .i64 xl, .int .i64 xs] 25)).heap.size = w.heap.size + 1 by simp] at HO1
  go_enter Try.func51, Try.ntmps51
  go_wp2_with (at_builtin; refine wpList_append_own _ rfl _ _ 42 rfl (w.heap.size + 1) 25 i0 (.agg #[.int .i64 0, .int .i64 0, .int .i64 0]) 3 24 Try.underlying42 hi hz0 hz1 hz2 rfl (by decide) _ _ _ rfl HO1.out ⟨g, 0, none⟩ n cap (cvCs l) rfl HLN.out (HNW.out _ (two_new _ _ _)) HOC.out (by unfold maxLen; omega) (by omega) hs2 ?_; intro v1 w1 o1 g1 _; have X1 := Lib.hid (show BX (w.alloc (Obj.cells #[.int .i64 xf, .int .i64 xl, .int .i64 xs] 25)) w1 from Below.grown (show Below (w.alloc (Obj.cells #[.int .i64 xf, .int .i64 xl, .int .i64 xs] 25)).heap.size (w.alloc (Obj.cells #[.int .i64 xf, .int .i64 xl, .int .i64 xs] 25)) _ from one_new2 _ _) g1 (by simp) (fun k h => by have := (World.ownsRow.lt HO1.out k h).1; simpa using this)); have O1 := Lib.hid o1; clear o1 g1; refine Hid.out ?_)
  refine Lib.hid ?_
  have hO1 := O1.out
  rw [show [Value.int .i64 xf, .int .i64 xl, .int .i64 xs] ++ cvCs l = cvCs (⟨xf, xl, xs⟩ :: l) from HCS.out.symm] at hO1
  obtain ⟨a1, cap1, rfl, i1⟩ := own_in hO1
  clear hO1
  go_wp2_with (go_at_call 52; refine (HT.out _ _ _ (Lib.hid i1)).mono ?_; rintro e w2 ⟨v2, rfl, o2, b2⟩; have X2 := Lib.hid (X1.out.call b2); have O2 := Lib.hid o2; clear b2 o2; refine Hid.out ?_)
  refine Lib.hid ?_
  obtain ⟨a2, cap2, rfl, i2⟩ := own_in O2.out
  obtain ⟨g2, rfl, ht2, hg2⟩ := i2 (by have := HTL.out; omega)
  have HT2 := Lib.hid ht2
  obtain ⟨m, hm2⟩ : ∃ m, zs.length = m := ⟨_, rfl⟩
  have HM := Lib.hid hm2
  have hm3 : m ≤ 1000 := by have := HTL.out; omega
  rw [hm2]
  clear hm2 i1 i2 ht2
  have HE2 : Hid (∀ w', BX w2 w' → Below w.heap.size w w') := Lib.hid (fun w' h => HE.out w' (X2.out.call h))
  have HQ2 : Hid (∀ w', BX w2 w' → w'.cell? ⟨w.heap.size, 0, none⟩ = some (.int .i64 xf) ∧ w'.cell? ⟨w.heap.size, 1, none⟩ = some (.int .i64 xl) ∧ w'.cell? ⟨w.heap.size, 2, none⟩ = some (.int .i64 xs) ∧ BX w2 w') := Lib.hid (fun w' h => by obtain ⟨c0, c1, c2, _⟩ := HQ.out w' (X2.out.call h); exact ⟨c0, c1, c2, h⟩)
  have HI2 : Hid (∀ w', BX w2 w' → InX w' (some ⟨g, 0, none⟩) n (cvCs l)) := Lib.hid (fun w' h => HI.out.below (HE2.out w' h))
  go_wp2_with fail
  go_loopw [13] (fun i wr => FtRel w w2 zs m P B i wr) (fun i _ => m - (intOf i).toNat)
  case atStart => exact ⟨0, Nat.zero_le _, rfl, BX.refl _, HF⟩
  case round =>
    obtain ⟨k, hk, rfl, hb, HP⟩ := hrel
    have X3 := Lib.hid hb
    by_cases hlt : k < m
    · obtain ⟨t, hte⟩ : ∃ t, zs.getD k 0 = t := ⟨_, rfl⟩
      have hl1 : k < zs.length := by rw [HM.out]; exact hlt
      have hct := row_cell HT2.out hg2 hb k hl1
      have htr := HR.out t (by rw [← hte, List.getD_eq_getElem?_getD, List.getElem?_eq_getElem hl1]; exact List.getElem_mem hl1)
      have HEx := Lib.hid (all_at P zs k hl1)
      rw [hte] at hct HEx
      have HSt := Lib.hid (fun w h => HS.out t w htr.1 htr.2 h)
      have HAt := Lib.hid (fun w => HA.out t w htr.1 htr.2)
      have hft := HFT.out t
      generalize su t = S at HSt hft
      generalize at' t = A at HAt hft
      rcases Int.lt_or_le A S with q | q
      · have HZ : Hid (B = false) := Lib.hid (by rw [← HP.out, HEx.out, hft, not_le q]; rfl)
        have d := is_lt q
        have d2 := not_le q
        clear hl1 hft HP HEx hte
        go_wp2_with fail
        go_region_held3 (fun w' => w'.cell? ⟨w.heap.size, 0, none⟩ = some (.int .i64 xf) ∧ w'.cell? ⟨w.heap.size, 1, none⟩ = some (.int .i64 xl) ∧ w'.cell? ⟨w.heap.size, 2, none⟩ = some (.int .i64 xs) ∧ BX w2 w')
          (first | (go_split_ands; refine HQ2.out _ ?_; repeat' (with_reducible first | exact BX.drew0 _ | exact BX.refl _ | assumption | refine BX.call' (by assumption) ?_ | refine BX.drew ?_)))
          (first | (go_at_call 55; go_split_ands; (with_reducible refine (HSt.out _ (HI2.out _ (by assumption))).mono ?_); rintro e w5 ⟨rfl, b5⟩) | (go_at_call 41; (with_reducible refine (HAt.out _).mono ?_); rintro e w6 ⟨rfl, b6⟩))
        all_goals
          go_split_ands
          go_wp2_with fail
          go_ret
          exact ⟨ret_bool HZ.out.symm, HE2.out _ (by assumption)⟩
      · have HZ : Hid ((zs.drop (k + 1)).all P = B) := Lib.hid (by rw [← HP.out, HEx.out, hft, is_le q]; rfl)
        have d := not_lt q
        have d2 := is_le q
        clear hl1 hft HP HEx hte
        go_wp2_with fail
        go_region_held3 (fun w' => w'.cell? ⟨w.heap.size, 0, none⟩ = some (.int .i64 xf) ∧ w'.cell? ⟨w.heap.size, 1, none⟩ = some (.int .i64 xl) ∧ w'.cell? ⟨w.heap.size, 2, none⟩ = some (.int .i64 xs) ∧ BX w2 w')
          (first | (go_split_ands; refine HQ2.out _ ?_; repeat' (with_reducible first | exact BX.drew0 _ | exact BX.refl _ | assumption | refine BX.call' (by assumption) ?_ | refine BX.drew ?_)))
          (first | (go_at_call 55; go_split_ands; (with_reducible refine (HSt.out _ (HI2.out _ (by assumption))).mono ?_); rintro e w5 ⟨rfl, b5⟩) | (go_at_call 41; (with_reducible refine (HAt.out _).mono ?_); rintro e w6 ⟨rfl, b6⟩))
        all_goals
          go_split_ands
          go_wp2_with fail
          go_roundw
          case rel => exact ⟨k + 1, by omega, by go_num, by assumption, HZ⟩
          case measure => simp [intOf]; omega
    · have HZ : Hid (B = true) := Lib.hid (by rw [← HP.out, List.drop_eq_nil_of_le (by rw [HM.out]; omega)]; rfl)
      clear hb
      go_wp2_with fail
      go_ret
      exact ⟨ret_bool HZ.out.symm, HE2.out _ X3.out⟩
end Go.Proofs.Yteogadbjnmcblaa
