/- Chapter 8, the program: Ids, tops, rates and limits, searches that find nothing. -/
import Derived.Test.YtfijhgggljaomaaDoorVag
namespace Go.Proofs.YtfijhgggljaomaaDoor
set_option maxRecDepth 100000
open Go.RowKit
set_option linter.unusedVariables false

theorem q2_step {cs : List Cls} {k : Nat} {b : Int} (h0 : 0 ≤ b) (hz : k = 0 → b = 0) (hk : 0 < k → b = (cs.getD (k - 1) cls0).i) : Q2 cs k = (decide (b < (cs.getD k cls0).i) && decide ((cs.getD k cls0).i ≤ 999)) := by
  unfold Q2
  generalize (cs.getD k cls0).i = x
  apply Bool.eq_iff_iff.2
  simp only [Bool.and_eq_true, Bool.or_eq_true, decide_eq_true_eq, beq_iff_eq, inBR_iff]
  rcases Nat.eq_zero_or_pos k with h | h
  · have := hz h
    constructor
    · rintro ⟨⟨a, c⟩, _⟩; omega
    · rintro ⟨a, c⟩; exact ⟨⟨by omega, c⟩, .inl h⟩
  · have := hk h
    constructor
    · rintro ⟨⟨a, c⟩, q | q⟩
      · omega
      · omega
    · rintro ⟨a, c⟩; exact ⟨⟨by omega, c⟩, .inr (by omega)⟩
def HjRel (w : World) (n : Nat) (cs : List Cls) (B : Bool) (l i : Value) (wr : World) : Prop :=
  ∃ (k : Nat) (b : Int), k ≤ n ∧ i = .int .i64 k ∧ l = .int .i64 b ∧ Below w.heap.size w wr ∧ 0 ≤ b ∧ (k = 0 → b = 0) ∧ (0 < k → b = (cs.getD (k - 1) cls0).i) ∧ Hid (fromK (Q2 cs) n k = B)
set_option maxHeartbeats 3200000 in
theorem haveIds_any (ac : Option Addr) (n cc : Nat) (cs : List Cls) (w : World) (HI : Hid (InX w ac n (clsCs cs))) (hn : Hid (cs.length = n)) (hm : n ≤ 1048576) :
    Calls Tryd.prog 41 #[(.slice ac n cc)] w (SaysB w (fromK (Q2 cs) n 0 && inB (n : Int) 1 24)) := by
  obtain ⟨B, hB⟩ : ∃ B, fromK (Q2 cs) n 0 = B := ⟨_, rfl⟩
  have H0 := Lib.hid hB
  have HFN := Lib.hid (fun w => isIn_any (n : Int) 1 24 w)
  rw [hB]
  generalize inB (n : Int) 1 24 = b24 at HFN ⊢
  clear hB
  go_enter Tryd.func41, Tryd.ntmps41
  go_wp2_with fail
  go_loopw [3, 8] (fun l i wr => HjRel w n cs B l i wr) (fun _ i _ => n - (intOf i).toNat)
  case atStart => exact ⟨0, 0, Nat.zero_le _, rfl, rfl, Below.refl _ _, by omega, fun _ => rfl, fun h => absurd h (by omega), H0⟩
  case round =>
    obtain ⟨k, b, hk, rfl, rfl, hb, hb0, hbz, hbk, HP⟩ := hrel
    have HB := Lib.hid hb
    by_cases hlt : k < n
    · have HGI := HI.out
      obtain ⟨g, rfl, ht, hg⟩ := HGI (by omega)
      obtain ⟨x, hx⟩ : ∃ x, cs.getD k cls0 = x := ⟨_, rfl⟩
      have hl1 : k < cs.length := by rw [hn.out]; exact hlt
      obtain ⟨a0, a1, a2, a3, a4, a5, a6, a7⟩ := (ht.below hb hg).cls k hl1 x hx
      have HE := Lib.hid (fromK_at (Q2 cs) n k hlt)
      have HQ := Lib.hid (q2_step hb0 hbz hbk)
      have HNX : Hid (x.i = (cs.getD k cls0).i) := Lib.hid (by rw [hx])
      rw [hx] at HQ
      have BA := Lib.hid (HB.out.trans ((one_new2 wr (Obj.cells #[.int .i64 x.i, .int .i64 x.p, .int .i64 x.r, .int .i64 x.e, .int .i64 x.b, .int .i64 x.u, .int .i64 x.o, .int .i64 x.l] 62)).mono HB.out.size))
      by_cases h1 : x.i ≤ b
      · have HX : Hid (false = B) := Lib.hid (by rw [← HP.out, HE.out, HQ.out, decide_eq_false (by omega)]; rfl)
        have d1 := is_le h1
        obtain ⟨xi, xp, xr, xe, xb, xu, xo, xl⟩ := x
        simp only at a0 a1 a2 a3 a4 a5 a6 a7 BA d1
        clear hb hx hl1 ht h1 HQ HE hb0 hbz hbk HNX
        go_wp2_with fail
        go_ret
        exact ⟨ret_bool (by rw [← HX.out]; rfl), BA.out⟩
      · have d1 := not_le (Int.not_le.1 h1)
        by_cases h2 : x.i ≤ 999
        · have HX : Hid (fromK (Q2 cs) n (k + 1) = B) := Lib.hid (by rw [← HP.out, HE.out, HQ.out, decide_eq_true (by omega), decide_eq_true h2]; rfl)
          have d2 := not_lt h2
          have hx0 : 0 ≤ x.i := by omega
          obtain ⟨xi, xp, xr, xe, xb, xu, xo, xl⟩ := x
          simp only at a0 a1 a2 a3 a4 a5 a6 a7 BA d1 d2 HNX hx0
          clear hb hx hl1 ht h1 h2 HQ HE hb0 hbz hbk
          go_wp2_with fail
          go_roundw
          case rel => exact ⟨k + 1, xi, by omega, by go_num, rfl, BA.out, hx0, fun h => absurd h (by omega), fun _ => HNX.out, HX⟩
          case measure => simp [intOf]; omega
        · have HX : Hid (false = B) := Lib.hid (by rw [← HP.out, HE.out, HQ.out, decide_eq_false h2, Bool.and_false, Bool.false_and])
          have d2 := is_lt (Int.not_le.1 h2)
          obtain ⟨xi, xp, xr, xe, xb, xu, xo, xl⟩ := x
          simp only at a0 a1 a2 a3 a4 a5 a6 a7 BA d1 d2
          clear hb hx hl1 ht h1 h2 HQ HE hb0 hbz hbk HNX
          go_wp2_with fail
          go_ret
          exact ⟨ret_bool (by rw [← HX.out]; rfl), BA.out⟩
    · have HX : Hid (B = true) := Lib.hid (by rw [← HP.out, fromK_end _ _ k (by omega)])
      clear hb hb0 hbz hbk
      go_wp2_with (go_at_call 72; refine (HFN.out _).mono ?_; rintro e w9 ⟨rfl, rfl⟩)
      go_ret
      exact ⟨ret_bool (by rw [HX.out]; rfl), HB.out⟩
def topP (cs : List Cls) (k : Nat) : Bool := (cs.getD k cls0).p == 0
theorem selF_take {P : Nat → Bool} {n k : Nat} (h : k < n) : (selF P n k).length = (if P k = true then 1 else 0) + (selF P n (k + 1)).length := by
  cases hp : P k
  · rw [selF_no h hp]; simp
  · rw [selF_yes h hp]; simp; omega
theorem tops_from (cs : List Cls) : ∀ (m k : Nat), cs.length - k = m → (selF (topP cs) cs.length k).length + cT (cs.take k) = cT cs
  | 0, k, h => by rw [selF_end _ (by omega), List.take_of_length_le (by omega)]; simp
  | m + 1, k, h => by
    have hk : k < cs.length := by omega
    have := tops_from cs m (k + 1) (by omega)
    rw [selF_take hk, ← this, cT_more cs k hk _ rfl]
    unfold topP
    by_cases hp : (cs.getD k cls0).p = 0
    · rw [if_pos hp, if_pos (by rw [hp]; rfl)]; omega
    · rw [if_neg hp, if_neg (by simpa using hp)]; omega
theorem tops_all (cs : List Cls) : (selF (topP cs) cs.length 0).length = cT cs := by
  have := tops_from cs cs.length 0 (by simp)
  simpa [cT] using this
set_option maxHeartbeats 1600000 in
theorem countTops_cl (ac : Option Addr) (n cc : Nat) (cs : List Cls) (b k : Nat) (w : World) (HI : Hid (InX w ac n (clsCs cs))) (hn : Hid (cs.length = n)) (hm : n ≤ 1048576) (hk : k < n) (Hb : Hid (w.cell? ⟨b, 0, none⟩ = some (.slice ac n cc))) :
    Calls Tryd.prog 74 #[.int .i64 (k : Int), .pointer (some ⟨b, 0, none⟩)] w (SaysB w (topP cs k)) := by
  obtain ⟨x, hx⟩ : ∃ x, cs.getD k cls0 = x := ⟨_, rfl⟩
  have hl1 : k < cs.length := by rw [hn.out]; exact hk
  have hX : topP cs k = (x.p == 0) := by unfold topP; rw [hx]
  have HT := Lib.hid (fun w => isTop_any x w)
  have HGI := HI.out
  obtain ⟨g, rfl, ht, hg⟩ := HGI (by omega)
  obtain ⟨a0, a1, a2, a3, a4, a5, a6, a7⟩ := ht.cls k hl1 x hx
  have hbc := Hb.out
  rw [hX]
  obtain ⟨q, hq⟩ : ∃ q, (x.p == 0) = q := ⟨_, rfl⟩
  rw [hq] at HT ⊢
  obtain ⟨xi, xp, xr, xe, xb, xu, xo, xl⟩ := x
  unfold clsV at HT
  simp only at a0 a1 a2 a3 a4 a5 a6 a7 HT
  clear hx ht hX hq
  go_enter Tryd.func74, Tryd.ntmps74
  go_wp2_with (go_at_call 75; refine (HT.out _).mono ?_; rintro e w1 ⟨rfl, b1⟩; have B1 := Lib.hid b1; clear b1)
  go_ret
  exact ⟨rfl, B1.out⟩
set_option maxHeartbeats 3200000 in
theorem iw_countTops (c0 N : Nat) (P : Nat → Bool) (w : World) (hN : N ≤ 40) (HF : Hid (∀ k : Nat, k < N → ∀ w', Below w.heap.size w w' → Calls Tryd.prog 74 #[.int .i64 (k : Int), .pointer (some ⟨c0, 0, none⟩)] w' (SaysB w' (P k)))) :
    Calls Tryd.prog 73 #[.int .i64 (N : Int), .func (Fn.func 74) #[] #[.pointer (some ⟨c0, 0, none⟩)]] w (SaysNs w (selF P N 0)) := by
  obtain ⟨i0, hi, hz0, hz1, hz2⟩ := info_parts infoI
  obtain ⟨K, hK⟩ : ∃ K, selF P N 0 = K := ⟨_, rfl⟩
  have H0 : Hid ([] ++ selF P N 0 = K) := Lib.hid hK
  rw [hK]
  clear hK
  go_enter Tryd.func73, Tryd.ntmps73
  go_wp2_with fail
  go_loopw [5, 8] (fun out i wr => IwRel w N P K out i wr) (fun _ i _ => N - (intOf i).toNat)
  case atStart => exact ⟨0, [], Nat.zero_le _, Nat.le_refl _, rfl, Below.refl _ _, World.ownsRow_nil _ _ _ _, H0⟩
  case round =>
    obtain ⟨k, ks, hk, hkl, rfl, hb, ho, HP⟩ := hrel
    have HB := Lib.hid hb
    have HO := Lib.hid ho
    obtain ⟨ad, cO, rfl, _⟩ := own_in ho
    by_cases hlt : k < N
    · have HFk := Lib.hid (HF.out k hlt)
      rcases Bool.eq_false_or_eq_true (P k) with hq | hq
      · have HX : Hid ((ks ++ [k]) ++ selF P N (k + 1) = K) := Lib.hid (by rw [← HP.out, selF_yes hlt hq]; simp)
        rw [hq] at HFk
        clear hb ho hq
        go_wp2_with (go_at_call 74; refine (HFk.out _ HB.out).mono ?_; rintro e w2 ⟨rfl, b2⟩; have A2 := Lib.hid (HB.out.trans (b2.mono HB.out.size)); have O2 := Lib.hid (own_low HO.out b2 (Nat.le_refl _)); clear b2; refine Hid.out ?_)
        refine Lib.hid ?_
        have hB2 : w.heap.size ≤ w2.heap.size := A2.out.size
        go_wp2_with (at_builtin; refine wpList_append_own _ rfl _ _ 36 rfl (w.heap.size) 3 i0 (.int .i64 0) 1 8 Tryd.underlying36 hi hz0 hz1 hz2 rfl (by decide) _ _ _ rfl (World.ownsRow.alloc O2.out _) ⟨w2.heap.size, 0, none⟩ 1 1 [.int .i64 (k : Int)] rfl rfl (by have := one_int w2 (.int .i64 (k : Int)) 3; simpa using this) (by intro u hu; simp at hu; subst hu; rfl) (by unfold maxLen; omega) (by omega) (by simp; omega) ?_; intro v' wA hown1 hgrow1 _; have F := Lib.hid (own_snoc rfl ((Below.refl (w.heap.size) w2).alloc hB2 (.cells #[.int .i64 (k : Int)] 3)) hown1 (by simp; omega) hgrow1 (fun g h => (World.ownsRow.lt O2.out g h).1)); clear hown1 hgrow1)
        go_roundw
        case rel => exact ⟨k + 1, ks ++ [k], by omega, by simp; omega, by go_num, A2.out.trans F.out.2, F.out.1, HX⟩
        case measure => simp [intOf]; omega
      · have HX : Hid (ks ++ selF P N (k + 1) = K) := Lib.hid (by rw [← HP.out, selF_no hlt hq])
        rw [hq] at HFk
        clear hb ho hq
        go_wp2_with (go_at_call 74; refine (HFk.out _ HB.out).mono ?_; rintro e w2 ⟨rfl, b2⟩; have A2 := Lib.hid (HB.out.trans (b2.mono HB.out.size)); have O2 := Lib.hid (own_low HO.out b2 (Nat.le_refl _)); clear b2)
        go_roundw
        case rel => exact ⟨k + 1, ks, by omega, by omega, by go_num, A2.out, O2.out, HX⟩
        case measure => simp [intOf]; omega
    · have HX : Hid (ks = K) := Lib.hid (by rw [← HP.out, selF_end _ (by omega), List.append_nil])
      clear hb ho
      go_wp2_with fail
      go_ret
      exact ⟨_, rfl, by rw [← HX.out]; exact HO.out, HB.out⟩
set_option maxHeartbeats 1600000 in
theorem countTops_any (ac : Option Addr) (n cc : Nat) (cs : List Cls) (w : World) (HI : Hid (InX w ac n (clsCs cs))) (hn : Hid (cs.length = n)) (hm : n ≤ 1048576) (h40 : n ≤ 40) :
    Calls Tryd.prog 43 #[(.slice ac n cc)] w (SaysI w ((cT cs : Nat) : Int)) := by
  have B0 := Lib.hid (one_new2 w (Obj.cells #[.slice ac n cc] 29))
  have HCL := Lib.hid (iw_countTops w.heap.size n (topP cs) (w.alloc (.cells #[.slice ac n cc] 29)) h40 (Lib.hid (fun k hk w' b => countTops_cl ac n cc cs w.heap.size k w' (Lib.hid (HI.out.below (B0.out.trans (b.mono B0.out.size)))) hn hm hk (Lib.hid (((bcell b).1 w.heap.size 0 (by simp)).trans (by simp [go_sem]))))))
  have HL : Hid ((selF (topP cs) n 0).length = cT cs) := Lib.hid (by rw [← hn.out]; exact tops_all cs)
  generalize selF (topP cs) n 0 = K at HCL HL
  generalize cT cs = t at HL ⊢
  go_enter Tryd.func43, Tryd.ntmps43
  go_wp2_with (go_at_call 73; refine HCL.out.mono ?_; rintro e w2 ⟨v2, rfl, o2, b2⟩; obtain ⟨p2, k2, rfl, _⟩ := own_in o2; have B2 := Lib.hid (B0.out.trans (b2.mono B0.out.size)); clear b2 o2)
  go_ret
  exact ⟨ret_int (by rw [HL.out]), B2.out⟩
set_option maxHeartbeats 1600000 in
theorem hasNone_BadParents (v : Value) (c : Cfg) (w : World) (HV : Hid (CfgV w v c)) (HM : Hid (CfgM c)) :
    Calls Tryd.prog 44 #[v, .func (Fn.func 45) #[] #[]] w (SaysB w (rawC c && (((selC badP c).length : Int) == 0))) := by
  have HC := Lib.hid (fun v w' HV => implBadParents_any v c w' HV HM)
  generalize selC badP c = K at HC ⊢
  generalize (rawC c) = b at HC ⊢
  obtain ⟨q, hq⟩ : ∃ q, ((K.length : Int) == 0) = q := ⟨_, rfl⟩
  rw [hq]
  have HV0 := HV.out
  obtain ⟨ac, cc, af, cf, rfl, _, _⟩ := HV0
  have A0 := Lib.hid (one_new2 w (Obj.cells #[.string c.s, .slice ac c.cs.length cc, .slice af c.fs.length cf, .int .i64 c.d] 32))
  cases b
  · go_enter Tryd.func44, Tryd.ntmps44
    go_wp2_with (go_at_call 45; refine (HC.out _ _ (Lib.hid (HV.out.below A0.out))).mono ?_; rintro e w2 ⟨v2, rfl, o2, b2⟩; obtain ⟨p2, k2, rfl, _⟩ := own_in o2; have B2 := Lib.hid (A0.out.trans (b2.mono A0.out.size)); clear b2 o2)
    go_ret
    exact ⟨rfl, B2.out⟩
  · go_enter Tryd.func44, Tryd.ntmps44
    go_wp2_with (go_at_call 45; refine (HC.out _ _ (Lib.hid (HV.out.below A0.out))).mono ?_; rintro e w2 ⟨v2, rfl, o2, b2⟩; obtain ⟨p2, k2, rfl, _⟩ := own_in o2; have B2 := Lib.hid (A0.out.trans (b2.mono A0.out.size)); clear b2 o2)
    go_ret
    exact ⟨rfl, B2.out⟩
set_option maxHeartbeats 1600000 in
theorem hasNone_DeepClasses (v : Value) (c : Cfg) (w : World) (HV : Hid (CfgV w v c)) (HM : Hid (CfgM c)) :
    Calls Tryd.prog 44 #[v, .func (Fn.func 47) #[] #[]] w (SaysB w (rawC c && (((selC deepQ c).length : Int) == 0))) := by
  have HC := Lib.hid (fun v w' HV => implDeepClasses_any v c w' HV HM)
  generalize selC deepQ c = K at HC ⊢
  generalize (rawC c) = b at HC ⊢
  obtain ⟨q, hq⟩ : ∃ q, ((K.length : Int) == 0) = q := ⟨_, rfl⟩
  rw [hq]
  have HV0 := HV.out
  obtain ⟨ac, cc, af, cf, rfl, _, _⟩ := HV0
  have A0 := Lib.hid (one_new2 w (Obj.cells #[.string c.s, .slice ac c.cs.length cc, .slice af c.fs.length cf, .int .i64 c.d] 32))
  cases b
  · go_enter Tryd.func44, Tryd.ntmps44
    go_wp2_with (go_at_call 47; refine (HC.out _ _ (Lib.hid (HV.out.below A0.out))).mono ?_; rintro e w2 ⟨v2, rfl, o2, b2⟩; obtain ⟨p2, k2, rfl, _⟩ := own_in o2; have B2 := Lib.hid (A0.out.trans (b2.mono A0.out.size)); clear b2 o2)
    go_ret
    exact ⟨rfl, B2.out⟩
  · go_enter Tryd.func44, Tryd.ntmps44
    go_wp2_with (go_at_call 47; refine (HC.out _ _ (Lib.hid (HV.out.below A0.out))).mono ?_; rintro e w2 ⟨v2, rfl, o2, b2⟩; obtain ⟨p2, k2, rfl, _⟩ := own_in o2; have B2 := Lib.hid (A0.out.trans (b2.mono A0.out.size)); clear b2 o2)
    go_ret
    exact ⟨rfl, B2.out⟩
set_option maxHeartbeats 1600000 in
theorem hasNone_OverfullClasses (v : Value) (c : Cfg) (w : World) (HV : Hid (CfgV w v c)) (HM : Hid (CfgM c)) :
    Calls Tryd.prog 44 #[v, .func (Fn.func 52) #[] #[]] w (SaysB w (rawC c && ratesC c && (((selO c).length : Int) == 0))) := by
  have HC := Lib.hid (fun v w' HV => implOverfullClasses_any v c w' HV HM)
  generalize selO c = K at HC ⊢
  generalize (rawC c && ratesC c) = b at HC ⊢
  obtain ⟨q, hq⟩ : ∃ q, ((K.length : Int) == 0) = q := ⟨_, rfl⟩
  rw [hq]
  have HV0 := HV.out
  obtain ⟨ac, cc, af, cf, rfl, _, _⟩ := HV0
  have A0 := Lib.hid (one_new2 w (Obj.cells #[.string c.s, .slice ac c.cs.length cc, .slice af c.fs.length cf, .int .i64 c.d] 32))
  cases b
  · go_enter Tryd.func44, Tryd.ntmps44
    go_wp2_with (go_at_call 52; refine (HC.out _ _ (Lib.hid (HV.out.below A0.out))).mono ?_; rintro e w2 ⟨v2, rfl, o2, b2⟩; obtain ⟨p2, k2, rfl, _⟩ := own_in o2; have B2 := Lib.hid (A0.out.trans (b2.mono A0.out.size)); clear b2 o2)
    go_ret
    exact ⟨rfl, B2.out⟩
  · go_enter Tryd.func44, Tryd.ntmps44
    go_wp2_with (go_at_call 52; refine (HC.out _ _ (Lib.hid (HV.out.below A0.out))).mono ?_; rintro e w2 ⟨v2, rfl, o2, b2⟩; obtain ⟨p2, k2, rfl, _⟩ := own_in o2; have B2 := Lib.hid (A0.out.trans (b2.mono A0.out.size)); clear b2 o2)
    go_ret
    exact ⟨rfl, B2.out⟩
set_option maxHeartbeats 1600000 in
theorem hasNone_BadTargets (v : Value) (c : Cfg) (w : World) (HV : Hid (CfgV w v c)) (HM : Hid (CfgM c)) :
    Calls Tryd.prog 44 #[v, .func (Fn.func 59) #[] #[]] w (SaysB w (rawC c && (((selT tgtP c).length : Int) == 0))) := by
  have HC := Lib.hid (fun v w' HV => implBadTargets_any v c w' HV HM)
  generalize selT tgtP c = K at HC ⊢
  generalize (rawC c) = b at HC ⊢
  obtain ⟨q, hq⟩ : ∃ q, ((K.length : Int) == 0) = q := ⟨_, rfl⟩
  rw [hq]
  have HV0 := HV.out
  obtain ⟨ac, cc, af, cf, rfl, _, _⟩ := HV0
  have A0 := Lib.hid (one_new2 w (Obj.cells #[.string c.s, .slice ac c.cs.length cc, .slice af c.fs.length cf, .int .i64 c.d] 32))
  cases b
  · go_enter Tryd.func44, Tryd.ntmps44
    go_wp2_with (go_at_call 59; refine (HC.out _ _ (Lib.hid (HV.out.below A0.out))).mono ?_; rintro e w2 ⟨v2, rfl, o2, b2⟩; obtain ⟨p2, k2, rfl, _⟩ := own_in o2; have B2 := Lib.hid (A0.out.trans (b2.mono A0.out.size)); clear b2 o2)
    go_ret
    exact ⟨rfl, B2.out⟩
  · go_enter Tryd.func44, Tryd.ntmps44
    go_wp2_with (go_at_call 59; refine (HC.out _ _ (Lib.hid (HV.out.below A0.out))).mono ?_; rintro e w2 ⟨v2, rfl, o2, b2⟩; obtain ⟨p2, k2, rfl, _⟩ := own_in o2; have B2 := Lib.hid (A0.out.trans (b2.mono A0.out.size)); clear b2 o2)
    go_ret
    exact ⟨rfl, B2.out⟩
set_option maxHeartbeats 1600000 in
theorem hasRateAndCeil_any (x : Cls) (w : World) : Calls Tryd.prog 50 #[clsV x] w (SaysB w (rcOk x)) := by
  have H0 := Lib.hid (fun w => isIn_any x.r 1 100000 w)
  have H1 := Lib.hid (fun w => isIn_any x.e x.r 100000 w)
  have HE : Hid (rcOk x = (inB x.r 1 100000 && inB x.e x.r 100000)) := Lib.hid rfl
  generalize inB x.r 1 100000 = b0 at H0 HE
  generalize inB x.e x.r 100000 = b1 at H1 HE
  generalize rcOk x = R at HE ⊢
  obtain ⟨xi, xp, xr, xe, xb, xu, xo, xl⟩ := x
  unfold clsV
  simp only at H0 H1 ⊢
  cases b0 <;> cases b1
  all_goals
    go_enter Tryd.func50, Tryd.ntmps50
    go_wp2_with (first | (go_at_call 72; (with_reducible refine (H0.out _).mono ?_); rintro e w' ⟨rfl, rfl⟩) | (go_at_call 72; (with_reducible refine (H1.out _).mono ?_); rintro e w' ⟨rfl, rfl⟩))
    go_ret
    exact ⟨ret_bool (by rw [HE.out]; rfl), one_new2 _ _⟩
set_option maxHeartbeats 1600000 in
theorem hasBurstsAndPrio_any (x : Cls) (w : World) : Calls Tryd.prog 54 #[clsV x] w (SaysB w (bpOk x)) := by
  have H0 := Lib.hid (fun w => isIn_any x.b 1500 1000000 w)
  have H1 := Lib.hid (fun w => isIn_any x.u 1500 1000000 w)
  have H2 := Lib.hid (fun w => isIn_any x.o 0 7 w)
  have HE : Hid (bpOk x = ((inB x.b 1500 1000000 && inB x.u 1500 1000000) && inB x.o 0 7)) := Lib.hid rfl
  generalize inB x.b 1500 1000000 = b0 at H0 HE
  generalize inB x.u 1500 1000000 = b1 at H1 HE
  generalize inB x.o 0 7 = b2 at H2 HE
  generalize bpOk x = R at HE ⊢
  obtain ⟨xi, xp, xr, xe, xb, xu, xo, xl⟩ := x
  unfold clsV
  simp only at H0 H1 H2 ⊢
  cases b0 <;> cases b1 <;> cases b2
  all_goals
    go_enter Tryd.func54, Tryd.ntmps54
    go_wp2_with (first | (go_at_call 72; (with_reducible refine (H0.out _).mono ?_); rintro e w' ⟨rfl, rfl⟩) | (go_at_call 72; (with_reducible refine (H1.out _).mono ?_); rintro e w' ⟨rfl, rfl⟩) | (go_at_call 72; (with_reducible refine (H2.out _).mono ?_); rintro e w' ⟨rfl, rfl⟩))
    go_ret
    exact ⟨ret_bool (by rw [HE.out]; rfl), one_new2 _ _⟩
set_option maxHeartbeats 3200000 in
theorem allOf_rc (ac : Option Addr) (n cc : Nat) (cs : List Cls) (w : World) (HI : Hid (InX w ac n (clsCs cs))) (hn : Hid (cs.length = n)) (hm : n ≤ 1048576) (HF : Hid (∀ x w', Calls Tryd.prog 50 #[clsV x] w' (SaysB w' (rcOk x)))) :
    Calls Tryd.prog 49 #[(.slice ac n cc), .func (Fn.func 50) #[] #[]] w (SaysB w (fromK (fun k => rcOk (cs.getD k cls0)) n 0)) := by
  obtain ⟨B, hB⟩ : ∃ B, fromK (fun k => rcOk (cs.getD k cls0)) n 0 = B := ⟨_, rfl⟩
  have H0 := Lib.hid hB
  rw [hB]
  clear hB
  go_enter Tryd.func49, Tryd.ntmps49
  go_wp2_with fail
  go_loopw [9] (fun i wr => ∃ k : Nat, k ≤ n ∧ i = .int .i64 k ∧ Below w.heap.size w wr ∧ Hid (fromK (fun k => rcOk (cs.getD k cls0)) n k = B)) (fun i _ => n - (intOf i).toNat)
  case atStart => exact ⟨0, Nat.zero_le _, rfl, Below.refl _ _, H0⟩
  case round =>
    obtain ⟨k, hk, rfl, hbl, HP⟩ := hrel
    have HB := Lib.hid hbl
    by_cases hlt : k < n
    · have HGI := HI.out
      obtain ⟨g, rfl, ht, hg⟩ := HGI (by omega)
      obtain ⟨x, hx⟩ : ∃ x, cs.getD k cls0 = x := ⟨_, rfl⟩
      have hl1 : k < cs.length := by rw [hn.out]; exact hlt
      obtain ⟨a0, a1, a2, a3, a4, a5, a6, a7⟩ := (ht.below hbl hg).cls k hl1 x hx
      have HE := Lib.hid (fromK_at (fun k => rcOk (cs.getD k cls0)) n k hlt)
      have HEx : Hid (rcOk (cs.getD k cls0) = rcOk x) := Lib.hid (by rw [hx])
      have HC := Lib.hid (fun w' => HF.out x w')
      have BA := Lib.hid (one_new2 wr (Obj.cells #[.int .i64 x.i, .int .i64 x.p, .int .i64 x.r, .int .i64 x.e, .int .i64 x.b, .int .i64 x.u, .int .i64 x.o, .int .i64 x.l] 62))
      rcases Bool.eq_false_or_eq_true (rcOk x) with hh | hh
      · have HX := Lib.hid (show fromK (fun k => rcOk (cs.getD k cls0)) n (k + 1) = B by rw [← HP.out, HE.out, HEx.out, hh, Bool.true_and])
        rw [hh] at HC
        obtain ⟨xi, xp, xr, xe, xb, xu, xo, xl⟩ := x
        unfold clsV at HC
        simp only at a0 a1 a2 a3 a4 a5 a6 a7 HC BA
        clear hbl hx hl1 ht hh HE HEx
        go_wp2_with (go_at_call 50; refine (HC.out _).mono ?_; rintro e w1 ⟨rfl, b1⟩; have B1 := Lib.hid (HB.out.trans ((BA.out.trans (b1.mono BA.out.size)).mono HB.out.size)); clear b1)
        go_roundw
        case rel => exact ⟨k + 1, by omega, by go_num, B1.out, HX⟩
        case measure => simp [intOf]; omega
      · have HX : Hid (false = B) := Lib.hid (by rw [← HP.out, HE.out, HEx.out, hh, Bool.false_and])
        rw [hh] at HC
        obtain ⟨xi, xp, xr, xe, xb, xu, xo, xl⟩ := x
        unfold clsV at HC
        simp only at a0 a1 a2 a3 a4 a5 a6 a7 HC BA
        clear hbl hx hl1 ht hh HE HEx
        go_wp2_with (go_at_call 50; refine (HC.out _).mono ?_; rintro e w1 ⟨rfl, b1⟩; have B1 := Lib.hid (HB.out.trans ((BA.out.trans (b1.mono BA.out.size)).mono HB.out.size)); clear b1)
        go_ret
        exact ⟨ret_bool HX.out, B1.out⟩
    · have HX : Hid (true = B) := Lib.hid (by rw [← HP.out, fromK_end _ n k (by omega)])
      clear hbl
      go_wp2_with fail
      go_ret
      exact ⟨ret_bool HX.out, HB.out⟩
set_option maxHeartbeats 3200000 in
theorem allOf_bp (ac : Option Addr) (n cc : Nat) (cs : List Cls) (w : World) (HI : Hid (InX w ac n (clsCs cs))) (hn : Hid (cs.length = n)) (hm : n ≤ 1048576) (HF : Hid (∀ x w', Calls Tryd.prog 54 #[clsV x] w' (SaysB w' (bpOk x)))) :
    Calls Tryd.prog 49 #[(.slice ac n cc), .func (Fn.func 54) #[] #[]] w (SaysB w (fromK (fun k => bpOk (cs.getD k cls0)) n 0)) := by
  obtain ⟨B, hB⟩ : ∃ B, fromK (fun k => bpOk (cs.getD k cls0)) n 0 = B := ⟨_, rfl⟩
  have H0 := Lib.hid hB
  rw [hB]
  clear hB
  go_enter Tryd.func49, Tryd.ntmps49
  go_wp2_with fail
  go_loopw [9] (fun i wr => ∃ k : Nat, k ≤ n ∧ i = .int .i64 k ∧ Below w.heap.size w wr ∧ Hid (fromK (fun k => bpOk (cs.getD k cls0)) n k = B)) (fun i _ => n - (intOf i).toNat)
  case atStart => exact ⟨0, Nat.zero_le _, rfl, Below.refl _ _, H0⟩
  case round =>
    obtain ⟨k, hk, rfl, hbl, HP⟩ := hrel
    have HB := Lib.hid hbl
    by_cases hlt : k < n
    · have HGI := HI.out
      obtain ⟨g, rfl, ht, hg⟩ := HGI (by omega)
      obtain ⟨x, hx⟩ : ∃ x, cs.getD k cls0 = x := ⟨_, rfl⟩
      have hl1 : k < cs.length := by rw [hn.out]; exact hlt
      obtain ⟨a0, a1, a2, a3, a4, a5, a6, a7⟩ := (ht.below hbl hg).cls k hl1 x hx
      have HE := Lib.hid (fromK_at (fun k => bpOk (cs.getD k cls0)) n k hlt)
      have HEx : Hid (bpOk (cs.getD k cls0) = bpOk x) := Lib.hid (by rw [hx])
      have HC := Lib.hid (fun w' => HF.out x w')
      have BA := Lib.hid (one_new2 wr (Obj.cells #[.int .i64 x.i, .int .i64 x.p, .int .i64 x.r, .int .i64 x.e, .int .i64 x.b, .int .i64 x.u, .int .i64 x.o, .int .i64 x.l] 62))
      rcases Bool.eq_false_or_eq_true (bpOk x) with hh | hh
      · have HX := Lib.hid (show fromK (fun k => bpOk (cs.getD k cls0)) n (k + 1) = B by rw [← HP.out, HE.out, HEx.out, hh, Bool.true_and])
        rw [hh] at HC
        obtain ⟨xi, xp, xr, xe, xb, xu, xo, xl⟩ := x
        unfold clsV at HC
        simp only at a0 a1 a2 a3 a4 a5 a6 a7 HC BA
        clear hbl hx hl1 ht hh HE HEx
        go_wp2_with (go_at_call 54; refine (HC.out _).mono ?_; rintro e w1 ⟨rfl, b1⟩; have B1 := Lib.hid (HB.out.trans ((BA.out.trans (b1.mono BA.out.size)).mono HB.out.size)); clear b1)
        go_roundw
        case rel => exact ⟨k + 1, by omega, by go_num, B1.out, HX⟩
        case measure => simp [intOf]; omega
      · have HX : Hid (false = B) := Lib.hid (by rw [← HP.out, HE.out, HEx.out, hh, Bool.false_and])
        rw [hh] at HC
        obtain ⟨xi, xp, xr, xe, xb, xu, xo, xl⟩ := x
        unfold clsV at HC
        simp only at a0 a1 a2 a3 a4 a5 a6 a7 HC BA
        clear hbl hx hl1 ht hh HE HEx
        go_wp2_with (go_at_call 54; refine (HC.out _).mono ?_; rintro e w1 ⟨rfl, b1⟩; have B1 := Lib.hid (HB.out.trans ((BA.out.trans (b1.mono BA.out.size)).mono HB.out.size)); clear b1)
        go_ret
        exact ⟨ret_bool HX.out, B1.out⟩
    · have HX : Hid (true = B) := Lib.hid (by rw [← HP.out, fromK_end _ n k (by omega)])
      clear hbl
      go_wp2_with fail
      go_ret
      exact ⟨ret_bool HX.out, HB.out⟩
set_option maxHeartbeats 1600000 in
theorem haveLimits_cl (ac : Option Addr) (n cc : Nat) (cs : List Cls) (b : Nat) (x : Cls) (w : World) (HI : Hid (InX w ac n (clsCs cs))) (hn : Hid (cs.length = n)) (hm : n ≤ 1048576) (Hb : Hid (w.cell? ⟨b, 0, none⟩ = some (.slice ac n cc))) (hbw : b < w.heap.size) :
    Calls Tryd.prog 83 #[clsV x, .pointer (some ⟨b, 0, none⟩)] w (SaysB w (limOk cs x)) := by
  have HH := Lib.hid (fun w' HI => hasChildren_any ac n cc cs x.i w' HI hn hm)
  have HN := Lib.hid (fun w => isIn_any x.l 1 60 w)
  have hb2 := fun o => ((bcell (one_new2 w o)).1 _ 0 hbw).trans Hb.out
  have B0 := Lib.hid (one_new2 w (Obj.cells #[.int .i64 x.i, .int .i64 x.p, .int .i64 x.r, .int .i64 x.e, .int .i64 x.b, .int .i64 x.u, .int .i64 x.o, .int .i64 x.l] 62))
  have HE : Hid (limOk cs x = if hasK cs x.i then x.l == 0 else inB x.l 1 60) := Lib.hid rfl
  generalize hasK cs x.i = h at HH HE
  generalize inB x.l 1 60 = q at HN HE
  obtain ⟨z, hz⟩ : ∃ z, (x.l == 0) = z := ⟨_, rfl⟩
  rw [hz] at HE
  generalize limOk cs x = R at HE ⊢
  obtain ⟨xi, xp, xr, xe, xb, xu, xo, xl⟩ := x
  unfold clsV
  simp only at HH HN hz B0 ⊢
  cases h
  · go_enter Tryd.func83, Tryd.ntmps83
    go_wp2_with (go_at_call 84; refine (HH.out _ (Lib.hid (HI.out.below B0.out))).mono ?_; rintro e w1 ⟨rfl, b1⟩; have B1 := Lib.hid (B0.out.trans (b1.mono B0.out.size)); have X7 : w1.cell? ⟨w.heap.size, 7, none⟩ = some (.int .i64 xl) := ((bcell b1).1 w.heap.size 7 (by simp)).trans (by simp [go_sem]); clear b1; refine Hid.out ?_)
    refine Lib.hid ?_
    go_wp2_with (go_at_call 72; refine (HN.out _).mono ?_; rintro e w9 ⟨rfl, rfl⟩)
    go_ret
    exact ⟨ret_bool (by rw [HE.out]; rfl), B1.out⟩
  · go_enter Tryd.func83, Tryd.ntmps83
    go_wp2_with (go_at_call 84; refine (HH.out _ (Lib.hid (HI.out.below B0.out))).mono ?_; rintro e w1 ⟨rfl, b1⟩; have B1 := Lib.hid (B0.out.trans (b1.mono B0.out.size)); have X7 : w1.cell? ⟨w.heap.size, 7, none⟩ = some (.int .i64 xl) := ((bcell b1).1 w.heap.size 7 (by simp)).trans (by simp [go_sem]); clear b1)
    go_ret
    exact ⟨ret_bool (by rw [HE.out]; rfl), B1.out⟩
set_option maxHeartbeats 3200000 in
theorem allOf_lim (ac : Option Addr) (n cc : Nat) (cs : List Cls) (w : World) (HI : Hid (InX w ac n (clsCs cs))) (hn : Hid (cs.length = n)) (hm : n ≤ 1048576) (b0 : Nat) (HF : Hid (∀ x w', Below w.heap.size w w' → Calls Tryd.prog 83 #[clsV x, .pointer (some ⟨b0, 0, none⟩)] w' (SaysB w' (limOk cs x)))) :
    Calls Tryd.prog 49 #[(.slice ac n cc), .func (Fn.func 83) #[] #[.pointer (some ⟨b0, 0, none⟩)]] w (SaysB w (fromK (fun k => limOk cs (cs.getD k cls0)) n 0)) := by
  obtain ⟨B, hB⟩ : ∃ B, fromK (fun k => limOk cs (cs.getD k cls0)) n 0 = B := ⟨_, rfl⟩
  have H0 := Lib.hid hB
  rw [hB]
  clear hB
  go_enter Tryd.func49, Tryd.ntmps49
  go_wp2_with fail
  go_loopw [9] (fun i wr => ∃ k : Nat, k ≤ n ∧ i = .int .i64 k ∧ Below w.heap.size w wr ∧ Hid (fromK (fun k => limOk cs (cs.getD k cls0)) n k = B)) (fun i _ => n - (intOf i).toNat)
  case atStart => exact ⟨0, Nat.zero_le _, rfl, Below.refl _ _, H0⟩
  case round =>
    obtain ⟨k, hk, rfl, hbl, HP⟩ := hrel
    have HB := Lib.hid hbl
    by_cases hlt : k < n
    · have HGI := HI.out
      obtain ⟨g, rfl, ht, hg⟩ := HGI (by omega)
      obtain ⟨x, hx⟩ : ∃ x, cs.getD k cls0 = x := ⟨_, rfl⟩
      have hl1 : k < cs.length := by rw [hn.out]; exact hlt
      obtain ⟨a0, a1, a2, a3, a4, a5, a6, a7⟩ := (ht.below hbl hg).cls k hl1 x hx
      have HE := Lib.hid (fromK_at (fun k => limOk cs (cs.getD k cls0)) n k hlt)
      have HEx : Hid (limOk cs (cs.getD k cls0) = limOk cs x) := Lib.hid (by rw [hx])
      have HC := Lib.hid (fun w' (b : Below w.heap.size w w') => HF.out x w' b)
      have BA := Lib.hid (one_new2 wr (Obj.cells #[.int .i64 x.i, .int .i64 x.p, .int .i64 x.r, .int .i64 x.e, .int .i64 x.b, .int .i64 x.u, .int .i64 x.o, .int .i64 x.l] 62))
      rcases Bool.eq_false_or_eq_true (limOk cs x) with hh | hh
      · have HX := Lib.hid (show fromK (fun k => limOk cs (cs.getD k cls0)) n (k + 1) = B by rw [← HP.out, HE.out, HEx.out, hh, Bool.true_and])
        rw [hh] at HC
        obtain ⟨xi, xp, xr, xe, xb, xu, xo, xl⟩ := x
        unfold clsV at HC
        simp only at a0 a1 a2 a3 a4 a5 a6 a7 HC BA
        clear hbl hx hl1 ht hh HE HEx
        go_wp2_with (go_at_call 83; refine (HC.out _ (HB.out.trans (BA.out.mono HB.out.size))).mono ?_; rintro e w1 ⟨rfl, b1⟩; have B1 := Lib.hid (HB.out.trans ((BA.out.trans (b1.mono BA.out.size)).mono HB.out.size)); clear b1)
        go_roundw
        case rel => exact ⟨k + 1, by omega, by go_num, B1.out, HX⟩
        case measure => simp [intOf]; omega
      · have HX : Hid (false = B) := Lib.hid (by rw [← HP.out, HE.out, HEx.out, hh, Bool.false_and])
        rw [hh] at HC
        obtain ⟨xi, xp, xr, xe, xb, xu, xo, xl⟩ := x
        unfold clsV at HC
        simp only at a0 a1 a2 a3 a4 a5 a6 a7 HC BA
        clear hbl hx hl1 ht hh HE HEx
        go_wp2_with (go_at_call 83; refine (HC.out _ (HB.out.trans (BA.out.mono HB.out.size))).mono ?_; rintro e w1 ⟨rfl, b1⟩; have B1 := Lib.hid (HB.out.trans ((BA.out.trans (b1.mono BA.out.size)).mono HB.out.size)); clear b1)
        go_ret
        exact ⟨ret_bool HX.out, B1.out⟩
    · have HX : Hid (true = B) := Lib.hid (by rw [← HP.out, fromK_end _ n k (by omega)])
      clear hbl
      go_wp2_with fail
      go_ret
      exact ⟨ret_bool HX.out, HB.out⟩
set_option maxHeartbeats 1600000 in
theorem haveLimits_any (ac : Option Addr) (n cc : Nat) (cs : List Cls) (w : World) (HI : Hid (InX w ac n (clsCs cs))) (hn : Hid (cs.length = n)) (hm : n ≤ 1048576) :
    Calls Tryd.prog 56 #[(.slice ac n cc)] w (SaysB w (fromK (fun k => limOk cs (cs.getD k cls0)) n 0)) := by
  have B0 := Lib.hid (one_new2 w (Obj.cells #[.slice ac n cc] 29))
  have HCL := Lib.hid (allOf_lim ac n cc cs (w.alloc (.cells #[.slice ac n cc] 29)) (Lib.hid (HI.out.below B0.out)) hn hm w.heap.size (Lib.hid (fun x w' b => haveLimits_cl ac n cc cs w.heap.size x w' (Lib.hid (HI.out.below (B0.out.trans (b.mono B0.out.size)))) hn hm (Lib.hid (((bcell b).1 w.heap.size 0 (by simp)).trans (by simp [go_sem]))) (Nat.lt_of_lt_of_le (by simp) b.size))))
  generalize fromK (fun k => limOk cs (cs.getD k cls0)) n 0 = R at HCL ⊢
  go_enter Tryd.func56, Tryd.ntmps56
  go_wp2_with (go_at_call 49; refine HCL.out.mono ?_; rintro e w2 ⟨rfl, b2⟩; have B2 := Lib.hid (B0.out.trans (b2.mono B0.out.size)); clear b2)
  go_ret
  exact ⟨rfl, B2.out⟩
end Go.Proofs.YtfijhgggljaomaaDoor
