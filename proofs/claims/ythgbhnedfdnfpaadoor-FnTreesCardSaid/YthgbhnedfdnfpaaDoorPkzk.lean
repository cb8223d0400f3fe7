import Derived.Test.YthgbhnedfdnfpaaDoorPkzj
/- Chapter 4: whether a class is below another one. -/
namespace Go.Proofs.YthgbhnedfdnfpaaDoor
set_option maxRecDepth 100000
open Go.RowKit
set_option linter.unusedVariables false

def resIsBelow1 (c : Cfg) (a b : Int) : Bool := (hasI c a && hasI c b) && (up c.cs 9 a.toNat).any (fun j => ((j : Int) == b))
def resIsBelow2 (c : Cfg) (a b : Int) : Bool := hasI c a && hasI c b
def HaRel (K : List Nat) (b : Int) (B : Bool) (i : Value) : Prop := ∃ k : Nat, k ≤ K.length ∧ i = .int .i64 k ∧ Hid ((K.drop k).any (fun j => ((j : Int) == b)) = B)
theorem any_at (K : List Nat) (b : Int) (k : Nat) (h : k < K.length) (j : Nat) (hj : K.getD k 0 = j) : (K.drop k).any (fun j => ((j : Int) == b)) = (((j : Int) == b) || (K.drop (k + 1)).any (fun j => ((j : Int) == b))) := by
  rw [List.drop_eq_getElem_cons h, List.any_cons]
  subst hj
  simp [List.getD_eq_getElem?_getD, h]
set_option maxHeartbeats 3200000 in
theorem l1Has_any (v : Value) (B : Nat) (K : List Nat) (b : Int) (w : World) (HO : Hid (w.ownsRow B 3 1 v K.length (nv K))) (h0 : 0 < K.length) (hm : K.length ≤ 1048576) :
    Calls Tryd.prog 38 #[v, .int .i64 b] w (fun e w' => e = .returned (.bool (K.any (fun j => ((j : Int) == b)))) ∧ w = w') := by
  obtain ⟨a, ca, rfl, ia⟩ := own_in HO.out
  obtain ⟨ga, rfl, ha, hga⟩ := ia h0
  have HAT := Lib.hid ha
  obtain ⟨R, hR⟩ : ∃ R, K.any (fun j => ((j : Int) == b)) = R := ⟨_, rfl⟩
  have H0 : Hid ((K.drop 0).any (fun j => ((j : Int) == b)) = R) := Lib.hid hR
  rw [hR]
  obtain ⟨n, hn⟩ : ∃ n, K.length = n := ⟨_, rfl⟩
  have HN := Lib.hid hn
  rw [hn] at hm ⊢
  clear ha ia HO hn h0 hR
  go_enter Tryd.func38, Tryd.ntmps38
  go_wp2_with fail
  go_loop [9] (fun i => HaRel K b R i) (fun i => n - (intOf i).toNat)
  case atStart => exact ⟨0, Nat.zero_le _, rfl, H0⟩
  case round =>
    obtain ⟨k, hk, rfl, HP⟩ := hrel
    have hk2 : k ≤ n := by rw [← HN.out]; exact hk
    by_cases hlt : k < n
    · have hkl : k < K.length := by rw [HN.out]; exact hlt
      obtain ⟨j, hj⟩ : ∃ j, K.getD k 0 = j := ⟨_, rfl⟩
      have a0 := HAT.out.nat k hkl j hj
      have HE := Lib.hid (any_at K b k hkl j hj)
      clear hj hk
      by_cases he : (j : Int) = b
      · have dq : ((j : Int) == b) = true := by simpa using he
        have HX : Hid (true = R) := Lib.hid (by rw [← HP.out, HE.out, dq]; rfl)
        clear he
        go_wp2_with fail
        go_ret
        exact ⟨ret_bool HX.out, rfl⟩
      · have dq : ((j : Int) == b) = false := by simpa using he
        have HX : Hid ((K.drop (k + 1)).any (fun j => ((j : Int) == b)) = R) := Lib.hid (by rw [← HP.out, HE.out, dq, Bool.false_or])
        clear he
        go_wp2_with fail
        go_round
        case rel => exact ⟨k + 1, by have := HN.out; omega, by go_num, HX⟩
        case measure => simp [intOf]; omega
    · have HX : Hid (false = R) := Lib.hid (by rw [← HP.out, List.drop_eq_nil_of_le (by have := HN.out; omega)]; rfl)
      go_wp2_with fail
      go_ret
      exact ⟨ret_bool HX.out, rfl⟩
set_option maxHeartbeats 3200000 in
theorem specIsBelow_any (v : Value) (c : Cfg) (a b : Int) (w : World) (HV : Hid (CfgV w v c)) (HM : Hid (CfgM c)) :
    Calls Tryd.prog 17 #[v, .int .i64 a, .int .i64 b] w (SaysT2 w (.bool (resIsBelow1 c a b)) (.bool (resIsBelow2 c a b))) := by
  obtain ⟨ac, cc, af, cf, rfl, ic, if_⟩ := HV.out
  obtain ⟨s, cs, fs, d⟩ := c
  have hM := HM.out
  unfold CfgM at hM
  simp only at ic if_ hM HV ⊢
  obtain ⟨q0, q1, q2⟩ := hM
  have HI := Lib.hid ic
  have HJ := Lib.hid if_
  have HVB := Lib.hid (fun w' (b : Below w.heap.size w w') => Lib.hid (HV.out.below b))
  have A0 := Lib.hid (Aft.refl w (Obj.cells #[.string s, .slice ac cs.length cc, .slice af fs.length cf, .int .i64 d] 26))
  clear ic if_
  have HH := Lib.hid (fun w' (b : Below w.heap.size w w') => cfHas_any (.agg #[.string s, .slice ac cs.length cc, .slice af fs.length cf, .int .i64 d]) ⟨s, cs, fs, d⟩ a w' (HVB.out w' b) HM)
  have HH2 := Lib.hid (fun w' (b' : Below w.heap.size w w') => cfHas_any (.agg #[.string s, .slice ac cs.length cc, .slice af fs.length cf, .int .i64 d]) ⟨s, cs, fs, d⟩ b w' (HVB.out w' b') HM)
  have X1 : Hid (resIsBelow1 ⟨s, cs, fs, d⟩ a b = ((hasI ⟨s, cs, fs, d⟩ a && hasI ⟨s, cs, fs, d⟩ b) && (up cs 9 a.toNat).any (fun j => ((j : Int) == b)))) := Lib.hid rfl
  have X2 : Hid (resIsBelow2 ⟨s, cs, fs, d⟩ a b = (hasI ⟨s, cs, fs, d⟩ a && hasI ⟨s, cs, fs, d⟩ b)) := Lib.hid rfl
  generalize resIsBelow1 ⟨s, cs, fs, d⟩ a b = R1 at X1 ⊢
  generalize resIsBelow2 ⟨s, cs, fs, d⟩ a b = R2 at X2 ⊢
  cases hh : hasI ⟨s, cs, fs, d⟩ a
  · have Y1 : Hid (R1 = false) := Lib.hid (by rw [X1.out, hh]; rfl)
    have Y2 : Hid (R2 = false) := Lib.hid (by rw [X2.out, hh]; rfl)
    rw [hh] at HH
    clear hh X1 X2 HH2
    go_enter Tryd.func17, Tryd.ntmps17
    go_wp2_with (go_at_call 24; refine (HH.out _ A0.out.all.2).mono ?_; rintro e w1 ⟨rfl, b1⟩; have A1 := Lib.hid (A0.out.on b1); clear b1)
    go_ret2
    exact ⟨ret_bb Y1.out.symm Y2.out.symm, A1.out.all.2⟩
  · rw [hh] at HH
    cases hh2 : hasI ⟨s, cs, fs, d⟩ b
    · have Y1 : Hid (R1 = false) := Lib.hid (by rw [X1.out, hh, hh2]; rfl)
      have Y2 : Hid (R2 = false) := Lib.hid (by rw [X2.out, hh, hh2]; rfl)
      rw [hh2] at HH2
      clear hh hh2 X1 X2
      go_enter Tryd.func17, Tryd.ntmps17
      go_wp2_with (go_at_call 24; refine (HH.out _ A0.out.all.2).mono ?_; rintro e w1 ⟨rfl, b1⟩; have A1 := Lib.hid (A0.out.on b1); obtain ⟨c0, c1, c2, c3, _⟩ := A1.out.all.1; clear b1; refine Hid.out ?_)
      refine Lib.hid ?_
      go_wp2_with (go_at_call 24; refine (HH2.out _ A1.out.all.2).mono ?_; rintro e w2 ⟨rfl, b2⟩; have A2 := Lib.hid (A1.out.on b2); clear b2)
      go_ret2
      exact ⟨ret_bb Y1.out.symm Y2.out.symm, A2.out.all.2⟩
    · rw [hh2] at HH2
      have Y1 : Hid (R1 = (up cs 9 a.toNat).any (fun j => ((j : Int) == b))) := Lib.hid (by rw [X1.out, hh, hh2]; rfl)
      have Y2 : Hid (R2 = true) := Lib.hid (by rw [X2.out, hh, hh2]; rfl)
      obtain ⟨hg, q, rfl, hq⟩ := has_iff hh
      have HKD := Lib.hid (fun w' HI => cfUp_any s ac af cs.length cc fs.length cf d cs q w' HI (Lib.hid rfl) q1 hq)
      have hul : 0 < (up cs 9 q).length := by obtain ⟨r, hr⟩ := up_cons cs 8 q; rw [hr]; simp
      have hul2 := up_len cs 9 q
      have HL1 := Lib.hid (fun v B w HO => l1Has_any v B (up cs 9 q) b w HO hul (by omega))
      rw [Int.toNat_natCast] at Y1
      generalize up cs 9 q = U at HKD HL1 Y1 hul hul2
      clear hh hh2 X1 X2 hg hul hul2
      go_enter Tryd.func17, Tryd.ntmps17
      go_wp2_with (go_at_call 24; refine (HH.out _ A0.out.all.2).mono ?_; rintro e w1 ⟨rfl, b1⟩; have A1 := Lib.hid (A0.out.on b1); obtain ⟨c0, c1, c2, c3, _⟩ := A1.out.all.1; clear b1; refine Hid.out ?_)
      refine Lib.hid ?_
      go_wp2_with (go_at_call 24; refine (HH2.out _ A1.out.all.2).mono ?_; rintro e w2 ⟨rfl, b2⟩; have A2 := Lib.hid (A1.out.on b2); obtain ⟨c0, c1, c2, c3, _⟩ := A2.out.all.1; clear b2; refine Hid.out ?_)
      refine Lib.hid ?_
      go_wp2_with (go_at_call 25; refine (HKD.out _ (Lib.hid (HI.out.below A2.out.all.2))).mono ?_; rintro e w3 ⟨v3, rfl, o3, b3⟩; have A3 := Lib.hid (A2.out.on b3); have O3 := Lib.hid o3; clear b3 o3)
      go_wp2_with (go_at_call 38; refine (HL1.out _ _ _ O3).mono ?_; rintro e w' ⟨rfl, rfl⟩)
      go_ret2
      exact ⟨ret_bb Y1.out.symm Y2.out.symm, A3.out.all.2⟩
theorem up_short (cs : List Cls) : ∀ (f j : Nat), (up cs (f + 1) j).length ≤ f → up cs f j = up cs (f + 1) j
  | 0, j, h => by obtain ⟨r, hr⟩ := up_cons cs 0 j; rw [hr] at h; simp at h
  | f + 1, j, h => by
    rw [up_step] at h
    rw [up_step cs (f + 1) j, up_step cs f j]
    cases hf : fnd cs (cs.getD j cls0).p with
    | none => rfl
    | some i =>
      rw [hf] at h
      simp only [List.length_cons] at h
      show j :: up cs f i = j :: up cs (f + 1) i
      rw [up_short cs f i (by omega)]
def NodesOk (cs : List Cls) : Prop := ∀ k, k < cs.length → (up cs 9 k).length ≤ 8
theorem up_par {cs : List Cls} (hn : NodesOk cs) {u j : Nat} (hj : fnd cs (cs.getD u cls0).p = Option.some j) : up cs 9 u = u :: up cs 9 j := by
  have hl := (fnd_get cs _ j hj).1
  rw [up_step cs 8 u, hj]
  show u :: up cs 8 j = _
  rw [up_short cs 8 j (hn j hl)]
theorem up_one {cs : List Cls} {u : Nat} (hz : (cs.getD u cls0).p = 0) (h0 : fnd cs 0 = Option.none) : up cs 9 u = [u] := by
  rw [up_step cs 8 u, hz, h0]
/-- how far up a class in a box is -/
noncomputable def farB (cs : List Cls) (b : Nat) (w : World) : Nat := match w.cell? ⟨b, 0, none⟩ with
  | some (.int _ i) => (match fnd cs i with | .none => 0 | .some u => (up cs 9 u).length)
  | _ => 0
theorem farB_at {cs : List Cls} (hi : IncC cs) {b u : Nat} {w : World} (hu : u < cs.length) (h : EightB w b (cs.getD u cls0)) : farB cs b w = (up cs 9 u).length := by
  unfold farB
  rw [h.1]
  simp only [fnd_inc hi hu]
theorem EightB.far {w : World} {b : Nat} {x : Cls} (h : EightB w b x) {c : Nat} (o : Nat) (hc : c ≠ b) (v : Value) : EightB (w.setCell ⟨c, o, none⟩ v) b x := by
  obtain ⟨h0, h1, h2, h3, h4, h5, h6, h7⟩ := h
  have q := fun k => World.cell?_setCell_far w ⟨c, o, none⟩ ⟨b, k, none⟩ v hc
  exact ⟨(q _).trans h0, (q _).trans h1, (q _).trans h2, (q _).trans h3, (q _).trans h4, (q _).trans h5, (q _).trans h6, (q _).trans h7⟩
def IbRel (w : World) (o : Obj) (b8 b9 n r : Nat) (cs : List Cls) (R : Bool) (wr : World) : Prop :=
  ∃ u : Nat, u < n ∧ Aft w o wr ∧ EightB wr b8 (cs.getD u cls0) ∧ EightB wr b9 (cs.getD r cls0) ∧ b8 < wr.heap.size ∧ b9 < wr.heap.size ∧ FroB wr b8 ∧ Hid ((up cs 9 u).any (fun j => ((j : Int) == (r : Int))) = R)
set_option maxHeartbeats 12800000 in
theorem implIsBelow_any (v : Value) (c : Cfg) (a b : Int) (w : World) (HK : Hid (Kwt w)) (HV : Hid (CfgV w v c)) (HM : Hid (CfgM c)) :
    Calls Tryd.prog 16 #[v, .int .i64 a, .int .i64 b] w (SaysT2 w (.bool (resIsBelow1 c a b)) (.bool (resIsBelow2 c a b))) := by
  obtain ⟨ac, cc, af, cf, rfl, ic, if_⟩ := HV.out
  obtain ⟨s, cs, fs, d⟩ := c
  have hM := HM.out
  unfold CfgM at hM
  simp only at ic if_ hM HV ⊢
  obtain ⟨q0, q1, q2⟩ := hM
  have HI := Lib.hid ic
  have HJ := Lib.hid if_
  have HVB := Lib.hid (fun w' (b : Below w.heap.size w w') => Lib.hid (HV.out.below b))
  have A0 := Lib.hid (Aft.refl w (Obj.cells #[.string s, .slice ac cs.length cc, .slice af fs.length cf, .int .i64 d] 26))
  clear ic if_
  have HH := Lib.hid (fun w' (b : Below w.heap.size w w') => hasIndex_any (.agg #[.string s, .slice ac cs.length cc, .slice af fs.length cf, .int .i64 d]) ⟨s, cs, fs, d⟩ a w' (Lib.hid (HK.out.below b)) (HVB.out w' b) HM)
  have HH2 := Lib.hid (fun w' (b' : Below w.heap.size w w') => hasIndex_any (.agg #[.string s, .slice ac cs.length cc, .slice af fs.length cf, .int .i64 d]) ⟨s, cs, fs, d⟩ b w' (Lib.hid (HK.out.below b')) (HVB.out w' b') HM)
  have X1 : Hid (resIsBelow1 ⟨s, cs, fs, d⟩ a b = ((hasI ⟨s, cs, fs, d⟩ a && hasI ⟨s, cs, fs, d⟩ b) && (up cs 9 a.toNat).any (fun j => ((j : Int) == b)))) := Lib.hid rfl
  have X2 : Hid (resIsBelow2 ⟨s, cs, fs, d⟩ a b = (hasI ⟨s, cs, fs, d⟩ a && hasI ⟨s, cs, fs, d⟩ b)) := Lib.hid rfl
  generalize resIsBelow1 ⟨s, cs, fs, d⟩ a b = R1 at X1 ⊢
  generalize resIsBelow2 ⟨s, cs, fs, d⟩ a b = R2 at X2 ⊢
  cases hh : hasI ⟨s, cs, fs, d⟩ a
  · have Y1 : Hid (R1 = false) := Lib.hid (by rw [X1.out, hh]; rfl)
    have Y2 : Hid (R2 = false) := Lib.hid (by rw [X2.out, hh]; rfl)
    rw [hh] at HH
    clear hh X1 X2 HH2
    go_enter Tryd.func16, Tryd.ntmps16
    go_wp2_with (go_at_call 21; refine (HH.out _ A0.out.all.2).mono ?_; rintro e w1 ⟨rfl, b1⟩; have A1 := Lib.hid (A0.out.on b1); clear b1)
    go_ret2
    exact ⟨ret_bb Y1.out.symm Y2.out.symm, A1.out.all.2⟩
  · rw [hh] at HH
    cases hh2 : hasI ⟨s, cs, fs, d⟩ b
    · have Y1 : Hid (R1 = false) := Lib.hid (by rw [X1.out, hh, hh2]; rfl)
      have Y2 : Hid (R2 = false) := Lib.hid (by rw [X2.out, hh, hh2]; rfl)
      rw [hh2] at HH2
      clear hh hh2 X1 X2
      go_enter Tryd.func16, Tryd.ntmps16
      go_wp2_with (go_at_call 21; refine (HH.out _ A0.out.all.2).mono ?_; rintro e w1 ⟨rfl, b1⟩; have A1 := Lib.hid (A0.out.on b1); obtain ⟨c0, c1, c2, c3, _⟩ := A1.out.all.1; clear b1; refine Hid.out ?_)
      refine Lib.hid ?_
      go_wp2_with (go_at_call 21; refine (HH2.out _ A1.out.all.2).mono ?_; rintro e w2 ⟨rfl, b2⟩; have A2 := Lib.hid (A1.out.on b2); clear b2)
      go_ret2
      exact ⟨ret_bb Y1.out.symm Y2.out.symm, A2.out.all.2⟩
    · rw [hh2] at HH2
      have Y1 : Hid (R1 = (up cs 9 a.toNat).any (fun j => ((j : Int) == b))) := Lib.hid (by rw [X1.out, hh, hh2]; rfl)
      have Y2 : Hid (R2 = true) := Lib.hid (by rw [X2.out, hh, hh2]; rfl)
      obtain ⟨hg, q, rfl, hq⟩ := has_iff hh
      obtain ⟨_, r, rfl, hr⟩ := has_iff hh2
      have G := good_of hg
      have HIN := Lib.hid (okL_inc cs 0 G.ok)
      have HNZ := Lib.hid (no_zero G.ok)
      have HPA : Hid (ParAll cs) := Lib.hid (fun k hk => way_par cs k (by have := G.node k hk; unfold nodeOk at this; rw [Bool.and_eq_true] at this; exact this.1))
      have HNO : Hid (NodesOk cs) := Lib.hid (fun k hk => by
        have := G.node k hk
        unfold nodeOk wayOk at this
        simp only [Bool.and_eq_true, decide_eq_true_eq] at this
        exact this.1.1)
      have HPO := Lib.hid (fun y j w' HI hj => parentOf_any ac cs.length cc cs y j w' HI (Lib.hid rfl) q1 HIN hj)
      rw [Int.toNat_natCast] at Y1
      simp only at hq hr
      obtain ⟨n, hn⟩ : ∃ n, cs.length = n := ⟨_, rfl⟩
      have HN := Lib.hid hn
      have HIr := HI.out
      rw [hn] at HIr
      obtain ⟨g, rfl, hgt, hgl⟩ := HIr (by omega)
      have HG := Lib.hid hgt
      simp only [hn] at HH HH2 HI A0 HV HVB HPO q1 ⊢
      obtain ⟨x, hx⟩ : ∃ x, cs.getD q cls0 = x := ⟨_, rfl⟩
      obtain ⟨y, hy⟩ : ∃ y, cs.getD r cls0 = y := ⟨_, rfl⟩
      have HX := Lib.hid hx
      have HY := Lib.hid hy
      have dq0 : (0 : Int) ≤ (q : Int) := by omega
      have dq1 : (q : Int) < (n : Int) := by omega
      have dr0 : (0 : Int) ≤ (r : Int) := by omega
      have dr1 : (r : Int) < (n : Int) := by omega
      obtain ⟨xi, xp, xr, xe, xb, xu, xo, xl⟩ := x
      obtain ⟨yi, yp, yr, ye, yb, yu, yo, yl⟩ := y
      clear hh hh2 X1 X2 hg G hn HIr hgt hx hy
      go_enter Tryd.func16, Tryd.ntmps16
      go_wp2_with (go_at_call 21; refine (HH.out _ A0.out.all.2).mono ?_; rintro e w1 ⟨rfl, b1⟩; have A1 := Lib.hid (A0.out.on b1); obtain ⟨c0, c1, c2, c3, _⟩ := A1.out.all.1; clear b1; refine Hid.out ?_)
      refine Lib.hid ?_
      go_wp2_with (go_at_call 21; refine (HH2.out _ A1.out.all.2).mono ?_; rintro e w2 ⟨rfl, b2⟩; have A2 := Lib.hid (A1.out.on b2); clear b2; refine Hid.out ?_)
      refine Lib.hid ?_
      clear c0 c1 c2 c3
      have HAB : Hid (∀ w', BX w2 w' → Aft w (Obj.cells #[.string s, .slice (some ⟨g, 0, none⟩) n cc, .slice af fs.length cf, .int .i64 d] 26) w') := Lib.hid (fun w' h => A2.out.on h)
      have HQ : Hid (∀ w', BX w2 w' → w'.cell? ⟨w.heap.size, 1, none⟩ = some (.slice (some ⟨g, 0, none⟩) n cc) ∧ w'.cell? ⟨g, q * 8, none⟩ = some (.int .i64 xi) ∧ w'.cell? ⟨g, q * 8 + 1, none⟩ = some (.int .i64 xp) ∧ w'.cell? ⟨g, q * 8 + 2, none⟩ = some (.int .i64 xr) ∧ w'.cell? ⟨g, q * 8 + 3, none⟩ = some (.int .i64 xe) ∧ w'.cell? ⟨g, q * 8 + 4, none⟩ = some (.int .i64 xb) ∧ w'.cell? ⟨g, q * 8 + 5, none⟩ = some (.int .i64 xu) ∧ w'.cell? ⟨g, q * 8 + 6, none⟩ = some (.int .i64 xo) ∧ w'.cell? ⟨g, q * 8 + 7, none⟩ = some (.int .i64 xl) ∧ w'.cell? ⟨g, r * 8, none⟩ = some (.int .i64 yi) ∧ w'.cell? ⟨g, r * 8 + 1, none⟩ = some (.int .i64 yp) ∧ w'.cell? ⟨g, r * 8 + 2, none⟩ = some (.int .i64 yr) ∧ w'.cell? ⟨g, r * 8 + 3, none⟩ = some (.int .i64 ye) ∧ w'.cell? ⟨g, r * 8 + 4, none⟩ = some (.int .i64 yb) ∧ w'.cell? ⟨g, r * 8 + 5, none⟩ = some (.int .i64 yu) ∧ w'.cell? ⟨g, r * 8 + 6, none⟩ = some (.int .i64 yo) ∧ w'.cell? ⟨g, r * 8 + 7, none⟩ = some (.int .i64 yl) ∧ BX w2 w') := Lib.hid (fun w' h => by
        obtain ⟨_, e1, _, _, _⟩ := (HAB.out w' h).all.1
        obtain ⟨t0, t1, t2, t3, t4, t5, t6, t7⟩ := (HG.out.below (HAB.out w' h).all.2 hgl).cls q hq _ HX.out
        obtain ⟨s0, s1, s2, s3, s4, s5, s6, s7⟩ := (HG.out.below (HAB.out w' h).all.2 hgl).cls r hr _ HY.out
        exact ⟨e1, t0, t1, t2, t3, t4, t5, t6, t7, s0, s1, s2, s3, s4, s5, s6, s7, h⟩)
      go_wp2_with fail
      first
      | go_region_held3 (fun w' => w'.cell? ⟨w.heap.size, 1, none⟩ = some (.slice (some ⟨g, 0, none⟩) n cc) ∧ w'.cell? ⟨g, q * 8, none⟩ = some (.int .i64 xi) ∧ w'.cell? ⟨g, q * 8 + 1, none⟩ = some (.int .i64 xp) ∧ w'.cell? ⟨g, q * 8 + 2, none⟩ = some (.int .i64 xr) ∧ w'.cell? ⟨g, q * 8 + 3, none⟩ = some (.int .i64 xe) ∧ w'.cell? ⟨g, q * 8 + 4, none⟩ = some (.int .i64 xb) ∧ w'.cell? ⟨g, q * 8 + 5, none⟩ = some (.int .i64 xu) ∧ w'.cell? ⟨g, q * 8 + 6, none⟩ = some (.int .i64 xo) ∧ w'.cell? ⟨g, q * 8 + 7, none⟩ = some (.int .i64 xl) ∧ w'.cell? ⟨g, r * 8, none⟩ = some (.int .i64 yi) ∧ w'.cell? ⟨g, r * 8 + 1, none⟩ = some (.int .i64 yp) ∧ w'.cell? ⟨g, r * 8 + 2, none⟩ = some (.int .i64 yr) ∧ w'.cell? ⟨g, r * 8 + 3, none⟩ = some (.int .i64 ye) ∧ w'.cell? ⟨g, r * 8 + 4, none⟩ = some (.int .i64 yb) ∧ w'.cell? ⟨g, r * 8 + 5, none⟩ = some (.int .i64 yu) ∧ w'.cell? ⟨g, r * 8 + 6, none⟩ = some (.int .i64 yo) ∧ w'.cell? ⟨g, r * 8 + 7, none⟩ = some (.int .i64 yl) ∧ BX w2 w')
          (first | (go_split_ands; refine HQ.out _ ?_; repeat' (with_reducible first | exact BX.drew0 _ | exact BX.refl _ | assumption | refine BX.set ?_ ?_ _ | refine BX.alloc ?_ _ | refine BX.call' (by assumption) ?_ | refine BX.drew ?_ | refine BX.size ?_ | refine BX.size1 ?_)))
          (fail)
      | fail
      · go_split_ands
        have hsz : (w2.alloc (Obj.cells #[.int .i64 xi, .int .i64 xp, .int .i64 xr, .int .i64 xe, .int .i64 xb, .int .i64 xu, .int .i64 xo, .int .i64 xl] 43)).heap.size = w2.heap.size + 1 := by simp
        have HAW := Lib.hid (HAB.out (((w2.alloc (Obj.cells #[.int .i64 xi, .int .i64 xp, .int .i64 xr, .int .i64 xe, .int .i64 xb, .int .i64 xu, .int .i64 xo, .int .i64 xl] 43)).alloc (Obj.cells #[.int .i64 yi, .int .i64 yp, .int .i64 yr, .int .i64 ye, .int .i64 yb, .int .i64 yu, .int .i64 yo, .int .i64 yl] 43)).drew) (by assumption))
        have HE8 : Hid (EightB (((w2.alloc (Obj.cells #[.int .i64 xi, .int .i64 xp, .int .i64 xr, .int .i64 xe, .int .i64 xb, .int .i64 xu, .int .i64 xo, .int .i64 xl] 43)).alloc (Obj.cells #[.int .i64 yi, .int .i64 yp, .int .i64 yr, .int .i64 ye, .int .i64 yb, .int .i64 yu, .int .i64 yo, .int .i64 yl] 43)).drew) (w2.heap.size) ⟨xi, xp, xr, xe, xb, xu, xo, xl⟩) := Lib.hid (box_eight (show Below (w2.alloc (Obj.cells #[.int .i64 xi, .int .i64 xp, .int .i64 xr, .int .i64 xe, .int .i64 xb, .int .i64 xu, .int .i64 xo, .int .i64 xl] 43)).heap.size (w2.alloc (Obj.cells #[.int .i64 xi, .int .i64 xp, .int .i64 xr, .int .i64 xe, .int .i64 xb, .int .i64 xu, .int .i64 xo, .int .i64 xl] 43)) ((w2.alloc (Obj.cells #[.int .i64 xi, .int .i64 xp, .int .i64 xr, .int .i64 xe, .int .i64 xb, .int .i64 xu, .int .i64 xo, .int .i64 xl] 43)).alloc (Obj.cells #[.int .i64 yi, .int .i64 yp, .int .i64 yr, .int .i64 ye, .int .i64 yb, .int .i64 yu, .int .i64 yo, .int .i64 yl] 43)).drew from (one_new2 _ _).trans (below_drewN (Below.refl _ _) 1))).1
        have HE9 : Hid (EightB (((w2.alloc (Obj.cells #[.int .i64 xi, .int .i64 xp, .int .i64 xr, .int .i64 xe, .int .i64 xb, .int .i64 xu, .int .i64 xo, .int .i64 xl] 43)).alloc (Obj.cells #[.int .i64 yi, .int .i64 yp, .int .i64 yr, .int .i64 ye, .int .i64 yb, .int .i64 yu, .int .i64 yo, .int .i64 yl] 43)).drew) (w2.heap.size + 1) ⟨yi, yp, yr, ye, yb, yu, yo, yl⟩) := Lib.hid (show EightB ((w2.alloc (Obj.cells #[.int .i64 xi, .int .i64 xp, .int .i64 xr, .int .i64 xe, .int .i64 xb, .int .i64 xu, .int .i64 xo, .int .i64 xl] 43)).alloc (Obj.cells #[.int .i64 yi, .int .i64 yp, .int .i64 yr, .int .i64 ye, .int .i64 yb, .int .i64 yu, .int .i64 yo, .int .i64 yl] 43)).drew (w2.heap.size + 1) _ from by have := (box_eight (show Below ((w2.alloc (Obj.cells #[.int .i64 xi, .int .i64 xp, .int .i64 xr, .int .i64 xe, .int .i64 xb, .int .i64 xu, .int .i64 xo, .int .i64 xl] 43)).alloc (Obj.cells #[.int .i64 yi, .int .i64 yp, .int .i64 yr, .int .i64 ye, .int .i64 yb, .int .i64 yu, .int .i64 yo, .int .i64 yl] 43)).heap.size ((w2.alloc (Obj.cells #[.int .i64 xi, .int .i64 xp, .int .i64 xr, .int .i64 xe, .int .i64 xb, .int .i64 xu, .int .i64 xo, .int .i64 xl] 43)).alloc (Obj.cells #[.int .i64 yi, .int .i64 yp, .int .i64 yr, .int .i64 ye, .int .i64 yb, .int .i64 yu, .int .i64 yo, .int .i64 yl] 43)) ((w2.alloc (Obj.cells #[.int .i64 xi, .int .i64 xp, .int .i64 xr, .int .i64 xe, .int .i64 xb, .int .i64 xu, .int .i64 xo, .int .i64 xl] 43)).alloc (Obj.cells #[.int .i64 yi, .int .i64 yp, .int .i64 yr, .int .i64 ye, .int .i64 yb, .int .i64 yu, .int .i64 yo, .int .i64 yl] 43)).drew from below_drewN (Below.refl _ _) 1)).1; simpa only [hsz] using this)
        have HFR : Hid (FroB (((w2.alloc (Obj.cells #[.int .i64 xi, .int .i64 xp, .int .i64 xr, .int .i64 xe, .int .i64 xb, .int .i64 xu, .int .i64 xo, .int .i64 xl] 43)).alloc (Obj.cells #[.int .i64 yi, .int .i64 yp, .int .i64 yr, .int .i64 ye, .int .i64 yb, .int .i64 yu, .int .i64 yo, .int .i64 yl] 43)).drew) (w2.heap.size)) := Lib.hid (fun o => by simp [go_sem])
        have hws : (((w2.alloc (Obj.cells #[.int .i64 xi, .int .i64 xp, .int .i64 xr, .int .i64 xe, .int .i64 xb, .int .i64 xu, .int .i64 xo, .int .i64 xl] 43)).alloc (Obj.cells #[.int .i64 yi, .int .i64 yp, .int .i64 yr, .int .i64 ye, .int .i64 yb, .int .i64 yu, .int .i64 yo, .int .i64 yl] 43)).drew).heap.size = w2.heap.size + 1 + 1 := by simp
        have hne : w2.heap.size ≠ w2.heap.size + 1 := by omega
        have HWR := Lib.hid (show w.heap.size + 1 ≤ w2.heap.size from A2.out.all.1.2.2.2.2)
        have HSL : Hid (w2.heap.size < (((w2.alloc (Obj.cells #[.int .i64 xi, .int .i64 xp, .int .i64 xr, .int .i64 xe, .int .i64 xb, .int .i64 xu, .int .i64 xo, .int .i64 xl] 43)).alloc (Obj.cells #[.int .i64 yi, .int .i64 yp, .int .i64 yr, .int .i64 ye, .int .i64 yb, .int .i64 yu, .int .i64 yo, .int .i64 yl] 43)).drew).heap.size ∧ w2.heap.size + 1 < (((w2.alloc (Obj.cells #[.int .i64 xi, .int .i64 xp, .int .i64 xr, .int .i64 xe, .int .i64 xb, .int .i64 xu, .int .i64 xo, .int .i64 xl] 43)).alloc (Obj.cells #[.int .i64 yi, .int .i64 yp, .int .i64 yr, .int .i64 ye, .int .i64 yb, .int .i64 yu, .int .i64 yo, .int .i64 yl] 43)).drew).heap.size) := Lib.hid (by rw [hws]; omega)
        clear hws hsz
        have hb8' : (w.alloc (Obj.cells #[.string s, .slice (some ⟨g, 0, none⟩) n cc, .slice af fs.length cf, .int .i64 d] 26)).heap.size ≤ w2.heap.size := Nat.le_trans (by simp; exact HWR.out) (show w2.heap.size ≤ w2.heap.size by omega)
        go_wp2_with fail
        go_loopw [] (fun wr => IbRel w (Obj.cells #[.string s, .slice (some ⟨g, 0, none⟩) n cc, .slice af fs.length cf, .int .i64 d] 26) (w2.heap.size) (w2.heap.size + 1) n r cs R1 wr) (fun wr => farB cs (w2.heap.size) wr)
        case atStart => exact ⟨q, by omega, HAW.out, by rw [HX.out]; exact HE8.out, by rw [HY.out]; exact HE9.out, HSL.out.1, HSL.out.2, HFR.out, Lib.hid Y1.out.symm⟩
        case round =>
          obtain ⟨u, hun, hb, he8, he9, hl8, hl9, hfr, HP⟩ := hrel
          have HB := Lib.hid hb
          have HE8' := Lib.hid he8
          have HE9' := Lib.hid he9
          have HFR' := Lib.hid hfr
          have hul : u < cs.length := by have := HN.out; omega
          obtain ⟨z, hz⟩ : ∃ z, cs.getD u cls0 = z := ⟨_, rfl⟩
          have HZ := Lib.hid hz
          have HFB := Lib.hid (farB_at HIN.out hul he8)
          rw [hz] at he8
          rw [HY.out] at he9
          have HT := Lib.hid (fun w => isTop_any z w)
          obtain ⟨k0, k1, k2, k3, k4, k5, k6, k7⟩ := he9
          simp only at k0 k1 k2 k3 k4 k5 k6 k7
          by_cases hur : u = r
          · have hzy : z = ⟨yi, yp, yr, ye, yb, yu, yo, yl⟩ := by rw [← hz, hur]; exact HY.out
            subst hzy
            obtain ⟨a0, a1, a2, a3, a4, a5, a6, a7⟩ := he8
            simp only at a0 a1 a2 a3 a4 a5 a6 a7
            have HRT : Hid (true = R1) := Lib.hid (by
              rw [← HP.out]
              obtain ⟨t, ht⟩ := up_cons cs 8 u
              rw [ht, List.any_cons, hur]; simp)
            clear hb hfr hz hur HT
            go_wp2_with fail
            go_ret2
            exact ⟨ret_bb HRT.out Y2.out.symm, HB.out.all.2⟩
          · have hid : z.i ≠ yi := by
              intro e
              have e1 := fnd_inc HIN.out hul
              have e2 := fnd_inc HIN.out hr
              rw [hz, e] at e1
              rw [HY.out] at e2
              exact hur (Option.some.inj (e1.symm.trans e2))
            have dne : (z.i == yi) = false := by simpa using hid
            by_cases hzp : z.p = 0
            · have HRF : Hid (false = R1) := Lib.hid (by
                rw [← HP.out, up_one (by rw [hz]; exact hzp) HNZ.out]
                simp; omega)
              rw [show (z.p == 0) = true by rw [hzp]; rfl] at HT
              obtain ⟨zi, zp, zr, ze, zb, zu, zo, zl⟩ := z
              unfold clsV at HT
              obtain ⟨a0, a1, a2, a3, a4, a5, a6, a7⟩ := he8
              simp only at a0 a1 a2 a3 a4 a5 a6 a7 HT dne hid
              clear hb hfr hz hur hzp
              go_wp2_with (go_at_call 22; refine (HT.out _).mono ?_; rintro e w3 ⟨rfl, b3⟩; have A3 := Lib.hid (HB.out.on b3); obtain ⟨f0, f1, f2, f3, f4, f5, f6, f7⟩ := (HE8'.out.on b3 hl8); obtain ⟨g0, g1, g2, g3, g4, g5, g6, g7⟩ := (HE9'.out.on b3 hl9); clear b3; refine Hid.out ?_)
              refine Lib.hid ?_
              rw [HZ.out] at f0 f1 f2 f3 f4 f5 f6 f7
              rw [HY.out] at g0 g1 g2 g3 g4 g5 g6 g7
              simp only at f0 f1 f2 f3 f4 f5 f6 f7 g0 g1 g2 g3 g4 g5 g6 g7
              go_wp2_with fail
              go_ret2
              exact ⟨ret_bb HRF.out Y2.out.symm, A3.out.all.2⟩
            · obtain ⟨j, hj⟩ := par_some (by rw [← hz]; exact HPA.out u hul) hzp
              have hjl := (fnd_get cs _ j hj).1
              have HUP := Lib.hid (up_par HNO.out (by rw [hz]; exact hj))
              have HNX : Hid ((up cs 9 j).any (fun j => ((j : Int) == (r : Int))) = R1) := Lib.hid (by
                rw [← HP.out, HUP.out, List.any_cons, show ((u : Int) == (r : Int)) = false by simp; omega, Bool.false_or])
              have HS := Lib.hid (fun w' HI => HPO.out z j w' HI (Lib.hid hj))
              rw [show (z.p == 0) = false from beq_eq_false_iff_ne.2 hzp] at HT
              obtain ⟨y', hy'⟩ : ∃ y', cs.getD j cls0 = y' := ⟨_, rfl⟩
              have HY' := Lib.hid hy'
              rw [hy'] at HS
              obtain ⟨zi, zp, zr, ze, zb, zu, zo, zl⟩ := z
              obtain ⟨ji, jp, jr, je, jb, ju, jo, jl⟩ := y'
              unfold clsV at HT HS
              obtain ⟨a0, a1, a2, a3, a4, a5, a6, a7⟩ := he8
              simp only at a0 a1 a2 a3 a4 a5 a6 a7 HT HS dne hid
              clear hb hfr hz hur hzp hj hy'
              go_wp2_with (go_at_call 22; refine (HT.out _).mono ?_; rintro e w3 ⟨rfl, b3⟩; have A3 := Lib.hid (HB.out.on b3); have E83 := Lib.hid (HE8'.out.on b3 hl8); have E93 := Lib.hid (HE9'.out.on b3 hl9); have F3 := Lib.hid (HFR'.out.on b3 hl8); have hl83 := Nat.lt_of_lt_of_le hl8 b3.size; have hl93 := Nat.lt_of_lt_of_le hl9 b3.size; clear b3; refine Hid.out ?_)
              refine Lib.hid ?_
              obtain ⟨f0, f1, f2, f3, f4, f5, f6, f7⟩ := E83.out
              obtain ⟨e0, e1, e2, e3, _⟩ := A3.out.all.1
              rw [HZ.out] at f0 f1 f2 f3 f4 f5 f6 f7
              simp only at f0 f1 f2 f3 f4 f5 f6 f7
              go_wp2_with (go_at_call 37; refine (HS.out _ (Lib.hid (HI.out.below A3.out.all.2))).mono ?_; rintro e w4 ⟨rfl, b4⟩; have A4 := Lib.hid (A3.out.on b4); have E84 := Lib.hid (E83.out.on b4 hl83); have E94 := Lib.hid (E93.out.on b4 hl93); have F4 := Lib.hid (F3.out.on b4 hl83); have hl84 := Nat.lt_of_lt_of_le hl83 b4.size; have hl94 := Nat.lt_of_lt_of_le hl93 b4.size; have hfz := fun o => F4.out o; obtain ⟨p0, p1, p2, p3, p4, p5, p6, p7⟩ := E84.out; clear b4)
              have HNB := Lib.hid (read8 E84.out.some ⟨ji, jp, jr, je, jb, ju, jo, jl⟩ _ rfl)
              go_roundw
              case rel => exact ⟨j, by have := HN.out; omega, (show Aft w _ _ from set8 A4.out (w2.heap.size) hb8' _ _ _ _ _ _ _ _), by rw [HY'.out]; exact HNB.out, ((((((((E94.out.far _ hne _).far _ hne _).far _ hne _).far _ hne _).far _ hne _).far _ hne _).far _ hne _).far _ hne _), by simpa using hl84, by simpa using hl94, ((((((((F4.out.set _ _).set _ _).set _ _).set _ _).set _ _).set _ _).set _ _).set _ _), HNX⟩
              case measure => exact Nat.lt_of_le_of_lt (Nat.le_of_eq (farB_at HIN.out hjl (by rw [HY'.out]; exact HNB.out))) (by rw [HFB.out, HUP.out]; exact Nat.lt_succ_self _)
        
      · go_split_ands
        have hsz : (w2.alloc (Obj.cells #[.int .i64 yi, .int .i64 yp, .int .i64 yr, .int .i64 ye, .int .i64 yb, .int .i64 yu, .int .i64 yo, .int .i64 yl] 43)).heap.size = w2.heap.size + 1 := by simp
        have HAW := Lib.hid (HAB.out (((w2.alloc (Obj.cells #[.int .i64 yi, .int .i64 yp, .int .i64 yr, .int .i64 ye, .int .i64 yb, .int .i64 yu, .int .i64 yo, .int .i64 yl] 43)).alloc (Obj.cells #[.int .i64 xi, .int .i64 xp, .int .i64 xr, .int .i64 xe, .int .i64 xb, .int .i64 xu, .int .i64 xo, .int .i64 xl] 43)).drew) (by assumption))
        have HE8 : Hid (EightB (((w2.alloc (Obj.cells #[.int .i64 yi, .int .i64 yp, .int .i64 yr, .int .i64 ye, .int .i64 yb, .int .i64 yu, .int .i64 yo, .int .i64 yl] 43)).alloc (Obj.cells #[.int .i64 xi, .int .i64 xp, .int .i64 xr, .int .i64 xe, .int .i64 xb, .int .i64 xu, .int .i64 xo, .int .i64 xl] 43)).drew) (w2.heap.size + 1) ⟨xi, xp, xr, xe, xb, xu, xo, xl⟩) := Lib.hid (show EightB ((w2.alloc (Obj.cells #[.int .i64 yi, .int .i64 yp, .int .i64 yr, .int .i64 ye, .int .i64 yb, .int .i64 yu, .int .i64 yo, .int .i64 yl] 43)).alloc (Obj.cells #[.int .i64 xi, .int .i64 xp, .int .i64 xr, .int .i64 xe, .int .i64 xb, .int .i64 xu, .int .i64 xo, .int .i64 xl] 43)).drew (w2.heap.size + 1) _ from by have := (box_eight (show Below ((w2.alloc (Obj.cells #[.int .i64 yi, .int .i64 yp, .int .i64 yr, .int .i64 ye, .int .i64 yb, .int .i64 yu, .int .i64 yo, .int .i64 yl] 43)).alloc (Obj.cells #[.int .i64 xi, .int .i64 xp, .int .i64 xr, .int .i64 xe, .int .i64 xb, .int .i64 xu, .int .i64 xo, .int .i64 xl] 43)).heap.size ((w2.alloc (Obj.cells #[.int .i64 yi, .int .i64 yp, .int .i64 yr, .int .i64 ye, .int .i64 yb, .int .i64 yu, .int .i64 yo, .int .i64 yl] 43)).alloc (Obj.cells #[.int .i64 xi, .int .i64 xp, .int .i64 xr, .int .i64 xe, .int .i64 xb, .int .i64 xu, .int .i64 xo, .int .i64 xl] 43)) ((w2.alloc (Obj.cells #[.int .i64 yi, .int .i64 yp, .int .i64 yr, .int .i64 ye, .int .i64 yb, .int .i64 yu, .int .i64 yo, .int .i64 yl] 43)).alloc (Obj.cells #[.int .i64 xi, .int .i64 xp, .int .i64 xr, .int .i64 xe, .int .i64 xb, .int .i64 xu, .int .i64 xo, .int .i64 xl] 43)).drew from below_drewN (Below.refl _ _) 1)).1; simpa only [hsz] using this)
        have HE9 : Hid (EightB (((w2.alloc (Obj.cells #[.int .i64 yi, .int .i64 yp, .int .i64 yr, .int .i64 ye, .int .i64 yb, .int .i64 yu, .int .i64 yo, .int .i64 yl] 43)).alloc (Obj.cells #[.int .i64 xi, .int .i64 xp, .int .i64 xr, .int .i64 xe, .int .i64 xb, .int .i64 xu, .int .i64 xo, .int .i64 xl] 43)).drew) (w2.heap.size) ⟨yi, yp, yr, ye, yb, yu, yo, yl⟩) := Lib.hid (box_eight (show Below (w2.alloc (Obj.cells #[.int .i64 yi, .int .i64 yp, .int .i64 yr, .int .i64 ye, .int .i64 yb, .int .i64 yu, .int .i64 yo, .int .i64 yl] 43)).heap.size (w2.alloc (Obj.cells #[.int .i64 yi, .int .i64 yp, .int .i64 yr, .int .i64 ye, .int .i64 yb, .int .i64 yu, .int .i64 yo, .int .i64 yl] 43)) ((w2.alloc (Obj.cells #[.int .i64 yi, .int .i64 yp, .int .i64 yr, .int .i64 ye, .int .i64 yb, .int .i64 yu, .int .i64 yo, .int .i64 yl] 43)).alloc (Obj.cells #[.int .i64 xi, .int .i64 xp, .int .i64 xr, .int .i64 xe, .int .i64 xb, .int .i64 xu, .int .i64 xo, .int .i64 xl] 43)).drew from (one_new2 _ _).trans (below_drewN (Below.refl _ _) 1))).1
        have HFR : Hid (FroB (((w2.alloc (Obj.cells #[.int .i64 yi, .int .i64 yp, .int .i64 yr, .int .i64 ye, .int .i64 yb, .int .i64 yu, .int .i64 yo, .int .i64 yl] 43)).alloc (Obj.cells #[.int .i64 xi, .int .i64 xp, .int .i64 xr, .int .i64 xe, .int .i64 xb, .int .i64 xu, .int .i64 xo, .int .i64 xl] 43)).drew) (w2.heap.size + 1)) := Lib.hid (fun o => by simp [go_sem])
        have hws : (((w2.alloc (Obj.cells #[.int .i64 yi, .int .i64 yp, .int .i64 yr, .int .i64 ye, .int .i64 yb, .int .i64 yu, .int .i64 yo, .int .i64 yl] 43)).alloc (Obj.cells #[.int .i64 xi, .int .i64 xp, .int .i64 xr, .int .i64 xe, .int .i64 xb, .int .i64 xu, .int .i64 xo, .int .i64 xl] 43)).drew).heap.size = w2.heap.size + 1 + 1 := by simp
        have hne : w2.heap.size + 1 ≠ w2.heap.size := by omega
        have HWR := Lib.hid (show w.heap.size + 1 ≤ w2.heap.size from A2.out.all.1.2.2.2.2)
        have HSL : Hid (w2.heap.size + 1 < (((w2.alloc (Obj.cells #[.int .i64 yi, .int .i64 yp, .int .i64 yr, .int .i64 ye, .int .i64 yb, .int .i64 yu, .int .i64 yo, .int .i64 yl] 43)).alloc (Obj.cells #[.int .i64 xi, .int .i64 xp, .int .i64 xr, .int .i64 xe, .int .i64 xb, .int .i64 xu, .int .i64 xo, .int .i64 xl] 43)).drew).heap.size ∧ w2.heap.size < (((w2.alloc (Obj.cells #[.int .i64 yi, .int .i64 yp, .int .i64 yr, .int .i64 ye, .int .i64 yb, .int .i64 yu, .int .i64 yo, .int .i64 yl] 43)).alloc (Obj.cells #[.int .i64 xi, .int .i64 xp, .int .i64 xr, .int .i64 xe, .int .i64 xb, .int .i64 xu, .int .i64 xo, .int .i64 xl] 43)).drew).heap.size) := Lib.hid (by rw [hws]; omega)
        clear hws hsz
        have hb8' : (w.alloc (Obj.cells #[.string s, .slice (some ⟨g, 0, none⟩) n cc, .slice af fs.length cf, .int .i64 d] 26)).heap.size ≤ w2.heap.size + 1 := Nat.le_trans (by simp; exact HWR.out) (show w2.heap.size ≤ w2.heap.size + 1 by omega)
        go_wp2_with fail
        go_loopw [] (fun wr => IbRel w (Obj.cells #[.string s, .slice (some ⟨g, 0, none⟩) n cc, .slice af fs.length cf, .int .i64 d] 26) (w2.heap.size + 1) (w2.heap.size) n r cs R1 wr) (fun wr => farB cs (w2.heap.size + 1) wr)
        case atStart => exact ⟨q, by omega, HAW.out, by rw [HX.out]; exact HE8.out, by rw [HY.out]; exact HE9.out, HSL.out.1, HSL.out.2, HFR.out, Lib.hid Y1.out.symm⟩
        case round =>
          obtain ⟨u, hun, hb, he8, he9, hl8, hl9, hfr, HP⟩ := hrel
          have HB := Lib.hid hb
          have HE8' := Lib.hid he8
          have HE9' := Lib.hid he9
          have HFR' := Lib.hid hfr
          have hul : u < cs.length := by have := HN.out; omega
          obtain ⟨z, hz⟩ : ∃ z, cs.getD u cls0 = z := ⟨_, rfl⟩
          have HZ := Lib.hid hz
          have HFB := Lib.hid (farB_at HIN.out hul he8)
          rw [hz] at he8
          rw [HY.out] at he9
          have HT := Lib.hid (fun w => isTop_any z w)
          obtain ⟨k0, k1, k2, k3, k4, k5, k6, k7⟩ := he9
          simp only at k0 k1 k2 k3 k4 k5 k6 k7
          by_cases hur : u = r
          · have hzy : z = ⟨yi, yp, yr, ye, yb, yu, yo, yl⟩ := by rw [← hz, hur]; exact HY.out
            subst hzy
            obtain ⟨a0, a1, a2, a3, a4, a5, a6, a7⟩ := he8
            simp only at a0 a1 a2 a3 a4 a5 a6 a7
            have HRT : Hid (true = R1) := Lib.hid (by
              rw [← HP.out]
              obtain ⟨t, ht⟩ := up_cons cs 8 u
              rw [ht, List.any_cons, hur]; simp)
            clear hb hfr hz hur HT
            go_wp2_with fail
            go_ret2
            exact ⟨ret_bb HRT.out Y2.out.symm, HB.out.all.2⟩
          · have hid : z.i ≠ yi := by
              intro e
              have e1 := fnd_inc HIN.out hul
              have e2 := fnd_inc HIN.out hr
              rw [hz, e] at e1
              rw [HY.out] at e2
              exact hur (Option.some.inj (e1.symm.trans e2))
            have dne : (z.i == yi) = false := by simpa using hid
            by_cases hzp : z.p = 0
            · have HRF : Hid (false = R1) := Lib.hid (by
                rw [← HP.out, up_one (by rw [hz]; exact hzp) HNZ.out]
                simp; omega)
              rw [show (z.p == 0) = true by rw [hzp]; rfl] at HT
              obtain ⟨zi, zp, zr, ze, zb, zu, zo, zl⟩ := z
              unfold clsV at HT
              obtain ⟨a0, a1, a2, a3, a4, a5, a6, a7⟩ := he8
              simp only at a0 a1 a2 a3 a4 a5 a6 a7 HT dne hid
              clear hb hfr hz hur hzp
              go_wp2_with (go_at_call 22; refine (HT.out _).mono ?_; rintro e w3 ⟨rfl, b3⟩; have A3 := Lib.hid (HB.out.on b3); obtain ⟨f0, f1, f2, f3, f4, f5, f6, f7⟩ := (HE8'.out.on b3 hl8); obtain ⟨g0, g1, g2, g3, g4, g5, g6, g7⟩ := (HE9'.out.on b3 hl9); clear b3; refine Hid.out ?_)
              refine Lib.hid ?_
              rw [HZ.out] at f0 f1 f2 f3 f4 f5 f6 f7
              rw [HY.out] at g0 g1 g2 g3 g4 g5 g6 g7
              simp only at f0 f1 f2 f3 f4 f5 f6 f7 g0 g1 g2 g3 g4 g5 g6 g7
              go_wp2_with fail
              go_ret2
              exact ⟨ret_bb HRF.out Y2.out.symm, A3.out.all.2⟩
            · obtain ⟨j, hj⟩ := par_some (by rw [← hz]; exact HPA.out u hul) hzp
              have hjl := (fnd_get cs _ j hj).1
              have HUP := Lib.hid (up_par HNO.out (by rw [hz]; exact hj))
              have HNX : Hid ((up cs 9 j).any (fun j => ((j : Int) == (r : Int))) = R1) := Lib.hid (by
                rw [← HP.out, HUP.out, List.any_cons, show ((u : Int) == (r : Int)) = false by simp; omega, Bool.false_or])
              have HS := Lib.hid (fun w' HI => HPO.out z j w' HI (Lib.hid hj))
              rw [show (z.p == 0) = false from beq_eq_false_iff_ne.2 hzp] at HT
              obtain ⟨y', hy'⟩ : ∃ y', cs.getD j cls0 = y' := ⟨_, rfl⟩
              have HY' := Lib.hid hy'
              rw [hy'] at HS
              obtain ⟨zi, zp, zr, ze, zb, zu, zo, zl⟩ := z
              obtain ⟨ji, jp, jr, je, jb, ju, jo, jl⟩ := y'
              unfold clsV at HT HS
              obtain ⟨a0, a1, a2, a3, a4, a5, a6, a7⟩ := he8
              simp only at a0 a1 a2 a3 a4 a5 a6 a7 HT HS dne hid
              clear hb hfr hz hur hzp hj hy'
              go_wp2_with (go_at_call 22; refine (HT.out _).mono ?_; rintro e w3 ⟨rfl, b3⟩; have A3 := Lib.hid (HB.out.on b3); have E83 := Lib.hid (HE8'.out.on b3 hl8); have E93 := Lib.hid (HE9'.out.on b3 hl9); have F3 := Lib.hid (HFR'.out.on b3 hl8); have hl83 := Nat.lt_of_lt_of_le hl8 b3.size; have hl93 := Nat.lt_of_lt_of_le hl9 b3.size; clear b3; refine Hid.out ?_)
              refine Lib.hid ?_
              obtain ⟨f0, f1, f2, f3, f4, f5, f6, f7⟩ := E83.out
              obtain ⟨e0, e1, e2, e3, _⟩ := A3.out.all.1
              rw [HZ.out] at f0 f1 f2 f3 f4 f5 f6 f7
              simp only at f0 f1 f2 f3 f4 f5 f6 f7
              go_wp2_with (go_at_call 37; refine (HS.out _ (Lib.hid (HI.out.below A3.out.all.2))).mono ?_; rintro e w4 ⟨rfl, b4⟩; have A4 := Lib.hid (A3.out.on b4); have E84 := Lib.hid (E83.out.on b4 hl83); have E94 := Lib.hid (E93.out.on b4 hl93); have F4 := Lib.hid (F3.out.on b4 hl83); have hl84 := Nat.lt_of_lt_of_le hl83 b4.size; have hl94 := Nat.lt_of_lt_of_le hl93 b4.size; have hfz := fun o => F4.out o; obtain ⟨p0, p1, p2, p3, p4, p5, p6, p7⟩ := E84.out; clear b4)
              have HNB := Lib.hid (read8 E84.out.some ⟨ji, jp, jr, je, jb, ju, jo, jl⟩ _ rfl)
              go_roundw
              case rel => exact ⟨j, by have := HN.out; omega, (show Aft w _ _ from set8 A4.out (w2.heap.size + 1) hb8' _ _ _ _ _ _ _ _), by rw [HY'.out]; exact HNB.out, ((((((((E94.out.far _ hne _).far _ hne _).far _ hne _).far _ hne _).far _ hne _).far _ hne _).far _ hne _).far _ hne _), by simpa using hl84, by simpa using hl94, ((((((((F4.out.set _ _).set _ _).set _ _).set _ _).set _ _).set _ _).set _ _).set _ _), HNX⟩
              case measure => exact Nat.lt_of_le_of_lt (Nat.le_of_eq (farB_at HIN.out hjl (by rw [HY'.out]; exact HNB.out))) (by rw [HFB.out, HUP.out]; exact Nat.lt_succ_self _)
        
end Go.Proofs.YthgbhnedfdnfpaaDoor
