import Derived.Test.YthgbhnedfdnfpaaGreatDoorPkzq
/- Canonical texts, the program's: trees of Ids (written by tools/gen_pts.py). -/
namespace Go.Proofs.YthgbhnedfdnfpaaGreatDoor
set_option maxRecDepth 100000
open Go.RowKit
set_option linter.unusedVariables false
set_option linter.unusedSimpArgs false

theorem kidsF_tops : ∀ (l : List Cls) (a : Nat), (kidsF 0 a l).length = (l.filter (fun x => x.p == 0)).length
  | [], _ => rfl
  | y :: r, a => by
    unfold kidsF
    rw [List.filter_cons]
    by_cases h : y.p = 0
    · rw [if_pos h, if_pos (by simpa using h)]; simp [kidsF_tops r (a + 1)]
    · rw [if_neg h, if_neg (by simpa using h)]; exact kidsF_tops r (a + 1)
theorem kids_tops {cs : List Cls} (T : TreeF cs) (ht : cT cs = 1) : kids cs 0 = [topF cs] := by
  have h := top_facts T ht
  have hm := mem_kids h.1 h.2.1
  have hl : (kids cs 0).length = 1 := (kidsF_tops cs 0).trans ht
  match hk : kids cs 0, hl with
  | [a], _ => rw [hk] at hm; simp only [List.mem_singleton] at hm; rw [hm]
theorem branP_len (cs : List Cls) : ∀ (f l i : Nat), (branP cs f l i).length = (walkP cs f i).length
  | 0, _, _ => rfl
  | f + 1, l, i => by
    unfold branP walkP
    simp only [List.length_cons, List.length_flatMap]
    rw [map_same (f := fun k => (branP cs f (l + 1) k).length) (g := fun k => (walkP cs f k).length)]
    intro k _
    exact branP_len cs f (l + 1) k
def BrI (cs : List Cls) (id : Int) (f l : Nat) (L0 : List ByteArray) (W0 : List Nat) (S0 : Nat → Nat × Nat) (k : Nat) (L : List ByteArray) (W : List Nat) (Sp : Nat → Nat × Nat) : Prop :=
  ∃ A : List Nat, A ++ kidsF id k (cs.drop k) = kids cs id ∧ L = L0 ++ A.flatMap (branP cs f l) ∧ W = W0 ∧ Sp = S0
theorem brI_kid {cs : List Cls} {id : Int} {f l : Nat} {L0 : List ByteArray} {W0 : List Nat} {S0 : Nat → Nat × Nat} {k : Nat} {L : List ByteArray} {W : List Nat} {Sp : Nat → Nat × Nat} (hk : k < cs.length) (hp : (cs.getD k cls0).p = id) (h : BrI cs id f l L0 W0 S0 k L W Sp) :
    L.length + (branP cs f l k).length ≤ L0.length + ((kids cs id).flatMap (branP cs f l)).length ∧ BrI cs id f l L0 W0 S0 (k + 1) (L ++ branP cs f l k) W Sp := by
  obtain ⟨A, hA, rfl, rfl, rfl⟩ := h
  have e : kidsF id k (cs.drop k) = k :: kidsF id (k + 1) (cs.drop (k + 1)) := by rw [kidsF_at id cs k hk _ rfl, if_pos hp]
  rw [e] at hA
  refine ⟨?_, A ++ [k], ?_, ?_, rfl, rfl⟩
  · rw [← hA]
    simp only [List.flatMap_append, List.flatMap_cons, List.length_append]
    omega
  · rw [List.append_assoc]; exact hA
  · rw [List.flatMap_append, List.append_assoc]; simp
theorem brI_other {cs : List Cls} {id : Int} {f l : Nat} {L0 : List ByteArray} {W0 : List Nat} {S0 : Nat → Nat × Nat} {k : Nat} {L : List ByteArray} {W : List Nat} {Sp : Nat → Nat × Nat} (hk : k < cs.length) (hp : (cs.getD k cls0).p ≠ id) (h : BrI cs id f l L0 W0 S0 k L W Sp) : BrI cs id f l L0 W0 S0 (k + 1) L W Sp := by
  obtain ⟨A, hA, h2⟩ := h
  rw [kidsF_at id cs k hk _ rfl, if_neg hp] at hA
  exact ⟨A, hA, h2⟩
theorem brI_end {cs : List Cls} {id : Int} {f l : Nat} {L0 : List ByteArray} {W0 : List Nat} {S0 : Nat → Nat × Nat} {L : List ByteArray} {W : List Nat} {Sp : Nat → Nat × Nat} (h : BrI cs id f l L0 W0 S0 cs.length L W Sp) :
    L = L0 ++ (kids cs id).flatMap (branP cs f l) ∧ W = W0 ∧ Sp = S0 := by
  obtain ⟨A, hA, rfl, rfl, rfl⟩ := h
  rw [kidsF_end id cs cs.length (Nat.le_refl _), List.append_nil] at hA
  rw [hA]
  exact ⟨rfl, rfl, rfl⟩
theorem brI_start (cs : List Cls) (id : Int) (f l : Nat) (L : List ByteArray) (W : List Nat) (Sp : Nat → Nat × Nat) : BrI cs id f l L W Sp 0 L W Sp :=
  ⟨[], by rw [List.drop_zero]; rfl, by simp, rfl, rfl⟩
set_option maxHeartbeats 12800000 in
theorem writeBranch_any (g gb n cc : Nat) (v0 v2 v3 : Value) (cs : List Cls) (T : TreeF cs) (hn : Hid (cs.length = n)) : ∀ (f q l : Nat) (L : List ByteArray) (W : List Nat) (Sp : Nat → Nat × Nat) (lv wv : Value) (w : World) (HP : Hid (PrS w g v0 (.slice (some ⟨gb, 0, none⟩) n cc) v2 v3 lv wv L W Sp)) (HE : Hid (Env g gb cs Pow w)) (hq : q < n) (hf : f ≤ 9) (hd : 9 ≤ f + depP cs q) (hl : l + f ≤ 20) (hL2 : L.length + (branP cs f l q).length ≤ 2500000),
    Calls Tryz.prog 29 #[.pointer (some ⟨g, 0, none⟩), .int .i64 (q : Int), .int .i64 (l : Int)] w (SaysPr w g v0 (.slice (some ⟨gb, 0, none⟩) n cc) v2 v3 (fun L' W' Sp' => L' = L ++ branP cs f l q ∧ W' = W ∧ Sp' = Sp))
  | 0, q, l, L, W, Sp, lv, wv, w, HP, HE, hq, hf, hd, hl, hL2 => absurd hd (by have := (way_len T (k := q) (by have := hn.out; omega)).2; omega)
  | f + 1, q, l, L, W, Sp, lv, wv, w, HP, HE, hq, hf, hd, hl, hL2 => by
    have hql : q < cs.length := by have := hn.out; omega
    have hm : n ≤ 1048576 := by have := hn.out; have := T.n24; omega
    obtain ⟨x, hx⟩ : ∃ x, cs.getD q cls0 = x := ⟨_, rfl⟩
    have hids := okL_ids cs 0 T.ok q hql
    rw [hx] at hids
    obtain ⟨ni, hni⟩ := Int.eq_ofNat_of_zero_le (show 0 ≤ x.i by omega)
    have HBI : Hid (branP cs (f + 1) l q = (indS l ++ numS ni ++ ⟨#[10]⟩) :: (kids cs (ni : Int)).flatMap (branP cs f (l + 1))) := Lib.hid (by
      unfold branP
      rw [hx, hni]
      rfl)
    have HKD : Hid (kids cs (ni : Int) = kids cs (cs.getD q cls0).i) := Lib.hid (by rw [hx, hni])
    have hL3 : L.length + 1 + ((kids cs (ni : Int)).flatMap (branP cs f (l + 1))).length ≤ 2500000 := by
      rw [HBI.out] at hL2
      simp only [List.length_cons] at hL2
      omega
    obtain ⟨a0, _⟩ := HE.out.now.cls q hql x hx
    rw [hni] at a0
    have HIT := Lib.hid (fun w h => itoa_any ni (by omega) w h)
    have hnz := numS_size ni
    have HREC : Hid (∀ k, k < n → (cs.getD k cls0).p = (ni : Int) → ∀ L' W' Sp' w' lv' wv', BrI cs (ni : Int) f (l + 1) (L ++ [indS l ++ numS ni ++ ⟨#[10]⟩]) W Sp k L' W' Sp' → PrS w' g v0 (.slice (some ⟨gb, 0, none⟩) n cc) v2 v3 lv' wv' L' W' Sp' → Env g gb cs Pow w' →
        Calls Tryz.prog 29 #[.pointer (some ⟨g, 0, none⟩), .int .i64 (k : Int), .int .i64 ((l : Int) + 1)] w' (SaysPr w' g v0 (.slice (some ⟨gb, 0, none⟩) n cc) v2 v3 (BrI cs (ni : Int) f (l + 1) (L ++ [indS l ++ numS ni ++ ⟨#[10]⟩]) W Sp (k + 1)))) := Lib.hid (fun k hkn hkp L' W' Sp' w' lv' wv' hI hPr hEn => by
      have hkl : k < cs.length := by have := hn.out; omega
      have hS := brI_kid hkl hkp hI
      have hkm : k ∈ kids cs (cs.getD q cls0).i := by rw [← HKD.out]; exact mem_kids hkl hkp
      have hdk := dep_kid T hql hkm
      have h1 := hS.1
      simp only [List.length_append, List.length_cons, List.length_nil] at h1
      refine (writeBranch_any g gb n cc v0 v2 v3 cs T hn f k (l + 1) L' W' Sp' lv' wv' w' (Lib.hid hPr) (Lib.hid hEn) hkn (by omega) (by omega) (by omega) (by omega)).mono ?_
      rintro e w'' ⟨he, ⟨L2, W2, Sp2, lv2, wv2, ⟨e1, e2, e3⟩, hp2⟩, hb2⟩
      refine ⟨he, ⟨L2, W2, Sp2, lv2, wv2, ?_, hp2⟩, hb2⟩
      rw [e1, e2, e3]
      exact hS.2)
    have HPE : Hid (∀ L' W' Sp', BrI cs (ni : Int) f (l + 1) (L ++ [indS l ++ numS ni ++ ⟨#[10]⟩]) W Sp n L' W' Sp' → L' = L ++ branP cs (f + 1) l q ∧ W' = W ∧ Sp' = Sp) := Lib.hid (fun L' W' Sp' h => by
      rw [← hn.out] at h
      obtain ⟨h1, h2, h3⟩ := brI_end h
      refine ⟨?_, h2, h3⟩
      rw [h1, HBI.out, List.append_assoc]
      rfl)
    have HP0 := Lib.hid (brI_start cs (ni : Int) f (l + 1) (L ++ [indS l ++ numS ni ++ ⟨#[10]⟩]) W Sp)
    have HOT : Hid (∀ k, k < n → (cs.getD k cls0).p ≠ (ni : Int) → ∀ L' W' Sp', BrI cs (ni : Int) f (l + 1) (L ++ [indS l ++ numS ni ++ ⟨#[10]⟩]) W Sp k L' W' Sp' → BrI cs (ni : Int) f (l + 1) (L ++ [indS l ++ numS ni ++ ⟨#[10]⟩]) W Sp (k + 1) L' W' Sp') := Lib.hid (fun k hkn hkp L' W' Sp' h => brI_other (by have := hn.out; omega) hkp h)
    generalize branP cs (f + 1) l q = BB at HPE HBI hL2 ⊢
    obtain ⟨c0, c1, c2, c3, c4, c5, fz⟩ := HP.out.1.cells
    have hLs : L.length ≤ 2500000 := by omega
    have hns : (numS ni).size ≤ 10000000 := by omega
    have HWL := Lib.hid (fun w' lv' (h : Hid (PrS w' g v0 (.slice (some ⟨gb, 0, none⟩) n cc) v2 v3 lv' wv L W Sp)) => writeLine_any g l (numS ni) v0 (.slice (some ⟨gb, 0, none⟩) n cc) v2 v3 lv' wv L W Sp w' h (by omega) (by omega) hns)
    generalize numS ni = ds at HIT HREC HPE HP0 HOT HWL
    generalize indS l ++ ds ++ ⟨#[10]⟩ = ln at HREC HPE HP0 HOT HWL
    have hl2 : (l : Int) ≤ 20 := by omega
    have HECf := Lib.hid (fun w7 lv7 wv7 P7 E7 => eachB_any g gb n cc v0 v2 v3 cs Pow (ni : Int) ((l : Int) + 1) _ hn hm HREC HOT (L ++ [ln]) W Sp lv7 wv7 w7 HP0 P7 E7)
    generalize BrI cs (ni : Int) f (l + 1) (L ++ [ln]) W Sp = PI at HPE HECf
    clear HREC HOT HP0 hx hids hnz HBI HKD hL3 hL2 hd hf
    go_enter Tryz.func29, Tryz.ntmps29
    go_wp2_with (go_at_call 38; refine (HIT.out _ (Lib.hid HE.out.tab)).mono ?_; rintro e w1 ⟨rfl, b⟩; have P1 := Lib.hid (HP.out.below b); have G1 := Lib.hid (b.mono (Nat.le_of_lt HP.out.lt)); clear b; refine Hid.out ?_)
    refine Lib.hid ?_
    have E1 := Lib.hid (HE.out.on G1.out)
    go_wp2_with (go_at_call 63; refine (HWL.out _ _ P1).mono ?_; rintro e w7 ⟨rfl, lv7, p7, k7⟩; have P7 := Lib.hid p7; have G7 := Lib.hid (G1.out.trans k7.1); have E7 := Lib.hid (E1.out.on k7.1); clear p7 k7; refine Hid.out ?_)
    refine Lib.hid ?_
    go_wp2_with (go_at_call 28; refine (HECf.out _ _ _ P7 E7).mono ?_; rintro e w8 ⟨rfl, ⟨L8, W8, Sp8, lv8, wv8, hI8, p8⟩, b8⟩; have P8 := Lib.hid p8; have G8 := Lib.hid (G7.out.trans b8); have H8 := Lib.hid (HPE.out _ _ _ hI8); clear p8 b8 hI8)
    exact bodyPost_ret (v := .tuple #[]) (by simp [results, Tryz.results29, go_sem]) rfl ⟨rfl, ⟨L8, W8, Sp8, lv8, wv8, H8.out, P8.out⟩, G8.out⟩
set_option maxHeartbeats 12800000 in
theorem implTreeText_bad (v : Value) (c : Cfg) (w : World) (HK : Hid (Kwt w)) (HV : Hid (CfgV w v c)) (HM : Hid (CfgM c)) (hg : goodC c = false) : Calls Tryz.prog 11 #[v] w (SaysStrB w (resTreeText1 c) (goodC c)) := by
  obtain ⟨ac, cc, af, cf, rfl, ic, if_⟩ := HV.out
  obtain ⟨s, cs, fs, d⟩ := c
  have hM := HM.out
  unfold CfgM at hM
  simp only at ic if_ hM HV ⊢
  obtain ⟨q0, q1, q2⟩ := hM
  have HI := Lib.hid ic
  have HJ := Lib.hid if_
  have HVB := Lib.hid (fun w' (b : Below w.heap.size w w') => Lib.hid (HV.out.below b))
  have A0 := Lib.hid (Aft.refl w (Obj.cells #[.string s, .slice ac cs.length cc, .slice af fs.length cf, .int .i64 d] 26))
  clear ic if_
  have HGD := Lib.hid (fun w' (b : Below w.heap.size w w') => implIsConfig_any (.agg #[.string s, .slice ac cs.length cc, .slice af fs.length cf, .int .i64 d]) ⟨s, cs, fs, d⟩ w' (Lib.hid (HK.out.below b)) (HVB.out w' b) HM)
  rw [hg] at HGD
  rw [tt_bad hg, hg]
  clear hg
  go_enter Tryz.func11, Tryz.ntmps11
  go_wp2_with (go_at_call 27; refine (HGD.out _ A0.out.all.2).mono ?_; rintro e w1 ⟨rfl, b1⟩; have A1 := Lib.hid (A0.out.on b1); clear b1)
  go_ret2
  exact ⟨rfl, A1.out.all.2⟩
set_option maxHeartbeats 12800000 in
theorem implTreeText_good (v : Value) (c : Cfg) (w : World) (HK : Hid (Kwt w)) (HV : Hid (CfgV w v c)) (HM : Hid (CfgM c)) (hP : Hid (Pow w)) (hg : goodC c = true) : Calls Tryz.prog 11 #[v] w (SaysStrB w (resTreeText1 c) (goodC c)) := by
  obtain ⟨ac, cc, af, cf, rfl, ic, if_⟩ := HV.out
  obtain ⟨s, cs, fs, d⟩ := c
  have hM := HM.out
  unfold CfgM at hM
  simp only at ic if_ hM HV ⊢
  obtain ⟨q0, q1, q2⟩ := hM
  have HI := Lib.hid ic
  have HJ := Lib.hid if_
  have HVB := Lib.hid (fun w' (b : Below w.heap.size w w') => Lib.hid (HV.out.below b))
  have A0 := Lib.hid (Aft.refl w (Obj.cells #[.string s, .slice ac cs.length cc, .slice af fs.length cf, .int .i64 d] 26))
  clear ic if_
  have HGD := Lib.hid (fun w' (b : Below w.heap.size w w') => implIsConfig_any (.agg #[.string s, .slice ac cs.length cc, .slice af fs.length cf, .int .i64 d]) ⟨s, cs, fs, d⟩ w' (Lib.hid (HK.out.below b)) (HVB.out w' b) HM)
  rw [hg] at HGD
  have G := goodP hg
  have T := G.T
  simp only at T
  have hcT : cT cs = 1 := G.top
  have htf := top_facts T hcT
  have hkt := kids_tops T hcT
  have htz := treeL_size G
  rw [tt_good hg, hg]
  have hbl := branP_len cs 8 0 (topF cs)
  have hwl := walk_le T 8 (topF cs) (by decide) htf.1
  have HTL : Hid (treeL ⟨s, cs, fs, d⟩ = branP cs 8 0 (topF cs)) := Lib.hid (branP_walk T 8 0 (topF cs) htf.1 (by omega)).symm
  have hn1 : 1 ≤ cs.length := G.n1
  have hm : cs.length ≤ 1048576 := by have := T.n24; omega
  obtain ⟨gb, rfl, hgt, hgl⟩ := HI.out (by omega)
  have HGT := Lib.hid hgt
  have HREC : Hid (∀ g v0 v2 v3, ∀ k, k < cs.length → (cs.getD k cls0).p = 0 → ∀ L' W' Sp' w' lv' wv', BrI cs 0 8 0 [] [] sp0 k L' W' Sp' → PrS w' g v0 (.slice (some ⟨gb, 0, none⟩) cs.length cc) v2 v3 lv' wv' L' W' Sp' → Env g gb cs Pow w' →
      Calls Tryz.prog 29 #[.pointer (some ⟨g, 0, none⟩), .int .i64 (k : Int), .int .i64 0] w' (SaysPr w' g v0 (.slice (some ⟨gb, 0, none⟩) cs.length cc) v2 v3 (BrI cs 0 8 0 [] [] sp0 (k + 1)))) := Lib.hid (fun g v0 v2 v3 k hkn hkp L' W' Sp' w' lv' wv' hI hPr hEn => by
    have hS := brI_kid hkn hkp hI
    have hkm := mem_kids hkn hkp
    rw [hkt] at hkm
    simp only [List.mem_singleton] at hkm
    subst hkm
    have h1 := hS.1
    rw [hkt] at h1
    simp only [List.flatMap_cons, List.flatMap_nil, List.append_nil, List.length_nil] at h1
    refine (writeBranch_any g gb cs.length cc v0 v2 v3 cs T (Lib.hid rfl) 8 (topF cs) 0 L' W' Sp' lv' wv' w' (Lib.hid hPr) (Lib.hid hEn) hkn (by decide) (by omega) (by decide) (by omega)).mono ?_
    rintro e w'' ⟨he, ⟨L2, W2, Sp2, lv2, wv2, ⟨e1, e2, e3⟩, hp2⟩, hb2⟩
    refine ⟨he, ⟨L2, W2, Sp2, lv2, wv2, ?_, hp2⟩, hb2⟩
    rw [e1, e2, e3]
    exact hS.2)
  have HOT : Hid (∀ k, k < cs.length → (cs.getD k cls0).p ≠ 0 → ∀ L' W' Sp', BrI cs 0 8 0 [] [] sp0 k L' W' Sp' → BrI cs 0 8 0 [] [] sp0 (k + 1) L' W' Sp') := Lib.hid (fun k hkn hkp L' W' Sp' h => brI_other hkn hkp h)
  have HPE : Hid (∀ L' W' Sp', BrI cs 0 8 0 [] [] sp0 cs.length L' W' Sp' → L' = treeL ⟨s, cs, fs, d⟩) := Lib.hid (fun L' W' Sp' h => by
    obtain ⟨h1, _, _⟩ := brI_end h
    rw [h1, hkt, HTL.out]
    simp)
  have htl : (treeL ⟨s, cs, fs, d⟩).length ≤ 3000000 := by rw [HTL.out, hbl]; omega
  have HP0 := Lib.hid (brI_start cs 0 8 0 [] [] sp0)
  generalize treeL ⟨s, cs, fs, d⟩ = LL at HPE htz htl ⊢
  have HECf := Lib.hid (fun g v0 v2 v3 w7 lv7 wv7 P7 E7 => eachB_any g gb cs.length cc v0 v2 v3 cs Pow 0 0 _ (Lib.hid rfl) hm (Lib.hid (HREC.out g v0 v2 v3)) HOT [] [] sp0 lv7 wv7 w7 HP0 P7 E7)
  generalize BrI cs 0 8 0 [] [] sp0 = PI at HPE HECf
  clear HREC HOT HP0 htf hkt hbl hwl HTL hg G hcT hgt T
  go_enter Tryz.func11, Tryz.ntmps11
  go_wp2_with (go_at_call 27; refine (HGD.out _ A0.out.all.2).mono ?_; rintro e w1 ⟨rfl, b1⟩; have A1 := Lib.hid (A0.out.on b1); clear b1; refine Hid.out ?_)
  refine Lib.hid ?_
  obtain ⟨c0, c1, c2, c3, _⟩ := A1.out.all.1
  have PN : Hid (PrV (w1.alloc (Obj.cells #[.string ⟨#[]⟩, .slice none 0 0, .slice none 0 0, .int .i64 0, .slice none 0 0, .slice none 0 0, .int .i64 0, .int .i64 0, .int .i64 0, .int .i64 0, .int .i64 0, .int .i64 0, .int .i64 0, .int .i64 0, .int .i64 0, .int .i64 0, .int .i64 0, .int .i64 0, .int .i64 0, .int .i64 0, .int .i64 0, .int .i64 0, .int .i64 0, .int .i64 0, .int .i64 0, .int .i64 0, .int .i64 0, .int .i64 0, .int .i64 0, .int .i64 0, .int .i64 0, .int .i64 0, .int .i64 0, .int .i64 0, .int .i64 0, .int .i64 0, .int .i64 0, .int .i64 0, .int .i64 0, .int .i64 0, .int .i64 0, .int .i64 0, .int .i64 0, .int .i64 0, .int .i64 0, .int .i64 0, .int .i64 0, .int .i64 0, .int .i64 0, .int .i64 0, .int .i64 0, .int .i64 0, .int .i64 0, .int .i64 0] 49)) w1.heap.size (.string ⟨#[]⟩) (.slice none 0 0) (.slice none 0 0) (.int .i64 0) (.slice none 0 0) (.slice none 0 0) sp0) := Lib.hid (by
    unfold PrV
    rw [pX_zero]
    exact Array.getElem?_push_size)
  have HTH : Hid ((w1.alloc (Obj.cells #[.string ⟨#[]⟩, .slice none 0 0, .slice none 0 0, .int .i64 0, .slice none 0 0, .slice none 0 0, .int .i64 0, .int .i64 0, .int .i64 0, .int .i64 0, .int .i64 0, .int .i64 0, .int .i64 0, .int .i64 0, .int .i64 0, .int .i64 0, .int .i64 0, .int .i64 0, .int .i64 0, .int .i64 0, .int .i64 0, .int .i64 0, .int .i64 0, .int .i64 0, .int .i64 0, .int .i64 0, .int .i64 0, .int .i64 0, .int .i64 0, .int .i64 0, .int .i64 0, .int .i64 0, .int .i64 0, .int .i64 0, .int .i64 0, .int .i64 0, .int .i64 0, .int .i64 0, .int .i64 0, .int .i64 0, .int .i64 0, .int .i64 0, .int .i64 0, .int .i64 0, .int .i64 0, .int .i64 0, .int .i64 0, .int .i64 0, .int .i64 0, .int .i64 0, .int .i64 0, .int .i64 0, .int .i64 0, .int .i64 0] 49)).there w1.heap.size 0 (#[.string s, .slice (some ⟨gb, 0, none⟩) cs.length cc, .slice af fs.length cf, .int .i64 d, .slice none 0 0, .slice none 0 0, .int .i64 0, .int .i64 0, .int .i64 0, .int .i64 0, .int .i64 0, .int .i64 0, .int .i64 0, .int .i64 0, .int .i64 0, .int .i64 0, .int .i64 0, .int .i64 0, .int .i64 0, .int .i64 0, .int .i64 0, .int .i64 0, .int .i64 0, .int .i64 0, .int .i64 0, .int .i64 0, .int .i64 0, .int .i64 0, .int .i64 0, .int .i64 0, .int .i64 0, .int .i64 0, .int .i64 0, .int .i64 0, .int .i64 0, .int .i64 0, .int .i64 0, .int .i64 0, .int .i64 0, .int .i64 0, .int .i64 0, .int .i64 0, .int .i64 0, .int .i64 0, .int .i64 0, .int .i64 0, .int .i64 0, .int .i64 0, .int .i64 0, .int .i64 0, .int .i64 0, .int .i64 0, .int .i64 0, .int .i64 0] : Array Value).size) := Lib.hid (show (w1.alloc (Obj.cells #[.string ⟨#[]⟩, .slice none 0 0, .slice none 0 0, .int .i64 0, .slice none 0 0, .slice none 0 0, .int .i64 0, .int .i64 0, .int .i64 0, .int .i64 0, .int .i64 0, .int .i64 0, .int .i64 0, .int .i64 0, .int .i64 0, .int .i64 0, .int .i64 0, .int .i64 0, .int .i64 0, .int .i64 0, .int .i64 0, .int .i64 0, .int .i64 0, .int .i64 0, .int .i64 0, .int .i64 0, .int .i64 0, .int .i64 0, .int .i64 0, .int .i64 0, .int .i64 0, .int .i64 0, .int .i64 0, .int .i64 0, .int .i64 0, .int .i64 0, .int .i64 0, .int .i64 0, .int .i64 0, .int .i64 0, .int .i64 0, .int .i64 0, .int .i64 0, .int .i64 0, .int .i64 0, .int .i64 0, .int .i64 0, .int .i64 0, .int .i64 0, .int .i64 0, .int .i64 0, .int .i64 0, .int .i64 0, .int .i64 0] 49)).there w1.heap.size 0 54 from PN.out.there)
  have HIZ : Hid ((Tryz.prog.info? 49).map (·.size) = some (#[.string s, .slice (some ⟨gb, 0, none⟩) cs.length cc, .slice af fs.length cf, .int .i64 d, .slice none 0 0, .slice none 0 0, .int .i64 0, .int .i64 0, .int .i64 0, .int .i64 0, .int .i64 0, .int .i64 0, .int .i64 0, .int .i64 0, .int .i64 0, .int .i64 0, .int .i64 0, .int .i64 0, .int .i64 0, .int .i64 0, .int .i64 0, .int .i64 0, .int .i64 0, .int .i64 0, .int .i64 0, .int .i64 0, .int .i64 0, .int .i64 0, .int .i64 0, .int .i64 0, .int .i64 0, .int .i64 0, .int .i64 0, .int .i64 0, .int .i64 0, .int .i64 0, .int .i64 0, .int .i64 0, .int .i64 0, .int .i64 0, .int .i64 0, .int .i64 0, .int .i64 0, .int .i64 0, .int .i64 0, .int .i64 0, .int .i64 0, .int .i64 0, .int .i64 0, .int .i64 0, .int .i64 0, .int .i64 0, .int .i64 0, .int .i64 0] : Array Value).size) := Lib.hid infoP
  have HPQ : Hid ((#[.string s, .slice (some ⟨gb, 0, none⟩) cs.length cc, .slice af fs.length cf, .int .i64 d, .slice none 0 0, .slice none 0 0, .int .i64 0, .int .i64 0, .int .i64 0, .int .i64 0, .int .i64 0, .int .i64 0, .int .i64 0, .int .i64 0, .int .i64 0, .int .i64 0, .int .i64 0, .int .i64 0, .int .i64 0, .int .i64 0, .int .i64 0, .int .i64 0, .int .i64 0, .int .i64 0, .int .i64 0, .int .i64 0, .int .i64 0, .int .i64 0, .int .i64 0, .int .i64 0, .int .i64 0, .int .i64 0, .int .i64 0, .int .i64 0, .int .i64 0, .int .i64 0, .int .i64 0, .int .i64 0, .int .i64 0, .int .i64 0, .int .i64 0, .int .i64 0, .int .i64 0, .int .i64 0, .int .i64 0, .int .i64 0, .int .i64 0, .int .i64 0, .int .i64 0, .int .i64 0, .int .i64 0, .int .i64 0, .int .i64 0, .int .i64 0] : Array Value) = (pX (.string s) (.slice (some ⟨gb, 0, none⟩) cs.length cc) (.slice af fs.length cf) (.int .i64 d) (.slice none 0 0) (.slice none 0 0) sp0).toArray) := Lib.hid (pX_new _ _ _ _).symm
  have HZ1 : Hid ((#[.string s, .slice (some ⟨gb, 0, none⟩) cs.length cc, .slice af fs.length cf, .int .i64 d, .slice none 0 0, .slice none 0 0, .int .i64 0, .int .i64 0, .int .i64 0, .int .i64 0, .int .i64 0, .int .i64 0, .int .i64 0, .int .i64 0, .int .i64 0, .int .i64 0, .int .i64 0, .int .i64 0, .int .i64 0, .int .i64 0, .int .i64 0, .int .i64 0, .int .i64 0, .int .i64 0, .int .i64 0, .int .i64 0, .int .i64 0, .int .i64 0, .int .i64 0, .int .i64 0, .int .i64 0, .int .i64 0, .int .i64 0, .int .i64 0, .int .i64 0, .int .i64 0, .int .i64 0, .int .i64 0, .int .i64 0, .int .i64 0, .int .i64 0, .int .i64 0, .int .i64 0, .int .i64 0, .int .i64 0, .int .i64 0, .int .i64 0, .int .i64 0, .int .i64 0, .int .i64 0, .int .i64 0, .int .i64 0, .int .i64 0, .int .i64 0] : Array Value).all (·.oneCell') = true) := Lib.hid (by rw [HPQ.out]; exact all_oneCell_toArray (pX_one rfl rfl rfl rfl rfl rfl))
  have HRW := Lib.hid ((PN.out.row (B := w1.heap.size) (Nat.le_refl _)).put (ys := (#[.string s, .slice (some ⟨gb, 0, none⟩) cs.length cc, .slice af fs.length cf, .int .i64 d, .slice none 0 0, .slice none 0 0, .int .i64 0, .int .i64 0, .int .i64 0, .int .i64 0, .int .i64 0, .int .i64 0, .int .i64 0, .int .i64 0, .int .i64 0, .int .i64 0, .int .i64 0, .int .i64 0, .int .i64 0, .int .i64 0, .int .i64 0, .int .i64 0, .int .i64 0, .int .i64 0, .int .i64 0, .int .i64 0, .int .i64 0, .int .i64 0, .int .i64 0, .int .i64 0, .int .i64 0, .int .i64 0, .int .i64 0, .int .i64 0, .int .i64 0, .int .i64 0, .int .i64 0, .int .i64 0, .int .i64 0, .int .i64 0, .int .i64 0, .int .i64 0, .int .i64 0, .int .i64 0, .int .i64 0, .int .i64 0, .int .i64 0, .int .i64 0, .int .i64 0, .int .i64 0, .int .i64 0, .int .i64 0, .int .i64 0, .int .i64 0] : Array Value).toList) rfl)
  have HRB := Lib.hid (setN_below (B := w1.heap.size) (g := w1.heap.size) (Nat.le_refl _) (#[.string s, .slice (some ⟨gb, 0, none⟩) cs.length cc, .slice af fs.length cf, .int .i64 d, .slice none 0 0, .slice none 0 0, .int .i64 0, .int .i64 0, .int .i64 0, .int .i64 0, .int .i64 0, .int .i64 0, .int .i64 0, .int .i64 0, .int .i64 0, .int .i64 0, .int .i64 0, .int .i64 0, .int .i64 0, .int .i64 0, .int .i64 0, .int .i64 0, .int .i64 0, .int .i64 0, .int .i64 0, .int .i64 0, .int .i64 0, .int .i64 0, .int .i64 0, .int .i64 0, .int .i64 0, .int .i64 0, .int .i64 0, .int .i64 0, .int .i64 0, .int .i64 0, .int .i64 0, .int .i64 0, .int .i64 0, .int .i64 0, .int .i64 0, .int .i64 0, .int .i64 0, .int .i64 0, .int .i64 0, .int .i64 0, .int .i64 0, .int .i64 0, .int .i64 0, .int .i64 0, .int .i64 0, .int .i64 0, .int .i64 0, .int .i64 0] : Array Value).toList 0 (w1.alloc (Obj.cells #[.string ⟨#[]⟩, .slice none 0 0, .slice none 0 0, .int .i64 0, .slice none 0 0, .slice none 0 0, .int .i64 0, .int .i64 0, .int .i64 0, .int .i64 0, .int .i64 0, .int .i64 0, .int .i64 0, .int .i64 0, .int .i64 0, .int .i64 0, .int .i64 0, .int .i64 0, .int .i64 0, .int .i64 0, .int .i64 0, .int .i64 0, .int .i64 0, .int .i64 0, .int .i64 0, .int .i64 0, .int .i64 0, .int .i64 0, .int .i64 0, .int .i64 0, .int .i64 0, .int .i64 0, .int .i64 0, .int .i64 0, .int .i64 0, .int .i64 0, .int .i64 0, .int .i64 0, .int .i64 0, .int .i64 0, .int .i64 0, .int .i64 0, .int .i64 0, .int .i64 0, .int .i64 0, .int .i64 0, .int .i64 0, .int .i64 0, .int .i64 0, .int .i64 0, .int .i64 0, .int .i64 0, .int .i64 0, .int .i64 0] 49)) (one_new2 w1 (Obj.cells #[.string ⟨#[]⟩, .slice none 0 0, .slice none 0 0, .int .i64 0, .slice none 0 0, .slice none 0 0, .int .i64 0, .int .i64 0, .int .i64 0, .int .i64 0, .int .i64 0, .int .i64 0, .int .i64 0, .int .i64 0, .int .i64 0, .int .i64 0, .int .i64 0, .int .i64 0, .int .i64 0, .int .i64 0, .int .i64 0, .int .i64 0, .int .i64 0, .int .i64 0, .int .i64 0, .int .i64 0, .int .i64 0, .int .i64 0, .int .i64 0, .int .i64 0, .int .i64 0, .int .i64 0, .int .i64 0, .int .i64 0, .int .i64 0, .int .i64 0, .int .i64 0, .int .i64 0, .int .i64 0, .int .i64 0, .int .i64 0, .int .i64 0, .int .i64 0, .int .i64 0, .int .i64 0, .int .i64 0, .int .i64 0, .int .i64 0, .int .i64 0, .int .i64 0, .int .i64 0, .int .i64 0, .int .i64 0, .int .i64 0] 49)))
  go_upto_region 3 with fail
  go_wp2_with ((with_reducible refine (?_ : wpList _ _ _ ({ dst := none, op := Op.store _ _ _, type := _, pos := _, after := _, guard := none } :: _) _ _)); refine wpList_store_mid rfl 49 _ _ rfl w1.heap.size 0 #[.string s, .slice (some ⟨gb, 0, none⟩) cs.length cc, .slice af fs.length cf, .int .i64 d, .slice none 0 0, .slice none 0 0, .int .i64 0, .int .i64 0, .int .i64 0, .int .i64 0, .int .i64 0, .int .i64 0, .int .i64 0, .int .i64 0, .int .i64 0, .int .i64 0, .int .i64 0, .int .i64 0, .int .i64 0, .int .i64 0, .int .i64 0, .int .i64 0, .int .i64 0, .int .i64 0, .int .i64 0, .int .i64 0, .int .i64 0, .int .i64 0, .int .i64 0, .int .i64 0, .int .i64 0, .int .i64 0, .int .i64 0, .int .i64 0, .int .i64 0, .int .i64 0, .int .i64 0, .int .i64 0, .int .i64 0, .int .i64 0, .int .i64 0, .int .i64 0, .int .i64 0, .int .i64 0, .int .i64 0, .int .i64 0, .int .i64 0, .int .i64 0, .int .i64 0, .int .i64 0, .int .i64 0, .int .i64 0, .int .i64 0, .int .i64 0] rfl rfl HTH.out HIZ.out HZ1.out ?_; refine Hid.out ?_)
  refine Lib.hid ?_
  obtain ⟨W2, hW2⟩ : ∃ W2, (w1.alloc (Obj.cells #[.string ⟨#[]⟩, .slice none 0 0, .slice none 0 0, .int .i64 0, .slice none 0 0, .slice none 0 0, .int .i64 0, .int .i64 0, .int .i64 0, .int .i64 0, .int .i64 0, .int .i64 0, .int .i64 0, .int .i64 0, .int .i64 0, .int .i64 0, .int .i64 0, .int .i64 0, .int .i64 0, .int .i64 0, .int .i64 0, .int .i64 0, .int .i64 0, .int .i64 0, .int .i64 0, .int .i64 0, .int .i64 0, .int .i64 0, .int .i64 0, .int .i64 0, .int .i64 0, .int .i64 0, .int .i64 0, .int .i64 0, .int .i64 0, .int .i64 0, .int .i64 0, .int .i64 0, .int .i64 0, .int .i64 0, .int .i64 0, .int .i64 0, .int .i64 0, .int .i64 0, .int .i64 0, .int .i64 0, .int .i64 0, .int .i64 0, .int .i64 0, .int .i64 0, .int .i64 0, .int .i64 0, .int .i64 0, .int .i64 0] 49)).setCells w1.heap.size 0 (#[.string s, .slice (some ⟨gb, 0, none⟩) cs.length cc, .slice af fs.length cf, .int .i64 d, .slice none 0 0, .slice none 0 0, .int .i64 0, .int .i64 0, .int .i64 0, .int .i64 0, .int .i64 0, .int .i64 0, .int .i64 0, .int .i64 0, .int .i64 0, .int .i64 0, .int .i64 0, .int .i64 0, .int .i64 0, .int .i64 0, .int .i64 0, .int .i64 0, .int .i64 0, .int .i64 0, .int .i64 0, .int .i64 0, .int .i64 0, .int .i64 0, .int .i64 0, .int .i64 0, .int .i64 0, .int .i64 0, .int .i64 0, .int .i64 0, .int .i64 0, .int .i64 0, .int .i64 0, .int .i64 0, .int .i64 0, .int .i64 0, .int .i64 0, .int .i64 0, .int .i64 0, .int .i64 0, .int .i64 0, .int .i64 0, .int .i64 0, .int .i64 0, .int .i64 0, .int .i64 0, .int .i64 0, .int .i64 0, .int .i64 0, .int .i64 0] : Array Value).toList = W2 := ⟨_, rfl⟩
  rw [hW2] at HRW HRB ⊢
  obtain ⟨g, hgd⟩ : ∃ g, w1.heap.size = g := ⟨_, rfl⟩
  have PV2 : Hid (PrS W2 g (.string s) (.slice (some ⟨gb, 0, none⟩) cs.length cc) (.slice af fs.length cf) (.int .i64 d) (.slice none 0 0) (.slice none 0 0) [] [] sp0) := Lib.hid (by
    refine ⟨?_, World.ownsRow_nil _ _ _ _, World.ownsRow_nil _ _ _ _, fun k hk => by cases hk⟩
    have h := HRW.out.heap
    rw [hgd] at h
    unfold PrV
    rw [h, ← HPQ.out])
  have hB1w := A1.out.all.2
  have HEA : Hid (Env g gb cs Pow W2) := Lib.hid (by
    have hb2 := HRB.out
    rw [hgd] at hb2
    have all : ∀ w', Below g W2 w' → Below w.heap.size w w' := fun w' b => hB1w.trans ((hb2.trans b).mono (by rw [← hgd]; exact hB1w.size))
    exact fun w' b => ⟨HGT.out.below (all w' b) hgl, hP.out.below (all w' b)⟩)
  have HB2 := Lib.hid (hB1w.trans (HRB.out.mono hB1w.size))
  have hgw : w.heap.size ≤ g := by rw [← hgd]; exact hB1w.size
  rw [hgd]
  clear hW2 hgd HRW HRB HTH HIZ HPQ HZ1 PN A1 c0 c1 c2 c3 hB1w
  go_wp2_with (go_at_call 28; refine (HECf.out g _ _ _ _ _ _ PV2 HEA).mono ?_; rintro e w8 ⟨rfl, ⟨L8, W8, Sp8, lv8, wv8, hI8, p8⟩, b8⟩; have P8 := Lib.hid p8; have G8 := Lib.hid (HB2.out.trans (b8.mono hgw)); obtain rfl := HPE.out _ _ _ hI8; clear p8 b8 hI8; refine Hid.out ?_)
  refine Lib.hid ?_
  have HTX := Lib.hid (text_any g _ lv8 L8 w8 P8.out.1.cells.2.2.2.2.1 (Lib.hid P8.out.2.1) htl (by omega))
  go_wp2_with (go_at_call 30; refine (HTX.out).mono ?_; rintro e w9 ⟨rfl, b9⟩; have G9 := Lib.hid (G8.out.trans (b9.mono G8.out.size)); clear b9)
  go_ret2
  exact ⟨rfl, G9.out⟩
theorem implTreeText_any (v : Value) (c : Cfg) (w : World) (HK : Hid (Kwt w)) (HV : Hid (CfgV w v c)) (HM : Hid (CfgM c)) (hP : Hid (Pow w)) : Calls Tryz.prog 11 #[v] w (SaysStrB w (resTreeText1 c) (goodC c)) := by
  cases hg : goodC c
  · have := implTreeText_bad v c w HK HV HM hg
    rwa [hg] at this
  · have := implTreeText_good v c w HK HV HM hP hg
    rwa [hg] at this
end Go.Proofs.YthgbhnedfdnfpaaGreatDoor
