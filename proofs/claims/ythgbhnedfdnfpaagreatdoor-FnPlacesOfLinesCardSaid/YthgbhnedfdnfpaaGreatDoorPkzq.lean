import Derived.Test.YthgbhnedfdnfpaaGreatDoorPkzi
import Derived.Test.YthgbhnedfdnfpaaGreatDoorPkzn
import Derived.Test.YthgbhnedfdnfpaaGreatDoorPkzl
/- Canonical texts: trees of Ids, both sides (written by tools/gen_ptr.py). -/
namespace Go.Proofs.YthgbhnedfdnfpaaGreatDoor
set_option maxRecDepth 100000
open Go.RowKit
set_option linter.unusedVariables false
set_option linter.unusedSimpArgs false

def idL (cs : List Cls) (j : Nat) : ByteArray := indS (depP cs j - 1) ++ numS (cs.getD j cls0).i.toNat ++ ⟨#[10]⟩
theorem branP_walk {cs : List Cls} (T : TreeF cs) : ∀ (f l i : Nat), i < cs.length → l + 1 = depP cs i → branP cs f l i = (walkP cs f i).map (idL cs)
  | 0, _, _, _, _ => rfl
  | f + 1, l, i, hi, hl => by
    unfold branP walkP
    rw [List.map_cons, show idL cs i = indS l ++ numS (cs.getD i cls0).i.toNat ++ ⟨#[10]⟩ by unfold idL; rw [← hl]; rfl, List.map_flatMap]
    rw [flat_same (f := branP cs f (l + 1)) (g := fun k => (walkP cs f k).map (idL cs))]
    intro k hk
    exact branP_walk T f (l + 1) k (kids_mem hk).1 (by rw [dep_kid T hi hk]; omega)
def treeL (c : Cfg) : List ByteArray := (walkP c.cs 8 (topF c.cs)).map (idL c.cs)
def resTreeText1 (c : Cfg) : ByteArray := if goodC c then catS (treeL c) else ⟨#[]⟩
theorem tt_bad {c : Cfg} (h : goodC c = false) : resTreeText1 c = ⟨#[]⟩ := by unfold resTreeText1; rw [h]; rfl
theorem tt_good {c : Cfg} (h : goodC c = true) : resTreeText1 c = catS (treeL c) := by unfold resTreeText1; rw [h]; rfl
theorem idL_size {cs : List Cls} (T : TreeF cs) {j : Nat} (hj : j < cs.length) : (idL cs j).size ≤ 2000 := by
  have h1 := (way_len T hj).2
  have h2 := (okL_ids cs 0 T.ok j hj)
  have h3 := numS_size (cs.getD j cls0).i.toNat
  have h4 := indS_size (depP cs j - 1)
  have z1 : (⟨#[10]⟩ : ByteArray).size = 1 := rfl
  unfold idL
  simp only [ByteArray.size_append]
  omega
theorem treeL_size {c : Cfg} (G : GoodP c) : (catS (treeL c)).size ≤ 2000000000 := by
  have ht := top_facts G.T G.top
  have h := catS_size 2000 (treeL c) (fun t ht' => by
    unfold treeL at ht'
    obtain ⟨j, hj, rfl⟩ := List.mem_map.1 ht'
    exact idL_size G.T (walk_lt 8 (topF c.cs) ht.1 j hj))
  have hl : (treeL c).length ≤ 1000000 := by
    unfold treeL
    rw [List.length_map]
    exact walk_le G.T 8 (topF c.cs) (by decide) ht.1
  omega
theorem cat_idL (cs : List Cls) (K : List Nat) (k : Nat) (h : k < K.length) (j : Nat) (hj : K.getD k 0 = j) : catS ((K.drop k).map (idL cs)) = idL cs j ++ catS ((K.drop (k + 1)).map (idL cs)) := by
  rw [List.drop_eq_getElem_cons h, List.map_cons, catS_cons]
  subst hj
  simp [List.getD_eq_getElem?_getD, h]
def TtRel (cs : List Cls) (K : List Nat) (U : ByteArray) (a i : Value) : Prop := ∃ (k : Nat) (u : ByteArray), k ≤ K.length ∧ i = .int .i64 k ∧ a = .string u ∧ Hid (u ++ catS ((K.drop k).map (idL cs)) = U)
set_option maxHeartbeats 12800000 in
theorem specTreeText_any (v : Value) (c : Cfg) (w : World) (HV : Hid (CfgV w v c)) (HM : Hid (CfgM c)) :
    Calls Tryz.prog 12 #[v] w (SaysStrB w (resTreeText1 c) (goodC c)) := by
  obtain ⟨ac, cc, af, cf, rfl, ic, if_⟩ := HV.out
  obtain ⟨s, cs, fs, d⟩ := c
  have hM := HM.out
  unfold CfgM at hM
  simp only at ic if_ hM HV ⊢
  obtain ⟨q0, q1, q2⟩ := hM
  have HI := Lib.hid ic
  have HJ := Lib.hid if_
  have HVB := Lib.hid (fun w' (b : Below w.heap.size w w') => Lib.hid (HV.out.below b))
  have A0 := Lib.hid (Aft.refl w (Obj.cells #[.string s, .slice ac cs.length cc, .slice af fs.length cf, .int .i64 d] 26))
  clear ic if_
  have HGD := Lib.hid (fun w' (b : Below w.heap.size w w') => cfGood_any (.agg #[.string s, .slice ac cs.length cc, .slice af fs.length cf, .int .i64 d]) ⟨s, cs, fs, d⟩ w' (HVB.out w' b) HM)
  cases hg : goodC ⟨s, cs, fs, d⟩
  · rw [tt_bad hg]
    rw [hg] at HGD
    clear hg
    go_enter Tryz.func12, Tryz.ntmps12
    go_wp2_with (go_at_call 24; refine (HGD.out _ A0.out.all.2).mono ?_; rintro e w1 ⟨rfl, b1⟩; have A1 := Lib.hid (A0.out.on b1); clear b1)
    go_ret2
    exact ⟨rfl, A1.out.all.2⟩
  · have GP := goodP hg
    have T := GP.T
    simp only at T
    have hcT : cT cs = 1 := GP.top
    have htf := top_facts T hcT
    have hsz := treeL_size GP
    rw [tt_good hg]
    rw [hg] at HGD
    have HX0 : Hid (catS (treeL ⟨s, cs, fs, d⟩) = catS ((walkP cs 8 (topF cs)).map (idL cs))) := Lib.hid rfl
    have hw24 := walk_le T 8 (topF cs) (by decide) htf.1
    have HWL : Hid (∀ j ∈ walkP cs 8 (topF cs), j < cs.length) := Lib.hid (walk_lt 8 (topF cs) htf.1)
    have HTP := Lib.hid (fun w' HI => cfTop_any s ac af cs.length cc fs.length cf d cs w' HI (Lib.hid rfl) q1 (by omega))
    have HWK := Lib.hid (fun w' HI => prWalk_any s ac af cs.length cc fs.length cf d cs T 8 (topF cs) w' HI (Lib.hid rfl) htf.1 (by decide) (by have := htf.2.2; omega))
    have HUP := Lib.hid (fun q (hq : q < cs.length) w' HI => cfUp_any s ac af cs.length cc fs.length cf d cs q w' HI (Lib.hid rfl) q1 hq)
    generalize catS (treeL ⟨s, cs, fs, d⟩) = U at HX0 hsz ⊢
    generalize topF cs = tp at HTP HWK HX0 HWL hw24
    generalize walkP cs 8 tp = K at HWK HX0 HWL hw24
    have H0 : Hid ((⟨#[]⟩ : ByteArray) ++ catS ((K.drop 0).map (idL cs)) = U) := Lib.hid (by rw [List.drop_zero, ← HX0.out]; apply bytes_exP; simp [ByteArray.data_append])
    have HKM : Hid (∀ k, k < K.length → K.getD k 0 < cs.length) := Lib.hid (fun k hk => HWL.out _ (by simp [List.getD_eq_getElem?_getD, hk]))
    have HIB : Hid (∀ w', BX (w.alloc (Obj.cells #[.string s, .slice ac cs.length cc, .slice af fs.length cf, .int .i64 d] 26)) w' → Hid (InX w' ac cs.length (clsCs cs))) := Lib.hid (fun w' h => Lib.hid (HI.out.below (show Aft w (Obj.cells #[.string s, .slice ac cs.length cc, .slice af fs.length cf, .int .i64 d] 26) w' from h).all.2))
    have HQ : Hid (∀ w', BX (w.alloc (Obj.cells #[.string s, .slice ac cs.length cc, .slice af fs.length cf, .int .i64 d] 26)) w' → w'.cell? ⟨w.heap.size, 0, none⟩ = some (.string s) ∧ w'.cell? ⟨w.heap.size, 1, none⟩ = some (.slice ac cs.length cc) ∧ w'.cell? ⟨w.heap.size, 2, none⟩ = some (.slice af fs.length cf) ∧ w'.cell? ⟨w.heap.size, 3, none⟩ = some (.int .i64 d) ∧ BX (w.alloc (Obj.cells #[.string s, .slice ac cs.length cc, .slice af fs.length cf, .int .i64 d] 26)) w') := Lib.hid (fun w' h => by
      obtain ⟨e0, e1, e2, e3, _⟩ := (show Aft w (Obj.cells #[.string s, .slice ac cs.length cc, .slice af fs.length cf, .int .i64 d] 26) w' from h).all.1
      exact ⟨e0, e1, e2, e3, h⟩)
    have HE : Hid (∀ w', BX (w.alloc (Obj.cells #[.string s, .slice ac cs.length cc, .slice af fs.length cf, .int .i64 d] 26)) w' → Below w.heap.size w w') := Lib.hid (fun w' h => (show Aft w (Obj.cells #[.string s, .slice ac cs.length cc, .slice af fs.length cf, .int .i64 d] 26) w' from h).all.2)
    have X0 := Lib.hid (BX.refl (w.alloc (Obj.cells #[.string s, .slice ac cs.length cc, .slice af fs.length cf, .int .i64 d] 26)))
    have HT := Lib.hid T
    have hn1 : 1 ≤ cs.length := GP.n1
    obtain ⟨gb, rfl, hgt, hgl⟩ := HI.out (by omega)
    have HGT := Lib.hid hgt
    clear hg GP htf hcT HWL hgt
    go_enter Tryz.func12, Tryz.ntmps12
    go_wp2_with (go_at_call 24; refine (HGD.out _ A0.out.all.2).mono ?_; rintro e w1 ⟨rfl, b1⟩; have A1 : Hid (BX (w.alloc (Obj.cells #[.string s, .slice (some ⟨gb, 0, none⟩) cs.length cc, .slice af fs.length cf, .int .i64 d] 26)) w1) := Lib.hid (X0.out.call b1); clear b1)
    refine wp_region_held_drew (S := fun w' => w'.cell? ⟨w.heap.size, 0, none⟩ = some (.string s) ∧ w'.cell? ⟨w.heap.size, 1, none⟩ = some (.slice (some ⟨gb, 0, none⟩) cs.length cc) ∧ w'.cell? ⟨w.heap.size, 2, none⟩ = some (.slice af fs.length cf) ∧ w'.cell? ⟨w.heap.size, 3, none⟩ = some (.int .i64 d) ∧ BX (w.alloc (Obj.cells #[.string s, .slice (some ⟨gb, 0, none⟩) cs.length cc, .slice af fs.length cf, .int .i64 d] 26)) w') (by kernel_rfl) ?_ (fun hHeld => ?_)
    · (try dsimp only)
      exact HQ.out _ A1.out.drew
    have B0 := Lib.hid A1.out.drew
    refine held_take (i := 0) (d := 10) (v := ?_) rfl rfl (by kernel_rfl) (by kernel_rfl) (by kernel_rfl) (fun _ _ _ h => h) (by rfl) ?_ (by assumption) ?_
    rotate_left
    · intro w hSw
      (try dsimp only at hSw)
      go_simp
      try with_reducible rfl
    try simp only [Act.put, List.setIfInBounds_toArray, List.set_cons_zero, List.set_cons_succ]
    refine held_take (i := 1) (d := 11) (v := ?_) rfl rfl (by kernel_rfl) (by kernel_rfl) (by kernel_rfl) (fun _ _ _ h => h) (by rfl) ?_ (by assumption) ?_
    rotate_left
    · intro w hSw
      (try dsimp only at hSw)
      go_simp
      try with_reducible rfl
    try simp only [Act.put, List.setIfInBounds_toArray, List.set_cons_zero, List.set_cons_succ]
    refine held_take (i := 5) (d := 15) (v := ?_) rfl rfl (by kernel_rfl) (by kernel_rfl) (by kernel_rfl) (fun _ _ _ h => h) (by rfl) ?_ (by assumption) ?_
    rotate_left
    · intro w hSw
      (try dsimp only at hSw)
      go_simp
      try with_reducible rfl
    try simp only [Act.put, List.setIfInBounds_toArray, List.set_cons_zero, List.set_cons_succ]
    refine wpAnyH_ready (rs := [2]) (by kernel_rfl) (by simp) ?_
    refine ((AllReadyH.cons rfl (fun K' hK => ?_) AllReadyH.nil))
    go_simp
    go_at_call 26
    refine (HTP.out _ (HIB.out _ B0.out)).mono ?_
    rintro e u1 ⟨rfl, b⟩
    have B1 := Lib.hid (B0.out.call b)
    clear b
    refine hK.out _ _ ?_ (fun hHeld => ?_)
    · (try dsimp only)
      exact HQ.out _ B1.out
    clear hK K'
    try simp only [Act.put, List.setIfInBounds_toArray, List.set_cons_zero, List.set_cons_succ]
    refine wpAnyH_ready (rs := [3]) (by kernel_rfl) (by simp) ?_
    refine ((AllReadyH.cons rfl (fun K' hK => ?_) AllReadyH.nil))
    go_simp
    go_at_call 25
    refine (HWK.out _ (HIB.out _ B1.out)).mono ?_
    rintro e u2 ⟨v2, rfl, o2, b⟩
    have B2 := Lib.hid (B1.out.call b)
    have O2 := Lib.hid o2
    obtain ⟨ad0, cK0, rfl, _⟩ := own_in o2
    clear b o2
    refine hK.out _ _ ?_ (fun hHeld => ?_)
    · (try dsimp only)
      exact HQ.out _ B2.out
    clear hK K'
    try simp only [Act.put, List.setIfInBounds_toArray, List.set_cons_zero, List.set_cons_succ]
    refine held_take (i := 4) (d := 14) (v := ?_) rfl rfl (by kernel_rfl) (by kernel_rfl) (by kernel_rfl) (fun _ _ _ h => h) (by rfl) ?_ (by assumption) ?_
    rotate_left
    · intro w hSw
      (try dsimp only at hSw)
      go_simp
      try with_reducible rfl
    try simp only [Act.put, List.setIfInBounds_toArray, List.set_cons_zero, List.set_cons_succ]
    refine wpAnyH_done (by kernel_rfl) ?_ _
    have O2b := Lib.hid (own_base (B' := w.heap.size) O2.out (HE.out _ B1.out).size)
    obtain ⟨ad, cK, hv, iK⟩ := own_in O2.out
    cases hv
    have HIK := Lib.hid iK
    obtain ⟨y0, y1, y2, y3, _⟩ := HQ.out _ B2.out
    clear iK
    go_wp2_with fail
    go_loopw [4, 15] (fun a i wr => TtRel cs K U a i ∧ BX (w.alloc (Obj.cells #[.string s, .slice (some ⟨gb, 0, none⟩) cs.length cc, .slice af fs.length cf, .int .i64 d] 26)) wr ∧ Below u2.heap.size u2 wr) (fun _ i _ => K.length - (intOf i).toNat)
    case atStart => exact ⟨⟨0, _, Nat.zero_le _, rfl, rfl, H0⟩, B2.out, Below.refl _ _⟩
    case round =>
      obtain ⟨⟨k, u, hk, rfl, rfl, HP⟩, hb, h2⟩ := hrel
      have HB := Lib.hid hb
      have H2 := Lib.hid h2
      have hIKr := HIK.out.below h2
      clear h2
      by_cases hlt : k < K.length
      · obtain ⟨gk, rfl, hkt, hkg⟩ := hIKr (by omega)
        obtain ⟨j, hj⟩ : ∃ j, K.getD k 0 = j := ⟨_, rfl⟩
        have e0 := hkt.nat k hlt j hj
        have hjl : j < cs.length := by rw [← hj]; exact HKM.out k hlt
        have HE2 := Lib.hid (cat_idL cs K k hlt j hj)
        have HX2 : Hid ((u ++ idL cs j) ++ catS ((K.drop (k + 1)).map (idL cs)) = U) := Lib.hid (by rw [app_asP, ← HE2.out, HP.out])
        have hzz : u.size + (idL cs j).size ≤ 2000000000 := by
          have e := congrArg ByteArray.size HX2.out
          simp only [ByteArray.size_append] at e
          omega
        have hid := idL_size HT.out hjl
        have hw8 := way_len HT.out hjl
        have HUJ := Lib.hid (HUP.out j hjl)
        have hul : (up cs 9 j).length = depP cs j := rfl
        obtain ⟨xj, hxj⟩ : ∃ xj, cs.getD j cls0 = xj := ⟨_, rfl⟩
        have hids := okL_ids cs 0 HT.out.ok j hjl
        rw [hxj] at hids
        obtain ⟨ni, hni⟩ := Int.eq_ofNat_of_zero_le (show 0 ≤ xj.i by omega)
        have HNU := Lib.hid (fun w => l1Num_any ni (by omega) w)
        have HLN : Hid (idL cs j = indS (depP cs j - 1) ++ numS ni ++ ⟨#[10]⟩) := Lib.hid (by unfold idL; rw [hxj, hni]; rfl)
        obtain ⟨dl, hdl⟩ : ∃ dl, depP cs j = dl + 1 := ⟨depP cs j - 1, by omega⟩
        rw [hdl, Nat.add_sub_cancel] at HLN
        have hd9 : dl ≤ 100 := by omega
        have HIN := Lib.hid (fun w => prIndent_any dl hd9 w)
        rw [HLN.out] at HX2 hzz hid
        obtain ⟨a0, _⟩ := (HGT.out.below (HE.out _ hb) hgl).cls j hjl xj hxj
        rw [hni] at a0
        generalize indS dl = il at HIN HX2 hzz hid
        generalize numS ni = nn at HNU HX2 hzz hid
        have hi9 : il.size ≤ 2000 := by simp only [ByteArray.size_append] at hid; omega
        have hn9 : nn.size ≤ 2000 := by simp only [ByteArray.size_append] at hid; omega
        have hu9 : u.size ≤ 2000000000 := by omega
        have j1 : ¬ (9223372036854775807 < il.size + nn.size) := by omega
        have j2 : ¬ (9223372036854775807 < il.size + nn.size + 1) := by omega
        have j3 : ¬ (9223372036854775807 < u.size + (il.size + nn.size + 1)) := by omega
        have hUL : (up cs 9 j).length = dl + 1 := by rw [hul, hdl]
        generalize up cs 9 j = UJ at HUJ hUL
        have S0 := Lib.hid a0
        have HQ2 : Hid (∀ w', BX wr w' → w'.cell? ⟨w.heap.size, 0, none⟩ = some (.string s) ∧ w'.cell? ⟨w.heap.size, 1, none⟩ = some (.slice (some ⟨gb, 0, none⟩) cs.length cc) ∧ w'.cell? ⟨w.heap.size, 2, none⟩ = some (.slice af fs.length cf) ∧ w'.cell? ⟨w.heap.size, 3, none⟩ = some (.int .i64 d) ∧ w'.cell? ⟨gb, j * 8, none⟩ = some (.int .i64 (ni : Int)) ∧ BX wr w') := Lib.hid (fun w' h => by
          obtain ⟨e0, e1, e2, e3, _⟩ := HQ.out w' (HB.out.call h)
          have hgr : gb < wr.heap.size := Nat.lt_of_lt_of_le hgl (HE.out _ HB.out).size
          exact ⟨e0, e1, e2, e3, ((bcell h).1 gb (j * 8) hgr).trans S0.out, h⟩)
        have hji : (j : Int) < (cs.length : Int) := by omega
        have hji0 : (0 : Int) ≤ (j : Int) := by omega
        clear hkt hj hb hul hdl hids hw8 hxj hni a0 hid hzz
        have C0 := Lib.hid (BX.refl wr)
        have hwd : IntKind.i64.wrap (dl : Int) = dl := IntWalk.i64_in _ (by omega)
        go_wp2_with fail
        refine wp_region_held_drew (S := fun w' => w'.cell? ⟨w.heap.size, 0, none⟩ = some (.string s) ∧ w'.cell? ⟨w.heap.size, 1, none⟩ = some (.slice (some ⟨gb, 0, none⟩) cs.length cc) ∧ w'.cell? ⟨w.heap.size, 2, none⟩ = some (.slice af fs.length cf) ∧ w'.cell? ⟨w.heap.size, 3, none⟩ = some (.int .i64 d) ∧ w'.cell? ⟨gb, j * 8, none⟩ = some (.int .i64 (ni : Int)) ∧ BX wr w') (by kernel_rfl) ?_ (fun hHeld => ?_)
        · (try dsimp only)
          exact HQ2.out _ C0.out.drew
        have D0 := Lib.hid C0.out.drew
        refine held_take (i := 0) (d := 19) (v := ?_) rfl rfl (by kernel_rfl) (by kernel_rfl) (by kernel_rfl) (fun _ _ _ h => h) (by rfl) ?_ (by assumption) ?_
        rotate_left
        · intro w hSw
          (try dsimp only at hSw)
          go_simp
          try with_reducible rfl
        try simp only [Act.put, List.setIfInBounds_toArray, List.set_cons_zero, List.set_cons_succ]
        refine held_take (i := 1) (d := 20) (v := ?_) rfl rfl (by kernel_rfl) (by kernel_rfl) (by kernel_rfl) (fun _ _ _ h => h) (by rfl) ?_ (by assumption) ?_
        rotate_left
        · intro w hSw
          (try dsimp only at hSw)
          go_simp
          try with_reducible rfl
        try simp only [Act.put, List.setIfInBounds_toArray, List.set_cons_zero, List.set_cons_succ]
        refine held_take (i := 2) (d := 21) (v := ?_) rfl rfl (by kernel_rfl) (by kernel_rfl) (by kernel_rfl) (fun _ _ _ h => h) (by rfl) ?_ (by assumption) ?_
        rotate_left
        · intro w hSw
          (try dsimp only at hSw)
          go_simp
          try with_reducible rfl
        try simp only [Act.put, List.setIfInBounds_toArray, List.set_cons_zero, List.set_cons_succ]
        refine held_take (i := 7) (d := 26) (v := ?_) rfl rfl (by kernel_rfl) (by kernel_rfl) (by kernel_rfl) (fun _ _ _ h => h) (by rfl) ?_ (by assumption) ?_
        rotate_left
        · intro w hSw
          (try dsimp only at hSw)
          go_simp
          try with_reducible rfl
        try simp only [Act.put, List.setIfInBounds_toArray, List.set_cons_zero, List.set_cons_succ]
        refine held_take (i := 8) (d := 27) (v := ?_) rfl rfl (by kernel_rfl) (by kernel_rfl) (by kernel_rfl) (fun _ _ _ h => h) (by rfl) ?_ (by assumption) ?_
        rotate_left
        · intro w hSw
          (try dsimp only at hSw)
          go_simp
          try with_reducible rfl
        try simp only [Act.put, List.setIfInBounds_toArray, List.set_cons_zero, List.set_cons_succ]
        refine held_take (i := 9) (d := 28) (v := ?_) rfl rfl (by kernel_rfl) (by kernel_rfl) (by kernel_rfl) (fun _ _ _ h => h) (by rfl) ?_ (by assumption) ?_
        rotate_left
        · intro w hSw
          (try dsimp only at hSw)
          go_simp
          try with_reducible rfl
        try simp only [Act.put, List.setIfInBounds_toArray, List.set_cons_zero, List.set_cons_succ]
        refine held_take (i := 10) (d := 29) (v := ?_) rfl rfl (by kernel_rfl) (by kernel_rfl) (by kernel_rfl) (fun _ _ _ h => h) (by rfl) ?_ (by assumption) ?_
        rotate_left
        · intro w hSw
          (try dsimp only at hSw)
          go_simp
          try with_reducible rfl
        try simp only [Act.put, List.setIfInBounds_toArray, List.set_cons_zero, List.set_cons_succ]
        refine held_take (i := 11) (d := 30) (v := ?_) rfl rfl (by kernel_rfl) (by kernel_rfl) (by kernel_rfl) (fun _ _ _ h => h) (by rfl) ?_ (by assumption) ?_
        rotate_left
        · intro w hSw
          (try dsimp only at hSw)
          go_simp
          try with_reducible rfl
        try simp only [Act.put, List.setIfInBounds_toArray, List.set_cons_zero, List.set_cons_succ]
        refine held_take (i := 12) (d := 31) (v := ?_) rfl rfl (by kernel_rfl) (by kernel_rfl) (by kernel_rfl) (fun _ _ _ h => h) (by rfl) ?_ (by assumption) ?_
        rotate_left
        · intro w hSw
          (try dsimp only at hSw)
          go_simp
          try with_reducible rfl
        try simp only [Act.put, List.setIfInBounds_toArray, List.set_cons_zero, List.set_cons_succ]
        refine wpAnyH_ready (rs := [3]) (by kernel_rfl) (by simp) ?_
        refine ((AllReadyH.cons rfl (fun K' hK => ?_) AllReadyH.nil))
        go_simp
        go_at_call 32
        refine (HUJ.out _ (HIB.out _ (HB.out.call D0.out))).mono ?_
        rintro e u3 ⟨v3, rfl, o3, b⟩
        have C1 := Lib.hid (D0.out.call b)
        obtain ⟨ad3, c3, hv3, _⟩ := own_in o3
        cases hv3
        clear b o3
        rw [hUL]
        refine hK.out _ _ ?_ (fun hHeld => ?_)
        · (try dsimp only)
          exact HQ2.out _ C1.out
        clear hK K'
        try simp only [Act.put, List.setIfInBounds_toArray, List.set_cons_zero, List.set_cons_succ]
        refine held_take (i := 4) (d := 23) (v := ?_) rfl rfl (by kernel_rfl) (by kernel_rfl) (by kernel_rfl) (fun _ _ _ h => h) (by rfl) ?_ (by assumption) ?_
        rotate_left
        · intro w hSw
          (try dsimp only at hSw)
          go_simp
          try with_reducible rfl
        try simp only [Act.put, List.setIfInBounds_toArray, List.set_cons_zero, List.set_cons_succ]
        refine held_take (i := 5) (d := 24) (v := ?_) rfl rfl (by kernel_rfl) (by kernel_rfl) (by kernel_rfl) (fun _ _ _ h => h) (by rfl) ?_ (by assumption) ?_
        rotate_left
        · intro w hSw
          (try dsimp only at hSw)
          go_simp
          try with_reducible rfl
        try simp only [Act.put, List.setIfInBounds_toArray, List.set_cons_zero, List.set_cons_succ]
        try rw [hwd]
        refine wpAnyH_ready (rs := [6]) (by kernel_rfl) (by simp) ?_
        refine ((AllReadyH.cons rfl (fun K' hK => ?_) AllReadyH.nil))
        go_simp
        go_at_call 31
        refine (HIN.out _).mono ?_
        rintro e u4 ⟨rfl, rfl⟩
        refine hK.out _ _ ?_ (fun hHeld => ?_)
        · (try dsimp only)
          exact HQ2.out _ C1.out
        clear hK K'
        try simp only [Act.put, List.setIfInBounds_toArray, List.set_cons_zero, List.set_cons_succ]
        refine wpAnyH_ready (rs := [13]) (by kernel_rfl) (by simp) ?_
        refine ((AllReadyH.cons rfl (fun K' hK => ?_) AllReadyH.nil))
        go_simp
        go_at_call 33
        refine (HNU.out _).mono ?_
        rintro e u5 ⟨rfl, b⟩
        have C3 := Lib.hid (C1.out.call b)
        clear b
        refine hK.out _ _ ?_ (fun hHeld => ?_)
        · (try dsimp only)
          exact HQ2.out _ C3.out
        clear hK K'
        try simp only [Act.put, List.setIfInBounds_toArray, List.set_cons_zero, List.set_cons_succ]
        refine held_take (i := 14) (d := 33) (v := ?_) rfl rfl (by kernel_rfl) (by kernel_rfl) (by kernel_rfl) (fun _ _ _ h => h) (by rfl) ?_ (by assumption) ?_
        rotate_left
        · intro w hSw
          (try dsimp only at hSw)
          go_simp
          try with_reducible rfl
        try simp only [Act.put, List.setIfInBounds_toArray, List.set_cons_zero, List.set_cons_succ]
        refine held_take (i := 15) (d := 34) (v := ?_) rfl rfl (by kernel_rfl) (by kernel_rfl) (by kernel_rfl) (fun _ _ _ h => h) (by rfl) ?_ (by assumption) ?_
        rotate_left
        · intro w hSw
          (try dsimp only at hSw)
          go_simp
          try with_reducible rfl
        try simp only [Act.put, List.setIfInBounds_toArray, List.set_cons_zero, List.set_cons_succ]
        refine held_take (i := 16) (d := 35) (v := ?_) rfl rfl (by kernel_rfl) (by kernel_rfl) (by kernel_rfl) (fun _ _ _ h => h) (by rfl) ?_ (by assumption) ?_
        rotate_left
        · intro w hSw
          (try dsimp only at hSw)
          go_simp
          try with_reducible rfl
        try simp only [Act.put, List.setIfInBounds_toArray, List.set_cons_zero, List.set_cons_succ]
        refine held_take (i := 17) (d := 4) (v := ?_) rfl rfl (by kernel_rfl) (by kernel_rfl) (by kernel_rfl) (fun _ _ _ h => h) (by rfl) ?_ (by assumption) ?_
        rotate_left
        · intro w hSw
          (try dsimp only at hSw)
          go_simp
          try with_reducible rfl
        try simp only [Act.put, List.setIfInBounds_toArray, List.set_cons_zero, List.set_cons_succ]
        refine wpAnyH_done (by kernel_rfl) ?_ _
        go_wp2_with fail
        go_roundw
        case rel => exact ⟨⟨k + 1, _, hlt, by go_num, rfl, HX2⟩, HB.out.call C3.out, H2.out.trans (C3.out.mono H2.out.size)⟩
        case measure => simp [intOf]; omega
      · have hk' : k = K.length := by omega
        have HX2 : u = U := by have := HP.out; rw [List.drop_eq_nil_of_le (by omega)] at this; rw [← this]; apply bytes_exP; simp [catS, ByteArray.data_append]
        subst HX2
        go_wp2_with fail
        go_ret2
        exact ⟨rfl, HE.out _ HB.out⟩
end Go.Proofs.YthgbhnedfdnfpaaGreatDoor
