import Derived.Test.YthgbhnedfdnfpaaGreatDoorPkzh
/- Canonical texts, the model's: whole texts, and its functions over configurations (written by tools/gen_prr.py). -/
namespace Go.Proofs.YthgbhnedfdnfpaaGreatDoor
set_option maxRecDepth 100000
open Go.RowKit
set_option linter.unusedVariables false
set_option linter.unusedSimpArgs false

structure GoodP (c : Cfg) : Prop where
  T : TreeF c.cs
  n1 : 1 ≤ c.cs.length
  top : cT c.cs = 1
  nm : c.s.size ≤ 8
  fl : c.fs.length ≤ 16
  fg : ∀ k, k < c.fs.length → goodFl (c.fs.getD k flt0) = true
  df : c.d = 0 ∨ (1 ≤ c.d ∧ c.d ≤ 999)
theorem leaf_id {cs : List Cls} (h0 : okL 0 cs = true) {id : Int} (h : leafB cs id = true) : 1 ≤ id ∧ id ≤ 999 := by
  unfold leafB at h
  rw [Bool.and_eq_true] at h
  obtain ⟨k, hk⟩ := Option.isSome_iff_exists.1 h.1
  have hg := fnd_get cs id k hk
  have := okL_ids cs 0 h0 k hg.1
  rw [hg.2] at this
  omega
theorem mdF_all {cs : List Cls} (h0 : okL 0 cs = true) : ∀ (fs : List Flt) (b : Int), 0 ≤ b → mdF cs b fs = true → ∀ k, k < fs.length → goodFl (fs.getD k flt0) = true
  | [], _, _, _, k, hk => absurd hk (by simp)
  | x :: r, b, hb, h, k, hk => by
    unfold mdF at h
    simp only [Bool.and_eq_true, decide_eq_true_eq] at h
    obtain ⟨⟨⟨h1, h2, h3⟩, h4⟩, h5⟩ := h
    match k, hk with
    | 0, _ =>
      simp only [List.getD_cons_zero]
      have hl := leaf_id h0 h4
      unfold goodFl FltSelf
      rw [inBR_yes (by omega) h2, h3, inBR_yes hl.1 hl.2]
      rfl
    | k + 1, hk =>
      simp only [List.getD_cons_succ]
      exact mdF_all h0 r x.o (by omega) h5 k (by simpa using hk)
theorem goodP {c : Cfg} (h : goodC c = true) : GoodP c := by
  have G := good_of h
  unfold goodC nmG fltG dfG at h
  simp only [Bool.and_eq_true, decide_eq_true_eq, Bool.or_eq_true, beq_iff_eq] at h
  obtain ⟨⟨⟨_, _, hs⟩, _⟩, _, _, ⟨hm, _⟩, hd⟩ := h
  exact ⟨G.tree, G.n1, G.top, hs, G.fl, mdF_all G.ok c.fs 0 (Int.le_refl _) hm, hd.imp id (leaf_id G.ok)⟩
theorem top_facts {cs : List Cls} (T : TreeF cs) (ht : cT cs = 1) : topF cs < cs.length ∧ (cs.getD (topF cs) cls0).p = 0 ∧ depP cs (topF cs) = 1 := by
  have h := topF_at cs (by omega)
  exact ⟨h.1, h.2, dep_none (by rw [h.2]; exact no_zero T.ok)⟩
def filtL (fs : List Flt) : List ByteArray := fs.map (fun x => indS 1 ++ lineT x ++ ⟨#[10]⟩)
def begS (s : ByteArray) (d : Int) : ByteArray := if d = 0 then ⟨#[113, 100, 105, 115, 99, 32]⟩ ++ s else ⟨#[113, 100, 105, 115, 99, 32]⟩ ++ s ++ (⟨#[32, 100, 101, 102, 97, 117, 108, 116, 32]⟩ ++ numS d.toNat)
def textP (c : Cfg) : ByteArray := begS c.s c.d ++ (⟨#[32, 123, 10]⟩ ++ partT c.cs 8 1 (topF c.cs)) ++ catS (filtL c.fs) ++ ⟨#[125, 10]⟩
theorem filt_drop (fs : List Flt) (k : Nat) (h : k < fs.length) (x : Flt) (hx : fs.getD k flt0 = x) : catS (filtL (fs.drop k)) = (indS 1 ++ lineT x ++ ⟨#[10]⟩) ++ catS (filtL (fs.drop (k + 1))) := by
  rw [drop_flt fs k h x hx]
  unfold filtL
  rw [List.map_cons, catS_cons]
theorem lineT_size {x : Flt} (h : goodFl x = true) : (lineT x).size ≤ 200000 := by
  have N := fln h
  have := lineN_size x.o.toNat x.f.toNat x.v.toNat x.m.toNat x.t.toNat
  have := N.bo; have := N.bm; have := N.bv; have := N.bt
  unfold lineT
  omega
theorem filtL_size (fs : List Flt) (h : ∀ k, k < fs.length → goodFl (fs.getD k flt0) = true) : (catS (filtL fs)).size ≤ fs.length * 200100 := by
  have := catS_size 200100 (filtL fs) (fun t ht => by
    unfold filtL at ht
    obtain ⟨x, hx, rfl⟩ := List.mem_map.1 ht
    obtain ⟨k, hk, hkx⟩ := List.mem_iff_getElem.1 hx
    have hg := h k hk
    rw [show fs.getD k flt0 = x by rw [← hkx]; simp [List.getD_eq_getElem?_getD, hk]] at hg
    have h1 := lineT_size hg
    have h2 := indS_size 1
    have z1 : (⟨#[10]⟩ : ByteArray).size = 1 := rfl
    simp only [ByteArray.size_append]
    omega)
  unfold filtL at this ⊢
  simpa using this
def TxRel (w : World) (o : Obj) (fs : List Flt) (U : ByteArray) (a i : Value) (wr : World) : Prop :=
  ∃ (k : Nat) (u : ByteArray), k ≤ fs.length ∧ i = .int .i64 k ∧ a = .string u ∧ Aft w o wr ∧ Hid (u ++ catS (filtL (fs.drop k)) = U)
set_option maxHeartbeats 25600000 in
theorem prText_z (s : ByteArray) (ac af : Option Addr) (n cc m cf : Nat) (d : Int) (cs : List Cls) (fs : List Flt) (w : World) (HI : Hid (InX w ac n (clsCs cs))) (hn : Hid (cs.length = n)) (hm : n ≤ 1048576) (HJ : Hid (InX w af m (fltCs fs))) (hf : Hid (fs.length = m)) (hmf : m ≤ 1048576) (G : GoodP ⟨s, cs, fs, d⟩) (hd : d = 0) :
    Calls Tryz.prog 34 #[(.agg #[.string s, .slice ac n cc, .slice af m cf, .int .i64 d])] w (SaysV w (.string (textP ⟨s, cs, fs, d⟩))) := by
  have T := G.T
  simp only at T
  have hn1 : 1 ≤ cs.length := G.n1
  have hcT : cT cs = 1 := G.top
  have htf := top_facts T hcT
  have htl := htf.1
  have htd := htf.2.2
  have hnm : s.size ≤ 8 := G.nm
  have hfl : fs.length ≤ 16 := G.fl
  have HFG := Lib.hid (show ∀ k, k < fs.length → goodFl (fs.getD k flt0) = true from G.fg)
  have hfz := filtL_size fs HFG.out
  have HTP := Lib.hid (fun w HI => cfTop_any s ac af n cc m cf d cs w HI hn hm (by omega))
  have HPT := Lib.hid (fun w HI => prPart_any s ac af n cc m cf d cs T 8 (topF cs) 1 w HI hn (by have := hn.out; omega) (by decide) (by omega) (by decide))
  have hpz := partT_size T 8 1 (topF cs) (by decide) htl (by decide)
  have HX0 : Hid (textP ⟨s, cs, fs, d⟩ = begS s d ++ (⟨#[32, 123, 10]⟩ ++ partT cs 8 1 (topF cs)) ++ catS (filtL fs) ++ ⟨#[125, 10]⟩) := Lib.hid rfl
  generalize textP ⟨s, cs, fs, d⟩ = R at HX0 ⊢
  generalize topF cs = tp at HTP HPT hpz HX0
  generalize partT cs 8 1 tp = pt at HPT hpz HX0
  have HID := Lib.hid (fun w => prIndent_any 1 (by decide) w)
  have his := indS_size 1
  obtain ⟨gb, rfl, hgt, hgl⟩ := HI.out (by have := hn.out; omega)
  have HAB : Hid (∀ w', BX (w.alloc (Obj.cells #[.string s, .slice (some ⟨gb, 0, none⟩) n cc, .slice af m cf, .int .i64 d] 26)) w' → Aft w (Obj.cells #[.string s, .slice (some ⟨gb, 0, none⟩) n cc, .slice af m cf, .int .i64 d] 26) w') := Lib.hid (fun w' h => h)
  have HIB : Hid (∀ w', Aft w (Obj.cells #[.string s, .slice (some ⟨gb, 0, none⟩) n cc, .slice af m cf, .int .i64 d] 26) w' → Hid (InX w' (some ⟨gb, 0, none⟩) n (clsCs cs))) := Lib.hid (fun w' h => Lib.hid (HI.out.below h.all.2))
  have HJB : Hid (∀ w', Aft w (Obj.cells #[.string s, .slice (some ⟨gb, 0, none⟩) n cc, .slice af m cf, .int .i64 d] 26) w' → InX w' af m (fltCs fs)) := Lib.hid (fun w' h => HJ.out.below h.all.2)
  have HQ : Hid (∀ w', BX (w.alloc (Obj.cells #[.string s, .slice (some ⟨gb, 0, none⟩) n cc, .slice af m cf, .int .i64 d] 26)) w' → w'.cell? ⟨w.heap.size, 0, none⟩ = some (.string s) ∧ w'.cell? ⟨w.heap.size, 1, none⟩ = some (.slice (some ⟨gb, 0, none⟩) n cc) ∧ w'.cell? ⟨w.heap.size, 2, none⟩ = some (.slice af m cf) ∧ w'.cell? ⟨w.heap.size, 3, none⟩ = some (.int .i64 d) ∧ BX (w.alloc (Obj.cells #[.string s, .slice (some ⟨gb, 0, none⟩) n cc, .slice af m cf, .int .i64 d] 26)) w') := Lib.hid (fun w' h => by
    obtain ⟨e0, e1, e2, e3, _⟩ := (HAB.out w' h).all.1
    exact ⟨e0, e1, e2, e3, h⟩)
  have A0 := Lib.hid (Aft.refl w (Obj.cells #[.string s, .slice (some ⟨gb, 0, none⟩) n cc, .slice af m cf, .int .i64 d] 26))
  have z1 : (⟨#[113, 100, 105, 115, 99, 32]⟩ : ByteArray).size = 6 := rfl
  have z2 : (⟨#[32, 100, 101, 102, 97, 117, 108, 116, 32]⟩ : ByteArray).size = 9 := rfl
  have z3 : (⟨#[32, 123, 10]⟩ : ByteArray).size = 3 := rfl
  have z4 : (⟨#[125, 10]⟩ : ByteArray).size = 2 := rfl
  have z5 : (⟨#[10]⟩ : ByteArray).size = 1 := rfl
  have k1 : ¬ (9223372036854775807 < 6 + s.size) := by omega
  subst hd
  have HB : Hid (begS s 0 = ⟨#[113, 100, 105, 115, 99, 32]⟩ ++ s) := Lib.hid rfl
  have k4 : ¬ (9223372036854775807 < 3 + pt.size) := by omega
  have k5 : ¬ (9223372036854775807 < 6 + s.size + (3 + pt.size)) := by omega
  obtain ⟨u0, hu0⟩ : ∃ u0, ⟨#[113, 100, 105, 115, 99, 32]⟩ ++ s ++ (⟨#[32, 123, 10]⟩ ++ pt) = u0 := ⟨_, rfl⟩
  rw [HB.out, hu0] at HX0
  have hu0z : u0.size ≤ 7000000000000 := by
    rw [← hu0]
    simp only [ByteArray.size_append]
    omega
  have HU0 := Lib.hid hu0
  obtain ⟨U, hU⟩ : ∃ U, u0 ++ catS (filtL fs) = U := ⟨_, rfl⟩
  rw [hU] at HX0
  have hUz : U.size ≤ 8000000000000 := by
    rw [← hU]
    simp only [ByteArray.size_append]
    omega
  have H0 : Hid (u0 ++ catS (filtL (fs.drop 0)) = U) := Lib.hid (by rw [List.drop_zero]; exact hU)
  have kU : ¬ (9223372036854775807 < U.size + 2) := by omega
  clear hgt hpz hfz htf htl htd hcT hn1 hU hu0
  go_enter Tryz.func34, Tryz.ntmps34
  have X0 : Hid (BX (w.alloc (Obj.cells #[.string s, .slice (some ⟨gb, 0, none⟩) n cc, .slice af m cf, .int .i64 0] 26)) (w.alloc (Obj.cells #[.string s, .slice (some ⟨gb, 0, none⟩) n cc, .slice af m cf, .int .i64 0] 26))) := Lib.hid (BX.refl _)
  go_wp2_with fail
  refine wp_region_held_drew (S := fun w' => w'.cell? ⟨w.heap.size, 0, none⟩ = some (.string s) ∧ w'.cell? ⟨w.heap.size, 1, none⟩ = some (.slice (some ⟨gb, 0, none⟩) n cc) ∧ w'.cell? ⟨w.heap.size, 2, none⟩ = some (.slice af m cf) ∧ w'.cell? ⟨w.heap.size, 3, none⟩ = some (.int .i64 0) ∧ BX (w.alloc (Obj.cells #[.string s, .slice (some ⟨gb, 0, none⟩) n cc, .slice af m cf, .int .i64 0] 26)) w') (by kernel_rfl) ?_ (fun hHeld => ?_)
  · (try dsimp only)
    exact HQ.out _ X0.out.drew
  refine held_take (i := 0) (d := 18) (v := ?_) rfl rfl (by kernel_rfl) (by kernel_rfl) (by kernel_rfl) (fun _ _ _ h => h) (by rfl) ?_ (by assumption) ?_
  rotate_left
  · intro w hSw
    (try dsimp only at hSw)
    go_simp
    try with_reducible rfl
  try simp only [Act.put, List.setIfInBounds_toArray, List.set_cons_zero, List.set_cons_succ]
  refine held_take (i := 1) (d := 19) (v := ?_) rfl rfl (by kernel_rfl) (by kernel_rfl) (by kernel_rfl) (fun _ _ _ h => h) (by rfl) ?_ (by assumption) ?_
  rotate_left
  · intro w hSw
    (try dsimp only at hSw)
    go_simp
    try with_reducible rfl
  try simp only [Act.put, List.setIfInBounds_toArray, List.set_cons_zero, List.set_cons_succ]
  refine held_take (i := 2) (d := 20) (v := ?_) rfl rfl (by kernel_rfl) (by kernel_rfl) (by kernel_rfl) (fun _ _ _ h => h) (by rfl) ?_ (by assumption) ?_
  rotate_left
  · intro w hSw
    (try dsimp only at hSw)
    go_simp
    try with_reducible rfl
  try simp only [Act.put, List.setIfInBounds_toArray, List.set_cons_zero, List.set_cons_succ]
  have B0 := Lib.hid X0.out.drew
  refine wpAnyH_ready (rs := [3]) (by kernel_rfl) (by simp) ?_
  refine ((AllReadyH.cons rfl (fun K' hK => ?_) AllReadyH.nil))
  go_simp
  go_at_call 26
  refine (HTP.out _ (HIB.out _ (HAB.out _ B0.out))).mono ?_
  rintro e u1 ⟨rfl, b⟩
  have B1 := Lib.hid (B0.out.call b)
  clear b
  refine hK.out _ _ ?_ (fun hHeld => ?_)
  · (try dsimp only)
    exact HQ.out _ B1.out
  clear hK K'
  try simp only [Act.put, List.setIfInBounds_toArray, List.set_cons_zero, List.set_cons_succ]
  refine wpAnyH_ready (rs := [4]) (by kernel_rfl) (by simp) ?_
  refine ((AllReadyH.cons rfl (fun K' hK => ?_) AllReadyH.nil))
  go_simp
  go_at_call 65
  refine (HPT.out _ (HIB.out _ (HAB.out _ B1.out))).mono ?_
  rintro e u2 ⟨rfl, b⟩
  have B2 := Lib.hid (B1.out.call b)
  clear b
  refine hK.out _ _ ?_ (fun hHeld => ?_)
  · (try dsimp only)
    exact HQ.out _ B2.out
  clear hK K'
  try simp only [Act.put, List.setIfInBounds_toArray, List.set_cons_zero, List.set_cons_succ]
  refine held_take (i := 5) (d := 23) (v := ?_) rfl rfl (by kernel_rfl) (by kernel_rfl) (by kernel_rfl) (fun _ _ _ h => h) (by rfl) ?_ (by assumption) ?_
  rotate_left
  · intro w hSw
    (try dsimp only at hSw)
    go_simp
    try with_reducible rfl
  try simp only [Act.put, List.setIfInBounds_toArray, List.set_cons_zero, List.set_cons_succ]
  refine held_take (i := 6) (d := 24) (v := ?_) rfl rfl (by kernel_rfl) (by kernel_rfl) (by kernel_rfl) (fun _ _ _ h => h) (by rfl) ?_ (by assumption) ?_
  rotate_left
  · intro w hSw
    (try dsimp only at hSw)
    go_simp
    try with_reducible rfl
  try simp only [Act.put, List.setIfInBounds_toArray, List.set_cons_zero, List.set_cons_succ]
  refine held_take (i := 7) (d := 3) (v := ?_) rfl rfl (by kernel_rfl) (by kernel_rfl) (by kernel_rfl) (fun _ _ _ h => h) (by rfl) ?_ (by assumption) ?_
  rotate_left
  · intro w hSw
    (try dsimp only at hSw)
    go_simp
    try with_reducible rfl
  try simp only [Act.put, List.setIfInBounds_toArray, List.set_cons_zero, List.set_cons_succ]
  refine wpAnyH_done (by kernel_rfl) ?_ _
  have A2 := Lib.hid (HAB.out _ B2.out)
  obtain ⟨c0, c1, c2, c3, _⟩ := A2.out.all.1
  have hm16 : m ≤ 16 := by have := hf.out; omega
  go_wp2_with fail
  go_loopw [3, 28] (fun a i wr => TxRel w (Obj.cells #[.string s, .slice (some ⟨gb, 0, none⟩) n cc, .slice af m cf, .int .i64 0] 26) fs U a i wr) (fun _ i _ => m - (intOf i).toNat)
  case atStart => exact ⟨0, u0, Nat.zero_le _, rfl, by rw [← HU0.out], A2.out, H0⟩
  case round =>
    obtain ⟨k, u, hk, rfl, rfl, hb, HP⟩ := hrel
    have HBr := Lib.hid hb
    by_cases hlt : k < m
    · obtain ⟨gf, rfl, hft, hfg⟩ := HJB.out _ hb (by omega)
      obtain ⟨x, hx⟩ : ∃ x, fs.getD k flt0 = x := ⟨_, rfl⟩
      have hl1 : k < fs.length := by have := hf.out; omega
      have hgx := HFG.out k hl1
      rw [hx] at hgx
      have hlz := lineT_size hgx
      have N := fln hgx
      have HE := Lib.hid (filt_drop fs k hl1 x hx)
      obtain ⟨a0, a1, a2, a3, a4⟩ := hft.flt k hl1 x hx
      unfold lineT at HE hlz
      generalize x.o.toNat = no at N HE hlz
      generalize x.f.toNat = fi at N HE hlz
      generalize x.m.toNat = nm at N HE hlz
      generalize x.v.toNat = nv at N HE hlz
      generalize x.t.toNat = nt at N HE hlz
      have HLF := Lib.hid (fun w => prFilter_any no fi nv nm nt N.bo N.bf N.bv N.bm N.bt w)
      rw [N.eo] at a0
      rw [N.ef] at a1
      rw [N.em] at a2
      rw [N.ev] at a3
      rw [N.et] at a4
      generalize lineN no fi nv nm nt = lf at HLF HE hlz
      have HX2 : Hid ((u ++ (indS 1 ++ lf ++ ⟨#[10]⟩)) ++ catS (filtL (fs.drop (k + 1))) = U) := Lib.hid (by rw [app_asP u, ← HE.out, HP.out])
      generalize indS 1 = ii at HID his HX2
      have hiz : ii.size = 2 := his
      have hzz : u.size + (ii.size + lf.size + 1) ≤ 8000000000000 := by
        have e := congrArg ByteArray.size HX2.out
        simp only [ByteArray.size_append] at e
        omega
      have j1 : ¬ (9223372036854775807 < ii.size + lf.size) := by omega
      have j2 : ¬ (9223372036854775807 < ii.size + lf.size + 1) := by omega
      have j3 : ¬ (9223372036854775807 < u.size + (ii.size + lf.size + 1)) := by omega
      have HQF : Hid (∀ w', BX (wr.alloc (Obj.cells #[.int .i64 (no : Int), .int .i64 (fi : Int), .int .i64 (nm : Int), .int .i64 (nv : Int), .int .i64 (nt : Int)] 82)) w' → w'.cell? ⟨wr.heap.size, 0, none⟩ = some (.int .i64 (no : Int)) ∧ w'.cell? ⟨wr.heap.size, 1, none⟩ = some (.int .i64 (fi : Int)) ∧ w'.cell? ⟨wr.heap.size, 2, none⟩ = some (.int .i64 (nm : Int)) ∧ w'.cell? ⟨wr.heap.size, 3, none⟩ = some (.int .i64 (nv : Int)) ∧ w'.cell? ⟨wr.heap.size, 4, none⟩ = some (.int .i64 (nt : Int)) ∧ BX (wr.alloc (Obj.cells #[.int .i64 (no : Int), .int .i64 (fi : Int), .int .i64 (nm : Int), .int .i64 (nv : Int), .int .i64 (nt : Int)] 82)) w') := Lib.hid (fun w' h => by
        obtain ⟨q0, q1, q2, q3, q4⟩ := (box_fives2 h).1
        exact ⟨q0, q1, q2, q3, q4, h⟩)
      have HEF : Hid (∀ w', BX (wr.alloc (Obj.cells #[.int .i64 (no : Int), .int .i64 (fi : Int), .int .i64 (nm : Int), .int .i64 (nv : Int), .int .i64 (nt : Int)] 82)) w' → Aft w (Obj.cells #[.string s, .slice (some ⟨gb, 0, none⟩) n cc, .slice (some ⟨gf, 0, none⟩) m cf, .int .i64 0] 26) w') := Lib.hid (fun w' h => HBr.out.on (box_fives2 h).2)
      have Y0 := Lib.hid (BX.drew0 (wr.alloc (Obj.cells #[.int .i64 (no : Int), .int .i64 (fi : Int), .int .i64 (nm : Int), .int .i64 (nv : Int), .int .i64 (nt : Int)] 82)))
      clear hft hx hl1 hgx hb N hiz his
      go_wp2_with fail
      refine wp_region_held_drew (S := fun w' => w'.cell? ⟨wr.heap.size, 0, none⟩ = some (.int .i64 (no : Int)) ∧ w'.cell? ⟨wr.heap.size, 1, none⟩ = some (.int .i64 (fi : Int)) ∧ w'.cell? ⟨wr.heap.size, 2, none⟩ = some (.int .i64 (nm : Int)) ∧ w'.cell? ⟨wr.heap.size, 3, none⟩ = some (.int .i64 (nv : Int)) ∧ w'.cell? ⟨wr.heap.size, 4, none⟩ = some (.int .i64 (nt : Int)) ∧ BX (wr.alloc (Obj.cells #[.int .i64 (no : Int), .int .i64 (fi : Int), .int .i64 (nm : Int), .int .i64 (nv : Int), .int .i64 (nt : Int)] 82)) w') (by kernel_rfl) ?_ (fun hHeld => ?_)
      · (try dsimp only)
        exact HQF.out _ Y0.out
      refine held_take (i := 0) (d := 32) (v := ?_) rfl rfl (by kernel_rfl) (by kernel_rfl) (by kernel_rfl) (fun _ _ _ h => h) (by rfl) ?_ (by assumption) ?_
      rotate_left
      · intro w hSw
        (try dsimp only at hSw)
        go_simp
        try with_reducible rfl
      try simp only [Act.put, List.setIfInBounds_toArray, List.set_cons_zero, List.set_cons_succ]
      refine held_take (i := 2) (d := 34) (v := ?_) rfl rfl (by kernel_rfl) (by kernel_rfl) (by kernel_rfl) (fun _ _ _ h => h) (by rfl) ?_ (by assumption) ?_
      rotate_left
      · intro w hSw
        (try dsimp only at hSw)
        go_simp
        try with_reducible rfl
      try simp only [Act.put, List.setIfInBounds_toArray, List.set_cons_zero, List.set_cons_succ]
      refine wpAnyH_ready (rs := [1]) (by kernel_rfl) (by simp) ?_
      refine ((AllReadyH.cons rfl (fun K' hK => ?_) AllReadyH.nil))
      go_simp
      go_at_call 31
      refine (HID.out _).mono ?_
      rintro e v1 ⟨rfl, rfl⟩
      refine hK.out _ _ ?_ (fun hHeld => ?_)
      · (try dsimp only)
        exact HQF.out _ Y0.out
      clear hK K'
      try simp only [Act.put, List.setIfInBounds_toArray, List.set_cons_zero, List.set_cons_succ]
      refine wpAnyH_ready (rs := [3]) (by kernel_rfl) (by simp) ?_
      refine ((AllReadyH.cons rfl (fun K' hK => ?_) AllReadyH.nil))
      go_simp
      go_at_call 66
      refine (HLF.out _).mono ?_
      rintro e v2 ⟨rfl, b⟩
      have Y2 := Lib.hid (Y0.out.call b)
      clear b
      refine hK.out _ _ ?_ (fun hHeld => ?_)
      · (try dsimp only)
        exact HQF.out _ Y2.out
      clear hK K'
      try simp only [Act.put, List.setIfInBounds_toArray, List.set_cons_zero, List.set_cons_succ]
      refine held_take (i := 4) (d := 36) (v := ?_) rfl rfl (by kernel_rfl) (by kernel_rfl) (by kernel_rfl) (fun _ _ _ h => h) (by rfl) ?_ (by assumption) ?_
      rotate_left
      · intro w hSw
        (try dsimp only at hSw)
        go_simp
        try with_reducible rfl
      try simp only [Act.put, List.setIfInBounds_toArray, List.set_cons_zero, List.set_cons_succ]
      refine held_take (i := 5) (d := 37) (v := ?_) rfl rfl (by kernel_rfl) (by kernel_rfl) (by kernel_rfl) (fun _ _ _ h => h) (by rfl) ?_ (by assumption) ?_
      rotate_left
      · intro w hSw
        (try dsimp only at hSw)
        go_simp
        try with_reducible rfl
      try simp only [Act.put, List.setIfInBounds_toArray, List.set_cons_zero, List.set_cons_succ]
      refine held_take (i := 6) (d := 38) (v := ?_) rfl rfl (by kernel_rfl) (by kernel_rfl) (by kernel_rfl) (fun _ _ _ h => h) (by rfl) ?_ (by assumption) ?_
      rotate_left
      · intro w hSw
        (try dsimp only at hSw)
        go_simp
        try with_reducible rfl
      try simp only [Act.put, List.setIfInBounds_toArray, List.set_cons_zero, List.set_cons_succ]
      refine held_take (i := 7) (d := 3) (v := ?_) rfl rfl (by kernel_rfl) (by kernel_rfl) (by kernel_rfl) (fun _ _ _ h => h) (by rfl) ?_ (by assumption) ?_
      rotate_left
      · intro w hSw
        (try dsimp only at hSw)
        go_simp
        try with_reducible rfl
      try simp only [Act.put, List.setIfInBounds_toArray, List.set_cons_zero, List.set_cons_succ]
      refine wpAnyH_done (by kernel_rfl) ?_ _
      go_wp2_with fail
      go_roundw
      case rel => exact ⟨k + 1, _, by have := hf.out; omega, by go_num, rfl, HEF.out _ Y2.out, HX2⟩
      case measure => simp [intOf]; omega
    · have HX2 : u = U := by have := HP.out; rw [List.drop_eq_nil_of_le (by have := hf.out; omega)] at this; rw [← this]; apply bytes_exP; simp [filtL, catS, ByteArray.data_append]
      subst HX2
      clear hb
      go_wp2_with fail
      go_ret
      exact ⟨str_ret HX0.out.symm, HBr.out.all.2⟩
set_option maxHeartbeats 25600000 in
theorem prText_nz (s : ByteArray) (ac af : Option Addr) (n cc m cf : Nat) (d : Int) (cs : List Cls) (fs : List Flt) (w : World) (HI : Hid (InX w ac n (clsCs cs))) (hn : Hid (cs.length = n)) (hm : n ≤ 1048576) (HJ : Hid (InX w af m (fltCs fs))) (hf : Hid (fs.length = m)) (hmf : m ≤ 1048576) (G : GoodP ⟨s, cs, fs, d⟩) (hd : d ≠ 0) :
    Calls Tryz.prog 34 #[(.agg #[.string s, .slice ac n cc, .slice af m cf, .int .i64 d])] w (SaysV w (.string (textP ⟨s, cs, fs, d⟩))) := by
  have T := G.T
  simp only at T
  have hn1 : 1 ≤ cs.length := G.n1
  have hcT : cT cs = 1 := G.top
  have htf := top_facts T hcT
  have htl := htf.1
  have htd := htf.2.2
  have hnm : s.size ≤ 8 := G.nm
  have hfl : fs.length ≤ 16 := G.fl
  have HFG := Lib.hid (show ∀ k, k < fs.length → goodFl (fs.getD k flt0) = true from G.fg)
  have hfz := filtL_size fs HFG.out
  have HTP := Lib.hid (fun w HI => cfTop_any s ac af n cc m cf d cs w HI hn hm (by omega))
  have HPT := Lib.hid (fun w HI => prPart_any s ac af n cc m cf d cs T 8 (topF cs) 1 w HI hn (by have := hn.out; omega) (by decide) (by omega) (by decide))
  have hpz := partT_size T 8 1 (topF cs) (by decide) htl (by decide)
  have HX0 : Hid (textP ⟨s, cs, fs, d⟩ = begS s d ++ (⟨#[32, 123, 10]⟩ ++ partT cs 8 1 (topF cs)) ++ catS (filtL fs) ++ ⟨#[125, 10]⟩) := Lib.hid rfl
  generalize textP ⟨s, cs, fs, d⟩ = R at HX0 ⊢
  generalize topF cs = tp at HTP HPT hpz HX0
  generalize partT cs 8 1 tp = pt at HPT hpz HX0
  have HID := Lib.hid (fun w => prIndent_any 1 (by decide) w)
  have his := indS_size 1
  obtain ⟨gb, rfl, hgt, hgl⟩ := HI.out (by have := hn.out; omega)
  have HAB : Hid (∀ w', BX (w.alloc (Obj.cells #[.string s, .slice (some ⟨gb, 0, none⟩) n cc, .slice af m cf, .int .i64 d] 26)) w' → Aft w (Obj.cells #[.string s, .slice (some ⟨gb, 0, none⟩) n cc, .slice af m cf, .int .i64 d] 26) w') := Lib.hid (fun w' h => h)
  have HIB : Hid (∀ w', Aft w (Obj.cells #[.string s, .slice (some ⟨gb, 0, none⟩) n cc, .slice af m cf, .int .i64 d] 26) w' → Hid (InX w' (some ⟨gb, 0, none⟩) n (clsCs cs))) := Lib.hid (fun w' h => Lib.hid (HI.out.below h.all.2))
  have HJB : Hid (∀ w', Aft w (Obj.cells #[.string s, .slice (some ⟨gb, 0, none⟩) n cc, .slice af m cf, .int .i64 d] 26) w' → InX w' af m (fltCs fs)) := Lib.hid (fun w' h => HJ.out.below h.all.2)
  have HQ : Hid (∀ w', BX (w.alloc (Obj.cells #[.string s, .slice (some ⟨gb, 0, none⟩) n cc, .slice af m cf, .int .i64 d] 26)) w' → w'.cell? ⟨w.heap.size, 0, none⟩ = some (.string s) ∧ w'.cell? ⟨w.heap.size, 1, none⟩ = some (.slice (some ⟨gb, 0, none⟩) n cc) ∧ w'.cell? ⟨w.heap.size, 2, none⟩ = some (.slice af m cf) ∧ w'.cell? ⟨w.heap.size, 3, none⟩ = some (.int .i64 d) ∧ BX (w.alloc (Obj.cells #[.string s, .slice (some ⟨gb, 0, none⟩) n cc, .slice af m cf, .int .i64 d] 26)) w') := Lib.hid (fun w' h => by
    obtain ⟨e0, e1, e2, e3, _⟩ := (HAB.out w' h).all.1
    exact ⟨e0, e1, e2, e3, h⟩)
  have A0 := Lib.hid (Aft.refl w (Obj.cells #[.string s, .slice (some ⟨gb, 0, none⟩) n cc, .slice af m cf, .int .i64 d] 26))
  have z1 : (⟨#[113, 100, 105, 115, 99, 32]⟩ : ByteArray).size = 6 := rfl
  have z2 : (⟨#[32, 100, 101, 102, 97, 117, 108, 116, 32]⟩ : ByteArray).size = 9 := rfl
  have z3 : (⟨#[32, 123, 10]⟩ : ByteArray).size = 3 := rfl
  have z4 : (⟨#[125, 10]⟩ : ByteArray).size = 2 := rfl
  have z5 : (⟨#[10]⟩ : ByteArray).size = 1 := rfl
  have k1 : ¬ (9223372036854775807 < 6 + s.size) := by omega
  have hdr : 1 ≤ d ∧ d ≤ 999 := by have := G.df; simp only at this; omega
  obtain ⟨nd, rfl⟩ := Int.eq_ofNat_of_zero_le (show 0 ≤ d by omega)
  have HND := Lib.hid (fun w => l1Num_any nd (by omega) w)
  have hdz := numS_size nd
  have HB : Hid (begS s (nd : Int) = ⟨#[113, 100, 105, 115, 99, 32]⟩ ++ s ++ (⟨#[32, 100, 101, 102, 97, 117, 108, 116, 32]⟩ ++ numS nd)) := Lib.hid (by unfold begS; rw [if_neg hd]; rfl)
  generalize numS nd = ds at HND hdz HB
  have hds : ds.size ≤ 1000 := by omega
  have dn : ((nd : Int) != 0) = true := by simp; omega
  have k2 : ¬ (9223372036854775807 < 9 + ds.size) := by omega
  have k3 : ¬ (9223372036854775807 < 6 + s.size + (9 + ds.size)) := by omega
  have k3b : ¬ (9223372036854775807 < 6 + s.size + 9 + ds.size) := by omega
  have k4 : ¬ (9223372036854775807 < 3 + pt.size) := by omega
  have k5 : ¬ (9223372036854775807 < 6 + s.size + (9 + ds.size) + (3 + pt.size)) := by omega
  obtain ⟨u0, hu0⟩ : ∃ u0, ⟨#[113, 100, 105, 115, 99, 32]⟩ ++ s ++ (⟨#[32, 100, 101, 102, 97, 117, 108, 116, 32]⟩ ++ ds) ++ (⟨#[32, 123, 10]⟩ ++ pt) = u0 := ⟨_, rfl⟩
  rw [HB.out, hu0] at HX0
  have hu0z : u0.size ≤ 7000000000000 := by
    rw [← hu0]
    simp only [ByteArray.size_append]
    omega
  have HU0 := Lib.hid hu0
  obtain ⟨U, hU⟩ : ∃ U, u0 ++ catS (filtL fs) = U := ⟨_, rfl⟩
  rw [hU] at HX0
  have hUz : U.size ≤ 8000000000000 := by
    rw [← hU]
    simp only [ByteArray.size_append]
    omega
  have H0 : Hid (u0 ++ catS (filtL (fs.drop 0)) = U) := Lib.hid (by rw [List.drop_zero]; exact hU)
  have kU : ¬ (9223372036854775807 < U.size + 2) := by omega
  clear hgt hpz hfz htf htl htd hcT hn1 hU hu0
  go_enter Tryz.func34, Tryz.ntmps34
  go_wp2_with (go_at_call 33; refine (HND.out _).mono ?_; rintro e w1 ⟨rfl, b⟩; have X0 : Hid (BX (w.alloc (Obj.cells #[.string s, .slice (some ⟨gb, 0, none⟩) n cc, .slice af m cf, .int .i64 (nd : Int)] 26)) w1) := Lib.hid b; clear b; refine Hid.out ?_)
  refine Lib.hid ?_
  go_wp2_with fail
  refine wp_region_held_drew (S := fun w' => w'.cell? ⟨w.heap.size, 0, none⟩ = some (.string s) ∧ w'.cell? ⟨w.heap.size, 1, none⟩ = some (.slice (some ⟨gb, 0, none⟩) n cc) ∧ w'.cell? ⟨w.heap.size, 2, none⟩ = some (.slice af m cf) ∧ w'.cell? ⟨w.heap.size, 3, none⟩ = some (.int .i64 (nd : Int)) ∧ BX (w.alloc (Obj.cells #[.string s, .slice (some ⟨gb, 0, none⟩) n cc, .slice af m cf, .int .i64 (nd : Int)] 26)) w') (by kernel_rfl) ?_ (fun hHeld => ?_)
  · (try dsimp only)
    exact HQ.out _ X0.out.drew
  refine held_take (i := 0) (d := 18) (v := ?_) rfl rfl (by kernel_rfl) (by kernel_rfl) (by kernel_rfl) (fun _ _ _ h => h) (by rfl) ?_ (by assumption) ?_
  rotate_left
  · intro w hSw
    (try dsimp only at hSw)
    go_simp
    try with_reducible rfl
  try simp only [Act.put, List.setIfInBounds_toArray, List.set_cons_zero, List.set_cons_succ]
  refine held_take (i := 1) (d := 19) (v := ?_) rfl rfl (by kernel_rfl) (by kernel_rfl) (by kernel_rfl) (fun _ _ _ h => h) (by rfl) ?_ (by assumption) ?_
  rotate_left
  · intro w hSw
    (try dsimp only at hSw)
    go_simp
    try with_reducible rfl
  try simp only [Act.put, List.setIfInBounds_toArray, List.set_cons_zero, List.set_cons_succ]
  refine held_take (i := 2) (d := 20) (v := ?_) rfl rfl (by kernel_rfl) (by kernel_rfl) (by kernel_rfl) (fun _ _ _ h => h) (by rfl) ?_ (by assumption) ?_
  rotate_left
  · intro w hSw
    (try dsimp only at hSw)
    go_simp
    try with_reducible rfl
  try simp only [Act.put, List.setIfInBounds_toArray, List.set_cons_zero, List.set_cons_succ]
  have B0 := Lib.hid X0.out.drew
  refine wpAnyH_ready (rs := [3]) (by kernel_rfl) (by simp) ?_
  refine ((AllReadyH.cons rfl (fun K' hK => ?_) AllReadyH.nil))
  go_simp
  go_at_call 26
  refine (HTP.out _ (HIB.out _ (HAB.out _ B0.out))).mono ?_
  rintro e u1 ⟨rfl, b⟩
  have B1 := Lib.hid (B0.out.call b)
  clear b
  refine hK.out _ _ ?_ (fun hHeld => ?_)
  · (try dsimp only)
    exact HQ.out _ B1.out
  clear hK K'
  try simp only [Act.put, List.setIfInBounds_toArray, List.set_cons_zero, List.set_cons_succ]
  refine wpAnyH_ready (rs := [4]) (by kernel_rfl) (by simp) ?_
  refine ((AllReadyH.cons rfl (fun K' hK => ?_) AllReadyH.nil))
  go_simp
  go_at_call 65
  refine (HPT.out _ (HIB.out _ (HAB.out _ B1.out))).mono ?_
  rintro e u2 ⟨rfl, b⟩
  have B2 := Lib.hid (B1.out.call b)
  clear b
  refine hK.out _ _ ?_ (fun hHeld => ?_)
  · (try dsimp only)
    exact HQ.out _ B2.out
  clear hK K'
  try simp only [Act.put, List.setIfInBounds_toArray, List.set_cons_zero, List.set_cons_succ]
  refine held_take (i := 5) (d := 23) (v := ?_) rfl rfl (by kernel_rfl) (by kernel_rfl) (by kernel_rfl) (fun _ _ _ h => h) (by rfl) ?_ (by assumption) ?_
  rotate_left
  · intro w hSw
    (try dsimp only at hSw)
    go_simp
    try with_reducible rfl
  try simp only [Act.put, List.setIfInBounds_toArray, List.set_cons_zero, List.set_cons_succ]
  refine held_take (i := 6) (d := 24) (v := ?_) rfl rfl (by kernel_rfl) (by kernel_rfl) (by kernel_rfl) (fun _ _ _ h => h) (by rfl) ?_ (by assumption) ?_
  rotate_left
  · intro w hSw
    (try dsimp only at hSw)
    go_simp
    try with_reducible rfl
  try simp only [Act.put, List.setIfInBounds_toArray, List.set_cons_zero, List.set_cons_succ]
  refine held_take (i := 7) (d := 3) (v := ?_) rfl rfl (by kernel_rfl) (by kernel_rfl) (by kernel_rfl) (fun _ _ _ h => h) (by rfl) ?_ (by assumption) ?_
  rotate_left
  · intro w hSw
    (try dsimp only at hSw)
    go_simp
    try with_reducible rfl
  try simp only [Act.put, List.setIfInBounds_toArray, List.set_cons_zero, List.set_cons_succ]
  refine wpAnyH_done (by kernel_rfl) ?_ _
  have A2 := Lib.hid (HAB.out _ B2.out)
  obtain ⟨c0, c1, c2, c3, _⟩ := A2.out.all.1
  have hm16 : m ≤ 16 := by have := hf.out; omega
  go_wp2_with fail
  go_loopw [3, 28] (fun a i wr => TxRel w (Obj.cells #[.string s, .slice (some ⟨gb, 0, none⟩) n cc, .slice af m cf, .int .i64 (nd : Int)] 26) fs U a i wr) (fun _ i _ => m - (intOf i).toNat)
  case atStart => exact ⟨0, u0, Nat.zero_le _, rfl, by rw [← HU0.out], A2.out, H0⟩
  case round =>
    obtain ⟨k, u, hk, rfl, rfl, hb, HP⟩ := hrel
    have HBr := Lib.hid hb
    by_cases hlt : k < m
    · obtain ⟨gf, rfl, hft, hfg⟩ := HJB.out _ hb (by omega)
      obtain ⟨x, hx⟩ : ∃ x, fs.getD k flt0 = x := ⟨_, rfl⟩
      have hl1 : k < fs.length := by have := hf.out; omega
      have hgx := HFG.out k hl1
      rw [hx] at hgx
      have hlz := lineT_size hgx
      have N := fln hgx
      have HE := Lib.hid (filt_drop fs k hl1 x hx)
      obtain ⟨a0, a1, a2, a3, a4⟩ := hft.flt k hl1 x hx
      unfold lineT at HE hlz
      generalize x.o.toNat = no at N HE hlz
      generalize x.f.toNat = fi at N HE hlz
      generalize x.m.toNat = nm at N HE hlz
      generalize x.v.toNat = nv at N HE hlz
      generalize x.t.toNat = nt at N HE hlz
      have HLF := Lib.hid (fun w => prFilter_any no fi nv nm nt N.bo N.bf N.bv N.bm N.bt w)
      rw [N.eo] at a0
      rw [N.ef] at a1
      rw [N.em] at a2
      rw [N.ev] at a3
      rw [N.et] at a4
      generalize lineN no fi nv nm nt = lf at HLF HE hlz
      have HX2 : Hid ((u ++ (indS 1 ++ lf ++ ⟨#[10]⟩)) ++ catS (filtL (fs.drop (k + 1))) = U) := Lib.hid (by rw [app_asP u, ← HE.out, HP.out])
      generalize indS 1 = ii at HID his HX2
      have hiz : ii.size = 2 := his
      have hzz : u.size + (ii.size + lf.size + 1) ≤ 8000000000000 := by
        have e := congrArg ByteArray.size HX2.out
        simp only [ByteArray.size_append] at e
        omega
      have j1 : ¬ (9223372036854775807 < ii.size + lf.size) := by omega
      have j2 : ¬ (9223372036854775807 < ii.size + lf.size + 1) := by omega
      have j3 : ¬ (9223372036854775807 < u.size + (ii.size + lf.size + 1)) := by omega
      have HQF : Hid (∀ w', BX (wr.alloc (Obj.cells #[.int .i64 (no : Int), .int .i64 (fi : Int), .int .i64 (nm : Int), .int .i64 (nv : Int), .int .i64 (nt : Int)] 82)) w' → w'.cell? ⟨wr.heap.size, 0, none⟩ = some (.int .i64 (no : Int)) ∧ w'.cell? ⟨wr.heap.size, 1, none⟩ = some (.int .i64 (fi : Int)) ∧ w'.cell? ⟨wr.heap.size, 2, none⟩ = some (.int .i64 (nm : Int)) ∧ w'.cell? ⟨wr.heap.size, 3, none⟩ = some (.int .i64 (nv : Int)) ∧ w'.cell? ⟨wr.heap.size, 4, none⟩ = some (.int .i64 (nt : Int)) ∧ BX (wr.alloc (Obj.cells #[.int .i64 (no : Int), .int .i64 (fi : Int), .int .i64 (nm : Int), .int .i64 (nv : Int), .int .i64 (nt : Int)] 82)) w') := Lib.hid (fun w' h => by
        obtain ⟨q0, q1, q2, q3, q4⟩ := (box_fives2 h).1
        exact ⟨q0, q1, q2, q3, q4, h⟩)
      have HEF : Hid (∀ w', BX (wr.alloc (Obj.cells #[.int .i64 (no : Int), .int .i64 (fi : Int), .int .i64 (nm : Int), .int .i64 (nv : Int), .int .i64 (nt : Int)] 82)) w' → Aft w (Obj.cells #[.string s, .slice (some ⟨gb, 0, none⟩) n cc, .slice (some ⟨gf, 0, none⟩) m cf, .int .i64 (nd : Int)] 26) w') := Lib.hid (fun w' h => HBr.out.on (box_fives2 h).2)
      have Y0 := Lib.hid (BX.drew0 (wr.alloc (Obj.cells #[.int .i64 (no : Int), .int .i64 (fi : Int), .int .i64 (nm : Int), .int .i64 (nv : Int), .int .i64 (nt : Int)] 82)))
      clear hft hx hl1 hgx hb N hiz his
      go_wp2_with fail
      refine wp_region_held_drew (S := fun w' => w'.cell? ⟨wr.heap.size, 0, none⟩ = some (.int .i64 (no : Int)) ∧ w'.cell? ⟨wr.heap.size, 1, none⟩ = some (.int .i64 (fi : Int)) ∧ w'.cell? ⟨wr.heap.size, 2, none⟩ = some (.int .i64 (nm : Int)) ∧ w'.cell? ⟨wr.heap.size, 3, none⟩ = some (.int .i64 (nv : Int)) ∧ w'.cell? ⟨wr.heap.size, 4, none⟩ = some (.int .i64 (nt : Int)) ∧ BX (wr.alloc (Obj.cells #[.int .i64 (no : Int), .int .i64 (fi : Int), .int .i64 (nm : Int), .int .i64 (nv : Int), .int .i64 (nt : Int)] 82)) w') (by kernel_rfl) ?_ (fun hHeld => ?_)
      · (try dsimp only)
        exact HQF.out _ Y0.out
      refine held_take (i := 0) (d := 32) (v := ?_) rfl rfl (by kernel_rfl) (by kernel_rfl) (by kernel_rfl) (fun _ _ _ h => h) (by rfl) ?_ (by assumption) ?_
      rotate_left
      · intro w hSw
        (try dsimp only at hSw)
        go_simp
        try with_reducible rfl
      try simp only [Act.put, List.setIfInBounds_toArray, List.set_cons_zero, List.set_cons_succ]
      refine held_take (i := 2) (d := 34) (v := ?_) rfl rfl (by kernel_rfl) (by kernel_rfl) (by kernel_rfl) (fun _ _ _ h => h) (by rfl) ?_ (by assumption) ?_
      rotate_left
      · intro w hSw
        (try dsimp only at hSw)
        go_simp
        try with_reducible rfl
      try simp only [Act.put, List.setIfInBounds_toArray, List.set_cons_zero, List.set_cons_succ]
      refine wpAnyH_ready (rs := [1]) (by kernel_rfl) (by simp) ?_
      refine ((AllReadyH.cons rfl (fun K' hK => ?_) AllReadyH.nil))
      go_simp
      go_at_call 31
      refine (HID.out _).mono ?_
      rintro e v1 ⟨rfl, rfl⟩
      refine hK.out _ _ ?_ (fun hHeld => ?_)
      · (try dsimp only)
        exact HQF.out _ Y0.out
      clear hK K'
      try simp only [Act.put, List.setIfInBounds_toArray, List.set_cons_zero, List.set_cons_succ]
      refine wpAnyH_ready (rs := [3]) (by kernel_rfl) (by simp) ?_
      refine ((AllReadyH.cons rfl (fun K' hK => ?_) AllReadyH.nil))
      go_simp
      go_at_call 66
      refine (HLF.out _).mono ?_
      rintro e v2 ⟨rfl, b⟩
      have Y2 := Lib.hid (Y0.out.call b)
      clear b
      refine hK.out _ _ ?_ (fun hHeld => ?_)
      · (try dsimp only)
        exact HQF.out _ Y2.out
      clear hK K'
      try simp only [Act.put, List.setIfInBounds_toArray, List.set_cons_zero, List.set_cons_succ]
      refine held_take (i := 4) (d := 36) (v := ?_) rfl rfl (by kernel_rfl) (by kernel_rfl) (by kernel_rfl) (fun _ _ _ h => h) (by rfl) ?_ (by assumption) ?_
      rotate_left
      · intro w hSw
        (try dsimp only at hSw)
        go_simp
        try with_reducible rfl
      try simp only [Act.put, List.setIfInBounds_toArray, List.set_cons_zero, List.set_cons_succ]
      refine held_take (i := 5) (d := 37) (v := ?_) rfl rfl (by kernel_rfl) (by kernel_rfl) (by kernel_rfl) (fun _ _ _ h => h) (by rfl) ?_ (by assumption) ?_
      rotate_left
      · intro w hSw
        (try dsimp only at hSw)
        go_simp
        try with_reducible rfl
      try simp only [Act.put, List.setIfInBounds_toArray, List.set_cons_zero, List.set_cons_succ]
      refine held_take (i := 6) (d := 38) (v := ?_) rfl rfl (by kernel_rfl) (by kernel_rfl) (by kernel_rfl) (fun _ _ _ h => h) (by rfl) ?_ (by assumption) ?_
      rotate_left
      · intro w hSw
        (try dsimp only at hSw)
        go_simp
        try with_reducible rfl
      try simp only [Act.put, List.setIfInBounds_toArray, List.set_cons_zero, List.set_cons_succ]
      refine held_take (i := 7) (d := 3) (v := ?_) rfl rfl (by kernel_rfl) (by kernel_rfl) (by kernel_rfl) (fun _ _ _ h => h) (by rfl) ?_ (by assumption) ?_
      rotate_left
      · intro w hSw
        (try dsimp only at hSw)
        go_simp
        try with_reducible rfl
      try simp only [Act.put, List.setIfInBounds_toArray, List.set_cons_zero, List.set_cons_succ]
      refine wpAnyH_done (by kernel_rfl) ?_ _
      go_wp2_with fail
      go_roundw
      case rel => exact ⟨k + 1, _, by have := hf.out; omega, by go_num, rfl, HEF.out _ Y2.out, HX2⟩
      case measure => simp [intOf]; omega
    · have HX2 : u = U := by have := HP.out; rw [List.drop_eq_nil_of_le (by have := hf.out; omega)] at this; rw [← this]; apply bytes_exP; simp [filtL, catS, ByteArray.data_append]
      subst HX2
      clear hb
      go_wp2_with fail
      go_ret
      exact ⟨str_ret HX0.out.symm, HBr.out.all.2⟩
theorem prText_any (s : ByteArray) (ac af : Option Addr) (n cc m cf : Nat) (d : Int) (cs : List Cls) (fs : List Flt) (w : World) (HI : Hid (InX w ac n (clsCs cs))) (hn : Hid (cs.length = n)) (hm : n ≤ 1048576) (HJ : Hid (InX w af m (fltCs fs))) (hf : Hid (fs.length = m)) (hmf : m ≤ 1048576) (G : GoodP ⟨s, cs, fs, d⟩) : Calls Tryz.prog 34 #[(.agg #[.string s, .slice ac n cc, .slice af m cf, .int .i64 d])] w (SaysV w (.string (textP ⟨s, cs, fs, d⟩))) := by
  by_cases hd : d = 0
  · exact prText_z s ac af n cc m cf d cs fs w HI hn hm HJ hf hmf G hd
  · exact prText_nz s ac af n cc m cf d cs fs w HI hn hm HJ hf hmf G hd
end Go.Proofs.YthgbhnedfdnfpaaGreatDoor
