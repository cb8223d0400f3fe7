import Derived.Test.YthgbhnedfdnfpaaGreatDoorPkzg
/- Canonical texts, the model's: the text of a part. -/
namespace Go.Proofs.YthgbhnedfdnfpaaGreatDoor
set_option maxRecDepth 100000
open Go.RowKit
set_option linter.unusedVariables false
set_option linter.unusedSimpArgs false

def partT (cs : List Cls) (f l i : Nat) : ByteArray := catS (linesP cs f l i)
structure ClX (x : Cls) (ni nr ne nb nu no nl : Nat) : Prop where
  N : ClN x ni nr ne nb nu no
  el : x.l = nl
  bl : nl ≤ 60
theorem clx {cs : List Cls} (T : TreeF cs) {q : Nat} (hq : q < cs.length) (x : Cls) (hx : cs.getD q cls0 = x) : ClX x x.i.toNat x.r.toNat x.e.toNat x.b.toNat x.u.toNat x.o.toNat x.l.toNat := by
  have h := okL_ids cs 0 T.ok q hq
  have hn := T.node q hq
  unfold nodeOk limOk at hn
  rw [hx] at h hn
  have hs : ClsSelf x = true := by
    unfold ClsSelf
    rw [inBR_yes (by omega) h.2.1, h.2.2]
    rfl
  simp only [Bool.and_eq_true] at hn
  have hl := hn.2.2
  refine ⟨cln hs, ?_, ?_⟩
  · split at hl
    · have : x.l = 0 := by simpa using hl
      omega
    · have := inBR_iff.1 hl; omega
  · split at hl
    · have : x.l = 0 := by simpa using hl
      omega
    · have := inBR_iff.1 hl; omega
theorem headT_size {cs : List Cls} (T : TreeF cs) {q : Nat} (hq : q < cs.length) : (headT (cs.getD q cls0)).size ≤ 2300000 := by
  have h := (clx T hq _ rfl).N
  have := headN_size (cs.getD q cls0).i.toNat (cs.getD q cls0).r.toNat (cs.getD q cls0).e.toNat (cs.getD q cls0).b.toNat (cs.getD q cls0).u.toNat (cs.getD q cls0).o.toNat
  have h1 := h.bi; have h2 := h.br; have h3 := h.be; have h4 := h.bb; have h5 := h.bu; have h6 := h.bo
  unfold headT
  omega
theorem line_size {cs : List Cls} (T : TreeF cs) : ∀ (f l i : Nat), i < cs.length → l + f ≤ 20 → ∀ t ∈ linesP cs f l i, t.size ≤ 3000000
  | 0, l, i, _, _, t, h => by simp [linesP] at h
  | f + 1, l, i, hi, hl, t, h => by
    have hh := headT_size T hi
    have hi2 := indS_size l
    have z1 : (⟨#[32, 123, 10]⟩ : ByteArray).size = 3 := rfl
    have z2 : (⟨#[125, 10]⟩ : ByteArray).size = 2 := rfl
    have z3 : (⟨#[32, 108, 105, 109, 105, 116, 32]⟩ : ByteArray).size = 7 := rfl
    have z4 : (⟨#[59, 10]⟩ : ByteArray).size = 2 := rfl
    unfold linesP at h
    split at h
    · rcases List.mem_cons.1 h with h | h
      · subst h
        simp only [ByteArray.size_append]
        omega
      · rcases List.mem_append.1 h with h | h
        · obtain ⟨k, hk, hkt⟩ := List.mem_flatMap.1 h
          exact line_size T f (l + 1) k (kids_mem hk).1 (by omega) t hkt
        · simp only [List.mem_singleton] at h
          subst h
          simp only [ByteArray.size_append]
          omega
    · simp only [List.mem_singleton] at h
      subst h
      have hl2 := (clx T hi _ rfl).bl
      have h3 := headS_szP (cs.getD i cls0).l.toNat
      simp only [ByteArray.size_append]
      omega
theorem partT_size {cs : List Cls} (T : TreeF cs) (f l i : Nat) (hf : f ≤ 9) (hi : i < cs.length) (hl : l + f ≤ 20) : (partT cs f l i).size ≤ 6000000000000 := by
  have h := catS_size 3000000 (linesP cs f l i) (line_size T f l i hi hl)
  rw [linesP_len] at h
  have := sizeP_le T f i hf hi
  unfold partT
  omega
theorem partT_leaf {cs : List Cls} {f l i : Nat} {x : Cls} (hx : cs.getD i cls0 = x) (h : hasK cs x.i = false) : partT cs (f + 1) l i = indS l ++ headT x ++ ⟨#[32, 108, 105, 109, 105, 116, 32]⟩ ++ headS x.l.toNat ++ ⟨#[59, 10]⟩ := by
  unfold partT linesP
  rw [hx, h, if_neg (by simp), catS_one]
theorem partT_node {cs : List Cls} {f l i : Nat} {x : Cls} (hx : cs.getD i cls0 = x) (h : hasK cs x.i = true) : partT cs (f + 1) l i = indS l ++ headT x ++ ⟨#[32, 123, 10]⟩ ++ catS ((kids cs x.i).flatMap (linesP cs f (l + 1))) ++ indS l ++ ⟨#[125, 10]⟩ := by
  unfold partT linesP
  rw [hx, h, if_pos rfl, catS_cons, catS_append, catS_one]
  simp only [app_asP]
theorem cat_drop (g : Nat → List ByteArray) (K : List Nat) (k : Nat) (h : k < K.length) : catS ((K.drop k).flatMap g) = catS (g (K.getD k 0)) ++ catS ((K.drop (k + 1)).flatMap g) := by
  rw [List.drop_eq_getElem_cons h, List.flatMap_cons, catS_append]
  simp [List.getD_eq_getElem?_getD, h]
theorem two_boxes {w w' : World} {s : ByteArray} {v1 v2 : Value} {d xi xp xr xe xb xu xo xl : Int} {t1 t2 : TypeId} (h : BX ((w.alloc (.cells #[.string s, v1, v2, .int .i64 d] t1)).alloc (.cells #[.int .i64 xi, .int .i64 xp, .int .i64 xr, .int .i64 xe, .int .i64 xb, .int .i64 xu, .int .i64 xo, .int .i64 xl] t2)) w') :
    Aft w (.cells #[.string s, v1, v2, .int .i64 d] t1) w' ∧ EightB w' (w.heap.size + 1) ⟨xi, xp, xr, xe, xb, xu, xo, xl⟩ := by
  have q := box_eights2 h
  refine ⟨q.2, ?_⟩
  have e : (w.alloc (.cells #[.string s, v1, v2, .int .i64 d] t1)).heap.size = w.heap.size + 1 := by simp
  rw [e] at q
  exact q.1
def PtRel (w : World) (o : Obj) (B : Nat) (K : List Nat) (U : ByteArray) (g : Nat → List ByteArray) (a i : Value) (wr : World) : Prop :=
  ∃ (k : Nat) (u : ByteArray), k ≤ K.length ∧ i = .int .i64 k ∧ a = .string u ∧ Aft w o wr ∧ Hid (u ++ catS ((K.drop k).flatMap g) = U)
set_option maxHeartbeats 25600000 in
theorem prPart_any (s : ByteArray) (ac af : Option Addr) (n cc m cf : Nat) (d : Int) (cs : List Cls) (T : TreeF cs) : ∀ (f q l : Nat) (w : World) (HI : Hid (InX w ac n (clsCs cs))) (hn : Hid (cs.length = n)) (hq : q < n) (hf : f ≤ 9) (hd : 9 ≤ f + depP cs q) (hl : l + f ≤ 20),
    Calls Tryz.prog 65 #[(.agg #[.string s, .slice ac n cc, .slice af m cf, .int .i64 d]), .int .i64 q, .int .i64 l] w (SaysV w (.string (partT cs f l q)))
  | 0, q, l, w, HI, hn, hq, hf, hd, hl => absurd hd (by have := (way_len T (k := q) (by have := hn.out; omega)).2; omega)
  | f + 1, q, l, w, HI, hn, hq, hf, hd, hl => by
    have hql : q < cs.length := by have := hn.out; omega
    have hm : n ≤ 1048576 := by have := hn.out; have := T.n24; omega
    obtain ⟨x, hx⟩ : ∃ x, cs.getD q cls0 = x := ⟨_, rfl⟩
    have HLF := Lib.hid (fun w HI => cfLeaf_any s ac af n cc m cf d cs q w HI hn hm hq)
    have HKD := Lib.hid (fun w HI => cfKids_any s ac af n cc m cf d cs q w HI hn hm hq)
    rw [hx] at HLF HKD
    have C := clx T hql x hx
    have hsz := partT_size T (f + 1) l q hf hql hl
    have HLEAF : Hid (hasK cs x.i = false → partT cs (f + 1) l q = indS l ++ headT x ++ ⟨#[32, 108, 105, 109, 105, 116, 32]⟩ ++ headS x.l.toNat ++ ⟨#[59, 10]⟩) := Lib.hid (fun h => partT_leaf hx h)
    have HNODE : Hid (hasK cs x.i = true → partT cs (f + 1) l q = indS l ++ headT x ++ ⟨#[32, 123, 10]⟩ ++ catS ((kids cs x.i).flatMap (linesP cs f (l + 1))) ++ indS l ++ ⟨#[125, 10]⟩) := Lib.hid (fun h => partT_node hx h)
    generalize partT cs (f + 1) l q = R at hsz HLEAF HNODE ⊢
    have HREC : Hid (∀ j ∈ kids cs x.i, j < n ∧ ∀ w, Hid (InX w ac n (clsCs cs)) → Calls Tryz.prog 65 #[(.agg #[.string s, .slice ac n cc, .slice af m cf, .int .i64 d]), .int .i64 j, .int .i64 ((l : Int) + 1)] w (SaysV w (.string (catS (linesP cs f (l + 1) j))))) := Lib.hid (fun j hj => by
      rw [← hx] at hj
      have hj1 := (kids_mem hj).1
      have hj2 := dep_kid T hql hj
      have hjn : j < n := by have := hn.out; omega
      exact ⟨hjn, fun w HI => prPart_any s ac af n cc m cf d cs T f j (l + 1) w HI hn hjn (by omega) (by omega) (by omega)⟩)
    have HKM := Lib.hid (fun k (h : k < (kids cs x.i).length) => kids_at_lt cs x.i k h)
    have hKn := kids_len24 T x.i
    have HID := Lib.hid (fun w => prIndent_any l (by omega) w)
    have his := indS_size l
    obtain ⟨gb, rfl, hgt, hgl⟩ := HI.out (by omega)
    obtain ⟨a0, a1, a2, a3, a4, a5, a6, a7⟩ := hgt.cls q hql x hx
    have e8 := Eight.later (show Eight w gb q x from ⟨a0, a1, a2, a3, a4, a5, a6, a7⟩) hgl
    unfold headT at HLEAF HNODE
    generalize x.i.toNat = ni at C HLEAF HNODE
    generalize x.r.toNat = nr at C HLEAF HNODE
    generalize x.e.toNat = ne at C HLEAF HNODE
    generalize x.b.toNat = nb at C HLEAF HNODE
    generalize x.u.toNat = nu at C HLEAF HNODE
    generalize x.o.toNat = no at C HLEAF HNODE
    generalize x.l.toNat = nl at C HLEAF HNODE
    have HHD := Lib.hid (fun w => prHead_any ni nr ne nb nu no x.p (nl : Int) C.N.bi C.N.br C.N.be C.N.bb C.N.bu C.N.bo w)
    have HNT := Lib.hid (fun w => nuText_any nl (by have := C.bl; omega) w)
    have hhz := headN_size ni nr ne nb nu no
    have hhs : (headN ni nr ne nb nu no).size ≤ 2300000 := by have := C.N.bi; have := C.N.br; have := C.N.be; have := C.N.bb; have := C.N.bu; have := C.N.bo; omega
    have hls := headS_szP nl
    have hlz : nl ≤ 60 := C.bl
    have ex : x = ⟨(ni : Int), x.p, (nr : Int), (ne : Int), (nb : Int), (nu : Int), (no : Int), (nl : Int)⟩ := by
      rw [← C.N.ei, ← C.N.er, ← C.N.ee, ← C.N.eb, ← C.N.eu, ← C.N.eo, ← C.el]
    generalize x.p = xp at HHD ex
    subst ex
    simp only at a0 a1 a2 a3 a4 a5 a6 a7 e8 HLF HKD HLEAF HNODE HREC HKM hKn
    obtain ⟨g0, g1, g2, g3, g4, g5, g6, g7⟩ := e8
    generalize headN ni nr ne nb nu no = hT at HHD hhs HLEAF HNODE
    generalize headS nl = lT at HNT hls HLEAF HNODE
    generalize indS l = iT at HID his HLEAF HNODE
    have HAB : Hid (∀ w', BX ((w.alloc (Obj.cells #[.string s, .slice (some ⟨gb, 0, none⟩) n cc, .slice af m cf, .int .i64 d] 26)).alloc (Obj.cells #[.int .i64 (ni : Int), .int .i64 xp, .int .i64 (nr : Int), .int .i64 (ne : Int), .int .i64 (nb : Int), .int .i64 (nu : Int), .int .i64 (no : Int), .int .i64 (nl : Int)] 41)) w' → Aft w (Obj.cells #[.string s, .slice (some ⟨gb, 0, none⟩) n cc, .slice af m cf, .int .i64 d] 26) w' ∧ EightB w' (w.heap.size + 1) ⟨(ni : Int), xp, (nr : Int), (ne : Int), (nb : Int), (nu : Int), (no : Int), (nl : Int)⟩) := Lib.hid (fun w' h => two_boxes h)
    have HIB : Hid (∀ w', Aft w (Obj.cells #[.string s, .slice (some ⟨gb, 0, none⟩) n cc, .slice af m cf, .int .i64 d] 26) w' → Hid (InX w' (some ⟨gb, 0, none⟩) n (clsCs cs))) := Lib.hid (fun w' h => Lib.hid (HI.out.below h.all.2))
    have HQ : Hid (∀ w', BX ((w.alloc (Obj.cells #[.string s, .slice (some ⟨gb, 0, none⟩) n cc, .slice af m cf, .int .i64 d] 26)).alloc (Obj.cells #[.int .i64 (ni : Int), .int .i64 xp, .int .i64 (nr : Int), .int .i64 (ne : Int), .int .i64 (nb : Int), .int .i64 (nu : Int), .int .i64 (no : Int), .int .i64 (nl : Int)] 41)) w' → w'.cell? ⟨w.heap.size, 0, none⟩ = some (.string s) ∧ w'.cell? ⟨w.heap.size, 1, none⟩ = some (.slice (some ⟨gb, 0, none⟩) n cc) ∧ w'.cell? ⟨w.heap.size, 2, none⟩ = some (.slice af m cf) ∧ w'.cell? ⟨w.heap.size, 3, none⟩ = some (.int .i64 d) ∧ w'.cell? ⟨w.heap.size + 1, 0, none⟩ = some (.int .i64 (ni : Int)) ∧ w'.cell? ⟨w.heap.size + 1, 1, none⟩ = some (.int .i64 xp) ∧ w'.cell? ⟨w.heap.size + 1, 2, none⟩ = some (.int .i64 (nr : Int)) ∧ w'.cell? ⟨w.heap.size + 1, 3, none⟩ = some (.int .i64 (ne : Int)) ∧ w'.cell? ⟨w.heap.size + 1, 4, none⟩ = some (.int .i64 (nb : Int)) ∧ w'.cell? ⟨w.heap.size + 1, 5, none⟩ = some (.int .i64 (nu : Int)) ∧ w'.cell? ⟨w.heap.size + 1, 6, none⟩ = some (.int .i64 (no : Int)) ∧ w'.cell? ⟨w.heap.size + 1, 7, none⟩ = some (.int .i64 (nl : Int)) ∧ BX ((w.alloc (Obj.cells #[.string s, .slice (some ⟨gb, 0, none⟩) n cc, .slice af m cf, .int .i64 d] 26)).alloc (Obj.cells #[.int .i64 (ni : Int), .int .i64 xp, .int .i64 (nr : Int), .int .i64 (ne : Int), .int .i64 (nb : Int), .int .i64 (nu : Int), .int .i64 (no : Int), .int .i64 (nl : Int)] 41)) w') := Lib.hid (fun w' h => by
      obtain ⟨e0, e1, e2, e3, _⟩ := (HAB.out w' h).1.all.1
      obtain ⟨q0, q1, q2, q3, q4, q5, q6, q7⟩ := (HAB.out w' h).2
      exact ⟨e0, e1, e2, e3, q0, q1, q2, q3, q4, q5, q6, q7, h⟩)
    have l1 : (⟨#[32, 108, 105, 109, 105, 116, 32]⟩ : ByteArray).size = 7 := rfl
    have l2 : (⟨#[59, 10]⟩ : ByteArray).size = 2 := rfl
    have l3 : (⟨#[32, 123, 10]⟩ : ByteArray).size = 3 := rfl
    have l4 : (⟨#[125, 10]⟩ : ByteArray).size = 2 := rfl
    have hil : iT.size ≤ 100 := by omega
    have k0 : ¬ (9223372036854775807 < iT.size + hT.size) := by omega
    clear hgt hx C hhz his hd
    cases hk : hasK cs (ni : Int)
    · have HX := Lib.hid (HLEAF.out hk)
      rw [hk] at HLF
      have k1 : ¬ (9223372036854775807 < iT.size + hT.size + 7) := by omega
      have k2 : ¬ (9223372036854775807 < iT.size + hT.size + 7 + lT.size) := by omega
      have k3 : ¬ (9223372036854775807 < iT.size + hT.size + 7 + lT.size + 2) := by omega
      clear hk HLEAF HNODE HREC HKD HKM hKn hsz l1 l2 l3 l4
      go_enter Tryz.func65, Tryz.ntmps65
      go_wp2_with fail
      refine wp_region_held_drew (S := fun w' => w'.cell? ⟨w.heap.size, 0, none⟩ = some (.string s) ∧ w'.cell? ⟨w.heap.size, 1, none⟩ = some (.slice (some ⟨gb, 0, none⟩) n cc) ∧ w'.cell? ⟨w.heap.size, 2, none⟩ = some (.slice af m cf) ∧ w'.cell? ⟨w.heap.size, 3, none⟩ = some (.int .i64 d) ∧ w'.cell? ⟨w.heap.size + 1, 0, none⟩ = some (.int .i64 (ni : Int)) ∧ w'.cell? ⟨w.heap.size + 1, 1, none⟩ = some (.int .i64 xp) ∧ w'.cell? ⟨w.heap.size + 1, 2, none⟩ = some (.int .i64 (nr : Int)) ∧ w'.cell? ⟨w.heap.size + 1, 3, none⟩ = some (.int .i64 (ne : Int)) ∧ w'.cell? ⟨w.heap.size + 1, 4, none⟩ = some (.int .i64 (nb : Int)) ∧ w'.cell? ⟨w.heap.size + 1, 5, none⟩ = some (.int .i64 (nu : Int)) ∧ w'.cell? ⟨w.heap.size + 1, 6, none⟩ = some (.int .i64 (no : Int)) ∧ w'.cell? ⟨w.heap.size + 1, 7, none⟩ = some (.int .i64 (nl : Int)) ∧ BX ((w.alloc (Obj.cells #[.string s, .slice (some ⟨gb, 0, none⟩) n cc, .slice af m cf, .int .i64 d] 26)).alloc (Obj.cells #[.int .i64 (ni : Int), .int .i64 xp, .int .i64 (nr : Int), .int .i64 (ne : Int), .int .i64 (nb : Int), .int .i64 (nu : Int), .int .i64 (no : Int), .int .i64 (nl : Int)] 41)) w') (by kernel_rfl) ?_ (fun hHeld => ?_)
      · (try dsimp only)
        (first | (go_split_ands; refine HQ.out _ ?_; repeat' (with_reducible first | exact BX.drew0 _ | exact BX.refl _ | assumption | refine BX.call' (by assumption) ?_ | refine BX.drew ?_)))
      refine held_take (i := 0) (d := 16) (v := ?_) rfl rfl (by kernel_rfl) (by kernel_rfl) (by kernel_rfl) (fun _ _ _ h => h) (by rfl) ?_ (by assumption) ?_
      rotate_left
      · intro w hSw
        (try dsimp only at hSw)
        go_simp
        try with_reducible rfl
      try simp only [Act.put, List.setIfInBounds_toArray, List.set_cons_zero, List.set_cons_succ]
      refine held_take (i := 2) (d := 18) (v := ?_) rfl rfl (by kernel_rfl) (by kernel_rfl) (by kernel_rfl) (fun _ _ _ h => h) (by rfl) ?_ (by assumption) ?_
      rotate_left
      · intro w hSw
        (try dsimp only at hSw)
        go_simp
        try with_reducible rfl
      try simp only [Act.put, List.setIfInBounds_toArray, List.set_cons_zero, List.set_cons_succ]
      refine wpAnyH_ready (rs := [1]) (by kernel_rfl) (by simp) ?_
      refine AllReadyH.cons rfl (fun K' hK => ?_) AllReadyH.nil
      go_simp
      (first | (go_split_ands; go_at_call 31; (with_reducible refine (HID.out _).mono ?_); rintro e w4 ⟨rfl, rfl⟩) | (go_split_ands; go_at_call 96; (with_reducible refine (HHD.out _).mono ?_); rintro e w4 ⟨rfl, b4⟩))
      refine hK.out _ _ ?_ (fun hHeld => ?_)
      · (try dsimp only)
        (first | (go_split_ands; refine HQ.out _ ?_; repeat' (with_reducible first | exact BX.drew0 _ | exact BX.refl _ | assumption | refine BX.call' (by assumption) ?_ | refine BX.drew ?_)))
      clear hK K'
      try simp only [Act.put, List.setIfInBounds_toArray, List.set_cons_zero, List.set_cons_succ]
      refine wpAnyH_ready (rs := [3]) (by kernel_rfl) (by simp) ?_
      refine AllReadyH.cons rfl (fun K' hK => ?_) AllReadyH.nil
      go_simp
      (first | (go_split_ands; go_at_call 31; (with_reducible refine (HID.out _).mono ?_); rintro e w4 ⟨rfl, rfl⟩) | (go_split_ands; go_at_call 96; (with_reducible refine (HHD.out _).mono ?_); rintro e w4 ⟨rfl, b4⟩))
      refine hK.out _ _ ?_ (fun hHeld => ?_)
      · (try dsimp only)
        (first | (go_split_ands; refine HQ.out _ ?_; repeat' (with_reducible first | exact BX.drew0 _ | exact BX.refl _ | assumption | refine BX.call' (by assumption) ?_ | refine BX.drew ?_)))
      clear hK K'
      try simp only [Act.put, List.setIfInBounds_toArray, List.set_cons_zero, List.set_cons_succ]
      refine held_take (i := 4) (d := 20) (v := ?_) rfl rfl (by kernel_rfl) (by kernel_rfl) (by kernel_rfl) (fun _ _ _ h => h) (by rfl) ?_ (by assumption) ?_
      rotate_left
      · intro w hSw
        (try dsimp only at hSw)
        go_simp
        try with_reducible rfl
      try simp only [Act.put, List.setIfInBounds_toArray, List.set_cons_zero, List.set_cons_succ]
      refine held_take (i := 5) (d := 8) (v := ?_) rfl rfl (by kernel_rfl) (by kernel_rfl) (by kernel_rfl) (fun _ _ _ h => h) (by rfl) ?_ (by assumption) ?_
      rotate_left
      · intro w hSw
        (try dsimp only at hSw)
        go_simp
        try with_reducible rfl
      try simp only [Act.put, List.setIfInBounds_toArray, List.set_cons_zero, List.set_cons_succ]
      refine wpAnyH_done (by kernel_rfl) ?_ _
      go_split_ands
      have X4 : Hid (BX ((w.alloc (Obj.cells #[.string s, .slice (some ⟨gb, 0, none⟩) n cc, .slice af m cf, .int .i64 d] 26)).alloc (Obj.cells #[.int .i64 (ni : Int), .int .i64 xp, .int .i64 (nr : Int), .int .i64 (ne : Int), .int .i64 (nb : Int), .int .i64 (nu : Int), .int .i64 (no : Int), .int .i64 (nl : Int)] 41)) w4) := Lib.hid (by assumption)
      have A4 := Lib.hid (HAB.out w4 X4.out).1
      go_wp2_with (go_at_call 51; refine (HLF.out _ (HIB.out _ A4.out)).mono ?_; rintro e w5 ⟨rfl, b⟩; have X5 := Lib.hid (X4.out.call b); obtain ⟨_, _, _, _, q0, q1, q2, q3, q4, q5, q6, q7, _⟩ := HQ.out _ X5.out; clear b; refine Hid.out ?_)
      refine Lib.hid ?_
      go_wp2_with (go_at_call 97; refine (HNT.out _).mono ?_; rintro e w6 ⟨rfl, b⟩; have X6 := Lib.hid (X5.out.call b); clear b)
      go_ret
      exact ⟨str_ret HX.out.symm, (HAB.out _ X6.out).1.all.2⟩
    · have HX := Lib.hid (HNODE.out hk)
      obtain ⟨U, hU⟩ : ∃ U, iT ++ hT ++ ⟨#[32, 123, 10]⟩ ++ catS ((kids cs (ni : Int)).flatMap (linesP cs f (l + 1))) = U := ⟨_, rfl⟩
      rw [hU] at HX
      have H0 := Lib.hid hU
      have hUz : U.size ≤ 6000000000000 := by
        have e := congrArg ByteArray.size HX.out
        simp only [ByteArray.size_append] at e
        omega
      rw [hk] at HLF
      generalize kids cs (ni : Int) = K at HKD H0 HREC HKM hKn
      have k1 : ¬ (9223372036854775807 < iT.size + hT.size + 3) := by omega
      have k2 : ¬ (9223372036854775807 < U.size + iT.size) := by omega
      have k3 : ¬ (9223372036854775807 < U.size + iT.size + 2) := by omega
      clear hk HLEAF HNODE hsz l1 l2 l3 l4 HNT hls hU
      go_enter Tryz.func65, Tryz.ntmps65
      go_wp2_with fail
      refine wp_region_held_drew (S := fun w' => w'.cell? ⟨w.heap.size, 0, none⟩ = some (.string s) ∧ w'.cell? ⟨w.heap.size, 1, none⟩ = some (.slice (some ⟨gb, 0, none⟩) n cc) ∧ w'.cell? ⟨w.heap.size, 2, none⟩ = some (.slice af m cf) ∧ w'.cell? ⟨w.heap.size, 3, none⟩ = some (.int .i64 d) ∧ w'.cell? ⟨w.heap.size + 1, 0, none⟩ = some (.int .i64 (ni : Int)) ∧ w'.cell? ⟨w.heap.size + 1, 1, none⟩ = some (.int .i64 xp) ∧ w'.cell? ⟨w.heap.size + 1, 2, none⟩ = some (.int .i64 (nr : Int)) ∧ w'.cell? ⟨w.heap.size + 1, 3, none⟩ = some (.int .i64 (ne : Int)) ∧ w'.cell? ⟨w.heap.size + 1, 4, none⟩ = some (.int .i64 (nb : Int)) ∧ w'.cell? ⟨w.heap.size + 1, 5, none⟩ = some (.int .i64 (nu : Int)) ∧ w'.cell? ⟨w.heap.size + 1, 6, none⟩ = some (.int .i64 (no : Int)) ∧ w'.cell? ⟨w.heap.size + 1, 7, none⟩ = some (.int .i64 (nl : Int)) ∧ BX ((w.alloc (Obj.cells #[.string s, .slice (some ⟨gb, 0, none⟩) n cc, .slice af m cf, .int .i64 d] 26)).alloc (Obj.cells #[.int .i64 (ni : Int), .int .i64 xp, .int .i64 (nr : Int), .int .i64 (ne : Int), .int .i64 (nb : Int), .int .i64 (nu : Int), .int .i64 (no : Int), .int .i64 (nl : Int)] 41)) w') (by kernel_rfl) ?_ (fun hHeld => ?_)
      · (try dsimp only)
        (first | (go_split_ands; refine HQ.out _ ?_; repeat' (with_reducible first | exact BX.drew0 _ | exact BX.refl _ | assumption | refine BX.call' (by assumption) ?_ | refine BX.drew ?_)))
      refine held_take (i := 0) (d := 16) (v := ?_) rfl rfl (by kernel_rfl) (by kernel_rfl) (by kernel_rfl) (fun _ _ _ h => h) (by rfl) ?_ (by assumption) ?_
      rotate_left
      · intro w hSw
        (try dsimp only at hSw)
        go_simp
        try with_reducible rfl
      try simp only [Act.put, List.setIfInBounds_toArray, List.set_cons_zero, List.set_cons_succ]
      refine held_take (i := 2) (d := 18) (v := ?_) rfl rfl (by kernel_rfl) (by kernel_rfl) (by kernel_rfl) (fun _ _ _ h => h) (by rfl) ?_ (by assumption) ?_
      rotate_left
      · intro w hSw
        (try dsimp only at hSw)
        go_simp
        try with_reducible rfl
      try simp only [Act.put, List.setIfInBounds_toArray, List.set_cons_zero, List.set_cons_succ]
      refine wpAnyH_ready (rs := [1]) (by kernel_rfl) (by simp) ?_
      refine AllReadyH.cons rfl (fun K' hK => ?_) AllReadyH.nil
      go_simp
      (first | (go_split_ands; go_at_call 31; (with_reducible refine (HID.out _).mono ?_); rintro e w4 ⟨rfl, rfl⟩) | (go_split_ands; go_at_call 96; (with_reducible refine (HHD.out _).mono ?_); rintro e w4 ⟨rfl, b4⟩))
      refine hK.out _ _ ?_ (fun hHeld => ?_)
      · (try dsimp only)
        (first | (go_split_ands; refine HQ.out _ ?_; repeat' (with_reducible first | exact BX.drew0 _ | exact BX.refl _ | assumption | refine BX.call' (by assumption) ?_ | refine BX.drew ?_)))
      clear hK K'
      try simp only [Act.put, List.setIfInBounds_toArray, List.set_cons_zero, List.set_cons_succ]
      refine wpAnyH_ready (rs := [3]) (by kernel_rfl) (by simp) ?_
      refine AllReadyH.cons rfl (fun K' hK => ?_) AllReadyH.nil
      go_simp
      (first | (go_split_ands; go_at_call 31; (with_reducible refine (HID.out _).mono ?_); rintro e w4 ⟨rfl, rfl⟩) | (go_split_ands; go_at_call 96; (with_reducible refine (HHD.out _).mono ?_); rintro e w4 ⟨rfl, b4⟩))
      refine hK.out _ _ ?_ (fun hHeld => ?_)
      · (try dsimp only)
        (first | (go_split_ands; refine HQ.out _ ?_; repeat' (with_reducible first | exact BX.drew0 _ | exact BX.refl _ | assumption | refine BX.call' (by assumption) ?_ | refine BX.drew ?_)))
      clear hK K'
      try simp only [Act.put, List.setIfInBounds_toArray, List.set_cons_zero, List.set_cons_succ]
      refine held_take (i := 4) (d := 20) (v := ?_) rfl rfl (by kernel_rfl) (by kernel_rfl) (by kernel_rfl) (fun _ _ _ h => h) (by rfl) ?_ (by assumption) ?_
      rotate_left
      · intro w hSw
        (try dsimp only at hSw)
        go_simp
        try with_reducible rfl
      try simp only [Act.put, List.setIfInBounds_toArray, List.set_cons_zero, List.set_cons_succ]
      refine held_take (i := 5) (d := 8) (v := ?_) rfl rfl (by kernel_rfl) (by kernel_rfl) (by kernel_rfl) (fun _ _ _ h => h) (by rfl) ?_ (by assumption) ?_
      rotate_left
      · intro w hSw
        (try dsimp only at hSw)
        go_simp
        try with_reducible rfl
      try simp only [Act.put, List.setIfInBounds_toArray, List.set_cons_zero, List.set_cons_succ]
      refine wpAnyH_done (by kernel_rfl) ?_ _
      go_split_ands
      have X4 : Hid (BX ((w.alloc (Obj.cells #[.string s, .slice (some ⟨gb, 0, none⟩) n cc, .slice af m cf, .int .i64 d] 26)).alloc (Obj.cells #[.int .i64 (ni : Int), .int .i64 xp, .int .i64 (nr : Int), .int .i64 (ne : Int), .int .i64 (nb : Int), .int .i64 (nu : Int), .int .i64 (no : Int), .int .i64 (nl : Int)] 41)) w4) := Lib.hid (by assumption)
      have A4 := Lib.hid (HAB.out w4 X4.out).1
      go_wp2_with (go_at_call 51; refine (HLF.out _ (HIB.out _ A4.out)).mono ?_; rintro e w5 ⟨rfl, b⟩; have A5 := Lib.hid (A4.out.on b); obtain ⟨c0, c1, c2, c3, _⟩ := A5.out.all.1; clear b; refine Hid.out ?_)
      refine Lib.hid ?_
      go_wp2_with (go_at_call 50; refine (HKD.out _ (HIB.out _ A5.out)).mono ?_; rintro e w2 ⟨v, rfl, o2, b2⟩; have A2 := Lib.hid (A5.out.on b2); obtain ⟨ad, cK, rfl, iK⟩ := own_in o2; have HIK := Lib.hid iK; clear b2 o2 iK)
      go_loopw [8, 37] (fun a i wr => PtRel w (Obj.cells #[.string s, .slice (some ⟨gb, 0, none⟩) n cc, .slice af m cf, .int .i64 d] 26) 0 K U (linesP cs f (l + 1)) a i wr ∧ Below w2.heap.size w2 wr) (fun _ i _ => K.length - (intOf i).toNat)
      case atStart => exact ⟨⟨0, _, Nat.zero_le _, rfl, rfl, A2.out, by rw [List.drop_zero]; exact H0⟩, Below.refl _ _⟩
      case round =>
        obtain ⟨⟨k, u, hk, rfl, rfl, hb, HP⟩, h2⟩ := hrel
        have HB := Lib.hid hb
        have H2 := Lib.hid h2
        have hIKr := HIK.out.below h2
        clear h2
        by_cases hlt : k < K.length
        · obtain ⟨gk, rfl, hkt, hkg⟩ := hIKr (by omega)
          obtain ⟨j, hj⟩ : ∃ j, K.getD k 0 = j := ⟨_, rfl⟩
          have e0 := hkt.nat k hlt j hj
          have hjm := HKM.out k hlt
          rw [hj] at hjm
          have HRJ := Lib.hid (HREC.out j hjm).2
          have hjn := (HREC.out j hjm).1
          have HE := Lib.hid (cat_drop (linesP cs f (l + 1)) K k hlt)
          rw [hj] at HE
          generalize catS (linesP cs f (l + 1) j) = tj at HRJ HE
          have HX2 : Hid ((u ++ tj) ++ catS ((K.drop (k + 1)).flatMap (linesP cs f (l + 1))) = U) := Lib.hid (by rw [app_asP, ← HE.out, HP.out])
          have hzz : u.size + tj.size ≤ 6000000000000 := by
            have e := congrArg ByteArray.size HX2.out
            simp only [ByteArray.size_append] at e
            omega
          have kj : ¬ (9223372036854775807 < u.size + tj.size) := by omega
          obtain ⟨q0, q1, q2, q3, _⟩ := hb.all.1
          have HIr := HIB.out _ hb
          clear hkt hj hjm hb
          go_wp2_with (go_at_call 65; refine (HRJ.out _ HIr).mono ?_; rintro e w3 ⟨rfl, b3⟩; have B3 := Lib.hid b3; clear b3)
          go_roundw
          case rel => exact ⟨⟨k + 1, u ++ tj, by omega, by go_num, rfl, HB.out.on B3.out, HX2⟩, H2.out.trans (B3.out.mono H2.out.size)⟩
          case measure => simp [intOf]; omega
        · have HX2 : u = U := by have := HP.out; rw [List.drop_eq_nil_of_le (by omega), List.flatMap_nil, catS_nil] at this; rw [← this]; apply bytes_exP; simp [ByteArray.data_append]
          subst HX2
          clear hb
          go_wp2_with (go_at_call 31; refine (HID.out _).mono ?_; rintro e w6 ⟨rfl, rfl⟩)
          go_ret
          exact ⟨str_ret HX.out.symm, HB.out.all.2⟩
end Go.Proofs.YthgbhnedfdnfpaaGreatDoor
