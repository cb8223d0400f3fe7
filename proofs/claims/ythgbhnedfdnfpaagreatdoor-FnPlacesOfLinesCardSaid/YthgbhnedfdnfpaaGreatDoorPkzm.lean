import Derived.Test.YthgbhnedfdnfpaaGreatDoorPkzl
import Derived.Test.YthgbhnedfdnfpaaGreatDoorPkzh
/- Canonical texts, the program's: the part of a class (written by tools/gen_pry.py). -/
namespace Go.Proofs.YthgbhnedfdnfpaaGreatDoor
set_option maxRecDepth 100000
open Go.RowKit
set_option linter.unusedVariables false
set_option linter.unusedSimpArgs false

def UP (w : World) : Prop := Units w ∧ Pow w
def finP (cs : List Cls) (j : Nat) : Nat × Nat := (lineP cs 9 j, lineP cs 9 j + sizeP cs 9 j - 1)
def spanP (cs : List Cls) (A : List Nat) (Sp : Nat → Nat × Nat) : Nat → Nat × Nat := fun j => if j ∈ A then finP cs j else Sp j
theorem spanP_nil (cs : List Cls) (Sp : Nat → Nat × Nat) : spanP cs [] Sp = Sp := by funext j; simp [spanP]
theorem spanP_append (cs : List Cls) (A B : List Nat) (Sp : Nat → Nat × Nat) : spanP cs B (spanP cs A Sp) = spanP cs (A ++ B) Sp := by
  funext j
  unfold spanP
  by_cases h1 : j ∈ B
  · simp [h1]
  · by_cases h2 : j ∈ A <;> simp [h1, h2]
theorem spanP_set (cs : List Cls) (A : List Nat) (Sp : Nat → Nat × Nat) (q a b : Nat) (h : (a, b) = finP cs q) : spSet (spanP cs A Sp) q a b = spanP cs (q :: A) Sp := by
  funext j
  unfold spSet spanP
  by_cases hj : j = q
  · subst hj; simp [h]
  · simp [hj]
def PartI (cs : List Cls) (id : Int) (f l : Nat) (L0 : List ByteArray) (W0 : List Nat) (S0 : Nat → Nat × Nat) (k : Nat) (L : List ByteArray) (W : List Nat) (Sp : Nat → Nat × Nat) : Prop :=
  ∃ A : List Nat, A ++ kidsF id k (cs.drop k) = kids cs id ∧ L = L0 ++ A.flatMap (linesP cs f l) ∧ W = W0 ++ A.flatMap (walkP cs f) ∧ Sp = spanP cs (A.flatMap (walkP cs f)) S0
theorem flat_len (cs : List Cls) (f l : Nat) (A : List Nat) : (A.flatMap (linesP cs f l)).length = (A.map (sizeP cs f)).sum := by
  induction A with
  | nil => rfl
  | cons k r ih => simp [linesP_len cs f l k, ih]
theorem sum_split (g : Nat → Nat) (A : List Nat) (k : Nat) (R : List Nat) : ((A ++ k :: R).map g).sum = (A.map g).sum + g k + (R.map g).sum := by
  simp [List.sum_append]; omega
structure PartS (cs : List Cls) (id : Int) (f l : Nat) (L0 : List ByteArray) (W0 : List Nat) (S0 : Nat → Nat × Nat) (k : Nat) (L : List ByteArray) (W : List Nat) (Sp : Nat → Nat × Nat) : Prop where
  len : L.length + sizeP cs f k ≤ L0.length + ((kids cs id).map (sizeP cs f)).sum
  line : ∃ A R, kids cs id = A ++ k :: R ∧ L.length = L0.length + (A.map (sizeP cs f)).sum
  next : PartI cs id f l L0 W0 S0 (k + 1) (L ++ linesP cs f l k) (W ++ walkP cs f k) (spanP cs (walkP cs f k) Sp)
theorem partI_kid {cs : List Cls} {id : Int} {f l : Nat} {L0 : List ByteArray} {W0 : List Nat} {S0 : Nat → Nat × Nat} {k : Nat} {L : List ByteArray} {W : List Nat} {Sp : Nat → Nat × Nat} (hk : k < cs.length) (hp : (cs.getD k cls0).p = id) (h : PartI cs id f l L0 W0 S0 k L W Sp) : PartS cs id f l L0 W0 S0 k L W Sp := by
  obtain ⟨A, hA, rfl, rfl, rfl⟩ := h
  have e : kidsF id k (cs.drop k) = k :: kidsF id (k + 1) (cs.drop (k + 1)) := by rw [kidsF_at id cs k hk _ rfl, if_pos hp]
  rw [e] at hA
  refine ⟨?_, ⟨A, _, hA.symm, ?_⟩, A ++ [k], ?_, ?_, ?_, ?_⟩
  · rw [List.length_append, flat_len, ← hA, sum_split]; omega
  · rw [List.length_append, flat_len]
  · rw [List.append_assoc]; exact hA
  · rw [List.flatMap_append, List.append_assoc]; simp
  · rw [List.flatMap_append, List.append_assoc]; simp
  · rw [spanP_append, List.flatMap_append]; simp
theorem partI_other {cs : List Cls} {id : Int} {f l : Nat} {L0 : List ByteArray} {W0 : List Nat} {S0 : Nat → Nat × Nat} {k : Nat} {L : List ByteArray} {W : List Nat} {Sp : Nat → Nat × Nat} (hk : k < cs.length) (hp : (cs.getD k cls0).p ≠ id) (h : PartI cs id f l L0 W0 S0 k L W Sp) : PartI cs id f l L0 W0 S0 (k + 1) L W Sp := by
  obtain ⟨A, hA, h2⟩ := h
  rw [kidsF_at id cs k hk _ rfl, if_neg hp] at hA
  exact ⟨A, hA, h2⟩
theorem partI_end {cs : List Cls} {id : Int} {f l : Nat} {L0 : List ByteArray} {W0 : List Nat} {S0 : Nat → Nat × Nat} {L : List ByteArray} {W : List Nat} {Sp : Nat → Nat × Nat} (h : PartI cs id f l L0 W0 S0 cs.length L W Sp) :
    L = L0 ++ (kids cs id).flatMap (linesP cs f l) ∧ W = W0 ++ (kids cs id).flatMap (walkP cs f) ∧ Sp = spanP cs ((kids cs id).flatMap (walkP cs f)) S0 := by
  obtain ⟨A, hA, rfl, rfl, rfl⟩ := h
  rw [kidsF_end id cs cs.length (Nat.le_refl _), List.append_nil] at hA
  rw [hA]
  exact ⟨rfl, rfl, rfl⟩
theorem partI_start (cs : List Cls) (id : Int) (f l : Nat) (L : List ByteArray) (W : List Nat) (Sp : Nat → Nat × Nat) : PartI cs id f l L W Sp 0 L W Sp :=
  ⟨[], by rw [List.drop_zero]; rfl, by simp, by simp, by simp [spanP_nil]⟩
theorem limit_leaf {cs : List Cls} (T : TreeF cs) {q : Nat} (hq : q < cs.length) : (hasK cs (cs.getD q cls0).i = true → (cs.getD q cls0).l = 0) ∧ (hasK cs (cs.getD q cls0).i = false → 0 < (cs.getD q cls0).l) := by
  have hn := T.node q hq
  unfold nodeOk limOk at hn
  simp only [Bool.and_eq_true] at hn
  have hl := hn.2.2
  refine ⟨fun h => ?_, fun h => ?_⟩
  · rw [if_pos h] at hl; simpa using hl
  · rw [if_neg (by rw [h]; simp)] at hl
    have := (inBR_iff.1 hl).1
    omega
theorem join_leaf (a b : ByteArray) : joinB [a, ⟨#[108, 105, 109, 105, 116]⟩, b] ++ ⟨#[59]⟩ = a ++ ⟨#[32, 108, 105, 109, 105, 116, 32]⟩ ++ b ++ ⟨#[59]⟩ := by
  apply bytes_exP
  simp [joinB, Lib.join, List.intercalate, List.intersperse, ByteArray.data_append]
theorem join_node (a : ByteArray) : joinB [a, ⟨#[123]⟩] = a ++ ⟨#[32, 123]⟩ := by
  apply bytes_exP
  simp [joinB, Lib.join, List.intercalate, List.intersperse, ByteArray.data_append]
theorem line_leaf (i h s : ByteArray) : i ++ (h ++ ⟨#[32, 108, 105, 109, 105, 116, 32]⟩ ++ s ++ ⟨#[59]⟩) ++ ⟨#[10]⟩ = i ++ h ++ ⟨#[32, 108, 105, 109, 105, 116, 32]⟩ ++ s ++ ⟨#[59, 10]⟩ := by
  apply bytes_exP
  simp [ByteArray.data_append]
theorem line_node (i h : ByteArray) : i ++ (h ++ ⟨#[32, 123]⟩) ++ ⟨#[10]⟩ = i ++ h ++ ⟨#[32, 123, 10]⟩ := by
  apply bytes_exP
  simp [ByteArray.data_append]
theorem line_end (i : ByteArray) : i ++ ⟨#[125]⟩ ++ ⟨#[10]⟩ = i ++ ⟨#[125, 10]⟩ := by
  apply bytes_exP
  simp [ByteArray.data_append]
theorem box_keep {g : Nat} {row : Option Nat} {w w' : World} {xi xp xr xe xb xu xo xl : Int} {bx : Nat} (h : EightB w bx ⟨xi, xp, xr, xe, xb, xu, xo, xl⟩) (k : KeepB g row w w') (hg : g < bx) (hr : row ≠ some bx) : EightB w' bx ⟨xi, xp, xr, xe, xb, xu, xo, xl⟩ := by
  have hb : w'.heap[bx]? = w.heap[bx]? := k.2 bx hg (World.block_lt_of_cell? w _ h.1) hr
  have q := fun j => World.cell?_of_block (a := ⟨bx, j, none⟩) hb
  obtain ⟨a0, a1, a2, a3, a4, a5, a6, a7⟩ := h
  exact ⟨(q 0).trans a0, (q 1).trans a1, (q 2).trans a2, (q 3).trans a3, (q 4).trans a4, (q 5).trans a5, (q 6).trans a6, (q 7).trans a7⟩
theorem PrS.span {w : World} {g : Nat} {v0 v1 v2 v3 lv wv : Value} {L : List ByteArray} {W : List Nat} {Sp : Nat → Nat × Nat} (h : PrS w g v0 v1 v2 v3 lv wv L W Sp) (q a b : Nat) (hq : q < 24) {va vb : Int} (ha : va = (a : Int)) (hb : vb = (b : Int)) :
    PrS ((w.setCell ⟨g, 6 + q * 2, none⟩ (.int .i64 va)).setCell ⟨g, 6 + q * 2 + 1, none⟩ (.int .i64 vb)) g v0 v1 v2 v3 lv wv L W (spSet Sp q a b) ∧ Below g w ((w.setCell ⟨g, 6 + q * 2, none⟩ (.int .i64 va)).setCell ⟨g, 6 + q * 2 + 1, none⟩ (.int .i64 vb)) := by
  subst ha hb
  have hset : ∀ k, k ≠ g → ((w.setCell ⟨g, 6 + q * 2, none⟩ (.int .i64 (a : Int))).setCell ⟨g, 6 + q * 2 + 1, none⟩ (.int .i64 (b : Int))).heap[k]? = w.heap[k]? := fun k hk => by
    rw [heap_setCell_other _ ⟨g, 6 + q * 2 + 1, none⟩ k _ (fun e => hk e), heap_setCell_other _ ⟨g, 6 + q * 2, none⟩ k _ (fun e => hk e)]
  refine ⟨⟨h.1.setS q a b hq, own_hp h.2.1 (fun k hk => hset k (fun e => by have := (World.ownsRow.lt h.2.1 k hk).1; omega)), own_hp h.2.2.1 (fun k hk => hset k (fun e => by have := (World.ownsRow.lt h.2.2.1 k hk).1; omega)), h.2.2.2⟩, ((Below.refl g w).setCell (Nat.le_refl g) _).setCell (Nat.le_refl g) _⟩
set_option maxHeartbeats 25600000 in
theorem writePart_any (g gb n cc : Nat) (v0 v2 v3 : Value) (cs : List Cls) (T : TreeF cs) (hn : Hid (cs.length = n)) : ∀ (f q l : Nat) (L : List ByteArray) (W : List Nat) (Sp : Nat → Nat × Nat) (lv wv : Value) (w : World) (HP : Hid (PrS w g v0 (.slice (some ⟨gb, 0, none⟩) n cc) v2 v3 lv wv L W Sp)) (HE : Hid (Env g gb cs UP w)) (hq : q < n) (hf : f ≤ 9) (hd : 9 ≤ f + depP cs q) (hl : l + f ≤ 20) (hL : L.length + 1 = lineP cs 9 q) (hL2 : L.length + sizeP cs f q ≤ 2500000) (hW : W.length + (walkP cs f q).length ≤ 2500000),
    Calls Tryz.prog 78 #[.pointer (some ⟨g, 0, none⟩), .int .i64 (q : Int), .int .i64 (l : Int)] w (SaysPr w g v0 (.slice (some ⟨gb, 0, none⟩) n cc) v2 v3 (fun L' W' Sp' => L' = L ++ linesP cs f l q ∧ W' = W ++ walkP cs f q ∧ Sp' = spanP cs (walkP cs f q) Sp))
  | 0, q, l, L, W, Sp, lv, wv, w, HP, HE, hq, hf, hd, hl, hL, hL2, hW => absurd hd (by have := (way_len T (k := q) (by have := hn.out; omega)).2; omega)
  | f + 1, q, l, L, W, Sp, lv, wv, w, HP, HE, hq, hf, hd, hl, hL, hL2, hW => by
    obtain ⟨i0, hi, hz0, hz1, hz2⟩ := info_parts infoI
    have hql : q < cs.length := by have := hn.out; omega
    have hm : n ≤ 1048576 := by have := hn.out; have := T.n24; omega
    have hq24 : q < 24 := by have := T.n24; omega
    obtain ⟨x, hx⟩ : ∃ x, cs.getD q cls0 = x := ⟨_, rfl⟩
    have C := clx T hql x hx
    have hlim := limit_leaf T hql
    have hsn := sizeP_nine T hql (8 - f) (f + 1) (by omega) hd
    obtain ⟨a0, a1, a2, a3, a4, a5, a6, a7⟩ := HE.out.now.cls q hql x hx
    have HLI : Hid (linesP cs (f + 1) l q = if hasK cs x.i then (indS l ++ headT x ++ ⟨#[32, 123, 10]⟩) :: ((kids cs x.i).flatMap (linesP cs f (l + 1)) ++ [indS l ++ ⟨#[125, 10]⟩]) else [indS l ++ headT x ++ ⟨#[32, 108, 105, 109, 105, 116, 32]⟩ ++ headS x.l.toNat ++ ⟨#[59, 10]⟩]) := Lib.hid (by rw [← hx]; rfl)
    have HWI : Hid (walkP cs (f + 1) q = q :: (kids cs x.i).flatMap (walkP cs f)) := Lib.hid (by rw [← hx]; rfl)
    have HSI : Hid (sizeP cs (f + 1) q = if hasK cs x.i then 2 + ((kids cs x.i).map (sizeP cs f)).sum else 1) := Lib.hid (by rw [← hx]; rfl)
    have hgx : ClsSelf x = true := by
      have h := okL_ids cs 0 T.ok q hql
      rw [hx] at h
      unfold ClsSelf
      rw [inBR_yes (by omega) h.2.1, h.2.2]
      rfl
    have HCH := Lib.hid (fun w (h : UP w) => implClassHead_any x w (Lib.hid h.1) (Lib.hid h.2))
    rw [rh_yes hgx, hgx] at HCH
    rw [hx] at hlim
    have hcon : clsV x = .agg #[.int .i64 x.i, .int .i64 x.p, .int .i64 x.r, .int .i64 x.e, .int .i64 x.b, .int .i64 x.u, .int .i64 x.o, .int .i64 x.l] := rfl
    rw [hcon] at HCH
    have HKD : Hid (kids cs x.i = kids cs (cs.getD q cls0).i) := Lib.hid (by rw [hx])
    unfold headT at HLI
    generalize x.i.toNat = ni at C HLI HCH
    generalize x.r.toNat = nr at C HLI HCH
    generalize x.e.toNat = ne at C HLI HCH
    generalize x.b.toNat = nb at C HLI HCH
    generalize x.u.toNat = nu at C HLI HCH
    generalize x.o.toNat = no at C HLI HCH
    generalize x.l.toNat = nl at C HLI
    have hhz := headN_size ni nr ne nb nu no
    have hhs : (headN ni nr ne nb nu no).size ≤ 2300000 := by have := C.N.bi; have := C.N.br; have := C.N.be; have := C.N.bb; have := C.N.bu; have := C.N.bo; omega
    have hls := headS_szP nl
    have hlz : nl ≤ 60 := C.bl
    have HNT := Lib.hid (fun w (h : UP w) => implNumberText_any nl (by have := C.bl; omega) w (Lib.hid h.1) (Lib.hid h.2))
    have ex : x = ⟨(ni : Int), x.p, (nr : Int), (ne : Int), (nb : Int), (nu : Int), (no : Int), (nl : Int)⟩ := by
      rw [← C.N.ei, ← C.N.er, ← C.N.ee, ← C.N.eb, ← C.N.eu, ← C.N.eo, ← C.el]
    generalize x.p = xp at HCH ex
    subst ex
    simp only at a0 a1 a2 a3 a4 a5 a6 a7 HCH HLI HWI HSI hlim HKD
    generalize headN ni nr ne nb nu no = hT at HCH hhs HLI
    generalize headS nl = lT at HNT hls HLI
    have HST := Lib.hid (fun s b w => sureText_any s b w)
    obtain ⟨c0, c1, c2, c3, c4, c5, fz⟩ := HP.out.1.cells
    have hgl := HP.out.lt
    -- the class in its box
    have BA := one_new2 w (Obj.cells #[.int .i64 (ni : Int), .int .i64 xp, .int .i64 (nr : Int), .int .i64 (ne : Int), .int .i64 (nb : Int), .int .i64 (nu : Int), .int .i64 (no : Int), .int .i64 (nl : Int)] 41)
    have PA := Lib.hid (HP.out.below BA)
    have EX := Lib.hid (HE.out.on (BA.mono (Nat.le_of_lt hgl)))
    have X0 := Lib.hid (BX.refl (w.alloc (Obj.cells #[.int .i64 (ni : Int), .int .i64 xp, .int .i64 (nr : Int), .int .i64 (ne : Int), .int .i64 (nb : Int), .int .i64 (nu : Int), .int .i64 (no : Int), .int .i64 (nl : Int)] 41)))
    clear hx C hcon hgx hhz BA
    go_enter Tryz.func78, Tryz.ntmps78
    go_wp2_with (go_at_call 16; refine (HCH.out _ EX.out.tab).mono ?_; rintro e w1 ⟨rfl, b⟩; have X1 := Lib.hid (X0.out.call b); have P1 := Lib.hid (PA.out.below b); have E1 := Lib.hid (EX.out.on (b.mono (Nat.le_of_lt PA.out.lt))); clear b; refine Hid.out ?_)
    refine Lib.hid ?_
    obtain ⟨d0, d1, d2, d3, d4, d5, fz1⟩ := P1.out.1.cells
    obtain ⟨al1, cl1, rfl, _⟩ := own_in P1.out.2.1
    obtain ⟨aw1, cw1, rfl, _⟩ := own_in P1.out.2.2.1
    go_wp2_with (first | (go_at_call 39; refine (HST.out _ _ _).mono ?_; rintro e w' ⟨rfl, rfl⟩) | (at_builtin; refine wpList_append_at _ rfl _ _ 33 rfl (g + 1) 3 i0 (.int .i64 0) 1 8 Tryz.underlying33 hi hz0 hz1 hz2 rfl (by decide) _ W.length (nv W) rfl (P1.out.below (one_new2 w1 (.cells #[.int .i64 (q : Int)] 3))).2.2.1 ⟨w1.heap.size, 0, none⟩ 1 1 [.int .i64 (q : Int)] rfl rfl (one_int w1 (.int .i64 (q : Int)) 3) (by intro u hu; simp at hu; subst hu; rfl) (by unfold maxLen; omega) (by omega) (by have := P1.out.lt; simp; omega) ?_; intro wv2 w2 hown hgrow hat; obtain ⟨aw2, cw2, rfl, _⟩ := own_in hown; obtain ⟨r1, r2, r3, r4⟩ := PrS.snocW P1.out (one_new2 w1 (.cells #[.int .i64 (q : Int)] 3)) hown hgrow hat; have P2 := Lib.hid r1; have K2 := Lib.hid r2; clear hown hgrow hat r1 r2; refine Hid.out ?_))
    refine Lib.hid ?_
    have n1 : w.heap.size ≤ w1.heap.size := (box_eights2 X1.out).2.size
    have hbx : (Value.slice aw1 W.length cw1).ownBlock ≠ some w.heap.size := fun e => by have := (World.ownsRow.lt HP.out.2.2.1 _ e).2; omega
    have hbl : (Value.slice al1 L.length cl1).ownBlock ≠ some w.heap.size := fun e => by have := (World.ownsRow.lt HP.out.2.1 _ e).2; omega
    have hb1 : EightB w1 w.heap.size ⟨(ni : Int), xp, (nr : Int), (ne : Int), (nb : Int), (nu : Int), (no : Int), (nl : Int)⟩ := (box_eights2 X1.out).1
    have Q2 := Lib.hid (box_keep hb1 K2.out hgl hbx)
    have E2 := Lib.hid (E1.out.on K2.out.1)
    have G2 := Lib.hid ((box_eights2 X1.out).2.mono (Nat.le_of_lt hgl) |>.trans K2.out.1)
    obtain ⟨q0, q1, q2, q3, q4, q5, q6, q7⟩ := Q2.out
    obtain ⟨f0, f1, f2, f3, f4, f5, fz2⟩ := P2.out.1.cells
    have hLs : L.length ≤ 2500000 := by omega
    cases hk : hasK cs (ni : Int)
    · have hL1 : linesP cs (f + 1) l q = [indS l ++ hT ++ ⟨#[32, 108, 105, 109, 105, 116, 32]⟩ ++ lT ++ ⟨#[59, 10]⟩] := by rw [HLI.out, hk]; rfl
      have hKN : kids cs (ni : Int) = [] := leaf_kids hk
      have hW1 : walkP cs (f + 1) q = [q] := by rw [HWI.out, hKN]; rfl
      have hS1 : sizeP cs (f + 1) q = 1 := by rw [HSI.out, hk]; rfl
      have hpos := hlim.2 hk
      have dl := is_lt hpos
      have dln : decide (0 < nl) = true := decide_eq_true (by omega)
      have hfin : (L.length + 1, L.length + 1) = finP cs q := by
        unfold finP
        rw [← hsn, hS1, ← hL]
        rfl
      have HL1 := Lib.hid hL1
      have HW1 := Lib.hid hW1
      have HFIN := Lib.hid hfin
      obtain ⟨J, hJ⟩ : ∃ J, joinB [hT, ⟨#[108, 105, 109, 105, 116]⟩, lT] = J := ⟨_, rfl⟩
      have HJ := Lib.hid hJ
      have hJe : J ++ ⟨#[59]⟩ = hT ++ ⟨#[32, 108, 105, 109, 105, 116, 32]⟩ ++ lT ++ ⟨#[59]⟩ := by rw [← hJ]; exact join_leaf hT lT
      have hJz : J.size ≤ 2400000 := by
        have e := congrArg ByteArray.size hJe
        simp only [ByteArray.size_append, show (⟨#[32, 108, 105, 109, 105, 116, 32]⟩ : ByteArray).size = 7 from rfl] at e
        omega
      have hJ1 : J.size ≤ 140737488355328 := by omega
      have kj : ¬ (9223372036854775807 < J.size + 1) := by omega
      have HLN : Hid (indS l ++ (J ++ ⟨#[59]⟩) ++ ⟨#[10]⟩ = indS l ++ hT ++ ⟨#[32, 108, 105, 109, 105, 116, 32]⟩ ++ lT ++ ⟨#[59, 10]⟩) := Lib.hid (by rw [hJe]; exact line_leaf _ _ _)
      have hJs : (J ++ ⟨#[59]⟩).size ≤ 10000000 := by rw [ByteArray.size_append, show (⟨#[59]⟩ : ByteArray).size = 1 from rfl]; omega
      clear hk hlim hL1 hW1 hS1 hKN hfin hJ hJe HWI HSI HLI hpos hL hsn
      go_wp2_with (go_at_call 40; refine (HNT.out _ E2.out.tab).mono ?_; rintro e w4 ⟨rfl, b⟩; have P4 := Lib.hid (P2.out.below b); have G4 := Lib.hid (G2.out.trans (b.mono (Nat.le_of_lt P2.out.lt))); clear b; refine Hid.out ?_)
      refine Lib.hid ?_
      have HW4 := Lib.hid (words_new w4 #[.string hT, .string ⟨#[108, 105, 109, 105, 116]⟩, .string lT] [hT, ⟨#[108, 105, 109, 105, 116]⟩, lT] rfl 9)
      have hlt4 : w4.heap.size < (w4.alloc (.cells #[.string hT, .string ⟨#[108, 105, 109, 105, 116]⟩, .string lT] 9)).heap.size := by simp
      have BA4 := one_new2 w4 (.cells #[.string hT, .string ⟨#[108, 105, 109, 105, 116]⟩, .string lT] 9)
      have P5 := Lib.hid (P4.out.below BA4)
      have G5 := Lib.hid (G4.out.trans (BA4.mono (Nat.le_of_lt P4.out.lt)))
      clear BA4
      go_wp2_with (first | (go_at_call 39; refine (HST.out _ _ _).mono ?_; rintro e w' ⟨rfl, rfl⟩) | (go_at_call 37; refine (joinWords_any [hT, ⟨#[108, 105, 109, 105, 116]⟩, lT] _ 3 3 _ HW4 (Lib.hid rfl) hlt4 (by decide) (by decide) J HJ hJ1).mono ?_; rintro e w6 ⟨rfl, b⟩; have P6 := Lib.hid (P5.out.below b); have G6 := Lib.hid (G5.out.trans (b.mono (Nat.le_of_lt P5.out.lt))); clear b; refine Hid.out ?_))
      refine Lib.hid ?_
      have HWL := Lib.hid (writeLine_any g l (J ++ ⟨#[59]⟩) v0 (.slice (some ⟨gb, 0, none⟩) n cc) v2 v3 _ _ L (W ++ [q]) Sp w6 P6 (by omega) (by omega) hJs)
      rw [HLN.out] at HWL
      go_wp2_with (go_at_call 63; refine (HWL.out).mono ?_; rintro e w7 ⟨rfl, lv7, p7, k7⟩; have P7 := Lib.hid p7; have G7 := Lib.hid (G6.out.trans k7.1); clear p7 k7; refine Hid.out ?_)
      refine Lib.hid ?_
      obtain ⟨al7, cl7, rfl, _⟩ := own_in P7.out.2.1
      have PD := Lib.hid (P7.out.below (below_drewN (Below.refl w7.heap.size w7) 1))
      obtain ⟨j0, j1, j2, j3, j4, j5, fz7⟩ := PD.out.1.cells
      obtain ⟨s0, s1⟩ := P7.out.1.span q hq24
      have fzw := P7.out.1.cells.2.2.2.2.2.2
      have s2 : ∀ v, (w7.setCell ⟨g, 6 + q * 2, none⟩ v).cell? ⟨g, 6 + q * 2 + 1, none⟩ = some (.int .i64 ((Sp q).2 : Int)) := fun v => by rw [World.cell?_setCell_other _ _ _ _ (by simp)]; exact s1
      have s3 : ∀ v, (w7.setCell ⟨g, 6 + q * 2, none⟩ v).frozen? ⟨g, 6 + q * 2 + 1, none⟩ = false := fun v => by simp [fzw]
      have PZB := Lib.hid (PrS.span PD.out q (L.length + 1) (L.length + 1) hq24 (va := (L.length : Int) + 1) (vb := ((L.length + 1 : Nat) : Int)) (by omega) rfl)
      have hqi : (q : Int) < 24 := by omega
      have hqi0 : (0 : Int) ≤ q := by omega
      go_wp2_with fail
      refine wp_region_held_drew (S := fun w' => w'.cell? ⟨g, 4, none⟩ = some (.slice al7 ((L ++ [indS l ++ hT ++ ⟨#[32, 108, 105, 109, 105, 116, 32]⟩ ++ lT ++ ⟨#[59, 10]⟩]).length) cl7)) (by kernel_rfl) ?_ (fun hHeld => ?_)
      · (try dsimp only)
        exact j4
      refine held_take (i := 0) (d := 71) (v := ?_) rfl rfl (by kernel_rfl) (by kernel_rfl) (by kernel_rfl) (fun _ _ _ h => h) (by rfl) ?_ (by assumption) ?_
      rotate_left
      · intro w hSw
        (try dsimp only at hSw)
        go_simp
        try with_reducible rfl
      try simp only [Act.put, List.setIfInBounds_toArray, List.set_cons_zero, List.set_cons_succ]
      refine held_take (i := 1) (d := 72) (v := ?_) rfl rfl (by kernel_rfl) (by kernel_rfl) (by kernel_rfl) (fun _ _ _ h => h) (by rfl) ?_ (by assumption) ?_
      rotate_left
      · intro w hSw
        (try dsimp only at hSw)
        go_simp
        try with_reducible rfl
      try simp only [Act.put, List.setIfInBounds_toArray, List.set_cons_zero, List.set_cons_succ]
      refine held_take (i := 2) (d := 73) (v := ?_) rfl rfl (by kernel_rfl) (by kernel_rfl) (by kernel_rfl) (fun _ _ _ h => h) (by rfl) ?_ (by assumption) ?_
      rotate_left
      · intro w hSw
        (try dsimp only at hSw)
        go_simp
        try with_reducible rfl
      try simp only [Act.put, List.setIfInBounds_toArray, List.set_cons_zero, List.set_cons_succ]
      refine held_take (i := 3) (d := 74) (v := ?_) rfl rfl (by kernel_rfl) (by kernel_rfl) (by kernel_rfl) (fun _ _ _ h => h) (by rfl) ?_ (by assumption) ?_
      rotate_left
      · intro w hSw
        (try dsimp only at hSw)
        go_simp
        try with_reducible rfl
      try simp only [Act.put, List.setIfInBounds_toArray, List.set_cons_zero, List.set_cons_succ]
      refine held_take (i := 4) (d := 75) (v := ?_) rfl rfl (by kernel_rfl) (by kernel_rfl) (by kernel_rfl) (fun _ _ _ h => h) (by rfl) ?_ (by assumption) ?_
      rotate_left
      · intro w hSw
        (try dsimp only at hSw)
        go_simp
        try with_reducible rfl
      try simp only [Act.put, List.setIfInBounds_toArray, List.set_cons_zero, List.set_cons_succ]
      refine held_take (i := 5) (d := 76) (v := ?_) rfl rfl (by kernel_rfl) (by kernel_rfl) (by kernel_rfl) (fun _ _ _ h => h) (by rfl) ?_ (by assumption) ?_
      rotate_left
      · intro w hSw
        (try dsimp only at hSw)
        go_simp
        try with_reducible rfl
      try simp only [Act.put, List.setIfInBounds_toArray, List.set_cons_zero, List.set_cons_succ]
      refine held_take (i := 6) (d := 77) (v := ?_) rfl rfl (by kernel_rfl) (by kernel_rfl) (by kernel_rfl) (fun _ _ _ h => h) (by rfl) ?_ (by assumption) ?_
      rotate_left
      · intro w hSw
        (try dsimp only at hSw)
        go_simp
        try with_reducible rfl
      try simp only [Act.put, List.setIfInBounds_toArray, List.set_cons_zero, List.set_cons_succ]
      refine held_take (i := 7) (d := 78) (v := ?_) rfl rfl (by kernel_rfl) (by kernel_rfl) (by kernel_rfl) (fun _ _ _ h => h) (by rfl) ?_ (by assumption) ?_
      rotate_left
      · intro w hSw
        (try dsimp only at hSw)
        go_simp
        try with_reducible rfl
      try simp only [Act.put, List.setIfInBounds_toArray, List.set_cons_zero, List.set_cons_succ]
      refine held_take (i := 8) (d := 79) (v := ?_) rfl rfl (by kernel_rfl) (by kernel_rfl) (by kernel_rfl) (fun _ _ _ h => h) (by rfl) ?_ (by assumption) ?_
      rotate_left
      · intro w hSw
        (try dsimp only at hSw)
        go_simp
        try with_reducible rfl
      try simp only [Act.put, List.setIfInBounds_toArray, List.set_cons_zero, List.set_cons_succ]
      refine held_take (i := 9) (d := 80) (v := ?_) rfl rfl (by kernel_rfl) (by kernel_rfl) (by kernel_rfl) (fun _ _ _ h => h) (by rfl) ?_ (by assumption) ?_
      rotate_left
      · intro w hSw
        (try dsimp only at hSw)
        go_simp
        try with_reducible rfl
      try simp only [Act.put, List.setIfInBounds_toArray, List.set_cons_zero, List.set_cons_succ]
      refine held_take (i := 10) (d := 81) (v := ?_) rfl rfl (by kernel_rfl) (by kernel_rfl) (by kernel_rfl) (fun _ _ _ h => h) (by rfl) ?_ (by assumption) ?_
      rotate_left
      · intro w hSw
        (try dsimp only at hSw)
        go_simp
        try with_reducible rfl
      try simp only [Act.put, List.setIfInBounds_toArray, List.set_cons_zero, List.set_cons_succ]
      refine held_take (i := 11) (d := 82) (v := ?_) rfl rfl (by kernel_rfl) (by kernel_rfl) (by kernel_rfl) (fun _ _ _ h => h) (by rfl) ?_ (by assumption) ?_
      rotate_left
      · intro w hSw
        (try dsimp only at hSw)
        go_simp
        try with_reducible rfl
      try simp only [Act.put, List.setIfInBounds_toArray, List.set_cons_zero, List.set_cons_succ]
      refine wpAnyH_ready (rs := [12]) (by kernel_rfl) (by simp) ?_
      refine ((AllReadyH.cons rfl (fun K' hK => ?_) AllReadyH.nil))
      go_simp
      refine hK.out _ _ ?_ (fun hHeld => ?_)
      · (try dsimp only)
        exact PZB.out.1.1.cells.2.2.2.2.1
      clear hK K'
      try simp only [Act.put, List.setIfInBounds_toArray, List.set_cons_zero, List.set_cons_succ]
      refine wpAnyH_done (by kernel_rfl) ?_ _
      have PZ := Lib.hid PZB.out.1
      have GZ := Lib.hid (G7.out.trans ((below_drewN (Below.refl g w7) 1).trans PZB.out.2))
      go_wp2_with fail
      exact bodyPost_ret (v := .tuple #[]) (by simp [results, Tryz.results78, go_sem]) rfl ⟨rfl, ⟨_, _, _, _, _, ⟨by rw [HL1.out], by rw [HW1.out], by rw [HW1.out, ← spanP_set cs [] Sp q _ _ HFIN.out, spanP_nil]⟩, PZ.out⟩, GZ.out⟩
    · have hL1 : linesP cs (f + 1) l q = (indS l ++ hT ++ ⟨#[32, 123, 10]⟩) :: ((kids cs (ni : Int)).flatMap (linesP cs f (l + 1)) ++ [indS l ++ ⟨#[125, 10]⟩]) := by rw [HLI.out, hk]; rfl
      have hW1 : walkP cs (f + 1) q = q :: (kids cs (ni : Int)).flatMap (walkP cs f) := HWI.out
      have hS1 : sizeP cs (f + 1) q = 2 + ((kids cs (ni : Int)).map (sizeP cs f)).sum := by rw [HSI.out, hk]; rfl
      have hz0' := hlim.1 hk
      have dl : decide ((0 : Int) < (nl : Int)) = false := not_lt (by omega)
      have dln : decide (0 < nl) = false := decide_eq_false (by omega)
      have hfin : (L.length + 1, L.length + 1 + ((kids cs (ni : Int)).map (sizeP cs f)).sum + 1) = finP cs q := by
        unfold finP
        rw [← hsn, hS1, ← hL, show L.length + 1 + (2 + ((kids cs (ni : Int)).map (sizeP cs f)).sum) - 1 = L.length + 1 + ((kids cs (ni : Int)).map (sizeP cs f)).sum + 1 by omega]
      have HL1 := Lib.hid hL1
      have HW1 := Lib.hid hW1
      have HFIN := Lib.hid hfin
      have hsum : L.length + (2 + ((kids cs (ni : Int)).map (sizeP cs f)).sum) ≤ 2500000 := by rw [← hS1]; exact hL2
      have hwsum : W.length + ((kids cs (ni : Int)).flatMap (walkP cs f)).length + 1 ≤ 2500000 := by rw [hW1] at hW; simp only [List.length_cons] at hW; omega
      -- what a child's call says
      have HREC : Hid (∀ k, k < n → (cs.getD k cls0).p = (ni : Int) → ∀ L' W' Sp' w' lv' wv', PartI cs (ni : Int) f (l + 1) (L ++ [indS l ++ hT ++ ⟨#[32, 123, 10]⟩]) (W ++ [q]) Sp k L' W' Sp' → PrS w' g v0 (.slice (some ⟨gb, 0, none⟩) n cc) v2 v3 lv' wv' L' W' Sp' → Env g gb cs UP w' →
          Calls Tryz.prog 78 #[.pointer (some ⟨g, 0, none⟩), .int .i64 (k : Int), .int .i64 ((l : Int) + 1)] w' (SaysPr w' g v0 (.slice (some ⟨gb, 0, none⟩) n cc) v2 v3 (PartI cs (ni : Int) f (l + 1) (L ++ [indS l ++ hT ++ ⟨#[32, 123, 10]⟩]) (W ++ [q]) Sp (k + 1)))) := Lib.hid (fun k hkn hkp L' W' Sp' w' lv' wv' hI hPr hEn => by
        have hkl : k < cs.length := by have := hn.out; omega
        have hS := partI_kid hkl hkp hI
        have hkm : k ∈ kids cs (cs.getD q cls0).i := by rw [← HKD.out]; exact mem_kids hkl hkp
        have hdk := dep_kid T hql hkm
        obtain ⟨A, R, hAR, hlen⟩ := hS.line
        have hlk := lineP_kid T hql A R (by rw [← HKD.out]; exact hAR)
        have hsz : (A.map (sizeP cs f)).sum = (A.map (sizeP cs 9)).sum := by
          rw [map_same (f := sizeP cs f) (g := sizeP cs 9)]
          intro y hy
          have hym : y ∈ kids cs (cs.getD q cls0).i := by rw [← HKD.out, hAR]; simp [hy]
          exact sizeP_nine T (kids_mem hym).1 (9 - f) f (by omega) (by have := dep_kid T hql hym; omega)
        have hlen2 := hS.len
        simp only [List.length_append, List.length_cons, List.length_nil] at hlen hlen2
        have hWk : W'.length + (walkP cs f k).length ≤ 2500000 := by
          obtain ⟨A', hA', _, hWe, _⟩ := hI
          rw [kidsF_at (ni : Int) cs k hkl _ rfl, if_pos hkp] at hA'
          have hcl := congrArg (fun K => (K.flatMap (walkP cs f)).length) hA'
          simp only [List.flatMap_append, List.flatMap_cons, List.length_append] at hcl
          rw [hWe]
          simp only [List.length_append, List.length_cons, List.length_nil]
          omega
        refine (writePart_any g gb n cc v0 v2 v3 cs T hn f k (l + 1) L' W' Sp' lv' wv' w' (Lib.hid hPr) (Lib.hid hEn) hkn (by omega) (by omega) (by omega) (by rw [hlk, ← hsz]; omega) (by omega) hWk).mono ?_
        rintro e w'' ⟨he, ⟨L2, W2, Sp2, lv2, wv2, ⟨e1, e2, e3⟩, hp2⟩, hb2⟩
        refine ⟨he, ⟨L2, W2, Sp2, lv2, wv2, ?_, hp2⟩, hb2⟩
        rw [e1, e2, e3]
        exact hS.next)
      obtain ⟨J, hJ⟩ : ∃ J, joinB [hT, ⟨#[123]⟩] = J := ⟨_, rfl⟩
      have HJ := Lib.hid hJ
      have hJe : J = hT ++ ⟨#[32, 123]⟩ := by rw [← hJ]; exact join_node hT
      have hJs : J.size ≤ 10000000 := by rw [hJe, ByteArray.size_append, show (⟨#[32, 123]⟩ : ByteArray).size = 2 from rfl]; omega
      have hJ1 : J.size ≤ 140737488355328 := by omega
      have HLN : Hid (indS l ++ J ++ ⟨#[10]⟩ = indS l ++ hT ++ ⟨#[32, 123, 10]⟩) := Lib.hid (by rw [hJe]; exact line_node _ _)
      have HPE : Hid (∀ L' W' Sp', PartI cs (ni : Int) f (l + 1) (L ++ [indS l ++ hT ++ ⟨#[32, 123, 10]⟩]) (W ++ [q]) Sp n L' W' Sp' → L' = L ++ [indS l ++ hT ++ ⟨#[32, 123, 10]⟩] ++ (kids cs (ni : Int)).flatMap (linesP cs f (l + 1)) ∧ W' = W ++ [q] ++ (kids cs (ni : Int)).flatMap (walkP cs f) ∧ Sp' = spanP cs ((kids cs (ni : Int)).flatMap (walkP cs f)) Sp) := Lib.hid (fun L' W' Sp' h => by
        rw [← hn.out] at h
        exact partI_end h)
      have HP0 := Lib.hid (partI_start cs (ni : Int) f (l + 1) (L ++ [indS l ++ hT ++ ⟨#[32, 123, 10]⟩]) (W ++ [q]) Sp)
      have HOT : Hid (∀ k, k < n → (cs.getD k cls0).p ≠ (ni : Int) → ∀ L' W' Sp', PartI cs (ni : Int) f (l + 1) (L ++ [indS l ++ hT ++ ⟨#[32, 123, 10]⟩]) (W ++ [q]) Sp k L' W' Sp' → PartI cs (ni : Int) f (l + 1) (L ++ [indS l ++ hT ++ ⟨#[32, 123, 10]⟩]) (W ++ [q]) Sp (k + 1) L' W' Sp') := Lib.hid (fun k hkn hkp L' W' Sp' h => partI_other (by have := hn.out; omega) hkp h)
      have hflat := flat_len cs f (l + 1) (kids cs (ni : Int))
      generalize indS l ++ hT ++ ⟨#[32, 123, 10]⟩ = ln1 at HLN HREC HL1 HPE HP0 HOT
      have HLE : Hid (indS l ++ ⟨#[125]⟩ ++ ⟨#[10]⟩ = indS l ++ ⟨#[125, 10]⟩) := Lib.hid (line_end _)
      generalize PartI cs (ni : Int) f (l + 1) (L ++ [ln1]) (W ++ [q]) Sp = PI at HREC HPE HP0 HOT
      generalize kids cs (ni : Int) = K at HL1 HW1 HFIN hsum hwsum HPE hflat
      clear hk hlim hL1 hW1 hS1 hfin hJ hJe HWI HSI HLI hL hsn hz0' HKD hL2 hW
      have HW4 := Lib.hid (words_new (w2.setCell ⟨g, 5, none⟩ (.slice aw2 (W.length + 1) cw2)) #[.string hT, .string ⟨#[123]⟩] [hT, ⟨#[123]⟩] rfl 9)
      have hsz3 : w.heap.size < (w2.setCell ⟨g, 5, none⟩ (.slice aw2 (W.length + 1) cw2)).heap.size := World.block_lt_of_cell? _ _ Q2.out.1
      have HBA := Lib.hid (one_new2 (w2.setCell ⟨g, 5, none⟩ (.slice aw2 (W.length + 1) cw2)) (.cells #[.string hT, .string ⟨#[123]⟩] 9))
      have P5 := Lib.hid (P2.out.below HBA.out)
      have hlt4 : (w2.setCell ⟨g, 5, none⟩ (.slice aw2 (W.length + 1) cw2)).heap.size < ((w2.setCell ⟨g, 5, none⟩ (.slice aw2 (W.length + 1) cw2)).alloc (.cells #[.string hT, .string ⟨#[123]⟩] 9)).heap.size := by simp
      have hnb : (w2.setCell ⟨g, 5, none⟩ (.slice aw2 (W.length + 1) cw2)).heap.size = w2.heap.size := Go.Deep.nblk_setCell _ _ _
      rw [hnb] at hlt4 HW4
      clear hnb
      go_wp2_with (go_at_call 37; refine (joinWords_any [hT, ⟨#[123]⟩] _ 2 2 _ HW4 (Lib.hid rfl) hlt4 (by decide) (by decide) J HJ hJ1).mono ?_; rintro e w6 ⟨rfl, b⟩; have P6 := Lib.hid (P5.out.below b); have B6 := Lib.hid (HBA.out.trans (b.mono HBA.out.size)); clear b; refine Hid.out ?_)
      refine Lib.hid ?_
      have HWL := Lib.hid (writeLine_any g l J v0 (.slice (some ⟨gb, 0, none⟩) n cc) v2 v3 _ _ L (W ++ [q]) Sp w6 P6 (by omega) (by omega) hJs)
      rw [HLN.out] at HWL
      have G6 := Lib.hid (G2.out.trans (B6.out.mono (Nat.le_of_lt P2.out.lt)))
      have E6 := Lib.hid (E2.out.on (B6.out.mono (Nat.le_of_lt P2.out.lt)))
      have hQ6 : EightB w6 w.heap.size ⟨(ni : Int), xp, (nr : Int), (ne : Int), (nb : Int), (nu : Int), (no : Int), (nl : Int)⟩ := by
        obtain ⟨a0, a1, a2, a3, a4, a5, a6, a7⟩ := Q2.out
        have q := fun j => (bcell B6.out).1 w.heap.size j hsz3
        exact ⟨(q 0).trans a0, (q 1).trans a1, (q 2).trans a2, (q 3).trans a3, (q 4).trans a4, (q 5).trans a5, (q 6).trans a6, (q 7).trans a7⟩
      have HQ6 := Lib.hid hQ6
      clear hQ6
      go_wp2_with (go_at_call 63; refine (HWL.out).mono ?_; rintro e w7 ⟨rfl, lv7, p7, k7⟩; have P7 := Lib.hid p7; have G7 := Lib.hid (G6.out.trans k7.1); have E7 := Lib.hid (E6.out.on k7.1); have Q7 := Lib.hid (box_keep HQ6.out k7 hgl hbl); clear p7 k7; refine Hid.out ?_)
      refine Lib.hid ?_
      obtain ⟨r0, r1, r2, r3, r4, r5, r6, r7⟩ := Q7.out
      have HEC := Lib.hid (eachP_any g gb n cc v0 v2 v3 cs UP (ni : Int) ((l : Int) + 1) PI hn hm HREC HOT (L ++ [ln1]) (W ++ [q]) Sp lv7 _ w7 HP0 P7 E7)
      go_wp2_with (go_at_call 28; refine (HEC.out).mono ?_; rintro e w8 ⟨rfl, ⟨L8, W8, Sp8, lv8, wv8, hI8, p8⟩, b8⟩; have P8 := Lib.hid p8; have G8 := Lib.hid (G7.out.trans b8); have H8 := Lib.hid (HPE.out _ _ _ hI8); clear p8 b8 hI8; refine Hid.out ?_)
      refine Lib.hid ?_
      obtain ⟨h81, h82, h83⟩ := H8.out
      have hL8 : L8.length = L.length + 1 + (K.map (sizeP cs f)).sum := by
        rw [h81]
        simp only [List.length_append, List.length_cons, List.length_nil, hflat]
      have HWE := Lib.hid (writeLine_any g l ⟨#[125]⟩ v0 (.slice (some ⟨gb, 0, none⟩) n cc) v2 v3 _ _ L8 W8 Sp8 w8 P8 (by omega) (by omega) (by rw [show (⟨#[125]⟩ : ByteArray).size = 1 from rfl]; omega))
      rw [HLE.out] at HWE
      have H81 := Lib.hid h81
      have H82 := Lib.hid h82
      have H83 := Lib.hid h83
      have HL8 := Lib.hid hL8
      clear h81 h82 h83 hL8 H8
      go_wp2_with (go_at_call 63; refine (HWE.out).mono ?_; rintro e w9 ⟨rfl, lv9, p9, k9⟩; have P9 := Lib.hid p9; have G9 := Lib.hid (G8.out.trans k9.1); clear p9 k9; refine Hid.out ?_)
      refine Lib.hid ?_
      obtain ⟨al7, cl7, rfl, _⟩ := own_in P9.out.2.1
      have PD := Lib.hid (P9.out.below (below_drewN (Below.refl w9.heap.size w9) 1))
      obtain ⟨j0, j1, j2, j3, j4, j5, fz7⟩ := PD.out.1.cells
      obtain ⟨s0, s1⟩ := P9.out.1.span q hq24
      have fzw := P9.out.1.cells.2.2.2.2.2.2
      have s2 : ∀ v, (w9.setCell ⟨g, 6 + q * 2, none⟩ v).cell? ⟨g, 6 + q * 2 + 1, none⟩ = some (.int .i64 ((Sp8 q).2 : Int)) := fun v => by rw [World.cell?_setCell_other _ _ _ _ (by simp)]; exact s1
      have s3 : ∀ v, (w9.setCell ⟨g, 6 + q * 2, none⟩ v).frozen? ⟨g, 6 + q * 2 + 1, none⟩ = false := fun v => by simp [fzw]
      have PZB := Lib.hid (PrS.span PD.out q (L.length + 1) (L8.length + 1) hq24 (va := (L.length : Int) + 1) (vb := ((L8.length + 1 : Nat) : Int)) (by omega) rfl)
      have hqi : (q : Int) < 24 := by omega
      have hqi0 : (0 : Int) ≤ q := by omega
      go_wp2_with fail
      refine wp_region_held_drew (S := fun w' => w'.cell? ⟨g, 4, none⟩ = some (.slice al7 ((L8 ++ [indS l ++ ⟨#[125, 10]⟩]).length) cl7)) (by kernel_rfl) ?_ (fun hHeld => ?_)
      · (try dsimp only)
        exact j4
      refine held_take (i := 0) (d := 71) (v := ?_) rfl rfl (by kernel_rfl) (by kernel_rfl) (by kernel_rfl) (fun _ _ _ h => h) (by rfl) ?_ (by assumption) ?_
      rotate_left
      · intro w hSw
        (try dsimp only at hSw)
        go_simp
        try with_reducible rfl
      try simp only [Act.put, List.setIfInBounds_toArray, List.set_cons_zero, List.set_cons_succ]
      refine held_take (i := 1) (d := 72) (v := ?_) rfl rfl (by kernel_rfl) (by kernel_rfl) (by kernel_rfl) (fun _ _ _ h => h) (by rfl) ?_ (by assumption) ?_
      rotate_left
      · intro w hSw
        (try dsimp only at hSw)
        go_simp
        try with_reducible rfl
      try simp only [Act.put, List.setIfInBounds_toArray, List.set_cons_zero, List.set_cons_succ]
      refine held_take (i := 2) (d := 73) (v := ?_) rfl rfl (by kernel_rfl) (by kernel_rfl) (by kernel_rfl) (fun _ _ _ h => h) (by rfl) ?_ (by assumption) ?_
      rotate_left
      · intro w hSw
        (try dsimp only at hSw)
        go_simp
        try with_reducible rfl
      try simp only [Act.put, List.setIfInBounds_toArray, List.set_cons_zero, List.set_cons_succ]
      refine held_take (i := 3) (d := 74) (v := ?_) rfl rfl (by kernel_rfl) (by kernel_rfl) (by kernel_rfl) (fun _ _ _ h => h) (by rfl) ?_ (by assumption) ?_
      rotate_left
      · intro w hSw
        (try dsimp only at hSw)
        go_simp
        try with_reducible rfl
      try simp only [Act.put, List.setIfInBounds_toArray, List.set_cons_zero, List.set_cons_succ]
      refine held_take (i := 4) (d := 75) (v := ?_) rfl rfl (by kernel_rfl) (by kernel_rfl) (by kernel_rfl) (fun _ _ _ h => h) (by rfl) ?_ (by assumption) ?_
      rotate_left
      · intro w hSw
        (try dsimp only at hSw)
        go_simp
        try with_reducible rfl
      try simp only [Act.put, List.setIfInBounds_toArray, List.set_cons_zero, List.set_cons_succ]
      refine held_take (i := 5) (d := 76) (v := ?_) rfl rfl (by kernel_rfl) (by kernel_rfl) (by kernel_rfl) (fun _ _ _ h => h) (by rfl) ?_ (by assumption) ?_
      rotate_left
      · intro w hSw
        (try dsimp only at hSw)
        go_simp
        try with_reducible rfl
      try simp only [Act.put, List.setIfInBounds_toArray, List.set_cons_zero, List.set_cons_succ]
      refine held_take (i := 6) (d := 77) (v := ?_) rfl rfl (by kernel_rfl) (by kernel_rfl) (by kernel_rfl) (fun _ _ _ h => h) (by rfl) ?_ (by assumption) ?_
      rotate_left
      · intro w hSw
        (try dsimp only at hSw)
        go_simp
        try with_reducible rfl
      try simp only [Act.put, List.setIfInBounds_toArray, List.set_cons_zero, List.set_cons_succ]
      refine held_take (i := 7) (d := 78) (v := ?_) rfl rfl (by kernel_rfl) (by kernel_rfl) (by kernel_rfl) (fun _ _ _ h => h) (by rfl) ?_ (by assumption) ?_
      rotate_left
      · intro w hSw
        (try dsimp only at hSw)
        go_simp
        try with_reducible rfl
      try simp only [Act.put, List.setIfInBounds_toArray, List.set_cons_zero, List.set_cons_succ]
      refine held_take (i := 8) (d := 79) (v := ?_) rfl rfl (by kernel_rfl) (by kernel_rfl) (by kernel_rfl) (fun _ _ _ h => h) (by rfl) ?_ (by assumption) ?_
      rotate_left
      · intro w hSw
        (try dsimp only at hSw)
        go_simp
        try with_reducible rfl
      try simp only [Act.put, List.setIfInBounds_toArray, List.set_cons_zero, List.set_cons_succ]
      refine held_take (i := 9) (d := 80) (v := ?_) rfl rfl (by kernel_rfl) (by kernel_rfl) (by kernel_rfl) (fun _ _ _ h => h) (by rfl) ?_ (by assumption) ?_
      rotate_left
      · intro w hSw
        (try dsimp only at hSw)
        go_simp
        try with_reducible rfl
      try simp only [Act.put, List.setIfInBounds_toArray, List.set_cons_zero, List.set_cons_succ]
      refine held_take (i := 10) (d := 81) (v := ?_) rfl rfl (by kernel_rfl) (by kernel_rfl) (by kernel_rfl) (fun _ _ _ h => h) (by rfl) ?_ (by assumption) ?_
      rotate_left
      · intro w hSw
        (try dsimp only at hSw)
        go_simp
        try with_reducible rfl
      try simp only [Act.put, List.setIfInBounds_toArray, List.set_cons_zero, List.set_cons_succ]
      refine held_take (i := 11) (d := 82) (v := ?_) rfl rfl (by kernel_rfl) (by kernel_rfl) (by kernel_rfl) (fun _ _ _ h => h) (by rfl) ?_ (by assumption) ?_
      rotate_left
      · intro w hSw
        (try dsimp only at hSw)
        go_simp
        try with_reducible rfl
      try simp only [Act.put, List.setIfInBounds_toArray, List.set_cons_zero, List.set_cons_succ]
      refine wpAnyH_ready (rs := [12]) (by kernel_rfl) (by simp) ?_
      refine ((AllReadyH.cons rfl (fun K' hK => ?_) AllReadyH.nil))
      go_simp
      refine hK.out _ _ ?_ (fun hHeld => ?_)
      · (try dsimp only)
        exact PZB.out.1.1.cells.2.2.2.2.1
      clear hK K'
      try simp only [Act.put, List.setIfInBounds_toArray, List.set_cons_zero, List.set_cons_succ]
      refine wpAnyH_done (by kernel_rfl) ?_ _
      have PZ := Lib.hid PZB.out.1
      have GZ := Lib.hid (G9.out.trans ((below_drewN (Below.refl g w9) 1).trans PZB.out.2))
      go_wp2_with fail
      exact bodyPost_ret (v := .tuple #[]) (by simp [results, Tryz.results78, go_sem]) rfl ⟨rfl, ⟨_, _, _, _, _, ⟨by rw [HL1.out, H81.out]; simp, by rw [HW1.out, H82.out]; simp, by rw [HW1.out, ← spanP_set cs (K.flatMap (walkP cs f)) Sp q _ _ HFIN.out, H83.out, HL8.out]⟩, PZ.out⟩, GZ.out⟩

end Go.Proofs.YthgbhnedfdnfpaaGreatDoor
