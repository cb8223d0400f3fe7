import Derived.Test.YthgbhnedfdnfpaaGreatDoorPku
import Derived.Lib.AppendZerosOnto
import Derived.Lib.Overlaps
import Derived.Laws.Externs
/- slices.Insert of one class into a row of the call's own. -/
namespace Go.Proofs.YthgbhnedfdnfpaaGreatDoor
set_option maxRecDepth 100000
open Go.RowKit
set_option linter.unusedVariables false
set_option linter.unusedSimpArgs false

theorem wpList_append_run {P : Program} (w : World) {ops : Array Oper} {rest : List Oper} {o : Oper} {a : Act} {Q : Exit → Act → World → Prop} (hgd : o.guard = none) (d s : Operand) (t t' : TypeId)
    (ho : o.op = .call { callee := .builtin .append, args := #[d, s], argTypes := #[t, t'] }) (v u : Value) (hd : a.eval d = v) (hs : a.eval s = u) {v' : Value} {w' : World}
    (hr : (Builtin.append_ #[t, t'] o.type #[v, u]).run P w = .ok v' w') (h : wpList P ops Q rest (a.put o.dst v') w') : wpList P ops Q (o :: rest) a w := by
  refine wpList_plain hgd fun K hK => ?_
  unfold Oper.wp execOp
  simp only [ho, resolve, invoke, builtin, Sem.run_bind, Sem.run_pure, Result.andThen_ok, List.map_toArray, List.map_cons, List.map_nil, hd, hs, hr]
  exact hK _ _ h
def ClsAt (w : World) (b : Nat) (x : Cls) : Prop := w.heap[b]? = some (.cells (clsC x).toArray 41 (0, 0))
theorem ClsAt.cells {w : World} {b : Nat} {x : Cls} (h : ClsAt w b x) (j : Nat) (u : Value) (hu : (clsC x)[j]? = some u) : w.cell? ((⟨b, 0, none⟩ : Addr).add j) = some u := by
  have hadd : (⟨b, 0, none⟩ : Addr).add j = ⟨b, j, none⟩ := by unfold Addr.add; split <;> simp_all
  rw [hadd, cell_of_row w b j _ _ (0, 0) h]
  simpa using hu
end Go.Proofs.YthgbhnedfdnfpaaGreatDoor

/- A class put into its place: the model's (written by tools/gen_cgp.py). -/
namespace Go.Proofs.YthgbhnedfdnfpaaGreatDoor
set_option maxRecDepth 100000
open Go.RowKit
set_option linter.unusedVariables false
set_option linter.unusedSimpArgs false

def putK : List Cls → Int → Nat
  | [], _ => 0
  | y :: r, id => if y.i < id then putK r id + 1 else 0
theorem putK_le : ∀ (l : List Cls) (id : Int), putK l id ≤ l.length
  | [], _ => Nat.le_refl _
  | y :: r, id => by
    unfold putK
    split
    · have := putK_le r id; simp; omega
    · omega
def putC (cs : List Cls) (x : Cls) : List Cls := cs.take (putK cs x.i) ++ x :: cs.drop (putK cs x.i)
def PkRel (w : World) (x : Cls) (cs : List Cls) (id : Int) (K : Nat) (i : Value) (wr : World) : Prop := ∃ j : Nat, j ≤ cs.length ∧ i = .int .i64 j ∧ Hid (j + putK (cs.drop j) id = K) ∧ EightB wr w.heap.size x ∧ w.heap.size < wr.heap.size ∧ Below w.heap.size w wr
theorem putK_at (cs : List Cls) (j : Nat) (hj : j < cs.length) (y : Cls) (hy : cs.getD j cls0 = y) (id : Int) : putK (cs.drop j) id = if y.i < id then putK (cs.drop (j + 1)) id + 1 else 0 := by
  rw [List.getD_eq_getElem?_getD, List.getElem?_eq_getElem hj] at hy
  simp only [Option.getD_some] at hy
  rw [List.drop_eq_getElem_cons hj, hy, putK]
theorem putC_length (cs : List Cls) (x : Cls) : (putC cs x).length = cs.length + 1 := by
  have := putK_le cs x.i
  unfold putC; rw [List.length_append, List.length_cons, List.length_take, List.length_drop]; omega
theorem putC_cells (cs : List Cls) (x : Cls) : (clsCs cs).take (putK cs x.i * 8) ++ clsC x ++ (clsCs cs).drop (putK cs x.i * 8) = clsCs (putC cs x) := by
  unfold putC
  rw [clsCs_append, clsCs_cons, clsCs_take, clsCs_drop, List.append_assoc]
theorem add_off (g o i : Nat) : ((⟨g, o, none⟩ : Addr).add i) = ⟨g, o + i, none⟩ := by unfold Addr.add; split <;> simp_all
theorem step_append_ad {P : Program} (w : World) {ops : Array Oper} {o : Oper} {a : Act} {K : Act → World → Prop} {Q : Exit → Act → World → Prop} {E : Prop} (hgd : o.guard = none) (s x : Operand) (t : TypeId)
    (ho : o.op = .call { callee := .builtin .append, args := #[s, x], argTypes := #[t, t] })
    (base : Nat) (e : TypeId) (i : TypeInfo) (z : Value) (size bytes : Nat) (ht : P.underlying t = some (.slice e)) (hi : P.info? e = some i) (hz : i.zero = some z)
    (hsize : i.size = size) (hby : i.bytes = bytes) (hzs : z.cells.size = size) (hsz : 0 < size)
    (v : Value) (n : Nat) (xs : List Value) (hs : a.eval s = v) (hown : w.ownsRow base e size v n xs)
    (ad : Addr) (m c : Nat) (news : List Value) (hx : a.eval x = .slice (some ad) m c) (hl : news.length = m * size) (hnews : ∀ j u, news[j]? = some u → w.cell? (ad.add j) = some u) (h1 : ∀ u ∈ news, u.oneCell' = true)
    (h63 : n + m ≤ maxLen) (hbytes : (n + m) * bytes ≤ 140737488355328) (hbase : base ≤ w.heap.size)
    (h : ∀ v' w', w'.ownsRow base e size v' (n + m) (xs ++ news) → w.grownBy w' v.ownBlock → K (a.put o.dst v') w') :
    if Region.wanted o (yielded ops a.tmps) = true then Oper.wp P o a w K Q else E := by
  have hw : Region.wanted o (yielded ops a.tmps) = true := by simp [Region.wanted, hgd]
  rw [if_pos hw]
  obtain ⟨v', w', hr, h2, h3, _, _⟩ := run_append_own_at (P := P) w base t o.type e i z size bytes ht hi hz hsize hby hzs hsz v n xs hown ad m c news hl hnews h1 h63 hbytes hbase
  unfold Oper.wp execOp
  simp only [ho, resolve, invoke, builtin, Sem.run_bind, Sem.run_pure, Result.andThen_ok, List.map_toArray, List.map_cons, List.map_nil, hs, hx, hr]
  exact h v' w' h2 h3
set_option maxHeartbeats 6400000 in
theorem cfPut_any (v : Value) (B : Nat) (cs : List Cls) (x : Cls) (w : World) (HO : Hid (w.ownsRow B 41 8 v cs.length (clsCs cs))) (hn : cs.length ≤ 1048576) (hpos : 1 ≤ cs.length) :
    Calls Tryz.prog 105 #[v, clsV x] w fun e w' => ∃ r, e = .returned r ∧ w'.ownsRow w.heap.size 41 8 r (cs.length + 1) (clsCs (putC cs x)) ∧ Below w.heap.size w w' := by
  obtain ⟨a, c, rfl, hi⟩ := own_in HO.out
  obtain ⟨g, rfl, ht, hg⟩ := hi (by omega)
  have HT := Lib.hid ht
  obtain ⟨i0, hi0, hw0, hw1, hw2⟩ := info_parts infoCls
  have hcap := (own_cap HO.out).1
  have HPC := Lib.hid (putC_cells cs x)
  obtain ⟨xi, xp, xr, xe, xb, xu, xo, xl⟩ := x
  unfold clsV
  simp only at HPC ⊢
  clear hi ht
  obtain ⟨K, hK⟩ : ∃ K, putK cs xi = K := ⟨_, rfl⟩
  have HK := Lib.hid hK
  rw [hK] at HPC
  clear hK
  generalize clsCs (putC cs ⟨xi, xp, xr, xe, xb, xu, xo, xl⟩) = RC at HPC ⊢
  go_enter Tryz.func105, Tryz.ntmps105
  go_wp2_with fail
  go_loopw [5] (fun i wr => PkRel w ⟨xi, xp, xr, xe, xb, xu, xo, xl⟩ cs xi K i wr) (fun i _ => cs.length - (intOf i).toNat)
  case atStart => exact ⟨0, Nat.zero_le _, rfl, Lib.hid (by rw [List.drop_zero, Nat.zero_add]; exact HK.out), (box_eight (Below.refl _ _)).1, by simp, one_new2 _ _⟩
  case round =>
    obtain ⟨j, hj, rfl, HP, he, hw, hb⟩ := hrel
    have HE := Lib.hid he
    have HB := Lib.hid hb
    have e0 := he.1
    have hjc : j ≤ c := by omega
    clear he hb
    by_cases hlt : j < cs.length
    · obtain ⟨y, hy⟩ : ∃ y, cs.getD j cls0 = y := ⟨_, rfl⟩
      obtain ⟨a0, _⟩ := (HT.out.below HB.out hg).cls j hlt y hy
      have HQ := Lib.hid (putK_at cs j hlt y hy xi)
      obtain ⟨yi, yp, yr, ye, yb, yu, yo, yl⟩ := y
      simp only at a0 e0 HQ
      clear hy
      by_cases hq : yi < xi
      · have dq : decide (yi < xi) = true := by simpa using hq
        have HX : Hid (j + 1 + putK (cs.drop (j + 1)) xi = K) := Lib.hid (by rw [← HP.out, HQ.out, if_pos hq]; omega)
        clear HQ HP hq
        go_wp2_with fail
        go_quiet (fail)
        go_wp2_with fail
        go_roundw
        case rel => exact ⟨j + 1, by omega, by go_num, HX, HE.out.on2 (below_drewN (Below.refl _ _) _) hw, hw, HB.out.trans (below_drewN (Below.refl _ _) _ |>.mono HB.out.size)⟩
        case measure => simp [intOf]; omega
      · have dq : decide (yi < xi) = false := by simpa using hq
        have HX : Hid (j = K) := Lib.hid (by rw [← HP.out, HQ.out, if_neg hq]; omega)
        clear HQ HP hq
        go_wp2_with fail
        go_quiet (fail)
        obtain ⟨wq, hwq⟩ : ∃ u, wr.drewN nq = u := ⟨_, rfl⟩
        have HBq : Hid (Below w.heap.size w wq) := Lib.hid (by rw [← hwq]; exact HB.out.trans ((below_drewN (Below.refl _ _) _).mono HB.out.size))
        have HEq : Hid (EightB wq w.heap.size ⟨xi, xp, xr, xe, xb, xu, xo, xl⟩) := Lib.hid (by rw [← hwq]; exact HE.out.on2 (below_drewN (Below.refl _ _) _) hw)
        have hq1 : w.heap.size + 1 ≤ wq.heap.size := by rw [← hwq]; exact hw
        rw [hwq]
        clear hwq
        obtain rfl := HX.out
        have F1 := Lib.hid (own_empty wq (w.heap.size + 1) 41 8 hq1)
        have F2 := Lib.hid (own_news (own_take (own_low (own_low HO.out HBq.out (Nat.le_refl _)) (one_new2 wq (Obj.cells #[] 41)) (Nat.le_refl _)) j hj))
        have F3 : Hid (((clsCs cs).take (j * 8)).length = j * 8) := Lib.hid (by rw [List.length_take, clsCs_length]; omega)
        have F4 : Hid (∀ u ∈ (clsCs cs).take (j * 8), u.oneCell' = true) := Lib.hid (fun u hu => clsCs_one cs u (List.mem_of_mem_take hu))
        clear HX
        go_wp2_with (at_builtin; refine wpList_append_own _ rfl _ _ 23 rfl (w.heap.size + 1) 41 i0 (.agg #[.int .i64 0, .int .i64 0, .int .i64 0, .int .i64 0, .int .i64 0, .int .i64 0, .int .i64 0, .int .i64 0]) 8 64 Tryz.underlying23 hi0 hw0 hw1 hw2 rfl (by decide) (.slice (some ⟨wq.heap.size, 0, none⟩) 0 0) 0 [] (by rfl) F1.out ⟨g, 0, none⟩ j c ((clsCs cs).take (j * 8)) (by rfl) F3.out F2.out F4.out (by unfold maxLen; omega) (by omega) (by simp; omega) ?_; intro v1 w4 hown1 hgrow1 _; have HW := Lib.hid (And.intro hown1 hgrow1); clear hown1 hgrow1; refine Hid.out ?_)
        refine Lib.hid ?_
        have R1 : Hid (w4.ownsRow (w.heap.size + 1) 41 8 v1 j ((clsCs cs).take (j * 8))) := Lib.hid (by have q := HW.out.1; rw [Nat.zero_add, List.nil_append] at q; exact q)
        have BB : Hid (Below (w.heap.size + 1) wq w4) := Lib.hid (Below.grown ((Below.refl (w.heap.size + 1) wq).alloc hq1 (Obj.cells #[] 41)) HW.out.2 (by simp; omega) (fun q hq => (World.ownsRow.lt F1.out q hq).1))
        obtain ⟨a1, c1, rfl, _⟩ := own_in R1.out
        have hs4 := BB.out.size
        have HS : Hid (∀ w', Below (w.heap.size + 1) wq w' → w'.cell? ⟨w.heap.size, 0, none⟩ = some (.int .i64 xi) ∧ w'.cell? ⟨w.heap.size, 1, none⟩ = some (.int .i64 xp) ∧ w'.cell? ⟨w.heap.size, 2, none⟩ = some (.int .i64 xr) ∧ w'.cell? ⟨w.heap.size, 3, none⟩ = some (.int .i64 xe) ∧ w'.cell? ⟨w.heap.size, 4, none⟩ = some (.int .i64 xb) ∧ w'.cell? ⟨w.heap.size, 5, none⟩ = some (.int .i64 xu) ∧ w'.cell? ⟨w.heap.size, 6, none⟩ = some (.int .i64 xo) ∧ w'.cell? ⟨w.heap.size, 7, none⟩ = some (.int .i64 xl) ∧ Below (w.heap.size + 1) wq w') := Lib.hid (fun w' h => by
          obtain ⟨y0, y1, y2, y3, y4, y5, y6, y7⟩ := HEq.out.on2 h (Nat.lt_succ_self _)
          exact ⟨y0, y1, y2, y3, y4, y5, y6, y7, h⟩)
        have D1 : Hid (((clsCs cs).drop (j * 8)).length = (cs.length - j) * 8) := Lib.hid (by rw [List.length_drop, clsCs_length]; omega)
        have D2 : Hid (∀ u ∈ (clsCs cs).drop (j * 8), u.oneCell' = true) := Lib.hid (fun u hu => clsCs_one cs u (List.mem_of_mem_drop hu))
        obtain ⟨ad, had, hD3⟩ : ∃ ad : Addr, (if c = j then some ⟨g, 0, none⟩ else some ⟨g, j * 8, none⟩) = some ad ∧ ∀ w', Below w.heap.size w w' → ∀ i u, ((clsCs cs).drop (j * 8))[i]? = some u → w'.cell? (ad.add i) = some u := by
          by_cases hcj : c = j
          · refine ⟨⟨g, 0, none⟩, if_pos hcj, fun w' _ i u hu => ?_⟩
            have := D1.out
            rw [List.getElem?_eq_none (by omega)] at hu
            cases hu
          · refine ⟨⟨g, j * 8, none⟩, if_neg hcj, fun w' b i u hu => ?_⟩
            rw [List.getElem?_drop] at hu
            have q := own_news (own_low HO.out b (Nat.le_refl _)) (j * 8 + i) u hu
            have e1 := add_off g (j * 8) i
            have e2 := add_off g 0 (j * 8 + i)
            rw [Nat.zero_add] at e2
            rw [e1]; rw [e2] at q; exact q
        have HAD := Lib.hid had
        have D3 := Lib.hid hD3
        clear HW F1 F2 F3 F4 had hD3
        go_upto_region 5 with fail
        refine wp_region_held_drew (S := fun w' => w'.cell? ⟨w.heap.size, 0, none⟩ = some (.int .i64 xi) ∧ w'.cell? ⟨w.heap.size, 1, none⟩ = some (.int .i64 xp) ∧ w'.cell? ⟨w.heap.size, 2, none⟩ = some (.int .i64 xr) ∧ w'.cell? ⟨w.heap.size, 3, none⟩ = some (.int .i64 xe) ∧ w'.cell? ⟨w.heap.size, 4, none⟩ = some (.int .i64 xb) ∧ w'.cell? ⟨w.heap.size, 5, none⟩ = some (.int .i64 xu) ∧ w'.cell? ⟨w.heap.size, 6, none⟩ = some (.int .i64 xo) ∧ w'.cell? ⟨w.heap.size, 7, none⟩ = some (.int .i64 xl) ∧ Below (w.heap.size + 1) wq w') (by kernel_rfl) ?_ (fun hHeld => ?_)
        · (try dsimp only)
          exact HS.out _ (BB.out.trans (below_drewN (Below.refl _ _) 1 |>.mono (by omega)))
        refine held_take (i := 0) (d := 28) (v := ?_) rfl rfl (by kernel_rfl) (by kernel_rfl) (by kernel_rfl) (fun _ _ _ h => h) (by rfl) ?_ (by assumption) ?_
        rotate_left
        · intro w hSw
          (try dsimp only at hSw)
          go_simp
          try with_reducible rfl
        try simp only [Act.put, List.setIfInBounds_toArray, List.set_cons_zero, List.set_cons_succ]
        refine held_take (i := 1) (d := 29) (v := ?_) rfl rfl (by kernel_rfl) (by kernel_rfl) (by kernel_rfl) (fun _ _ _ h => h) (by rfl) ?_ (by assumption) ?_
        rotate_left
        · intro w hSw
          (try dsimp only at hSw)
          go_simp
          try with_reducible rfl
        try simp only [Act.put, List.setIfInBounds_toArray, List.set_cons_zero, List.set_cons_succ]
        refine held_take (i := 4) (d := 32) (v := ?_) rfl rfl (by kernel_rfl) (by kernel_rfl) (by kernel_rfl) (fun _ _ _ h => h) (by rfl) ?_ (by assumption) ?_
        rotate_left
        · intro w hSw
          (try dsimp only at hSw)
          go_simp
          try with_reducible rfl
        try simp only [Act.put, List.setIfInBounds_toArray, List.set_cons_zero, List.set_cons_succ]
        refine held_take (i := 5) (d := 33) (v := ?_) rfl rfl (by kernel_rfl) (by kernel_rfl) (by kernel_rfl) (fun _ _ _ h => h) (by rfl) ?_ (by assumption) ?_
        rotate_left
        · intro w hSw
          (try dsimp only at hSw)
          go_simp
          try with_reducible rfl
        try simp only [Act.put, List.setIfInBounds_toArray, List.set_cons_zero, List.set_cons_succ]
        refine held_take (i := 6) (d := 34) (v := ?_) rfl rfl (by kernel_rfl) (by kernel_rfl) (by kernel_rfl) (fun _ _ _ h => h) (by rfl) ?_ (by assumption) ?_
        rotate_left
        · intro w hSw
          (try dsimp only at hSw)
          go_simp
          try with_reducible rfl
        try simp only [Act.put, List.setIfInBounds_toArray, List.set_cons_zero, List.set_cons_succ]
        rw [HAD.out]
        have B0 : Hid (Below (w.heap.size + 1) wq w4.drew) := Lib.hid (BB.out.trans (below_drewN (Below.refl _ _) 1 |>.mono (by omega)))
        have R0 : Hid (w4.drew.ownsRow (w.heap.size + 1) 41 8 (.slice a1 j c1) j ((clsCs cs).take (j * 8))) := Lib.hid (own_low R1.out (below_drewN (Below.refl _ _) 1) (Nat.le_refl _))
        obtain ⟨u0, hu0⟩ : ∃ u0, w4.drew = u0 := ⟨_, rfl⟩
        rw [hu0] at hHeld B0 R0 ⊢
        clear hu0 BB R1
        have hs0 := B0.out.size
        refine wpAnyH_ready (rs := [2]) (by kernel_rfl) (by simp) ?_
        refine ((AllReadyH.cons rfl (fun K' hK => ?_) AllReadyH.nil))
        go_simp
        refine hK.out _ _ ?_ (fun hHeld => ?_)
        · (try dsimp only)
          exact HS.out _ (B0.out.alloc (by omega) _)
        clear hK K'
        try simp only [Act.put, List.setIfInBounds_toArray, List.set_cons_zero, List.set_cons_succ]
        have B1 := Lib.hid (B0.out.alloc (by omega) (Obj.cells #[.int .i64 xi, .int .i64 xp, .int .i64 xr, .int .i64 xe, .int .i64 xb, .int .i64 xu, .int .i64 xo, .int .i64 xl] 41))
        have G1 := Lib.hid (own_low R0.out (one_new2 u0 (Obj.cells #[.int .i64 xi, .int .i64 xp, .int .i64 xr, .int .i64 xe, .int .i64 xb, .int .i64 xu, .int .i64 xo, .int .i64 xl] 41)) (Nat.le_refl _))
        have G2 := Lib.hid (eight_cells u0 ⟨xi, xp, xr, xe, xb, xu, xo, xl⟩ 41)
        refine wpAnyH_ready (rs := [3]) (by kernel_rfl) (by simp) ?_
        refine ((AllReadyH.cons rfl (fun K' hK => ?_) AllReadyH.nil))
        refine step_append_ad _ rfl (.tmp 28) (.tmp 30) 23 rfl (w.heap.size + 1) 41 i0 (.agg #[.int .i64 0, .int .i64 0, .int .i64 0, .int .i64 0, .int .i64 0, .int .i64 0, .int .i64 0, .int .i64 0]) 8 64 Tryz.underlying23 hi0 hw0 hw1 hw2 rfl (by decide) (.slice a1 j c1) j ((clsCs cs).take (j * 8)) (by rfl) G1.out ⟨u0.heap.size, 0, none⟩ 1 1 (clsC ⟨xi, xp, xr, xe, xb, xu, xo, xl⟩) (by rfl) rfl G2.out (clsC_one _) (by unfold maxLen; omega) (by omega) (Nat.le_trans hq1 B1.out.size) ?_
        intro v2 u2 hown hgrow
        have R2 := Lib.hid hown
        have B2 : Hid (Below (w.heap.size + 1) wq u2) := Lib.hid (Below.grown B1.out hgrow (Nat.le_trans hq1 B1.out.size) (fun q hq => (World.ownsRow.lt G1.out q hq).1))
        obtain ⟨a2, c2, rfl, _⟩ := own_in hown
        refine hK.out _ _ ?_ (fun hHeld => ?_)
        · (try dsimp only)
          exact HS.out _ B2.out
        clear hK K'
        try simp only [Act.put, List.setIfInBounds_toArray, List.set_cons_zero, List.set_cons_succ]
        clear hown hgrow
        have D4 := Lib.hid (D3.out u2 (HBq.out.trans (B2.out.mono (by omega))))
        refine wpAnyH_ready (rs := [7]) (by kernel_rfl) (by simp) ?_
        refine ((AllReadyH.cons rfl (fun K' hK => ?_) AllReadyH.nil))
        refine step_append_ad _ rfl (.tmp 31) (.tmp 34) 23 rfl (w.heap.size + 1) 41 i0 (.agg #[.int .i64 0, .int .i64 0, .int .i64 0, .int .i64 0, .int .i64 0, .int .i64 0, .int .i64 0, .int .i64 0]) 8 64 Tryz.underlying23 hi0 hw0 hw1 hw2 rfl (by decide) (.slice a2 (j + 1) c2) (j + 1) _ (by rfl) R2.out ad (cs.length - j) (c - j) ((clsCs cs).drop (j * 8)) (by rfl) D1.out D4.out D2.out (by unfold maxLen; omega) (by omega) (Nat.le_trans hq1 B2.out.size) ?_
        intro v3 u3 hown hgrow
        have R3 := Lib.hid hown
        have B3 : Hid (Below (w.heap.size + 1) wq u3) := Lib.hid (Below.grown B2.out hgrow (Nat.le_trans hq1 B2.out.size) (fun q hq => (World.ownsRow.lt R2.out q hq).1))
        obtain ⟨a3, c3, rfl, _⟩ := own_in hown
        refine hK.out _ _ ?_ (fun hHeld => ?_)
        · (try dsimp only)
          exact HS.out _ B3.out
        clear hK K'
        try simp only [Act.put, List.setIfInBounds_toArray, List.set_cons_zero, List.set_cons_succ]
        clear hown hgrow
        refine held_take (i := 8) (d := 4) (v := ?_) rfl rfl (by kernel_rfl) (by kernel_rfl) (by kernel_rfl) (fun _ _ _ h => h) (by rfl) ?_ (by assumption) ?_
        rotate_left
        · intro w hSw
          (try dsimp only at hSw)
          go_simp
          try with_reducible rfl
        try simp only [Act.put, List.setIfInBounds_toArray, List.set_cons_zero, List.set_cons_succ]
        refine wpAnyH_done (by kernel_rfl) ?_ _
        go_wp2_with fail
        go_ret
        refine ⟨_, rfl, ?_, HBq.out.trans (B3.out.mono (by omega))⟩
        have q := own_base R3.out (Nat.le_succ w.heap.size)
        rw [HPC.out, show j + 1 + (cs.length - j) = cs.length + 1 by omega] at q
        rw [show j + 1 + (cs.length - j) = cs.length + 1 by omega]
        exact q
    · have HX : Hid (j = K) := Lib.hid (by rw [← HP.out, List.drop_eq_nil_of_le (by omega)]; rfl)
      go_wp2_with fail
      go_quiet (fail)
      obtain ⟨wq, hwq⟩ : ∃ u, wr.drewN nq = u := ⟨_, rfl⟩
      have HBq : Hid (Below w.heap.size w wq) := Lib.hid (by rw [← hwq]; exact HB.out.trans ((below_drewN (Below.refl _ _) _).mono HB.out.size))
      have HEq : Hid (EightB wq w.heap.size ⟨xi, xp, xr, xe, xb, xu, xo, xl⟩) := Lib.hid (by rw [← hwq]; exact HE.out.on2 (below_drewN (Below.refl _ _) _) hw)
      have hq1 : w.heap.size + 1 ≤ wq.heap.size := by rw [← hwq]; exact hw
      rw [hwq]
      clear hwq
      obtain rfl := HX.out
      have F1 := Lib.hid (own_empty wq (w.heap.size + 1) 41 8 hq1)
      have F2 := Lib.hid (own_news (own_take (own_low (own_low HO.out HBq.out (Nat.le_refl _)) (one_new2 wq (Obj.cells #[] 41)) (Nat.le_refl _)) j hj))
      have F3 : Hid (((clsCs cs).take (j * 8)).length = j * 8) := Lib.hid (by rw [List.length_take, clsCs_length]; omega)
      have F4 : Hid (∀ u ∈ (clsCs cs).take (j * 8), u.oneCell' = true) := Lib.hid (fun u hu => clsCs_one cs u (List.mem_of_mem_take hu))
      clear HX
      go_wp2_with (at_builtin; refine wpList_append_own _ rfl _ _ 23 rfl (w.heap.size + 1) 41 i0 (.agg #[.int .i64 0, .int .i64 0, .int .i64 0, .int .i64 0, .int .i64 0, .int .i64 0, .int .i64 0, .int .i64 0]) 8 64 Tryz.underlying23 hi0 hw0 hw1 hw2 rfl (by decide) (.slice (some ⟨wq.heap.size, 0, none⟩) 0 0) 0 [] (by rfl) F1.out ⟨g, 0, none⟩ j c ((clsCs cs).take (j * 8)) (by rfl) F3.out F2.out F4.out (by unfold maxLen; omega) (by omega) (by simp; omega) ?_; intro v1 w4 hown1 hgrow1 _; have HW := Lib.hid (And.intro hown1 hgrow1); clear hown1 hgrow1; refine Hid.out ?_)
      refine Lib.hid ?_
      have R1 : Hid (w4.ownsRow (w.heap.size + 1) 41 8 v1 j ((clsCs cs).take (j * 8))) := Lib.hid (by have q := HW.out.1; rw [Nat.zero_add, List.nil_append] at q; exact q)
      have BB : Hid (Below (w.heap.size + 1) wq w4) := Lib.hid (Below.grown ((Below.refl (w.heap.size + 1) wq).alloc hq1 (Obj.cells #[] 41)) HW.out.2 (by simp; omega) (fun q hq => (World.ownsRow.lt F1.out q hq).1))
      obtain ⟨a1, c1, rfl, _⟩ := own_in R1.out
      have hs4 := BB.out.size
      have HS : Hid (∀ w', Below (w.heap.size + 1) wq w' → w'.cell? ⟨w.heap.size, 0, none⟩ = some (.int .i64 xi) ∧ w'.cell? ⟨w.heap.size, 1, none⟩ = some (.int .i64 xp) ∧ w'.cell? ⟨w.heap.size, 2, none⟩ = some (.int .i64 xr) ∧ w'.cell? ⟨w.heap.size, 3, none⟩ = some (.int .i64 xe) ∧ w'.cell? ⟨w.heap.size, 4, none⟩ = some (.int .i64 xb) ∧ w'.cell? ⟨w.heap.size, 5, none⟩ = some (.int .i64 xu) ∧ w'.cell? ⟨w.heap.size, 6, none⟩ = some (.int .i64 xo) ∧ w'.cell? ⟨w.heap.size, 7, none⟩ = some (.int .i64 xl) ∧ Below (w.heap.size + 1) wq w') := Lib.hid (fun w' h => by
        obtain ⟨y0, y1, y2, y3, y4, y5, y6, y7⟩ := HEq.out.on2 h (Nat.lt_succ_self _)
        exact ⟨y0, y1, y2, y3, y4, y5, y6, y7, h⟩)
      have D1 : Hid (((clsCs cs).drop (j * 8)).length = (cs.length - j) * 8) := Lib.hid (by rw [List.length_drop, clsCs_length]; omega)
      have D2 : Hid (∀ u ∈ (clsCs cs).drop (j * 8), u.oneCell' = true) := Lib.hid (fun u hu => clsCs_one cs u (List.mem_of_mem_drop hu))
      obtain ⟨ad, had, hD3⟩ : ∃ ad : Addr, (if c = j then some ⟨g, 0, none⟩ else some ⟨g, j * 8, none⟩) = some ad ∧ ∀ w', Below w.heap.size w w' → ∀ i u, ((clsCs cs).drop (j * 8))[i]? = some u → w'.cell? (ad.add i) = some u := by
        by_cases hcj : c = j
        · refine ⟨⟨g, 0, none⟩, if_pos hcj, fun w' _ i u hu => ?_⟩
          have := D1.out
          rw [List.getElem?_eq_none (by omega)] at hu
          cases hu
        · refine ⟨⟨g, j * 8, none⟩, if_neg hcj, fun w' b i u hu => ?_⟩
          rw [List.getElem?_drop] at hu
          have q := own_news (own_low HO.out b (Nat.le_refl _)) (j * 8 + i) u hu
          have e1 := add_off g (j * 8) i
          have e2 := add_off g 0 (j * 8 + i)
          rw [Nat.zero_add] at e2
          rw [e1]; rw [e2] at q; exact q
      have HAD := Lib.hid had
      have D3 := Lib.hid hD3
      clear HW F1 F2 F3 F4 had hD3
      go_upto_region 5 with fail
      refine wp_region_held_drew (S := fun w' => w'.cell? ⟨w.heap.size, 0, none⟩ = some (.int .i64 xi) ∧ w'.cell? ⟨w.heap.size, 1, none⟩ = some (.int .i64 xp) ∧ w'.cell? ⟨w.heap.size, 2, none⟩ = some (.int .i64 xr) ∧ w'.cell? ⟨w.heap.size, 3, none⟩ = some (.int .i64 xe) ∧ w'.cell? ⟨w.heap.size, 4, none⟩ = some (.int .i64 xb) ∧ w'.cell? ⟨w.heap.size, 5, none⟩ = some (.int .i64 xu) ∧ w'.cell? ⟨w.heap.size, 6, none⟩ = some (.int .i64 xo) ∧ w'.cell? ⟨w.heap.size, 7, none⟩ = some (.int .i64 xl) ∧ Below (w.heap.size + 1) wq w') (by kernel_rfl) ?_ (fun hHeld => ?_)
      · (try dsimp only)
        exact HS.out _ (BB.out.trans (below_drewN (Below.refl _ _) 1 |>.mono (by omega)))
      refine held_take (i := 0) (d := 28) (v := ?_) rfl rfl (by kernel_rfl) (by kernel_rfl) (by kernel_rfl) (fun _ _ _ h => h) (by rfl) ?_ (by assumption) ?_
      rotate_left
      · intro w hSw
        (try dsimp only at hSw)
        go_simp
        try with_reducible rfl
      try simp only [Act.put, List.setIfInBounds_toArray, List.set_cons_zero, List.set_cons_succ]
      refine held_take (i := 1) (d := 29) (v := ?_) rfl rfl (by kernel_rfl) (by kernel_rfl) (by kernel_rfl) (fun _ _ _ h => h) (by rfl) ?_ (by assumption) ?_
      rotate_left
      · intro w hSw
        (try dsimp only at hSw)
        go_simp
        try with_reducible rfl
      try simp only [Act.put, List.setIfInBounds_toArray, List.set_cons_zero, List.set_cons_succ]
      refine held_take (i := 4) (d := 32) (v := ?_) rfl rfl (by kernel_rfl) (by kernel_rfl) (by kernel_rfl) (fun _ _ _ h => h) (by rfl) ?_ (by assumption) ?_
      rotate_left
      · intro w hSw
        (try dsimp only at hSw)
        go_simp
        try with_reducible rfl
      try simp only [Act.put, List.setIfInBounds_toArray, List.set_cons_zero, List.set_cons_succ]
      refine held_take (i := 5) (d := 33) (v := ?_) rfl rfl (by kernel_rfl) (by kernel_rfl) (by kernel_rfl) (fun _ _ _ h => h) (by rfl) ?_ (by assumption) ?_
      rotate_left
      · intro w hSw
        (try dsimp only at hSw)
        go_simp
        try with_reducible rfl
      try simp only [Act.put, List.setIfInBounds_toArray, List.set_cons_zero, List.set_cons_succ]
      refine held_take (i := 6) (d := 34) (v := ?_) rfl rfl (by kernel_rfl) (by kernel_rfl) (by kernel_rfl) (fun _ _ _ h => h) (by rfl) ?_ (by assumption) ?_
      rotate_left
      · intro w hSw
        (try dsimp only at hSw)
        go_simp
        try with_reducible rfl
      try simp only [Act.put, List.setIfInBounds_toArray, List.set_cons_zero, List.set_cons_succ]
      rw [HAD.out]
      have B0 : Hid (Below (w.heap.size + 1) wq w4.drew) := Lib.hid (BB.out.trans (below_drewN (Below.refl _ _) 1 |>.mono (by omega)))
      have R0 : Hid (w4.drew.ownsRow (w.heap.size + 1) 41 8 (.slice a1 j c1) j ((clsCs cs).take (j * 8))) := Lib.hid (own_low R1.out (below_drewN (Below.refl _ _) 1) (Nat.le_refl _))
      obtain ⟨u0, hu0⟩ : ∃ u0, w4.drew = u0 := ⟨_, rfl⟩
      rw [hu0] at hHeld B0 R0 ⊢
      clear hu0 BB R1
      have hs0 := B0.out.size
      refine wpAnyH_ready (rs := [2]) (by kernel_rfl) (by simp) ?_
      refine ((AllReadyH.cons rfl (fun K' hK => ?_) AllReadyH.nil))
      go_simp
      refine hK.out _ _ ?_ (fun hHeld => ?_)
      · (try dsimp only)
        exact HS.out _ (B0.out.alloc (by omega) _)
      clear hK K'
      try simp only [Act.put, List.setIfInBounds_toArray, List.set_cons_zero, List.set_cons_succ]
      have B1 := Lib.hid (B0.out.alloc (by omega) (Obj.cells #[.int .i64 xi, .int .i64 xp, .int .i64 xr, .int .i64 xe, .int .i64 xb, .int .i64 xu, .int .i64 xo, .int .i64 xl] 41))
      have G1 := Lib.hid (own_low R0.out (one_new2 u0 (Obj.cells #[.int .i64 xi, .int .i64 xp, .int .i64 xr, .int .i64 xe, .int .i64 xb, .int .i64 xu, .int .i64 xo, .int .i64 xl] 41)) (Nat.le_refl _))
      have G2 := Lib.hid (eight_cells u0 ⟨xi, xp, xr, xe, xb, xu, xo, xl⟩ 41)
      refine wpAnyH_ready (rs := [3]) (by kernel_rfl) (by simp) ?_
      refine ((AllReadyH.cons rfl (fun K' hK => ?_) AllReadyH.nil))
      refine step_append_ad _ rfl (.tmp 28) (.tmp 30) 23 rfl (w.heap.size + 1) 41 i0 (.agg #[.int .i64 0, .int .i64 0, .int .i64 0, .int .i64 0, .int .i64 0, .int .i64 0, .int .i64 0, .int .i64 0]) 8 64 Tryz.underlying23 hi0 hw0 hw1 hw2 rfl (by decide) (.slice a1 j c1) j ((clsCs cs).take (j * 8)) (by rfl) G1.out ⟨u0.heap.size, 0, none⟩ 1 1 (clsC ⟨xi, xp, xr, xe, xb, xu, xo, xl⟩) (by rfl) rfl G2.out (clsC_one _) (by unfold maxLen; omega) (by omega) (Nat.le_trans hq1 B1.out.size) ?_
      intro v2 u2 hown hgrow
      have R2 := Lib.hid hown
      have B2 : Hid (Below (w.heap.size + 1) wq u2) := Lib.hid (Below.grown B1.out hgrow (Nat.le_trans hq1 B1.out.size) (fun q hq => (World.ownsRow.lt G1.out q hq).1))
      obtain ⟨a2, c2, rfl, _⟩ := own_in hown
      refine hK.out _ _ ?_ (fun hHeld => ?_)
      · (try dsimp only)
        exact HS.out _ B2.out
      clear hK K'
      try simp only [Act.put, List.setIfInBounds_toArray, List.set_cons_zero, List.set_cons_succ]
      clear hown hgrow
      have D4 := Lib.hid (D3.out u2 (HBq.out.trans (B2.out.mono (by omega))))
      refine wpAnyH_ready (rs := [7]) (by kernel_rfl) (by simp) ?_
      refine ((AllReadyH.cons rfl (fun K' hK => ?_) AllReadyH.nil))
      refine step_append_ad _ rfl (.tmp 31) (.tmp 34) 23 rfl (w.heap.size + 1) 41 i0 (.agg #[.int .i64 0, .int .i64 0, .int .i64 0, .int .i64 0, .int .i64 0, .int .i64 0, .int .i64 0, .int .i64 0]) 8 64 Tryz.underlying23 hi0 hw0 hw1 hw2 rfl (by decide) (.slice a2 (j + 1) c2) (j + 1) _ (by rfl) R2.out ad (cs.length - j) (c - j) ((clsCs cs).drop (j * 8)) (by rfl) D1.out D4.out D2.out (by unfold maxLen; omega) (by omega) (Nat.le_trans hq1 B2.out.size) ?_
      intro v3 u3 hown hgrow
      have R3 := Lib.hid hown
      have B3 : Hid (Below (w.heap.size + 1) wq u3) := Lib.hid (Below.grown B2.out hgrow (Nat.le_trans hq1 B2.out.size) (fun q hq => (World.ownsRow.lt R2.out q hq).1))
      obtain ⟨a3, c3, rfl, _⟩ := own_in hown
      refine hK.out _ _ ?_ (fun hHeld => ?_)
      · (try dsimp only)
        exact HS.out _ B3.out
      clear hK K'
      try simp only [Act.put, List.setIfInBounds_toArray, List.set_cons_zero, List.set_cons_succ]
      clear hown hgrow
      refine held_take (i := 8) (d := 4) (v := ?_) rfl rfl (by kernel_rfl) (by kernel_rfl) (by kernel_rfl) (fun _ _ _ h => h) (by rfl) ?_ (by assumption) ?_
      rotate_left
      · intro w hSw
        (try dsimp only at hSw)
        go_simp
        try with_reducible rfl
      try simp only [Act.put, List.setIfInBounds_toArray, List.set_cons_zero, List.set_cons_succ]
      refine wpAnyH_done (by kernel_rfl) ?_ _
      go_wp2_with fail
      go_ret
      refine ⟨_, rfl, ?_, HBq.out.trans (B3.out.mono (by omega))⟩
      have q := own_base R3.out (Nat.le_succ w.heap.size)
      rw [HPC.out, show j + 1 + (cs.length - j) = cs.length + 1 by omega] at q
      rw [show j + 1 + (cs.length - j) = cs.length + 1 by omega]
      exact q
end Go.Proofs.YthgbhnedfdnfpaaGreatDoor
