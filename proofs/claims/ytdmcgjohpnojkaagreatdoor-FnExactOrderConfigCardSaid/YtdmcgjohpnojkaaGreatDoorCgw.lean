/- A class put into a list that is nil: the model's (for OrderConfig). A filter put into its place: the model's (written by tools/gen_cgu.py of Cgp and Cgt). The model puts a configuration in order: cfOrder. OrderConfig, the model's. -/
import Derived.Test.YtdmcgjohpnojkaaGreatDoorCgr
import Derived.Test.YtdmcgjohpnojkaaGreatDoorCgp
namespace Go.Proofs.YtdmcgjohpnojkaaGreatDoor
set_option maxRecDepth 100000
open Go.RowKit
set_option linter.unusedVariables false
set_option linter.unusedSimpArgs false

set_option maxHeartbeats 6400000 in
theorem cfPut_nil (x : Cls) (w : World) :
    Calls Tryz.prog 92 #[.slice none 0 0, clsV x] w fun e w' => ∃ r, e = .returned r ∧ w'.ownsRow w.heap.size 63 8 r 1 (clsCs [x]) ∧ Below w.heap.size w w' := by
  obtain ⟨i0, hi0, hw0, hw1, hw2⟩ := info_parts infoCls
  have HPC : Hid (clsCs [x] = clsC x) := Lib.hid (by simp [clsCs])
  obtain ⟨xi, xp, xr, xe, xb, xu, xo, xl⟩ := x
  unfold clsV
  simp only at HPC ⊢
  go_enter Tryz.func92, Tryz.ntmps92
  go_wp2_with fail
  refine wp_loop_rounds 1 ?_
  rw [rounds_succ]
  go_wp2_with fail
  obtain ⟨wr, hwr⟩ : ∃ u, w.alloc (Obj.cells #[.int .i64 xi, .int .i64 xp, .int .i64 xr, .int .i64 xe, .int .i64 xb, .int .i64 xu, .int .i64 xo, .int .i64 xl] 63) = u := ⟨_, rfl⟩
  have HE : Hid (EightB wr w.heap.size ⟨xi, xp, xr, xe, xb, xu, xo, xl⟩) := Lib.hid (by rw [← hwr]; exact (box_eight (Below.refl _ _)).1)
  have HB : Hid (Below w.heap.size w wr) := Lib.hid (by rw [← hwr]; exact one_new2 _ _)
  have hw : w.heap.size < wr.heap.size := by rw [← hwr]; simp
  rw [hwr]
  clear hwr
  go_quiet (fail)
  obtain ⟨wq, hwq⟩ : ∃ u, wr.drewN nq = u := ⟨_, rfl⟩
  have HBq : Hid (Below w.heap.size w wq) := Lib.hid (by rw [← hwq]; exact HB.out.trans ((below_drewN (Below.refl _ _) _).mono HB.out.size))
  have HEq : Hid (EightB wq w.heap.size ⟨xi, xp, xr, xe, xb, xu, xo, xl⟩) := Lib.hid (by rw [← hwq]; exact HE.out.on2 (below_drewN (Below.refl _ _) _) hw)
  have hq1 : w.heap.size + 1 ≤ wq.heap.size := by rw [← hwq]; exact hw
  rw [hwq]
  clear hwq
  have F1 := Lib.hid (own_empty wq (w.heap.size + 1) 63 8 hq1)
  have R9 := Lib.hid (run_append_owned_none (P := Tryz.prog) _ (w.heap.size + 1) 51 51 63 i0 8 Tryz.underlying51 hi0 _ 0 [] F1.out)
  go_wp2_with (at_builtin; refine wpList_append_run _ rfl _ _ 51 51 rfl (.slice (some ⟨wq.heap.size, 0, none⟩) 0 0) (.slice none 0 0) (by rfl) (by rfl) R9.out ?_; refine Hid.out ?_)
  refine Lib.hid ?_
  have BB : Hid (Below (w.heap.size + 1) wq (wq.alloc (Obj.cells #[] 63))) := Lib.hid ((Below.refl (w.heap.size + 1) wq).alloc hq1 (Obj.cells #[] 63))
  have HS : Hid (∀ w', Below (w.heap.size + 1) wq w' → w'.cell? ⟨w.heap.size, 0, none⟩ = some (.int .i64 xi) ∧ w'.cell? ⟨w.heap.size, 1, none⟩ = some (.int .i64 xp) ∧ w'.cell? ⟨w.heap.size, 2, none⟩ = some (.int .i64 xr) ∧ w'.cell? ⟨w.heap.size, 3, none⟩ = some (.int .i64 xe) ∧ w'.cell? ⟨w.heap.size, 4, none⟩ = some (.int .i64 xb) ∧ w'.cell? ⟨w.heap.size, 5, none⟩ = some (.int .i64 xu) ∧ w'.cell? ⟨w.heap.size, 6, none⟩ = some (.int .i64 xo) ∧ w'.cell? ⟨w.heap.size, 7, none⟩ = some (.int .i64 xl) ∧ Below (w.heap.size + 1) wq w') := Lib.hid (fun w' h => by
    obtain ⟨y0, y1, y2, y3, y4, y5, y6, y7⟩ := HEq.out.on2 h (Nat.lt_succ_self _)
    exact ⟨y0, y1, y2, y3, y4, y5, y6, y7, h⟩)
  go_upto_region 5 with fail
  obtain ⟨w4, hw4⟩ : ∃ u, wq.alloc (Obj.cells #[] 63) = u := ⟨_, rfl⟩
  rw [hw4] at BB F1 ⊢
  clear hw4 R9
  have hs4 := BB.out.size
  refine wp_region_held_drew (S := fun w' => w'.cell? ⟨w.heap.size, 0, none⟩ = some (.int .i64 xi) ∧ w'.cell? ⟨w.heap.size, 1, none⟩ = some (.int .i64 xp) ∧ w'.cell? ⟨w.heap.size, 2, none⟩ = some (.int .i64 xr) ∧ w'.cell? ⟨w.heap.size, 3, none⟩ = some (.int .i64 xe) ∧ w'.cell? ⟨w.heap.size, 4, none⟩ = some (.int .i64 xb) ∧ w'.cell? ⟨w.heap.size, 5, none⟩ = some (.int .i64 xu) ∧ w'.cell? ⟨w.heap.size, 6, none⟩ = some (.int .i64 xo) ∧ w'.cell? ⟨w.heap.size, 7, none⟩ = some (.int .i64 xl) ∧ Below (w.heap.size + 1) wq w') (by kernel_rfl) ?_ (fun hHeld => ?_)
  · (try dsimp only)
    exact HS.out _ (BB.out.trans (below_drewN (Below.refl _ _) 1 |>.mono (by omega)))
  refine held_take (i := 0) (d := 28) (v := ?_) rfl rfl (by kernel_rfl) (by kernel_rfl) (by kernel_rfl) (fun _ _ _ h => h) (by rfl) ?_ (by assumption) ?_
  rotate_left
  · intro w hSw
    (try dsimp only at hSw)
    go_simp
    try with_reducible rfl
  try simp only [Act.put, List.setIfInBounds_toArray, List.set_cons_zero, List.set_cons_succ]
  refine held_take (i := 1) (d := 29) (v := ?_) rfl rfl (by kernel_rfl) (by kernel_rfl) (by kernel_rfl) (fun _ _ _ h => h) (by rfl) ?_ (by assumption) ?_
  rotate_left
  · intro w hSw
    (try dsimp only at hSw)
    go_simp
    try with_reducible rfl
  try simp only [Act.put, List.setIfInBounds_toArray, List.set_cons_zero, List.set_cons_succ]
  refine held_take (i := 4) (d := 32) (v := ?_) rfl rfl (by kernel_rfl) (by kernel_rfl) (by kernel_rfl) (fun _ _ _ h => h) (by rfl) ?_ (by assumption) ?_
  rotate_left
  · intro w hSw
    (try dsimp only at hSw)
    go_simp
    try with_reducible rfl
  try simp only [Act.put, List.setIfInBounds_toArray, List.set_cons_zero, List.set_cons_succ]
  refine held_take (i := 5) (d := 33) (v := ?_) rfl rfl (by kernel_rfl) (by kernel_rfl) (by kernel_rfl) (fun _ _ _ h => h) (by rfl) ?_ (by assumption) ?_
  rotate_left
  · intro w hSw
    (try dsimp only at hSw)
    go_simp
    try with_reducible rfl
  try simp only [Act.put, List.setIfInBounds_toArray, List.set_cons_zero, List.set_cons_succ]
  refine held_take (i := 6) (d := 34) (v := ?_) rfl rfl (by kernel_rfl) (by kernel_rfl) (by kernel_rfl) (fun _ _ _ h => h) (by rfl) ?_ (by assumption) ?_
  rotate_left
  · intro w hSw
    (try dsimp only at hSw)
    go_simp
    try with_reducible rfl
  try simp only [Act.put, List.setIfInBounds_toArray, List.set_cons_zero, List.set_cons_succ]
  have B0 : Hid (Below (w.heap.size + 1) wq w4.drew) := Lib.hid (BB.out.trans (below_drewN (Below.refl _ _) 1 |>.mono (by omega)))
  have R0 : Hid (w4.drew.ownsRow (w.heap.size + 1) 63 8 (.slice (some ⟨wq.heap.size, 0, none⟩) 0 0) 0 []) := Lib.hid (own_low F1.out (below_drewN (Below.refl _ _) 1) (Nat.le_refl _))
  obtain ⟨u0, hu0⟩ : ∃ u0, w4.drew = u0 := ⟨_, rfl⟩
  rw [hu0] at hHeld B0 R0 ⊢
  clear hu0 BB
  have hs0 := B0.out.size
  refine wpAnyH_ready (rs := [2]) (by kernel_rfl) (by simp) ?_
  refine ((AllReadyH.cons rfl (fun K' hK => ?_) AllReadyH.nil))
  go_simp
  refine hK.out _ _ ?_ (fun hHeld => ?_)
  · (try dsimp only)
    exact HS.out _ (B0.out.alloc (by omega) _)
  clear hK K'
  try simp only [Act.put, List.setIfInBounds_toArray, List.set_cons_zero, List.set_cons_succ]
  have B1 := Lib.hid (B0.out.alloc (by omega) (Obj.cells #[.int .i64 xi, .int .i64 xp, .int .i64 xr, .int .i64 xe, .int .i64 xb, .int .i64 xu, .int .i64 xo, .int .i64 xl] 63))
  have G1 := Lib.hid (own_low R0.out (one_new2 u0 (Obj.cells #[.int .i64 xi, .int .i64 xp, .int .i64 xr, .int .i64 xe, .int .i64 xb, .int .i64 xu, .int .i64 xo, .int .i64 xl] 63)) (Nat.le_refl _))
  have G2 := Lib.hid (eight_cells u0 ⟨xi, xp, xr, xe, xb, xu, xo, xl⟩ 63)
  refine wpAnyH_ready (rs := [3]) (by kernel_rfl) (by simp) ?_
  refine ((AllReadyH.cons rfl (fun K' hK => ?_) AllReadyH.nil))
  refine step_append_ad _ rfl (.tmp 28) (.tmp 30) 51 rfl (w.heap.size + 1) 63 i0 (.agg #[.int .i64 0, .int .i64 0, .int .i64 0, .int .i64 0, .int .i64 0, .int .i64 0, .int .i64 0, .int .i64 0]) 8 64 Tryz.underlying51 hi0 hw0 hw1 hw2 rfl (by decide) (.slice (some ⟨wq.heap.size, 0, none⟩) 0 0) 0 [] (by rfl) G1.out ⟨u0.heap.size, 0, none⟩ 1 1 (clsC ⟨xi, xp, xr, xe, xb, xu, xo, xl⟩) (by rfl) rfl G2.out (clsC_one _) (by decide) (by decide) (Nat.le_trans hq1 B1.out.size) ?_
  intro v2 u2 hown hgrow
  have R2 := Lib.hid hown
  have B2 : Hid (Below (w.heap.size + 1) wq u2) := Lib.hid (Below.grown B1.out hgrow (Nat.le_trans hq1 B1.out.size) (fun q hq => (World.ownsRow.lt G1.out q hq).1))
  obtain ⟨a2, c2, rfl, _⟩ := own_in hown
  refine hK.out _ _ ?_ (fun hHeld => ?_)
  · (try dsimp only)
    exact HS.out _ B2.out
  clear hK K'
  try simp only [Act.put, List.setIfInBounds_toArray, List.set_cons_zero, List.set_cons_succ]
  clear hown hgrow
  refine wpAnyH_ready (rs := [7]) (by kernel_rfl) (by simp) ?_
  refine ((AllReadyH.cons rfl (fun K' hK => ?_) AllReadyH.nil))
  refine step_append_src _ rfl (.tmp 31) (.tmp 34) 51 rfl (w.heap.size + 1) 63 i0 (.agg #[.int .i64 0, .int .i64 0, .int .i64 0, .int .i64 0, .int .i64 0, .int .i64 0, .int .i64 0, .int .i64 0]) 8 64 Tryz.underlying51 hi0 hw0 hw1 hw2 rfl (by decide) (.slice a2 1 c2) 1 _ (by rfl) R2.out 0 (.slice none 0 0) 0 [] (by rfl) ⟨rfl, .inl ⟨rfl, rfl⟩⟩ (by simp) (by decide) (by decide) (Nat.le_trans hq1 B2.out.size) ?_
  intro v3 u3 hown hgrow _
  have R3 := Lib.hid hown
  have B3 : Hid (Below (w.heap.size + 1) wq u3) := Lib.hid (Below.grown B2.out hgrow (Nat.le_trans hq1 B2.out.size) (fun q hq => (World.ownsRow.lt R2.out q hq).1))
  obtain ⟨a3, c3, rfl, _⟩ := own_in hown
  refine hK.out _ _ ?_ (fun hHeld => ?_)
  · (try dsimp only)
    exact HS.out _ B3.out
  clear hK K'
  try simp only [Act.put, List.setIfInBounds_toArray, List.set_cons_zero, List.set_cons_succ]
  clear hown hgrow
  refine held_take (i := 8) (d := 4) (v := ?_) rfl rfl (by kernel_rfl) (by kernel_rfl) (by kernel_rfl) (fun _ _ _ h => h) (by rfl) ?_ (by assumption) ?_
  rotate_left
  · intro w hSw
    (try dsimp only at hSw)
    go_simp
    try with_reducible rfl
  try simp only [Act.put, List.setIfInBounds_toArray, List.set_cons_zero, List.set_cons_succ]
  refine wpAnyH_done (by kernel_rfl) ?_ _
  go_wp2_with fail
  go_ret
  refine ⟨_, rfl, ?_, HBq.out.trans (B3.out.mono (by omega))⟩
  have q := own_base R3.out (Nat.le_succ w.heap.size)
  rw [List.nil_append, List.append_nil] at q
  rw [HPC.out]
  exact q
end Go.Proofs.YtdmcgjohpnojkaaGreatDoor

namespace Go.Proofs.YtdmcgjohpnojkaaGreatDoor
open Go.RowKit
set_option linter.unusedVariables false
set_option linter.unusedSimpArgs false

theorem fltCs_take : ∀ (cs : List Flt) (k : Nat), (fltCs cs).take (k * 5) = fltCs (cs.take k)
  | [], k => by simp [fltCs]
  | x :: r, 0 => by simp [fltCs]
  | x :: r, k + 1 => by
    rw [show (k + 1) * 5 = k * 5 + 5 by omega]
    simp only [List.take_succ_cons, fltCs_cons, fltC, List.cons_append, List.nil_append]
    rw [fltCs_take r k]
theorem fltCs_drop : ∀ (cs : List Flt) (k : Nat), (fltCs cs).drop (k * 5) = fltCs (cs.drop k)
  | [], k => by simp [fltCs]
  | x :: r, 0 => by simp
  | x :: r, k + 1 => by
    rw [show (k + 1) * 5 = k * 5 + 5 by omega]
    simp only [List.drop_succ_cons, fltCs_cons, fltC, List.cons_append, List.nil_append]
    exact fltCs_drop r k
theorem five_cells (w : World) (y : Flt) (t : TypeId) : ∀ j u, (fltC y)[j]? = some u → (w.alloc (.cells #[.int .i64 y.o, .int .i64 y.f, .int .i64 y.m, .int .i64 y.v, .int .i64 y.t] t)).cell? ((⟨w.heap.size, 0, none⟩ : Addr).add j) = some u := by
  intro j u hj
  unfold fltC at hj
  match j, hj with
  | 0, hj | 1, hj | 2, hj | 3, hj | 4, hj => simp at hj; subst hj; simp [Addr.add]
  | j + 5, hj => simp at hj
theorem fltC_one (y : Flt) : ∀ u ∈ fltC y, u.oneCell' = true := by
  intro u hu
  simp only [fltC, List.mem_cons, List.not_mem_nil, or_false] at hu
  rcases hu with rfl | rfl | rfl | rfl | rfl <;> rfl
theorem FiveB.on2 {w w1 : World} {b B : Nat} {x : Flt} (h : FiveB w b x) (hb : Below B w w1) (hB : b < B) : FiveB w1 b x := by
  obtain ⟨h0, h1, h2, h3, h4⟩ := h
  exact ⟨(hb.cell (p := ⟨b, 0, none⟩) hB).trans h0, (hb.cell (p := ⟨b, 1, none⟩) hB).trans h1, (hb.cell (p := ⟨b, 2, none⟩) hB).trans h2, (hb.cell (p := ⟨b, 3, none⟩) hB).trans h3, (hb.cell (p := ⟨b, 4, none⟩) hB).trans h4⟩
/-- how many filters stand in front of an order -/
def putKF : List Flt → Int → Nat
  | [], _ => 0
  | y :: r, id => if y.o < id then putKF r id + 1 else 0
theorem putKF_le : ∀ (l : List Flt) (id : Int), putKF l id ≤ l.length
  | [], _ => Nat.le_refl _
  | y :: r, id => by
    unfold putKF
    split
    · have := putKF_le r id; simp; omega
    · omega
def putF (cs : List Flt) (x : Flt) : List Flt := cs.take (putKF cs x.o) ++ x :: cs.drop (putKF cs x.o)
def PkRelF (w : World) (x : Flt) (cs : List Flt) (id : Int) (K : Nat) (i : Value) (wr : World) : Prop := ∃ j : Nat, j ≤ cs.length ∧ i = .int .i64 j ∧ Hid (j + putKF (cs.drop j) id = K) ∧ FiveB wr w.heap.size x ∧ w.heap.size < wr.heap.size ∧ Below w.heap.size w wr
theorem putKF_at (cs : List Flt) (j : Nat) (hj : j < cs.length) (y : Flt) (hy : cs.getD j flt0 = y) (id : Int) : putKF (cs.drop j) id = if y.o < id then putKF (cs.drop (j + 1)) id + 1 else 0 := by
  rw [List.getD_eq_getElem?_getD, List.getElem?_eq_getElem hj] at hy
  simp only [Option.getD_some] at hy
  rw [List.drop_eq_getElem_cons hj, hy, putKF]
theorem putF_length (cs : List Flt) (x : Flt) : (putF cs x).length = cs.length + 1 := by
  have := putKF_le cs x.o
  unfold putF; rw [List.length_append, List.length_cons, List.length_take, List.length_drop]; omega
theorem putF_cells (cs : List Flt) (x : Flt) : (fltCs cs).take (putKF cs x.o * 5) ++ fltC x ++ (fltCs cs).drop (putKF cs x.o * 5) = fltCs (putF cs x) := by
  unfold putF
  rw [fltCs_append, fltCs_cons, fltCs_take, fltCs_drop, List.append_assoc]
set_option maxHeartbeats 6400000 in
theorem cfPutFilter_any (v : Value) (B : Nat) (cs : List Flt) (x : Flt) (w : World) (HO : Hid (w.ownsRow B 113 5 v cs.length (fltCs cs))) (hn : cs.length ≤ 1048576) (hpos : 1 ≤ cs.length) :
    Calls Tryz.prog 144 #[v, fltV x] w fun e w' => ∃ r, e = .returned r ∧ w'.ownsRow w.heap.size 113 5 r (cs.length + 1) (fltCs (putF cs x)) ∧ Below w.heap.size w w' := by
  obtain ⟨a, c, rfl, hi⟩ := own_in HO.out
  obtain ⟨g, rfl, ht, hg⟩ := hi (by omega)
  have HT := Lib.hid ht
  obtain ⟨i0, hi0, hw0, hw1, hw2⟩ := info_parts infoFlt
  have hcap := (own_cap HO.out).1
  have HPC := Lib.hid (putF_cells cs x)
  obtain ⟨xo, xf, xm, xv, xt⟩ := x
  unfold fltV
  simp only at HPC ⊢
  clear hi ht
  obtain ⟨K, hK⟩ : ∃ K, putKF cs xo = K := ⟨_, rfl⟩
  have HK := Lib.hid hK
  rw [hK] at HPC
  clear hK
  generalize fltCs (putF cs ⟨xo, xf, xm, xv, xt⟩) = RC at HPC ⊢
  go_enter Tryz.func144, Tryz.ntmps144
  go_wp2_with fail
  go_loopw [5] (fun i wr => PkRelF w ⟨xo, xf, xm, xv, xt⟩ cs xo K i wr) (fun i _ => cs.length - (intOf i).toNat)
  case atStart => exact ⟨0, Nat.zero_le _, rfl, Lib.hid (by rw [List.drop_zero, Nat.zero_add]; exact HK.out), (box_five (Below.refl _ _)).1, by simp, one_new2 _ _⟩
  case round =>
    obtain ⟨j, hj, rfl, HP, he, hw, hb⟩ := hrel
    have HE := Lib.hid he
    have HB := Lib.hid hb
    have e0 := he.1
    have hjc : j ≤ c := by omega
    clear he hb
    by_cases hlt : j < cs.length
    · obtain ⟨y, hy⟩ : ∃ y, cs.getD j flt0 = y := ⟨_, rfl⟩
      obtain ⟨a0, _⟩ := (HT.out.below HB.out hg).flt j hlt y hy
      have HQ := Lib.hid (putKF_at cs j hlt y hy xo)
      obtain ⟨yo, yf, ym, yv, yt⟩ := y
      simp only at a0 e0 HQ
      clear hy
      by_cases hq : yo < xo
      · have dq : decide (yo < xo) = true := by simpa using hq
        have HX : Hid (j + 1 + putKF (cs.drop (j + 1)) xo = K) := Lib.hid (by rw [← HP.out, HQ.out, if_pos hq]; omega)
        clear HQ HP hq
        go_wp2_with fail
        go_quiet (fail)
        go_wp2_with fail
        go_roundw
        case rel => exact ⟨j + 1, by omega, by go_num, HX, HE.out.on2 (below_drewN (Below.refl _ _) _) hw, hw, HB.out.trans (below_drewN (Below.refl _ _) _ |>.mono HB.out.size)⟩
        case measure => simp [intOf]; omega
      · have dq : decide (yo < xo) = false := by simpa using hq
        have HX : Hid (j = K) := Lib.hid (by rw [← HP.out, HQ.out, if_neg hq]; omega)
        clear HQ HP hq
        go_wp2_with fail
        go_quiet (fail)
        obtain ⟨wq, hwq⟩ : ∃ u, wr.drewN nq = u := ⟨_, rfl⟩
        have HBq : Hid (Below w.heap.size w wq) := Lib.hid (by rw [← hwq]; exact HB.out.trans ((below_drewN (Below.refl _ _) _).mono HB.out.size))
        have HEq : Hid (FiveB wq w.heap.size ⟨xo, xf, xm, xv, xt⟩) := Lib.hid (by rw [← hwq]; exact HE.out.on2 (below_drewN (Below.refl _ _) _) hw)
        have hq1 : w.heap.size + 1 ≤ wq.heap.size := by rw [← hwq]; exact hw
        rw [hwq]
        clear hwq
        obtain rfl := HX.out
        have F1 := Lib.hid (own_empty wq (w.heap.size + 1) 113 5 hq1)
        have F2 := Lib.hid (own_news (own_take (own_low (own_low HO.out HBq.out (Nat.le_refl _)) (one_new2 wq (Obj.cells #[] 113)) (Nat.le_refl _)) j hj))
        have F3 : Hid (((fltCs cs).take (j * 5)).length = j * 5) := Lib.hid (by rw [List.length_take, fltCs_length]; omega)
        have F4 : Hid (∀ u ∈ (fltCs cs).take (j * 5), u.oneCell' = true) := Lib.hid (fun u hu => fltCs_one cs u (List.mem_of_mem_take hu))
        clear HX
        go_wp2_with (at_builtin; refine wpList_append_own _ rfl _ _ 52 rfl (w.heap.size + 1) 113 i0 (.agg #[.int .i64 0, .int .i64 0, .int .i64 0, .int .i64 0, .int .i64 0]) 5 40 Tryz.underlying52 hi0 hw0 hw1 hw2 rfl (by decide) (.slice (some ⟨wq.heap.size, 0, none⟩) 0 0) 0 [] (by rfl) F1.out ⟨g, 0, none⟩ j c ((fltCs cs).take (j * 5)) (by rfl) F3.out F2.out F4.out (by unfold maxLen; omega) (by omega) (by simp; omega) ?_; intro v1 w4 hown1 hgrow1 _; have HW := Lib.hid (And.intro hown1 hgrow1); clear hown1 hgrow1; refine Hid.out ?_)
        refine Lib.hid ?_
        have R1 : Hid (w4.ownsRow (w.heap.size + 1) 113 5 v1 j ((fltCs cs).take (j * 5))) := Lib.hid (by have q := HW.out.1; rw [Nat.zero_add, List.nil_append] at q; exact q)
        have BB : Hid (Below (w.heap.size + 1) wq w4) := Lib.hid (Below.grown ((Below.refl (w.heap.size + 1) wq).alloc hq1 (Obj.cells #[] 113)) HW.out.2 (by simp; omega) (fun q hq => (World.ownsRow.lt F1.out q hq).1))
        obtain ⟨a1, c1, rfl, _⟩ := own_in R1.out
        have hs4 := BB.out.size
        have HS : Hid (∀ w', Below (w.heap.size + 1) wq w' → w'.cell? ⟨w.heap.size, 0, none⟩ = some (.int .i64 xo) ∧ w'.cell? ⟨w.heap.size, 1, none⟩ = some (.int .i64 xf) ∧ w'.cell? ⟨w.heap.size, 2, none⟩ = some (.int .i64 xm) ∧ w'.cell? ⟨w.heap.size, 3, none⟩ = some (.int .i64 xv) ∧ w'.cell? ⟨w.heap.size, 4, none⟩ = some (.int .i64 xt) ∧ Below (w.heap.size + 1) wq w') := Lib.hid (fun w' h => by
          obtain ⟨y0, y1, y2, y3, y4⟩ := HEq.out.on2 h (Nat.lt_succ_self _)
          exact ⟨y0, y1, y2, y3, y4, h⟩)
        have D1 : Hid (((fltCs cs).drop (j * 5)).length = (cs.length - j) * 5) := Lib.hid (by rw [List.length_drop, fltCs_length]; omega)
        have D2 : Hid (∀ u ∈ (fltCs cs).drop (j * 5), u.oneCell' = true) := Lib.hid (fun u hu => fltCs_one cs u (List.mem_of_mem_drop hu))
        obtain ⟨ad, had, hD3⟩ : ∃ ad : Addr, (if c = j then some ⟨g, 0, none⟩ else some ⟨g, j * 5, none⟩) = some ad ∧ ∀ w', Below w.heap.size w w' → ∀ i u, ((fltCs cs).drop (j * 5))[i]? = some u → w'.cell? (ad.add i) = some u := by
          by_cases hcj : c = j
          · refine ⟨⟨g, 0, none⟩, if_pos hcj, fun w' _ i u hu => ?_⟩
            have := D1.out
            rw [List.getElem?_eq_none (by omega)] at hu
            cases hu
          · refine ⟨⟨g, j * 5, none⟩, if_neg hcj, fun w' b i u hu => ?_⟩
            rw [List.getElem?_drop] at hu
            have q := own_news (own_low HO.out b (Nat.le_refl _)) (j * 5 + i) u hu
            have e1 := add_off g (j * 5) i
            have e2 := add_off g 0 (j * 5 + i)
            rw [Nat.zero_add] at e2
            rw [e1]; rw [e2] at q; exact q
        have HAD := Lib.hid had
        have D3 := Lib.hid hD3
        clear HW F1 F2 F3 F4 had hD3
        go_upto_region 5 with fail
        refine wp_region_held_drew (S := fun w' => w'.cell? ⟨w.heap.size, 0, none⟩ = some (.int .i64 xo) ∧ w'.cell? ⟨w.heap.size, 1, none⟩ = some (.int .i64 xf) ∧ w'.cell? ⟨w.heap.size, 2, none⟩ = some (.int .i64 xm) ∧ w'.cell? ⟨w.heap.size, 3, none⟩ = some (.int .i64 xv) ∧ w'.cell? ⟨w.heap.size, 4, none⟩ = some (.int .i64 xt) ∧ Below (w.heap.size + 1) wq w') (by kernel_rfl) ?_ (fun hHeld => ?_)
        · (try dsimp only)
          exact HS.out _ (BB.out.trans (below_drewN (Below.refl _ _) 1 |>.mono (by omega)))
        refine held_take (i := 0) (d := 28) (v := ?_) rfl rfl (by kernel_rfl) (by kernel_rfl) (by kernel_rfl) (fun _ _ _ h => h) (by rfl) ?_ (by assumption) ?_
        rotate_left
        · intro w hSw
          (try dsimp only at hSw)
          go_simp
          try with_reducible rfl
        try simp only [Act.put, List.setIfInBounds_toArray, List.set_cons_zero, List.set_cons_succ]
        refine held_take (i := 1) (d := 29) (v := ?_) rfl rfl (by kernel_rfl) (by kernel_rfl) (by kernel_rfl) (fun _ _ _ h => h) (by rfl) ?_ (by assumption) ?_
        rotate_left
        · intro w hSw
          (try dsimp only at hSw)
          go_simp
          try with_reducible rfl
        try simp only [Act.put, List.setIfInBounds_toArray, List.set_cons_zero, List.set_cons_succ]
        refine held_take (i := 4) (d := 32) (v := ?_) rfl rfl (by kernel_rfl) (by kernel_rfl) (by kernel_rfl) (fun _ _ _ h => h) (by rfl) ?_ (by assumption) ?_
        rotate_left
        · intro w hSw
          (try dsimp only at hSw)
          go_simp
          try with_reducible rfl
        try simp only [Act.put, List.setIfInBounds_toArray, List.set_cons_zero, List.set_cons_succ]
        refine held_take (i := 5) (d := 33) (v := ?_) rfl rfl (by kernel_rfl) (by kernel_rfl) (by kernel_rfl) (fun _ _ _ h => h) (by rfl) ?_ (by assumption) ?_
        rotate_left
        · intro w hSw
          (try dsimp only at hSw)
          go_simp
          try with_reducible rfl
        try simp only [Act.put, List.setIfInBounds_toArray, List.set_cons_zero, List.set_cons_succ]
        refine held_take (i := 6) (d := 34) (v := ?_) rfl rfl (by kernel_rfl) (by kernel_rfl) (by kernel_rfl) (fun _ _ _ h => h) (by rfl) ?_ (by assumption) ?_
        rotate_left
        · intro w hSw
          (try dsimp only at hSw)
          go_simp
          try with_reducible rfl
        try simp only [Act.put, List.setIfInBounds_toArray, List.set_cons_zero, List.set_cons_succ]
        rw [HAD.out]
        have B0 : Hid (Below (w.heap.size + 1) wq w4.drew) := Lib.hid (BB.out.trans (below_drewN (Below.refl _ _) 1 |>.mono (by omega)))
        have R0 : Hid (w4.drew.ownsRow (w.heap.size + 1) 113 5 (.slice a1 j c1) j ((fltCs cs).take (j * 5))) := Lib.hid (own_low R1.out (below_drewN (Below.refl _ _) 1) (Nat.le_refl _))
        obtain ⟨u0, hu0⟩ : ∃ u0, w4.drew = u0 := ⟨_, rfl⟩
        rw [hu0] at hHeld B0 R0 ⊢
        clear hu0 BB R1
        have hs0 := B0.out.size
        refine wpAnyH_ready (rs := [2]) (by kernel_rfl) (by simp) ?_
        refine ((AllReadyH.cons rfl (fun K' hK => ?_) AllReadyH.nil))
        go_simp
        refine hK.out _ _ ?_ (fun hHeld => ?_)
        · (try dsimp only)
          exact HS.out _ (B0.out.alloc (by omega) _)
        clear hK K'
        try simp only [Act.put, List.setIfInBounds_toArray, List.set_cons_zero, List.set_cons_succ]
        have B1 := Lib.hid (B0.out.alloc (by omega) (Obj.cells #[.int .i64 xo, .int .i64 xf, .int .i64 xm, .int .i64 xv, .int .i64 xt] 113))
        have G1 := Lib.hid (own_low R0.out (one_new2 u0 (Obj.cells #[.int .i64 xo, .int .i64 xf, .int .i64 xm, .int .i64 xv, .int .i64 xt] 113)) (Nat.le_refl _))
        have G2 := Lib.hid (five_cells u0 ⟨xo, xf, xm, xv, xt⟩ 113)
        refine wpAnyH_ready (rs := [3]) (by kernel_rfl) (by simp) ?_
        refine ((AllReadyH.cons rfl (fun K' hK => ?_) AllReadyH.nil))
        refine step_append_ad _ rfl (.tmp 28) (.tmp 30) 52 rfl (w.heap.size + 1) 113 i0 (.agg #[.int .i64 0, .int .i64 0, .int .i64 0, .int .i64 0, .int .i64 0]) 5 40 Tryz.underlying52 hi0 hw0 hw1 hw2 rfl (by decide) (.slice a1 j c1) j ((fltCs cs).take (j * 5)) (by rfl) G1.out ⟨u0.heap.size, 0, none⟩ 1 1 (fltC ⟨xo, xf, xm, xv, xt⟩) (by rfl) rfl G2.out (fltC_one _) (by unfold maxLen; omega) (by omega) (Nat.le_trans hq1 B1.out.size) ?_
        intro v2 u2 hown hgrow
        have R2 := Lib.hid hown
        have B2 : Hid (Below (w.heap.size + 1) wq u2) := Lib.hid (Below.grown B1.out hgrow (Nat.le_trans hq1 B1.out.size) (fun q hq => (World.ownsRow.lt G1.out q hq).1))
        obtain ⟨a2, c2, rfl, _⟩ := own_in hown
        refine hK.out _ _ ?_ (fun hHeld => ?_)
        · (try dsimp only)
          exact HS.out _ B2.out
        clear hK K'
        try simp only [Act.put, List.setIfInBounds_toArray, List.set_cons_zero, List.set_cons_succ]
        clear hown hgrow
        have D4 := Lib.hid (D3.out u2 (HBq.out.trans (B2.out.mono (by omega))))
        refine wpAnyH_ready (rs := [7]) (by kernel_rfl) (by simp) ?_
        refine ((AllReadyH.cons rfl (fun K' hK => ?_) AllReadyH.nil))
        refine step_append_ad _ rfl (.tmp 31) (.tmp 34) 52 rfl (w.heap.size + 1) 113 i0 (.agg #[.int .i64 0, .int .i64 0, .int .i64 0, .int .i64 0, .int .i64 0]) 5 40 Tryz.underlying52 hi0 hw0 hw1 hw2 rfl (by decide) (.slice a2 (j + 1) c2) (j + 1) _ (by rfl) R2.out ad (cs.length - j) (c - j) ((fltCs cs).drop (j * 5)) (by rfl) D1.out D4.out D2.out (by unfold maxLen; omega) (by omega) (Nat.le_trans hq1 B2.out.size) ?_
        intro v3 u3 hown hgrow
        have R3 := Lib.hid hown
        have B3 : Hid (Below (w.heap.size + 1) wq u3) := Lib.hid (Below.grown B2.out hgrow (Nat.le_trans hq1 B2.out.size) (fun q hq => (World.ownsRow.lt R2.out q hq).1))
        obtain ⟨a3, c3, rfl, _⟩ := own_in hown
        refine hK.out _ _ ?_ (fun hHeld => ?_)
        · (try dsimp only)
          exact HS.out _ B3.out
        clear hK K'
        try simp only [Act.put, List.setIfInBounds_toArray, List.set_cons_zero, List.set_cons_succ]
        clear hown hgrow
        refine held_take (i := 8) (d := 4) (v := ?_) rfl rfl (by kernel_rfl) (by kernel_rfl) (by kernel_rfl) (fun _ _ _ h => h) (by rfl) ?_ (by assumption) ?_
        rotate_left
        · intro w hSw
          (try dsimp only at hSw)
          go_simp
          try with_reducible rfl
        try simp only [Act.put, List.setIfInBounds_toArray, List.set_cons_zero, List.set_cons_succ]
        refine wpAnyH_done (by kernel_rfl) ?_ _
        go_wp2_with fail
        go_ret
        refine ⟨_, rfl, ?_, HBq.out.trans (B3.out.mono (by omega))⟩
        have q := own_base R3.out (Nat.le_succ w.heap.size)
        rw [HPC.out, show j + 1 + (cs.length - j) = cs.length + 1 by omega] at q
        rw [show j + 1 + (cs.length - j) = cs.length + 1 by omega]
        exact q
    · have HX : Hid (j = K) := Lib.hid (by rw [← HP.out, List.drop_eq_nil_of_le (by omega)]; rfl)
      go_wp2_with fail
      go_quiet (fail)
      obtain ⟨wq, hwq⟩ : ∃ u, wr.drewN nq = u := ⟨_, rfl⟩
      have HBq : Hid (Below w.heap.size w wq) := Lib.hid (by rw [← hwq]; exact HB.out.trans ((below_drewN (Below.refl _ _) _).mono HB.out.size))
      have HEq : Hid (FiveB wq w.heap.size ⟨xo, xf, xm, xv, xt⟩) := Lib.hid (by rw [← hwq]; exact HE.out.on2 (below_drewN (Below.refl _ _) _) hw)
      have hq1 : w.heap.size + 1 ≤ wq.heap.size := by rw [← hwq]; exact hw
      rw [hwq]
      clear hwq
      obtain rfl := HX.out
      have F1 := Lib.hid (own_empty wq (w.heap.size + 1) 113 5 hq1)
      have F2 := Lib.hid (own_news (own_take (own_low (own_low HO.out HBq.out (Nat.le_refl _)) (one_new2 wq (Obj.cells #[] 113)) (Nat.le_refl _)) j hj))
      have F3 : Hid (((fltCs cs).take (j * 5)).length = j * 5) := Lib.hid (by rw [List.length_take, fltCs_length]; omega)
      have F4 : Hid (∀ u ∈ (fltCs cs).take (j * 5), u.oneCell' = true) := Lib.hid (fun u hu => fltCs_one cs u (List.mem_of_mem_take hu))
      clear HX
      go_wp2_with (at_builtin; refine wpList_append_own _ rfl _ _ 52 rfl (w.heap.size + 1) 113 i0 (.agg #[.int .i64 0, .int .i64 0, .int .i64 0, .int .i64 0, .int .i64 0]) 5 40 Tryz.underlying52 hi0 hw0 hw1 hw2 rfl (by decide) (.slice (some ⟨wq.heap.size, 0, none⟩) 0 0) 0 [] (by rfl) F1.out ⟨g, 0, none⟩ j c ((fltCs cs).take (j * 5)) (by rfl) F3.out F2.out F4.out (by unfold maxLen; omega) (by omega) (by simp; omega) ?_; intro v1 w4 hown1 hgrow1 _; have HW := Lib.hid (And.intro hown1 hgrow1); clear hown1 hgrow1; refine Hid.out ?_)
      refine Lib.hid ?_
      have R1 : Hid (w4.ownsRow (w.heap.size + 1) 113 5 v1 j ((fltCs cs).take (j * 5))) := Lib.hid (by have q := HW.out.1; rw [Nat.zero_add, List.nil_append] at q; exact q)
      have BB : Hid (Below (w.heap.size + 1) wq w4) := Lib.hid (Below.grown ((Below.refl (w.heap.size + 1) wq).alloc hq1 (Obj.cells #[] 113)) HW.out.2 (by simp; omega) (fun q hq => (World.ownsRow.lt F1.out q hq).1))
      obtain ⟨a1, c1, rfl, _⟩ := own_in R1.out
      have hs4 := BB.out.size
      have HS : Hid (∀ w', Below (w.heap.size + 1) wq w' → w'.cell? ⟨w.heap.size, 0, none⟩ = some (.int .i64 xo) ∧ w'.cell? ⟨w.heap.size, 1, none⟩ = some (.int .i64 xf) ∧ w'.cell? ⟨w.heap.size, 2, none⟩ = some (.int .i64 xm) ∧ w'.cell? ⟨w.heap.size, 3, none⟩ = some (.int .i64 xv) ∧ w'.cell? ⟨w.heap.size, 4, none⟩ = some (.int .i64 xt) ∧ Below (w.heap.size + 1) wq w') := Lib.hid (fun w' h => by
        obtain ⟨y0, y1, y2, y3, y4⟩ := HEq.out.on2 h (Nat.lt_succ_self _)
        exact ⟨y0, y1, y2, y3, y4, h⟩)
      have D1 : Hid (((fltCs cs).drop (j * 5)).length = (cs.length - j) * 5) := Lib.hid (by rw [List.length_drop, fltCs_length]; omega)
      have D2 : Hid (∀ u ∈ (fltCs cs).drop (j * 5), u.oneCell' = true) := Lib.hid (fun u hu => fltCs_one cs u (List.mem_of_mem_drop hu))
      obtain ⟨ad, had, hD3⟩ : ∃ ad : Addr, (if c = j then some ⟨g, 0, none⟩ else some ⟨g, j * 5, none⟩) = some ad ∧ ∀ w', Below w.heap.size w w' → ∀ i u, ((fltCs cs).drop (j * 5))[i]? = some u → w'.cell? (ad.add i) = some u := by
        by_cases hcj : c = j
        · refine ⟨⟨g, 0, none⟩, if_pos hcj, fun w' _ i u hu => ?_⟩
          have := D1.out
          rw [List.getElem?_eq_none (by omega)] at hu
          cases hu
        · refine ⟨⟨g, j * 5, none⟩, if_neg hcj, fun w' b i u hu => ?_⟩
          rw [List.getElem?_drop] at hu
          have q := own_news (own_low HO.out b (Nat.le_refl _)) (j * 5 + i) u hu
          have e1 := add_off g (j * 5) i
          have e2 := add_off g 0 (j * 5 + i)
          rw [Nat.zero_add] at e2
          rw [e1]; rw [e2] at q; exact q
      have HAD := Lib.hid had
      have D3 := Lib.hid hD3
      clear HW F1 F2 F3 F4 had hD3
      go_upto_region 5 with fail
      refine wp_region_held_drew (S := fun w' => w'.cell? ⟨w.heap.size, 0, none⟩ = some (.int .i64 xo) ∧ w'.cell? ⟨w.heap.size, 1, none⟩ = some (.int .i64 xf) ∧ w'.cell? ⟨w.heap.size, 2, none⟩ = some (.int .i64 xm) ∧ w'.cell? ⟨w.heap.size, 3, none⟩ = some (.int .i64 xv) ∧ w'.cell? ⟨w.heap.size, 4, none⟩ = some (.int .i64 xt) ∧ Below (w.heap.size + 1) wq w') (by kernel_rfl) ?_ (fun hHeld => ?_)
      · (try dsimp only)
        exact HS.out _ (BB.out.trans (below_drewN (Below.refl _ _) 1 |>.mono (by omega)))
      refine held_take (i := 0) (d := 28) (v := ?_) rfl rfl (by kernel_rfl) (by kernel_rfl) (by kernel_rfl) (fun _ _ _ h => h) (by rfl) ?_ (by assumption) ?_
      rotate_left
      · intro w hSw
        (try dsimp only at hSw)
        go_simp
        try with_reducible rfl
      try simp only [Act.put, List.setIfInBounds_toArray, List.set_cons_zero, List.set_cons_succ]
      refine held_take (i := 1) (d := 29) (v := ?_) rfl rfl (by kernel_rfl) (by kernel_rfl) (by kernel_rfl) (fun _ _ _ h => h) (by rfl) ?_ (by assumption) ?_
      rotate_left
      · intro w hSw
        (try dsimp only at hSw)
        go_simp
        try with_reducible rfl
      try simp only [Act.put, List.setIfInBounds_toArray, List.set_cons_zero, List.set_cons_succ]
      refine held_take (i := 4) (d := 32) (v := ?_) rfl rfl (by kernel_rfl) (by kernel_rfl) (by kernel_rfl) (fun _ _ _ h => h) (by rfl) ?_ (by assumption) ?_
      rotate_left
      · intro w hSw
        (try dsimp only at hSw)
        go_simp
        try with_reducible rfl
      try simp only [Act.put, List.setIfInBounds_toArray, List.set_cons_zero, List.set_cons_succ]
      refine held_take (i := 5) (d := 33) (v := ?_) rfl rfl (by kernel_rfl) (by kernel_rfl) (by kernel_rfl) (fun _ _ _ h => h) (by rfl) ?_ (by assumption) ?_
      rotate_left
      · intro w hSw
        (try dsimp only at hSw)
        go_simp
        try with_reducible rfl
      try simp only [Act.put, List.setIfInBounds_toArray, List.set_cons_zero, List.set_cons_succ]
      refine held_take (i := 6) (d := 34) (v := ?_) rfl rfl (by kernel_rfl) (by kernel_rfl) (by kernel_rfl) (fun _ _ _ h => h) (by rfl) ?_ (by assumption) ?_
      rotate_left
      · intro w hSw
        (try dsimp only at hSw)
        go_simp
        try with_reducible rfl
      try simp only [Act.put, List.setIfInBounds_toArray, List.set_cons_zero, List.set_cons_succ]
      rw [HAD.out]
      have B0 : Hid (Below (w.heap.size + 1) wq w4.drew) := Lib.hid (BB.out.trans (below_drewN (Below.refl _ _) 1 |>.mono (by omega)))
      have R0 : Hid (w4.drew.ownsRow (w.heap.size + 1) 113 5 (.slice a1 j c1) j ((fltCs cs).take (j * 5))) := Lib.hid (own_low R1.out (below_drewN (Below.refl _ _) 1) (Nat.le_refl _))
      obtain ⟨u0, hu0⟩ : ∃ u0, w4.drew = u0 := ⟨_, rfl⟩
      rw [hu0] at hHeld B0 R0 ⊢
      clear hu0 BB R1
      have hs0 := B0.out.size
      refine wpAnyH_ready (rs := [2]) (by kernel_rfl) (by simp) ?_
      refine ((AllReadyH.cons rfl (fun K' hK => ?_) AllReadyH.nil))
      go_simp
      refine hK.out _ _ ?_ (fun hHeld => ?_)
      · (try dsimp only)
        exact HS.out _ (B0.out.alloc (by omega) _)
      clear hK K'
      try simp only [Act.put, List.setIfInBounds_toArray, List.set_cons_zero, List.set_cons_succ]
      have B1 := Lib.hid (B0.out.alloc (by omega) (Obj.cells #[.int .i64 xo, .int .i64 xf, .int .i64 xm, .int .i64 xv, .int .i64 xt] 113))
      have G1 := Lib.hid (own_low R0.out (one_new2 u0 (Obj.cells #[.int .i64 xo, .int .i64 xf, .int .i64 xm, .int .i64 xv, .int .i64 xt] 113)) (Nat.le_refl _))
      have G2 := Lib.hid (five_cells u0 ⟨xo, xf, xm, xv, xt⟩ 113)
      refine wpAnyH_ready (rs := [3]) (by kernel_rfl) (by simp) ?_
      refine ((AllReadyH.cons rfl (fun K' hK => ?_) AllReadyH.nil))
      refine step_append_ad _ rfl (.tmp 28) (.tmp 30) 52 rfl (w.heap.size + 1) 113 i0 (.agg #[.int .i64 0, .int .i64 0, .int .i64 0, .int .i64 0, .int .i64 0]) 5 40 Tryz.underlying52 hi0 hw0 hw1 hw2 rfl (by decide) (.slice a1 j c1) j ((fltCs cs).take (j * 5)) (by rfl) G1.out ⟨u0.heap.size, 0, none⟩ 1 1 (fltC ⟨xo, xf, xm, xv, xt⟩) (by rfl) rfl G2.out (fltC_one _) (by unfold maxLen; omega) (by omega) (Nat.le_trans hq1 B1.out.size) ?_
      intro v2 u2 hown hgrow
      have R2 := Lib.hid hown
      have B2 : Hid (Below (w.heap.size + 1) wq u2) := Lib.hid (Below.grown B1.out hgrow (Nat.le_trans hq1 B1.out.size) (fun q hq => (World.ownsRow.lt G1.out q hq).1))
      obtain ⟨a2, c2, rfl, _⟩ := own_in hown
      refine hK.out _ _ ?_ (fun hHeld => ?_)
      · (try dsimp only)
        exact HS.out _ B2.out
      clear hK K'
      try simp only [Act.put, List.setIfInBounds_toArray, List.set_cons_zero, List.set_cons_succ]
      clear hown hgrow
      have D4 := Lib.hid (D3.out u2 (HBq.out.trans (B2.out.mono (by omega))))
      refine wpAnyH_ready (rs := [7]) (by kernel_rfl) (by simp) ?_
      refine ((AllReadyH.cons rfl (fun K' hK => ?_) AllReadyH.nil))
      refine step_append_ad _ rfl (.tmp 31) (.tmp 34) 52 rfl (w.heap.size + 1) 113 i0 (.agg #[.int .i64 0, .int .i64 0, .int .i64 0, .int .i64 0, .int .i64 0]) 5 40 Tryz.underlying52 hi0 hw0 hw1 hw2 rfl (by decide) (.slice a2 (j + 1) c2) (j + 1) _ (by rfl) R2.out ad (cs.length - j) (c - j) ((fltCs cs).drop (j * 5)) (by rfl) D1.out D4.out D2.out (by unfold maxLen; omega) (by omega) (Nat.le_trans hq1 B2.out.size) ?_
      intro v3 u3 hown hgrow
      have R3 := Lib.hid hown
      have B3 : Hid (Below (w.heap.size + 1) wq u3) := Lib.hid (Below.grown B2.out hgrow (Nat.le_trans hq1 B2.out.size) (fun q hq => (World.ownsRow.lt R2.out q hq).1))
      obtain ⟨a3, c3, rfl, _⟩ := own_in hown
      refine hK.out _ _ ?_ (fun hHeld => ?_)
      · (try dsimp only)
        exact HS.out _ B3.out
      clear hK K'
      try simp only [Act.put, List.setIfInBounds_toArray, List.set_cons_zero, List.set_cons_succ]
      clear hown hgrow
      refine held_take (i := 8) (d := 4) (v := ?_) rfl rfl (by kernel_rfl) (by kernel_rfl) (by kernel_rfl) (fun _ _ _ h => h) (by rfl) ?_ (by assumption) ?_
      rotate_left
      · intro w hSw
        (try dsimp only at hSw)
        go_simp
        try with_reducible rfl
      try simp only [Act.put, List.setIfInBounds_toArray, List.set_cons_zero, List.set_cons_succ]
      refine wpAnyH_done (by kernel_rfl) ?_ _
      go_wp2_with fail
      go_ret
      refine ⟨_, rfl, ?_, HBq.out.trans (B3.out.mono (by omega))⟩
      have q := own_base R3.out (Nat.le_succ w.heap.size)
      rw [HPC.out, show j + 1 + (cs.length - j) = cs.length + 1 by omega] at q
      rw [show j + 1 + (cs.length - j) = cs.length + 1 by omega]
      exact q
set_option maxHeartbeats 6400000 in
theorem cfPutFilter_nil (x : Flt) (w : World) :
    Calls Tryz.prog 144 #[.slice none 0 0, fltV x] w fun e w' => ∃ r, e = .returned r ∧ w'.ownsRow w.heap.size 113 5 r 1 (fltCs [x]) ∧ Below w.heap.size w w' := by
  obtain ⟨i0, hi0, hw0, hw1, hw2⟩ := info_parts infoFlt
  have HPC : Hid (fltCs [x] = fltC x) := Lib.hid (by simp [fltCs])
  obtain ⟨xo, xf, xm, xv, xt⟩ := x
  unfold fltV
  simp only at HPC ⊢
  go_enter Tryz.func144, Tryz.ntmps144
  go_wp2_with fail
  refine wp_loop_rounds 1 ?_
  rw [rounds_succ]
  go_wp2_with fail
  obtain ⟨wr, hwr⟩ : ∃ u, w.alloc (Obj.cells #[.int .i64 xo, .int .i64 xf, .int .i64 xm, .int .i64 xv, .int .i64 xt] 113) = u := ⟨_, rfl⟩
  have HE : Hid (FiveB wr w.heap.size ⟨xo, xf, xm, xv, xt⟩) := Lib.hid (by rw [← hwr]; exact (box_five (Below.refl _ _)).1)
  have HB : Hid (Below w.heap.size w wr) := Lib.hid (by rw [← hwr]; exact one_new2 _ _)
  have hw : w.heap.size < wr.heap.size := by rw [← hwr]; simp
  rw [hwr]
  clear hwr
  go_quiet (fail)
  obtain ⟨wq, hwq⟩ : ∃ u, wr.drewN nq = u := ⟨_, rfl⟩
  have HBq : Hid (Below w.heap.size w wq) := Lib.hid (by rw [← hwq]; exact HB.out.trans ((below_drewN (Below.refl _ _) _).mono HB.out.size))
  have HEq : Hid (FiveB wq w.heap.size ⟨xo, xf, xm, xv, xt⟩) := Lib.hid (by rw [← hwq]; exact HE.out.on2 (below_drewN (Below.refl _ _) _) hw)
  have hq1 : w.heap.size + 1 ≤ wq.heap.size := by rw [← hwq]; exact hw
  rw [hwq]
  clear hwq
  have F1 := Lib.hid (own_empty wq (w.heap.size + 1) 113 5 hq1)
  have R9 := Lib.hid (run_append_owned_none (P := Tryz.prog) _ (w.heap.size + 1) 52 52 113 i0 5 Tryz.underlying52 hi0 _ 0 [] F1.out)
  go_wp2_with (at_builtin; refine wpList_append_run _ rfl _ _ 52 52 rfl (.slice (some ⟨wq.heap.size, 0, none⟩) 0 0) (.slice none 0 0) (by rfl) (by rfl) R9.out ?_; refine Hid.out ?_)
  refine Lib.hid ?_
  have BB : Hid (Below (w.heap.size + 1) wq (wq.alloc (Obj.cells #[] 113))) := Lib.hid ((Below.refl (w.heap.size + 1) wq).alloc hq1 (Obj.cells #[] 113))
  have HS : Hid (∀ w', Below (w.heap.size + 1) wq w' → w'.cell? ⟨w.heap.size, 0, none⟩ = some (.int .i64 xo) ∧ w'.cell? ⟨w.heap.size, 1, none⟩ = some (.int .i64 xf) ∧ w'.cell? ⟨w.heap.size, 2, none⟩ = some (.int .i64 xm) ∧ w'.cell? ⟨w.heap.size, 3, none⟩ = some (.int .i64 xv) ∧ w'.cell? ⟨w.heap.size, 4, none⟩ = some (.int .i64 xt) ∧ Below (w.heap.size + 1) wq w') := Lib.hid (fun w' h => by
    obtain ⟨y0, y1, y2, y3, y4⟩ := HEq.out.on2 h (Nat.lt_succ_self _)
    exact ⟨y0, y1, y2, y3, y4, h⟩)
  go_upto_region 5 with fail
  obtain ⟨w4, hw4⟩ : ∃ u, wq.alloc (Obj.cells #[] 113) = u := ⟨_, rfl⟩
  rw [hw4] at BB F1 ⊢
  clear hw4 R9
  have hs4 := BB.out.size
  refine wp_region_held_drew (S := fun w' => w'.cell? ⟨w.heap.size, 0, none⟩ = some (.int .i64 xo) ∧ w'.cell? ⟨w.heap.size, 1, none⟩ = some (.int .i64 xf) ∧ w'.cell? ⟨w.heap.size, 2, none⟩ = some (.int .i64 xm) ∧ w'.cell? ⟨w.heap.size, 3, none⟩ = some (.int .i64 xv) ∧ w'.cell? ⟨w.heap.size, 4, none⟩ = some (.int .i64 xt) ∧ Below (w.heap.size + 1) wq w') (by kernel_rfl) ?_ (fun hHeld => ?_)
  · (try dsimp only)
    exact HS.out _ (BB.out.trans (below_drewN (Below.refl _ _) 1 |>.mono (by omega)))
  refine held_take (i := 0) (d := 28) (v := ?_) rfl rfl (by kernel_rfl) (by kernel_rfl) (by kernel_rfl) (fun _ _ _ h => h) (by rfl) ?_ (by assumption) ?_
  rotate_left
  · intro w hSw
    (try dsimp only at hSw)
    go_simp
    try with_reducible rfl
  try simp only [Act.put, List.setIfInBounds_toArray, List.set_cons_zero, List.set_cons_succ]
  refine held_take (i := 1) (d := 29) (v := ?_) rfl rfl (by kernel_rfl) (by kernel_rfl) (by kernel_rfl) (fun _ _ _ h => h) (by rfl) ?_ (by assumption) ?_
  rotate_left
  · intro w hSw
    (try dsimp only at hSw)
    go_simp
    try with_reducible rfl
  try simp only [Act.put, List.setIfInBounds_toArray, List.set_cons_zero, List.set_cons_succ]
  refine held_take (i := 4) (d := 32) (v := ?_) rfl rfl (by kernel_rfl) (by kernel_rfl) (by kernel_rfl) (fun _ _ _ h => h) (by rfl) ?_ (by assumption) ?_
  rotate_left
  · intro w hSw
    (try dsimp only at hSw)
    go_simp
    try with_reducible rfl
  try simp only [Act.put, List.setIfInBounds_toArray, List.set_cons_zero, List.set_cons_succ]
  refine held_take (i := 5) (d := 33) (v := ?_) rfl rfl (by kernel_rfl) (by kernel_rfl) (by kernel_rfl) (fun _ _ _ h => h) (by rfl) ?_ (by assumption) ?_
  rotate_left
  · intro w hSw
    (try dsimp only at hSw)
    go_simp
    try with_reducible rfl
  try simp only [Act.put, List.setIfInBounds_toArray, List.set_cons_zero, List.set_cons_succ]
  refine held_take (i := 6) (d := 34) (v := ?_) rfl rfl (by kernel_rfl) (by kernel_rfl) (by kernel_rfl) (fun _ _ _ h => h) (by rfl) ?_ (by assumption) ?_
  rotate_left
  · intro w hSw
    (try dsimp only at hSw)
    go_simp
    try with_reducible rfl
  try simp only [Act.put, List.setIfInBounds_toArray, List.set_cons_zero, List.set_cons_succ]
  have B0 : Hid (Below (w.heap.size + 1) wq w4.drew) := Lib.hid (BB.out.trans (below_drewN (Below.refl _ _) 1 |>.mono (by omega)))
  have R0 : Hid (w4.drew.ownsRow (w.heap.size + 1) 113 5 (.slice (some ⟨wq.heap.size, 0, none⟩) 0 0) 0 []) := Lib.hid (own_low F1.out (below_drewN (Below.refl _ _) 1) (Nat.le_refl _))
  obtain ⟨u0, hu0⟩ : ∃ u0, w4.drew = u0 := ⟨_, rfl⟩
  rw [hu0] at hHeld B0 R0 ⊢
  clear hu0 BB
  have hs0 := B0.out.size
  refine wpAnyH_ready (rs := [2]) (by kernel_rfl) (by simp) ?_
  refine ((AllReadyH.cons rfl (fun K' hK => ?_) AllReadyH.nil))
  go_simp
  refine hK.out _ _ ?_ (fun hHeld => ?_)
  · (try dsimp only)
    exact HS.out _ (B0.out.alloc (by omega) _)
  clear hK K'
  try simp only [Act.put, List.setIfInBounds_toArray, List.set_cons_zero, List.set_cons_succ]
  have B1 := Lib.hid (B0.out.alloc (by omega) (Obj.cells #[.int .i64 xo, .int .i64 xf, .int .i64 xm, .int .i64 xv, .int .i64 xt] 113))
  have G1 := Lib.hid (own_low R0.out (one_new2 u0 (Obj.cells #[.int .i64 xo, .int .i64 xf, .int .i64 xm, .int .i64 xv, .int .i64 xt] 113)) (Nat.le_refl _))
  have G2 := Lib.hid (five_cells u0 ⟨xo, xf, xm, xv, xt⟩ 113)
  refine wpAnyH_ready (rs := [3]) (by kernel_rfl) (by simp) ?_
  refine ((AllReadyH.cons rfl (fun K' hK => ?_) AllReadyH.nil))
  refine step_append_ad _ rfl (.tmp 28) (.tmp 30) 52 rfl (w.heap.size + 1) 113 i0 (.agg #[.int .i64 0, .int .i64 0, .int .i64 0, .int .i64 0, .int .i64 0]) 5 40 Tryz.underlying52 hi0 hw0 hw1 hw2 rfl (by decide) (.slice (some ⟨wq.heap.size, 0, none⟩) 0 0) 0 [] (by rfl) G1.out ⟨u0.heap.size, 0, none⟩ 1 1 (fltC ⟨xo, xf, xm, xv, xt⟩) (by rfl) rfl G2.out (fltC_one _) (by decide) (by decide) (Nat.le_trans hq1 B1.out.size) ?_
  intro v2 u2 hown hgrow
  have R2 := Lib.hid hown
  have B2 : Hid (Below (w.heap.size + 1) wq u2) := Lib.hid (Below.grown B1.out hgrow (Nat.le_trans hq1 B1.out.size) (fun q hq => (World.ownsRow.lt G1.out q hq).1))
  obtain ⟨a2, c2, rfl, _⟩ := own_in hown
  refine hK.out _ _ ?_ (fun hHeld => ?_)
  · (try dsimp only)
    exact HS.out _ B2.out
  clear hK K'
  try simp only [Act.put, List.setIfInBounds_toArray, List.set_cons_zero, List.set_cons_succ]
  clear hown hgrow
  refine wpAnyH_ready (rs := [7]) (by kernel_rfl) (by simp) ?_
  refine ((AllReadyH.cons rfl (fun K' hK => ?_) AllReadyH.nil))
  refine step_append_src _ rfl (.tmp 31) (.tmp 34) 52 rfl (w.heap.size + 1) 113 i0 (.agg #[.int .i64 0, .int .i64 0, .int .i64 0, .int .i64 0, .int .i64 0]) 5 40 Tryz.underlying52 hi0 hw0 hw1 hw2 rfl (by decide) (.slice a2 1 c2) 1 _ (by rfl) R2.out 0 (.slice none 0 0) 0 [] (by rfl) ⟨rfl, .inl ⟨rfl, rfl⟩⟩ (by simp) (by decide) (by decide) (Nat.le_trans hq1 B2.out.size) ?_
  intro v3 u3 hown hgrow _
  have R3 := Lib.hid hown
  have B3 : Hid (Below (w.heap.size + 1) wq u3) := Lib.hid (Below.grown B2.out hgrow (Nat.le_trans hq1 B2.out.size) (fun q hq => (World.ownsRow.lt R2.out q hq).1))
  obtain ⟨a3, c3, rfl, _⟩ := own_in hown
  refine hK.out _ _ ?_ (fun hHeld => ?_)
  · (try dsimp only)
    exact HS.out _ B3.out
  clear hK K'
  try simp only [Act.put, List.setIfInBounds_toArray, List.set_cons_zero, List.set_cons_succ]
  clear hown hgrow
  refine held_take (i := 8) (d := 4) (v := ?_) rfl rfl (by kernel_rfl) (by kernel_rfl) (by kernel_rfl) (fun _ _ _ h => h) (by rfl) ?_ (by assumption) ?_
  rotate_left
  · intro w hSw
    (try dsimp only at hSw)
    go_simp
    try with_reducible rfl
  try simp only [Act.put, List.setIfInBounds_toArray, List.set_cons_zero, List.set_cons_succ]
  refine wpAnyH_done (by kernel_rfl) ?_ _
  go_wp2_with fail
  go_ret
  refine ⟨_, rfl, ?_, HBq.out.trans (B3.out.mono (by omega))⟩
  have q := own_base R3.out (Nat.le_succ w.heap.size)
  rw [List.nil_append, List.append_nil] at q
  rw [HPC.out]
  exact q
end Go.Proofs.YtdmcgjohpnojkaaGreatDoor

namespace Go.Proofs.YtdmcgjohpnojkaaGreatDoor
open Go.RowKit
set_option linter.unusedVariables false
set_option linter.unusedSimpArgs false

def ordC (cs : List Cls) : List Cls := cs.foldl putC []
def ordF (fs : List Flt) : List Flt := fs.foldl putF []
theorem ordC_length (cs : List Cls) : (ordC cs).length = cs.length := by
  have h : ∀ (cs L : List Cls), (cs.foldl putC L).length = L.length + cs.length := by
    intro cs
    induction cs with
    | nil => intro L; simp
    | cons x r ih => intro L; rw [List.foldl_cons, ih, putC_length, List.length_cons]; omega
  unfold ordC; rw [h]; simp
theorem ordF_length (fs : List Flt) : (ordF fs).length = fs.length := by
  have h : ∀ (fs L : List Flt), (fs.foldl putF L).length = L.length + fs.length := by
    intro fs
    induction fs with
    | nil => intro L; simp
    | cons x r ih => intro L; rw [List.foldl_cons, ih, putF_length, List.length_cons]; omega
  unfold ordF; rw [h]; simp
theorem fold_at {α : Type} (f : List α → α → List α) (l : List α) (j : Nat) (hj : j < l.length) (d y : α) (hy : l.getD j d = y) (L : List α) : (l.drop j).foldl f L = (l.drop (j + 1)).foldl f (f L y) := by
  rw [List.getD_eq_getElem?_getD, List.getElem?_eq_getElem hj] at hy
  simp only [Option.getD_some] at hy
  rw [List.drop_eq_getElem_cons hj, hy, List.foldl_cons]
/-- what the two loops keep: the argument's box, the result's, the box of what is gathered, and its lists -/
def OrAt (w : World) (s : ByteArray) (va vb : Value) (d : Int) (vC vF : Value) (L : List Cls) (M : List Flt) (wr : World) : Prop :=
  Below w.heap.size w wr ∧ w.heap.size + 3 ≤ wr.heap.size ∧ FourIs wr w.heap.size (.string s) va vb (.int .i64 d) ∧ Zer wr (w.heap.size + 1) ∧ FourIs wr (w.heap.size + 1 + 1) (.string s) vC vF (.int .i64 d) ∧ FroB wr (w.heap.size + 1 + 1) ∧
    wr.ownsRow (w.heap.size + 3) 63 8 vC L.length (clsCs L) ∧ wr.ownsRow (w.heap.size + 3) 113 5 vF M.length (fltCs M) ∧ (∀ g, vC.ownBlock = some g → vF.ownBlock ≠ some g) ∧ (L = [] → vC = .slice none 0 0) ∧ (M = [] → vF = .slice none 0 0)
theorem OrAt.on {w wr w' : World} {s : ByteArray} {va vb vC vF : Value} {d : Int} {L : List Cls} {M : List Flt} (h : OrAt w s va vb d vC vF L M wr) (hb : Below wr.heap.size wr w') : OrAt w s va vb d vC vF L M w' := by
  obtain ⟨h1, h2, h3, h4, h5, h6, h7, h8, h9, h10⟩ := h
  exact ⟨h1.trans (hb.mono h1.size), Nat.le_trans h2 hb.size, h3.on hb, h4.on hb, h5.on hb, h6.on hb h5.2.2.2.2, own_low h7 hb (Nat.le_refl _), own_low h8 hb (Nat.le_refl _), h9, h10⟩
theorem FourIs.set2 {w : World} {b : Nat} {a0 a1 a2 a3 : Value} (h : FourIs w b a0 a1 a2 a3) (v : Value) : FourIs (w.setCell ⟨b, 2, none⟩ v) b a0 a1 v a3 := by
  obtain ⟨h0, h1, h2, h3, hg⟩ := h
  refine ⟨?_, ?_, ?_, ?_, by simpa using hg⟩
  · rw [World.cell?_setCell_other _ _ _ _ (by simp)]; exact h0
  · rw [World.cell?_setCell_other _ _ _ _ (by simp)]; exact h1
  · exact World.cell?_setCell_same' _ _ _ (by rw [h2]; rfl)
  · rw [World.cell?_setCell_other _ _ _ _ (by simp)]; exact h3
theorem OrAt.addC {w wr w1 : World} {s : ByteArray} {va vb vC vF r : Value} {d : Int} {L : List Cls} {M : List Flt} (y : Cls) (h : OrAt w s va vb d vC vF L M wr) (hb : Below wr.heap.size wr w1)
    (ho : w1.ownsRow wr.heap.size 63 8 r (L.length + 1) (clsCs (putC L y))) : OrAt w s va vb d r vF (putC L y) M (w1.setCell ⟨w.heap.size + 1 + 1, 1, none⟩ r) := by
  have h9' := fun g (q : vF.ownBlock = some g) => (World.ownsRow.lt h.2.2.2.2.2.2.2.1 g q)
  obtain ⟨h1, h2, h3, h4, h5, h6, h7, h8, h9, h10, h11⟩ := h.on hb
  have hw3 := h.2.1
  have hr := fun g (q : r.ownBlock = some g) => (World.ownsRow.lt ho g q).1
  refine ⟨h1.setCell (p := ⟨w.heap.size + 1 + 1, 1, none⟩) (by show w.heap.size ≤ w.heap.size + 1 + 1; omega) _, by rw [Go.Deep.nblk_setCell]; exact h2, h3.far (by omega) _, h4.set (by omega) _, h5.set1 _, h6.set _ _, ?_, ?_, ?_, ?_, h11⟩
  · rw [putC_length]
    exact own_far (own_base ho hw3) (fun g q => by have := hr g q; omega) _
  · exact own_far h8 (fun g q => by have := (World.ownsRow.lt h8 g q).1; omega) _
  · intro g q q'
    have := hr g q
    have := (h9' g q').2
    omega
  · intro e
    have := putC_length L y
    rw [e] at this
    simp at this
theorem OrAt.addF {w wr w1 : World} {s : ByteArray} {va vb vC vF r : Value} {d : Int} {L : List Cls} {M : List Flt} (y : Flt) (h : OrAt w s va vb d vC vF L M wr) (hb : Below wr.heap.size wr w1)
    (ho : w1.ownsRow wr.heap.size 113 5 r (M.length + 1) (fltCs (putF M y))) : OrAt w s va vb d vC r L (putF M y) (w1.setCell ⟨w.heap.size + 1 + 1, 2, none⟩ r) := by
  have h9' := fun g (q : vC.ownBlock = some g) => (World.ownsRow.lt h.2.2.2.2.2.2.1 g q)
  obtain ⟨h1, h2, h3, h4, h5, h6, h7, h8, h9, h10, h11⟩ := h.on hb
  have hw3 := h.2.1
  have hr := fun g (q : r.ownBlock = some g) => (World.ownsRow.lt ho g q).1
  refine ⟨h1.setCell (p := ⟨w.heap.size + 1 + 1, 2, none⟩) (by show w.heap.size ≤ w.heap.size + 1 + 1; omega) _, by rw [Go.Deep.nblk_setCell]; exact h2, h3.far (by omega) _, h4.set (by omega) _, h5.set2 _, h6.set _ _, ?_, ?_, ?_, h10, ?_⟩
  · exact own_far h7 (fun g q => by have := (World.ownsRow.lt h7 g q).1; omega) _
  · rw [putF_length]
    exact own_far (own_base ho hw3) (fun g q => by have := hr g q; omega) _
  · intro g q q'
    have := hr g q'
    have := (h9' g q).2
    omega
  · intro e
    have := putF_length M y
    rw [e] at this
    simp at this
theorem cfPut_all (v : Value) (B : Nat) (L : List Cls) (x : Cls) (w : World) (HO : Hid (w.ownsRow B 63 8 v L.length (clsCs L))) (hn : L.length ≤ 1048576) (h0 : Hid (L = [] → v = .slice none 0 0)) :
    Calls Tryz.prog 92 #[v, clsV x] w fun e w' => ∃ r, e = .returned r ∧ w'.ownsRow w.heap.size 63 8 r (L.length + 1) (clsCs (putC L x)) ∧ Below w.heap.size w w' := by
  cases L with
  | nil => rw [h0.out rfl]; exact cfPut_nil x w
  | cons y r => exact cfPut_any v B (y :: r) x w HO hn (by simp)
theorem cfPutFilter_all (v : Value) (B : Nat) (L : List Flt) (x : Flt) (w : World) (HO : Hid (w.ownsRow B 113 5 v L.length (fltCs L))) (hn : L.length ≤ 1048576) (h0 : Hid (L = [] → v = .slice none 0 0)) :
    Calls Tryz.prog 144 #[v, fltV x] w fun e w' => ∃ r, e = .returned r ∧ w'.ownsRow w.heap.size 113 5 r (L.length + 1) (fltCs (putF L x)) ∧ Below w.heap.size w w' := by
  cases L with
  | nil => rw [h0.out rfl]; exact cfPutFilter_nil x w
  | cons y r => exact cfPutFilter_any v B (y :: r) x w HO hn (by simp)
theorem orAt_new (w : World) (s : ByteArray) (ac af : Option Addr) (n m cc cf : Nat) (d : Int) :
    OrAt w s (.slice ac n cc) (.slice af m cf) d (.slice none 0 0) (.slice none 0 0) [] [] (((w.alloc (Obj.cells #[.string s, .slice ac n cc, .slice af m cf, .int .i64 d] 54)).alloc (Obj.cells #[.string ⟨#[]⟩, .slice none 0 0, .slice none 0 0, .int .i64 0] 54)).alloc (Obj.cells #[.string s, .slice none 0 0, .slice none 0 0, .int .i64 d] 54)) := by
  have e1 : (w.alloc (Obj.cells #[.string s, .slice ac n cc, .slice af m cf, .int .i64 d] 54)).heap.size = w.heap.size + 1 := by simp
  have e2 : ((w.alloc (Obj.cells #[.string s, .slice ac n cc, .slice af m cf, .int .i64 d] 54)).alloc (Obj.cells #[.string ⟨#[]⟩, .slice none 0 0, .slice none 0 0, .int .i64 0] 54)).heap.size = w.heap.size + 1 + 1 := by simp
  have b2 := one_new2 ((w.alloc (Obj.cells #[.string s, .slice ac n cc, .slice af m cf, .int .i64 d] 54)).alloc (Obj.cells #[.string ⟨#[]⟩, .slice none 0 0, .slice none 0 0, .int .i64 0] 54)) (Obj.cells #[.string s, .slice none 0 0, .slice none 0 0, .int .i64 d] 54)
  have b1 := (one_new2 (w.alloc (Obj.cells #[.string s, .slice ac n cc, .slice af m cf, .int .i64 d] 54)) (Obj.cells #[.string ⟨#[]⟩, .slice none 0 0, .slice none 0 0, .int .i64 0] 54)).trans (b2.mono (by simp))
  have z := zer_new b2
  have x := (box_four (Below.refl _ (((w.alloc (Obj.cells #[.string s, .slice ac n cc, .slice af m cf, .int .i64 d] 54)).alloc (Obj.cells #[.string ⟨#[]⟩, .slice none 0 0, .slice none 0 0, .int .i64 0] 54)).alloc (Obj.cells #[.string s, .slice none 0 0, .slice none 0 0, .int .i64 d] 54)))).1
  rw [e2] at x
  have f := FroB.new ((w.alloc (Obj.cells #[.string s, .slice ac n cc, .slice af m cf, .int .i64 d] 54)).alloc (Obj.cells #[.string ⟨#[]⟩, .slice none 0 0, .slice none 0 0, .int .i64 0] 54)) #[.string s, .slice none 0 0, .slice none 0 0, .int .i64 d] 54
  rw [e2] at f
  exact ⟨(box_four b1).2, by simp, (box_four b1).1, z, x, f, World.ownsRow_nil _ _ _ _, World.ownsRow_nil _ _ _ _, (fun g h => by cases h), fun _ => rfl, fun _ => rfl⟩
def Or1 (w : World) (s : ByteArray) (va vb : Value) (d : Int) (cs : List Cls) (i : Value) (wr : World) : Prop :=
  ∃ (j : Nat) (L : List Cls) (v : Value), j ≤ cs.length ∧ L.length = j ∧ i = .int .i64 j ∧ OrAt w s va vb d v (.slice none 0 0) L [] wr ∧ Hid ((cs.drop j).foldl putC L = ordC cs)
def Or2 (w : World) (s : ByteArray) (va vb : Value) (d : Int) (v : Value) (L : List Cls) (fs : List Flt) (i : Value) (wr : World) : Prop :=
  ∃ (j : Nat) (M : List Flt) (u : Value), j ≤ fs.length ∧ M.length = j ∧ i = .int .i64 j ∧ OrAt w s va vb d v u L M wr ∧ Hid ((fs.drop j).foldl putF M = ordF fs)
set_option maxHeartbeats 6400000 in
theorem cfOrder_any (v : Value) (c : Cfg) (w : World) (HV : Hid (CfgV w v c)) (HM : Hid (CfgM c)) :
    Calls Tryz.prog 88 #[v] w (SaysCfgN w ⟨c.s, ordC c.cs, ordF c.fs, c.d⟩) := by
  obtain ⟨ac, cc, af, cf, rfl, ic, if_⟩ := HV.out
  obtain ⟨s, cs, fs, d⟩ := c
  have hcl : cs.length ≤ 1048576 := HM.out.2.1
  have hfl : fs.length ≤ 1048576 := HM.out.2.2
  have IC := Lib.hid ic
  have IF := Lib.hid if_
  have HPC := Lib.hid (fun v B L x w HO hn h0 => cfPut_all v B L x w HO hn h0)
  have HPF := Lib.hid (fun v B L x w HO hn h0 => cfPutFilter_all v B L x w HO hn h0)
  have O0 := Lib.hid (orAt_new w s ac af cs.length fs.length cc cf d)
  clear HV ic if_
  simp only at IC IF ⊢
  go_enter Tryz.func88, Tryz.ntmps88
  obtain ⟨y0, y1, y2, y3, _⟩ := O0.out.2.2.1
  go_wp2_with fail
  go_loopw [16] (fun i wr => Or1 w s (.slice ac cs.length cc) (.slice af fs.length cf) d cs i wr) (fun i _ => cs.length - (intOf i).toNat)
  case atStart => exact ⟨0, [], .slice none 0 0, Nat.zero_le _, rfl, rfl, O0.out, Lib.hid (by rw [List.drop_zero]; rfl)⟩
  case round =>
    obtain ⟨j, L, v, hj, rfl, rfl, ho, HP⟩ := hrel
    have HO := Lib.hid ho
    clear ho y0 y1 y2 y3
    by_cases hlt : L.length < cs.length
    · obtain ⟨g, rfl, ht, hg⟩ := IC.out (by omega)
      obtain ⟨y, hy⟩ : ∃ y, cs.getD L.length cls0 = y := ⟨_, rfl⟩
      obtain ⟨a0, a1, a2, a3, a4, a5, a6, a7⟩ := (ht.below HO.out.1 hg).cls L.length hlt y hy
      have HX : Hid ((cs.drop (L.length + 1)).foldl putC (putC L y) = ordC cs) := Lib.hid (by rw [← HP.out, fold_at putC cs L.length hlt cls0 y hy])
      obtain ⟨yi, yp, yr, ye, yb, yu, yo, yl⟩ := y
      simp only at a0 a1 a2 a3 a4 a5 a6 a7
      have HO1 := Lib.hid (HO.out.on (one_new2 wr (Obj.cells #[.int .i64 yi, .int .i64 yp, .int .i64 yr, .int .i64 ye, .int .i64 yb, .int .i64 yu, .int .i64 yo, .int .i64 yl] 63)))
      obtain ⟨av, cv, rfl, _⟩ := own_in HO.out.2.2.2.2.2.2.1
      obtain ⟨z0, z1, z2, z3, zl⟩ := HO1.out.2.2.2.2.1
      obtain ⟨s0, s1, s2, s3, sl⟩ := HO.out.2.2.2.2.1
      have hyb : (¬ wr.heap.size = w.heap.size + 1 + 1) ∧ (¬ w.heap.size + 1 + 1 = wr.heap.size) := by have := HO.out.2.1; omega
      have hgr : g < wr.heap.size := Nat.lt_of_lt_of_le hg HO.out.1.size
      have CP := Lib.hid (HPC.out (.slice av L.length cv) (w.heap.size + 3) L ⟨yi, yp, yr, ye, yb, yu, yo, yl⟩ (wr.alloc (Obj.cells #[.int .i64 yi, .int .i64 yp, .int .i64 yr, .int .i64 ye, .int .i64 yb, .int .i64 yu, .int .i64 yo, .int .i64 yl] 63)) (Lib.hid HO1.out.2.2.2.2.2.2.1) (by omega) (Lib.hid HO1.out.2.2.2.2.2.2.2.2.2.1))
      unfold clsV at CP
      simp only at CP
      have hw3 := HO.out.2.1
      clear hy HP ht hg
      go_wp2_with (go_at_call 92; (with_reducible refine CP.out.mono ?_); rintro e w1 ⟨r, rfl, o1, b1⟩; have HD := Lib.hid (OrAt.addC ⟨yi, yp, yr, ye, yb, yu, yo, yl⟩ HO1.out b1 o1); obtain ⟨t0, t1, t2, t3, tl⟩ := (HO1.out.on b1).2.2.2.2.1; have tf := (HO1.out.on b1).2.2.2.2.2.1 1; obtain ⟨ar, cr, rfl, _⟩ := own_in o1; clear o1 b1 z0 z1 z2 z3 s0 s1 s2 s3)
      go_roundw
      case rel => exact ⟨L.length + 1, _, _, by omega, by rw [putC_length], by go_num, HD.out, HX⟩
      case measure => simp [intOf]; omega
    · have HL : Hid (L = ordC cs) := Lib.hid (by rw [← HP.out, List.drop_eq_nil_of_le (by omega)]; rfl)
      obtain ⟨y0, y1, y2, y3, _⟩ := HO.out.2.2.1
      obtain ⟨av, cv, rfl, _⟩ := own_in HO.out.2.2.2.2.2.2.1
      clear HP HPC
      go_wp2_with fail
      go_loopw [29] (fun i wr => Or2 w s (.slice ac cs.length cc) (.slice af fs.length cf) d (.slice av L.length cv) L fs i wr) (fun i _ => fs.length - (intOf i).toNat)
      case atStart => exact ⟨0, [], .slice none 0 0, Nat.zero_le _, rfl, rfl, HO.out, Lib.hid (by rw [List.drop_zero]; rfl)⟩
      case round =>
        obtain ⟨j, M, u, hj, rfl, rfl, ho, HP⟩ := hrel
        clear HO
        have HO := Lib.hid ho
        clear ho y0 y1 y2 y3
        by_cases hlt : M.length < fs.length
        · obtain ⟨g, rfl, ht, hg⟩ := IF.out (by omega)
          obtain ⟨y, hy⟩ : ∃ y, fs.getD M.length flt0 = y := ⟨_, rfl⟩
          obtain ⟨a0, a1, a2, a3, a4⟩ := (ht.below HO.out.1 hg).flt M.length hlt y hy
          have HX : Hid ((fs.drop (M.length + 1)).foldl putF (putF M y) = ordF fs) := Lib.hid (by rw [← HP.out, fold_at putF fs M.length hlt flt0 y hy])
          obtain ⟨yo, yf, ym, yv, yt⟩ := y
          simp only at a0 a1 a2 a3 a4
          have HO1 := Lib.hid (HO.out.on (one_new2 wr (Obj.cells #[.int .i64 yo, .int .i64 yf, .int .i64 ym, .int .i64 yv, .int .i64 yt] 113)))
          obtain ⟨au, cu, rfl, _⟩ := own_in HO.out.2.2.2.2.2.2.2.1
          obtain ⟨z0, z1, z2, z3, zl⟩ := HO1.out.2.2.2.2.1
          obtain ⟨s0, s1, s2, s3, sl⟩ := HO.out.2.2.2.2.1
          have hyb : (¬ wr.heap.size = w.heap.size + 1 + 1) ∧ (¬ w.heap.size + 1 + 1 = wr.heap.size) := by have := HO.out.2.1; omega
          have hgr : g < wr.heap.size := Nat.lt_of_lt_of_le hg HO.out.1.size
          have CP := Lib.hid (HPF.out (.slice au M.length cu) (w.heap.size + 3) M ⟨yo, yf, ym, yv, yt⟩ (wr.alloc (Obj.cells #[.int .i64 yo, .int .i64 yf, .int .i64 ym, .int .i64 yv, .int .i64 yt] 113)) (Lib.hid HO1.out.2.2.2.2.2.2.2.1) (by omega) (Lib.hid HO1.out.2.2.2.2.2.2.2.2.2.2))
          unfold fltV at CP
          simp only at CP
          have hw3 := HO.out.2.1
          clear hy HP ht hg
          go_wp2_with (go_at_call 144; (with_reducible refine CP.out.mono ?_); rintro e w1 ⟨r, rfl, o1, b1⟩; have HD := Lib.hid (OrAt.addF ⟨yo, yf, ym, yv, yt⟩ HO1.out b1 o1); obtain ⟨t0, t1, t2, t3, tl⟩ := (HO1.out.on b1).2.2.2.2.1; have tf := (HO1.out.on b1).2.2.2.2.2.1 2; obtain ⟨ar, cr, rfl, _⟩ := own_in o1; clear o1 b1 z0 z1 z2 z3 s0 s1 s2 s3)
          go_roundw
          case rel => exact ⟨M.length + 1, _, _, by omega, by rw [putF_length], by go_num, HD.out, HX⟩
          case measure => simp [intOf]; omega
        · have HF : Hid (M = ordF fs) := Lib.hid (by rw [← HP.out, List.drop_eq_nil_of_le (by omega)]; rfl)
          obtain ⟨au, cu, rfl, _⟩ := own_in HO.out.2.2.2.2.2.2.2.1
          obtain ⟨z0, z1, z2, z3, zl⟩ := HO.out.2.2.2.2.1
          obtain ⟨⟨x0, x1, x2, x3, xl⟩, x4⟩ := HO.out.2.2.2.1
          have q0 := x4 0
          have q1 := x4 1
          have q2 := x4 2
          have q3 := x4 3
          clear x4 HP
          go_wp2_with fail
          obtain ⟨r0, r1, r2, r3⟩ := read4 HO.out.2.2.2.1.four (.string s) (.slice av L.length cv) (.slice au M.length cu) (.int .i64 d) _ rfl
          have O := HO.out
          exact bodyPost_ret (v := .agg #[.string s, .slice av L.length cv, .slice au M.length cu, .int .i64 d]) (by simp [results, Tryz.results88, go_sem, r0, r1, r2, r3]) rfl ⟨_, rfl, by
            rw [← HL.out, ← HF.out]
            exact ⟨_, _, rfl, own_base (own_set (own_set (own_set (own_set O.2.2.2.2.2.2.1 (by show w.heap.size + 1 < _; omega) _) (by show w.heap.size + 1 < _; omega) _) (by show w.heap.size + 1 < _; omega) _) (by show w.heap.size + 1 < _; omega) _) (by omega), own_base (own_set (own_set (own_set (own_set O.2.2.2.2.2.2.2.1 (by show w.heap.size + 1 < _; omega) _) (by show w.heap.size + 1 < _; omega) _) (by show w.heap.size + 1 < _; omega) _) (by show w.heap.size + 1 < _; omega) _) (by omega), O.2.2.2.2.2.2.2.2.1⟩, set4 O.1 _ (by omega) _ _ _ _⟩
end Go.Proofs.YtdmcgjohpnojkaaGreatDoor

namespace Go.Proofs.YtdmcgjohpnojkaaGreatDoor
open Go.RowKit
set_option linter.unusedVariables false
set_option linter.unusedSimpArgs false

def ordG (c : Cfg) : Cfg := ⟨c.s, ordC c.cs, ordF c.fs, c.d⟩
def resOrderConfig2 (c : Cfg) : Bool := decide (c.cs.length ≤ 24) && (decide (c.fs.length ≤ 16) && goodC (ordG c))
def resOrderConfig1 (c : Cfg) : Cfg := if resOrderConfig2 c then ordG c else cfg0
theorem ordG_M {c : Cfg} (h : CfgM c) : CfgM (ordG c) :=
  ⟨h.1, by show (ordC c.cs).length ≤ _; rw [ordC_length]; exact h.2.1, by show (ordF c.fs).length ≤ _; rw [ordF_length]; exact h.2.2⟩
theorem lenOrderConfig (c : Cfg) (h : CfgM c) : CfgM (resOrderConfig1 c) := by
  unfold resOrderConfig1
  split
  · exact ordG_M h
  · exact ⟨Nat.zero_le _, Nat.zero_le _, Nat.zero_le _⟩
theorem or_no {c : Cfg} (h : 24 < c.cs.length ∨ 16 < c.fs.length) : resOrderConfig1 c = cfg0 ∧ resOrderConfig2 c = false := by
  have : resOrderConfig2 c = false := by
    unfold resOrderConfig2
    rcases h with h | h
    · rw [decide_eq_false (by omega)]; rfl
    · rw [decide_eq_false (p := c.fs.length ≤ 16) (by omega)]; simp
  unfold resOrderConfig1; rw [this]; exact ⟨rfl, rfl⟩
theorem or_yes {c : Cfg} (h1 : c.cs.length ≤ 24) (h2 : c.fs.length ≤ 16) : resOrderConfig1 c = (if goodC (ordG c) then ordG c else cfg0) ∧ resOrderConfig2 c = goodC (ordG c) := by
  have : resOrderConfig2 c = goodC (ordG c) := by unfold resOrderConfig2; rw [decide_eq_true h1, decide_eq_true h2]; simp
  unfold resOrderConfig1; rw [this]; exact ⟨rfl, rfl⟩
theorem or_box {w w1 : World} {a0 a1 a2 a3 : Value} {t1 t3 : TypeId} (b : Below ((w.alloc (.cells #[a0, a1, a2, a3] t1)).alloc (.cells #[.string ⟨#[]⟩, .slice none 0 0, .slice none 0 0, .int .i64 0] t3)).heap.size ((w.alloc (.cells #[a0, a1, a2, a3] t1)).alloc (.cells #[.string ⟨#[]⟩, .slice none 0 0, .slice none 0 0, .int .i64 0] t3)) w1) :
    FourIs w1 w.heap.size a0 a1 a2 a3 ∧ Zer w1 (w.heap.size + 1) ∧ Below w.heap.size w w1 := by
  have c1 := (one_new2 (w.alloc (.cells #[a0, a1, a2, a3] t1)) (.cells #[.string ⟨#[]⟩, .slice none 0 0, .slice none 0 0, .int .i64 0] t3)).trans (b.mono (by simp))
  exact ⟨(box_four c1).1, zer_new b, (box_four c1).2⟩
set_option maxHeartbeats 6400000 in
theorem specOrderConfig_any (v : Value) (c : Cfg) (B : Nat) (w : World) (HV : Hid (OwnCfg w B v c)) (HM : Hid (CfgM c)) :
    Calls Tryz.prog 33 #[v] w (SaysCB w (resOrderConfig1 c) (resOrderConfig2 c)) := by
  have HCV := Lib.hid HV.out.cfg
  obtain ⟨vc, vf, rfl, oc, of, od⟩ := HV.out
  obtain ⟨ac, cc, rfl, _⟩ := own_in oc
  obtain ⟨af, cf, rfl, _⟩ := own_in of
  clear HV oc of od
  obtain ⟨s, cs, fs, d⟩ := c
  simp only at HCV
  have AB := Lib.hid (or_box (Below.refl _ ((w.alloc (.cells #[.string s, .slice ac cs.length cc, .slice af fs.length cf, .int .i64 d] 54)).alloc (.cells #[.string ⟨#[]⟩, .slice none 0 0, .slice none 0 0, .int .i64 0] 54))))
  have no : ∀ (D : Bool), (24 < cs.length ∨ 16 < fs.length) → (decide ((24 : Int) < (cs.length : Int)) = D) → Calls Tryz.prog 33 #[.agg #[.string s, .slice ac cs.length cc, .slice af fs.length cf, .int .i64 d]] w (SaysCB w cfg0 false) := by
    intro D h hD
    cases D
    · have h16 : 16 < fs.length := by have := of_decide_eq_false hD; omega
      have d2 : decide ((16 : Int) < (fs.length : Int)) = true := decide_eq_true (by omega)
      go_enter Tryz.func33, Tryz.ntmps33
      go_wp2_with fail
      exact bodyPost_ret (v := .tuple #[zV, .bool false]) (by simp [results, Tryz.results33, go_sem, zV]) rfl ⟨_, rfl, own_zV _ _, AB.out.2.2⟩
    · go_enter Tryz.func33, Tryz.ntmps33
      go_wp2_with fail
      exact bodyPost_ret (v := .tuple #[zV, .bool false]) (by simp [results, Tryz.results33, go_sem, zV]) rfl ⟨_, rfl, own_zV _ _, AB.out.2.2⟩
  by_cases hn : 24 < cs.length ∨ 16 < fs.length
  · obtain ⟨x1, x2⟩ := or_no (c := (⟨s, cs, fs, d⟩ : Cfg)) hn
    rw [x1, x2]
    exact no _ hn rfl
  clear no
  have h1 : cs.length ≤ 24 := by omega
  have h2 : fs.length ≤ 16 := by omega
  have d1 : decide ((24 : Int) < (cs.length : Int)) = false := decide_eq_false (by omega)
  have d2 : decide ((16 : Int) < (fs.length : Int)) = false := decide_eq_false (by omega)
  obtain ⟨x1, x2⟩ := or_yes (c := (⟨s, cs, fs, d⟩ : Cfg)) h1 h2
  rw [x1, x2]
  clear x1 x2 hn
  have HCO := Lib.hid (fun w' (b : Below w.heap.size w w') => cfOrder_any _ _ w' (Lib.hid (HCV.out.below b)) HM)
  have HGM := Lib.hid (ordG_M HM.out)
  unfold ordG at HGM ⊢
  simp only at HCO HGM ⊢
  have HIF := Lib.hid (fun v w h => cfIf_any v (⟨s, ordC cs, ordF fs, d⟩ : Cfg) w h HGM)
  generalize hG : (⟨s, ordC cs, ordF fs, d⟩ : Cfg) = G at HCO HIF ⊢
  clear hG HGM
  generalize goodC G = b at HIF ⊢
  have a0 := AB.out.1.1
  go_enter Tryz.func33, Tryz.ntmps33
  go_wp2_with (go_at_call 88; (with_reducible refine (HCO.out _ AB.out.2.2).mono ?_); rintro e w1 ⟨v1, rfl, o1, b1⟩; have O1 := Lib.hid o1; have Z1 := Lib.hid (AB.out.2.1.on b1); have B1 := Lib.hid (AB.out.2.2.trans (b1.mono AB.out.2.2.size)); have IFC := Lib.hid (HIF.out _ w1 (Lib.hid o1.cfg)); obtain ⟨va, vb, rfl, oa, ob, _⟩ := o1; obtain ⟨pa, ka, rfl, _⟩ := own_in oa; obtain ⟨pb, kb, rfl, _⟩ := own_in ob; clear b1 oa ob; refine Hid.out ?_)
  refine Lib.hid ?_
  have hs1 : w.heap.size + 1 < ((w.alloc (.cells #[.string s, .slice ac cs.length cc, .slice af fs.length cf, .int .i64 d] 54)).alloc (.cells #[.string ⟨#[]⟩, .slice none 0 0, .slice none 0 0, .int .i64 0] 54)).heap.size := by simp
  cases b
  · unfold SaysIf at IFC
    simp only [Bool.false_eq_true, if_false] at IFC
    unfold zV at IFC
    go_wp2_with (go_at_call 87; refine IFC.out.mono ?_; rintro e w2 ⟨rfl, b2⟩; have BV := Lib.hid b2; clear b2; obtain ⟨⟨x0, x1, x2, x3, _⟩, x4⟩ := Z1.out.on BV.out; have y0 := x4 0; have y1 := x4 1; have y2 := x4 2; have y3 := x4 3; clear x4)
    obtain ⟨r0, r1, r2, r3⟩ := read4 (Z1.out.on BV.out).four (.string ⟨#[]⟩) (.slice none 0 0) (.slice none 0 0) (.int .i64 0) _ rfl
    exact bodyPost_ret (v := .tuple #[zV, .bool false]) (by simp [results, Tryz.results33, go_sem, r0, r1, r2, r3, zV]) rfl ⟨_, rfl, own_zV _ _, set4 (B1.out.trans (BV.out.mono B1.out.size)) _ (by omega) _ _ _ _⟩
  · unfold SaysIf at IFC
    simp only [if_true] at IFC
    go_wp2_with (go_at_call 87; refine IFC.out.mono ?_; rintro e w2 ⟨rfl, b2⟩; have BV := Lib.hid b2; clear b2; obtain ⟨⟨x0, x1, x2, x3, _⟩, x4⟩ := Z1.out.on BV.out; have y0 := x4 0; have y1 := x4 1; have y2 := x4 2; have y3 := x4 3; clear x4)
    obtain ⟨r0, r1, r2, r3⟩ := read4 (Z1.out.on BV.out).four (.string G.s) (.slice pa G.cs.length ka) (.slice pb G.fs.length kb) (.int .i64 G.d) _ rfl
    exact bodyPost_ret (v := .tuple #[.agg #[.string G.s, .slice pa G.cs.length ka, .slice pb G.fs.length kb, .int .i64 G.d], .bool true]) (by simp [results, Tryz.results33, go_sem, r0, r1, r2, r3]) rfl ⟨_, rfl, ((O1.out.on BV.out).set4 hs1 _ _ _ _).base (by omega), set4 (B1.out.trans (BV.out.mono B1.out.size)) _ (by omega) _ _ _ _⟩
end Go.Proofs.YtdmcgjohpnojkaaGreatDoor
