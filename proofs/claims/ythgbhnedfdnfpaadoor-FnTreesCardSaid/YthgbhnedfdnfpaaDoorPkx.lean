import Derived.Test.YthgbhnedfdnfpaaDoorPkv
import Derived.Test.YthgbhnedfdnfpaaDoorPkw
/- A class put into a list that is nil: the model's (for OrderConfig). A filter put into its place: the model's (written by tools/gen_cgu.py of Cgp and Cgt). The model puts a configuration in order: cfOrder. OrderConfig, the model's. -/
namespace Go.Proofs.YthgbhnedfdnfpaaDoor
set_option maxRecDepth 100000
open Go.RowKit
set_option linter.unusedVariables false
set_option linter.unusedSimpArgs false

set_option maxHeartbeats 6400000 in
theorem cfPut_nil (x : Cls) (w : World) :
    Calls Tryd.prog 74 #[.slice none 0 0, clsV x] w fun e w' => ∃ r, e = .returned r ∧ w'.ownsRow w.heap.size 43 8 r 1 (clsCs [x]) ∧ Below w.heap.size w w' := by
  obtain ⟨i0, hi0, hw0, hw1, hw2⟩ := info_parts infoCls
  have HPC : Hid (clsCs [x] = clsC x) := Lib.hid (by simp [clsCs])
  obtain ⟨xi, xp, xr, xe, xb, xu, xo, xl⟩ := x
  unfold clsV
  simp only at HPC ⊢
  go_enter Tryd.func74, Tryd.ntmps74
  go_wp2_with fail
  refine wp_loop_rounds 1 ?_
  rw [rounds_succ]
  go_wp2_with fail
  obtain ⟨wr, hwr⟩ : ∃ u, w.alloc (Obj.cells #[.int .i64 xi, .int .i64 xp, .int .i64 xr, .int .i64 xe, .int .i64 xb, .int .i64 xu, .int .i64 xo, .int .i64 xl] 43) = u := ⟨_, rfl⟩
  have HE : Hid (EightB wr w.heap.size ⟨xi, xp, xr, xe, xb, xu, xo, xl⟩) := Lib.hid (by rw [← hwr]; exact (box_eight (Below.refl _ _)).1)
  have HB : Hid (Below w.heap.size w wr) := Lib.hid (by rw [← hwr]; exact one_new2 _ _)
  have hw : w.heap.size < wr.heap.size := by rw [← hwr]; simp
  rw [hwr]
  clear hwr
  go_quiet (fail)
  obtain ⟨wq, hwq⟩ : ∃ u, wr.drewN nq = u := ⟨_, rfl⟩
  have HBq : Hid (Below w.heap.size w wq) := Lib.hid (by rw [← hwq]; exact HB.out.trans ((below_drewN (Below.refl _ _) _).mono HB.out.size))
  have HEq : Hid (EightB wq w.heap.size ⟨xi, xp, xr, xe, xb, xu, xo, xl⟩) := Lib.hid (by rw [← hwq]; exact HE.out.on2 (below_drewN (Below.refl _ _) _) hw)
  have hq1 : w.heap.size + 1 ≤ wq.heap.size := by rw [← hwq]; exact hw
  rw [hwq]
  clear hwq
  have F1 := Lib.hid (own_empty wq (w.heap.size + 1) 43 8 hq1)
  have R9 := Lib.hid (run_append_owned_none (P := Tryd.prog) _ (w.heap.size + 1) 23 23 43 i0 8 Tryd.underlying23 hi0 _ 0 [] F1.out)
  go_wp2_with (at_builtin; refine wpList_append_run _ rfl _ _ 23 23 rfl (.slice (some ⟨wq.heap.size, 0, none⟩) 0 0) (.slice none 0 0) (by rfl) (by rfl) R9.out ?_; refine Hid.out ?_)
  refine Lib.hid ?_
  have BB : Hid (Below (w.heap.size + 1) wq (wq.alloc (Obj.cells #[] 43))) := Lib.hid ((Below.refl (w.heap.size + 1) wq).alloc hq1 (Obj.cells #[] 43))
  have HS : Hid (∀ w', Below (w.heap.size + 1) wq w' → w'.cell? ⟨w.heap.size, 0, none⟩ = some (.int .i64 xi) ∧ w'.cell? ⟨w.heap.size, 1, none⟩ = some (.int .i64 xp) ∧ w'.cell? ⟨w.heap.size, 2, none⟩ = some (.int .i64 xr) ∧ w'.cell? ⟨w.heap.size, 3, none⟩ = some (.int .i64 xe) ∧ w'.cell? ⟨w.heap.size, 4, none⟩ = some (.int .i64 xb) ∧ w'.cell? ⟨w.heap.size, 5, none⟩ = some (.int .i64 xu) ∧ w'.cell? ⟨w.heap.size, 6, none⟩ = some (.int .i64 xo) ∧ w'.cell? ⟨w.heap.size, 7, none⟩ = some (.int .i64 xl) ∧ Below (w.heap.size + 1) wq w') := Lib.hid (fun w' h => by
    obtain ⟨y0, y1, y2, y3, y4, y5, y6, y7⟩ := HEq.out.on2 h (Nat.lt_succ_self _)
    exact ⟨y0, y1, y2, y3, y4, y5, y6, y7, h⟩)
  go_upto_region 5 with fail
  obtain ⟨w4, hw4⟩ : ∃ u, wq.alloc (Obj.cells #[] 43) = u := ⟨_, rfl⟩
  rw [hw4] at BB F1 ⊢
  clear hw4 R9
  have hs4 := BB.out.size
  refine wp_region_held_drew (S := fun w' => w'.cell? ⟨w.heap.size, 0, none⟩ = some (.int .i64 xi) ∧ w'.cell? ⟨w.heap.size, 1, none⟩ = some (.int .i64 xp) ∧ w'.cell? ⟨w.heap.size, 2, none⟩ = some (.int .i64 xr) ∧ w'.cell? ⟨w.heap.size, 3, none⟩ = some (.int .i64 xe) ∧ w'.cell? ⟨w.heap.size, 4, none⟩ = some (.int .i64 xb) ∧ w'.cell? ⟨w.heap.size, 5, none⟩ = some (.int .i64 xu) ∧ w'.cell? ⟨w.heap.size, 6, none⟩ = some (.int .i64 xo) ∧ w'.cell? ⟨w.heap.size, 7, none⟩ = some (.int .i64 xl) ∧ Below (w.heap.size + 1) wq w') (by kernel_rfl) ?_ (fun hHeld => ?_)
  · (try dsimp only)
    exact HS.out _ (BB.out.trans (below_drewN (Below.refl _ _) 1 |>.mono (by omega)))
  refine held_take (i := 0) (d := 28) (v := ?_) rfl rfl (by kernel_rfl) (by kernel_rfl) (by kernel_rfl) (fun _ _ _ h => h) (by rfl) ?_ (by assumption) ?_
  rotate_left
  · intro w hSw
    (try dsimp only at hSw)
    go_simp
    try with_reducible rfl
  try simp only [Act.put, List.setIfInBounds_toArray, List.set_cons_zero, List.set_cons_succ]
  refine held_take (i := 1) (d := 29) (v := ?_) rfl rfl (by kernel_rfl) (by kernel_rfl) (by kernel_rfl) (fun _ _ _ h => h) (by rfl) ?_ (by assumption) ?_
  rotate_left
  · intro w hSw
    (try dsimp only at hSw)
    go_simp
    try with_reducible rfl
  try simp only [Act.put, List.setIfInBounds_toArray, List.set_cons_zero, List.set_cons_succ]
  refine held_take (i := 4) (d := 32) (v := ?_) rfl rfl (by kernel_rfl) (by kernel_rfl) (by kernel_rfl) (fun _ _ _ h => h) (by rfl) ?_ (by assumption) ?_
  rotate_left
  · intro w hSw
    (try dsimp only at hSw)
    go_simp
    try with_reducible rfl
  try simp only [Act.put, List.setIfInBounds_toArray, List.set_cons_zero, List.set_cons_succ]
  refine held_take (i := 5) (d := 33) (v := ?_) rfl rfl (by kernel_rfl) (by kernel_rfl) (by kernel_rfl) (fun _ _ _ h => h) (by rfl) ?_ (by assumption) ?_
  rotate_left
  · intro w hSw
    (try dsimp only at hSw)
    go_simp
    try with_reducible rfl
  try simp only [Act.put, List.setIfInBounds_toArray, List.set_cons_zero, List.set_cons_succ]
  refine held_take (i := 6) (d := 34) (v := ?_) rfl rfl (by kernel_rfl) (by kernel_rfl) (by kernel_rfl) (fun _ _ _ h => h) (by rfl) ?_ (by assumption) ?_
  rotate_left
  · intro w hSw
    (try dsimp only at hSw)
    go_simp
    try with_reducible rfl
  try simp only [Act.put, List.setIfInBounds_toArray, List.set_cons_zero, List.set_cons_succ]
  have B0 : Hid (Below (w.heap.size + 1) wq w4.drew) := Lib.hid (BB.out.trans (below_drewN (Below.refl _ _) 1 |>.mono (by omega)))
  have R0 : Hid (w4.drew.ownsRow (w.heap.size + 1) 43 8 (.slice (some ⟨wq.heap.size, 0, none⟩) 0 0) 0 []) := Lib.hid (own_low F1.out (below_drewN (Below.refl _ _) 1) (Nat.le_refl _))
  obtain ⟨u0, hu0⟩ : ∃ u0, w4.drew = u0 := ⟨_, rfl⟩
  rw [hu0] at hHeld B0 R0 ⊢
  clear hu0 BB
  have hs0 := B0.out.size
  refine wpAnyH_ready (rs := [2]) (by kernel_rfl) (by simp) ?_
  refine ((AllReadyH.cons rfl (fun K' hK => ?_) AllReadyH.nil))
  go_simp
  refine hK.out _ _ ?_ (fun hHeld => ?_)
  · (try dsimp only)
    exact HS.out _ (B0.out.alloc (by omega) _)
  clear hK K'
  try simp only [Act.put, List.setIfInBounds_toArray, List.set_cons_zero, List.set_cons_succ]
  have B1 := Lib.hid (B0.out.alloc (by omega) (Obj.cells #[.int .i64 xi, .int .i64 xp, .int .i64 xr, .int .i64 xe, .int .i64 xb, .int .i64 xu, .int .i64 xo, .int .i64 xl] 43))
  have G1 := Lib.hid (own_low R0.out (one_new2 u0 (Obj.cells #[.int .i64 xi, .int .i64 xp, .int .i64 xr, .int .i64 xe, .int .i64 xb, .int .i64 xu, .int .i64 xo, .int .i64 xl] 43)) (Nat.le_refl _))
  have G2 := Lib.hid (eight_cells u0 ⟨xi, xp, xr, xe, xb, xu, xo, xl⟩ 43)
  refine wpAnyH_ready (rs := [3]) (by kernel_rfl) (by simp) ?_
  refine ((AllReadyH.cons rfl (fun K' hK => ?_) AllReadyH.nil))
  refine step_append_ad _ rfl (.tmp 28) (.tmp 30) 23 rfl (w.heap.size + 1) 43 i0 (.agg #[.int .i64 0, .int .i64 0, .int .i64 0, .int .i64 0, .int .i64 0, .int .i64 0, .int .i64 0, .int .i64 0]) 8 64 Tryd.underlying23 hi0 hw0 hw1 hw2 rfl (by decide) (.slice (some ⟨wq.heap.size, 0, none⟩) 0 0) 0 [] (by rfl) G1.out ⟨u0.heap.size, 0, none⟩ 1 1 (clsC ⟨xi, xp, xr, xe, xb, xu, xo, xl⟩) (by rfl) rfl G2.out (clsC_one _) (by decide) (by decide) (Nat.le_trans hq1 B1.out.size) ?_
  intro v2 u2 hown hgrow
  have R2 := Lib.hid hown
  have B2 : Hid (Below (w.heap.size + 1) wq u2) := Lib.hid (Below.grown B1.out hgrow (Nat.le_trans hq1 B1.out.size) (fun q hq => (World.ownsRow.lt G1.out q hq).1))
  obtain ⟨a2, c2, rfl, _⟩ := own_in hown
  refine hK.out _ _ ?_ (fun hHeld => ?_)
  · (try dsimp only)
    exact HS.out _ B2.out
  clear hK K'
  try simp only [Act.put, List.setIfInBounds_toArray, List.set_cons_zero, List.set_cons_succ]
  clear hown hgrow
  refine wpAnyH_ready (rs := [7]) (by kernel_rfl) (by simp) ?_
  refine ((AllReadyH.cons rfl (fun K' hK => ?_) AllReadyH.nil))
  refine step_append_src _ rfl (.tmp 31) (.tmp 34) 23 rfl (w.heap.size + 1) 43 i0 (.agg #[.int .i64 0, .int .i64 0, .int .i64 0, .int .i64 0, .int .i64 0, .int .i64 0, .int .i64 0, .int .i64 0]) 8 64 Tryd.underlying23 hi0 hw0 hw1 hw2 rfl (by decide) (.slice a2 1 c2) 1 _ (by rfl) R2.out 0 (.slice none 0 0) 0 [] (by rfl) ⟨rfl, .inl ⟨rfl, rfl⟩⟩ (by simp) (by decide) (by decide) (Nat.le_trans hq1 B2.out.size) ?_
  intro v3 u3 hown hgrow _
  have R3 := Lib.hid hown
  have B3 : Hid (Below (w.heap.size + 1) wq u3) := Lib.hid (Below.grown B2.out hgrow (Nat.le_trans hq1 B2.out.size) (fun q hq => (World.ownsRow.lt R2.out q hq).1))
  obtain ⟨a3, c3, rfl, _⟩ := own_in hown
  refine hK.out _ _ ?_ (fun hHeld => ?_)
  · (try dsimp only)
    exact HS.out _ B3.out
  clear hK K'
  try simp only [Act.put, List.setIfInBounds_toArray, List.set_cons_zero, List.set_cons_succ]
  clear hown hgrow
  refine held_take (i := 8) (d := 4) (v := ?_) rfl rfl (by kernel_rfl) (by kernel_rfl) (by kernel_rfl) (fun _ _ _ h => h) (by rfl) ?_ (by assumption) ?_
  rotate_left
  · intro w hSw
    (try dsimp only at hSw)
    go_simp
    try with_reducible rfl
  try simp only [Act.put, List.setIfInBounds_toArray, List.set_cons_zero, List.set_cons_succ]
  refine wpAnyH_done (by kernel_rfl) ?_ _
  go_wp2_with fail
  go_ret
  refine ⟨_, rfl, ?_, HBq.out.trans (B3.out.mono (by omega))⟩
  have q := own_base R3.out (Nat.le_succ w.heap.size)
  rw [List.nil_append, List.append_nil] at q
  rw [HPC.out]
  exact q
end Go.Proofs.YthgbhnedfdnfpaaDoor

namespace Go.Proofs.YthgbhnedfdnfpaaDoor
open Go.RowKit
set_option linter.unusedVariables false
set_option linter.unusedSimpArgs false

theorem fltCs_take : ∀ (cs : List Flt) (k : Nat), (fltCs cs).take (k * 5) = fltCs (cs.take k)
  | [], k => by simp [fltCs]
  | x :: r, 0 => by simp [fltCs]
  | x :: r, k + 1 => by
    rw [show (k + 1) * 5 = k * 5 + 5 by omega]
    simp only [List.take_succ_cons, fltCs_cons, fltC, List.cons_append, List.nil_append]
    rw [fltCs_take r k]
theorem fltCs_drop : ∀ (cs : List Flt) (k : Nat), (fltCs cs).drop (k * 5) = fltCs (cs.drop k)
  | [], k => by simp [fltCs]
  | x :: r, 0 => by simp
  | x :: r, k + 1 => by
    rw [show (k + 1) * 5 = k * 5 + 5 by omega]
    simp only [List.drop_succ_cons, fltCs_cons, fltC, List.cons_append, List.nil_append]
    exact fltCs_drop r k
theorem five_cells (w : World) (y : Flt) (t : TypeId) : ∀ j u, (fltC y)[j]? = some u → (w.alloc (.cells #[.int .i64 y.o, .int .i64 y.f, .int .i64 y.m, .int .i64 y.v, .int .i64 y.t] t)).cell? ((⟨w.heap.size, 0, none⟩ : Addr).add j) = some u := by
  intro j u hj
  unfold fltC at hj
  match j, hj with
  | 0, hj | 1, hj | 2, hj | 3, hj | 4, hj => simp at hj; subst hj; simp [Addr.add]
  | j + 5, hj => simp at hj
theorem fltC_one (y : Flt) : ∀ u ∈ fltC y, u.oneCell' = true := by
  intro u hu
  simp only [fltC, List.mem_cons, List.not_mem_nil, or_false] at hu
  rcases hu with rfl | rfl | rfl | rfl | rfl <;> rfl
theorem FiveB.on2 {w w1 : World} {b B : Nat} {x : Flt} (h : FiveB w b x) (hb : Below B w w1) (hB : b < B) : FiveB w1 b x := by
  obtain ⟨h0, h1, h2, h3, h4⟩ := h
  exact ⟨(hb.cell (p := ⟨b, 0, none⟩) hB).trans h0, (hb.cell (p := ⟨b, 1, none⟩) hB).trans h1, (hb.cell (p := ⟨b, 2, none⟩) hB).trans h2, (hb.cell (p := ⟨b, 3, none⟩) hB).trans h3, (hb.cell (p := ⟨b, 4, none⟩) hB).trans h4⟩
/-- how many filters stand in front of an order -/
def putKF : List Flt → Int → Nat
  | [], _ => 0
  | y :: r, id => if y.o < id then putKF r id + 1 else 0
theorem putKF_le : ∀ (l : List Flt) (id : Int), putKF l id ≤ l.length
  | [], _ => Nat.le_refl _
  | y :: r, id => by
    unfold putKF
    split
    · have := putKF_le r id; simp; omega
    · omega
def putF (cs : List Flt) (x : Flt) : List Flt := cs.take (putKF cs x.o) ++ x :: cs.drop (putKF cs x.o)
def PkRelF (w : World) (x : Flt) (cs : List Flt) (id : Int) (K : Nat) (i : Value) (wr : World) : Prop := ∃ j : Nat, j ≤ cs.length ∧ i = .int .i64 j ∧ Hid (j + putKF (cs.drop j) id = K) ∧ FiveB wr w.heap.size x ∧ w.heap.size < wr.heap.size ∧ Below w.heap.size w wr
theorem putKF_at (cs : List Flt) (j : Nat) (hj : j < cs.length) (y : Flt) (hy : cs.getD j flt0 = y) (id : Int) : putKF (cs.drop j) id = if y.o < id then putKF (cs.drop (j + 1)) id + 1 else 0 := by
  rw [List.getD_eq_getElem?_getD, List.getElem?_eq_getElem hj] at hy
  simp only [Option.getD_some] at hy
  rw [List.drop_eq_getElem_cons hj, hy, putKF]
theorem putF_length (cs : List Flt) (x : Flt) : (putF cs x).length = cs.length + 1 := by
  have := putKF_le cs x.o
  unfold putF; rw [List.length_append, List.length_cons, List.length_take, List.length_drop]; omega
theorem putF_cells (cs : List Flt) (x : Flt) : (fltCs cs).take (putKF cs x.o * 5) ++ fltC x ++ (fltCs cs).drop (putKF cs x.o * 5) = fltCs (putF cs x) := by
  unfold putF
  rw [fltCs_append, fltCs_cons, fltCs_take, fltCs_drop, List.append_assoc]
end Go.Proofs.YthgbhnedfdnfpaaDoor

namespace Go.Proofs.YthgbhnedfdnfpaaDoor
open Go.RowKit
set_option linter.unusedVariables false
set_option linter.unusedSimpArgs false

def ordC (cs : List Cls) : List Cls := cs.foldl putC []
def ordF (fs : List Flt) : List Flt := fs.foldl putF []
theorem ordC_length (cs : List Cls) : (ordC cs).length = cs.length := by
  have h : ∀ (cs L : List Cls), (cs.foldl putC L).length = L.length + cs.length := by
    intro cs
    induction cs with
    | nil => intro L; simp
    | cons x r ih => intro L; rw [List.foldl_cons, ih, putC_length, List.length_cons]; omega
  unfold ordC; rw [h]; simp
theorem ordF_length (fs : List Flt) : (ordF fs).length = fs.length := by
  have h : ∀ (fs L : List Flt), (fs.foldl putF L).length = L.length + fs.length := by
    intro fs
    induction fs with
    | nil => intro L; simp
    | cons x r ih => intro L; rw [List.foldl_cons, ih, putF_length, List.length_cons]; omega
  unfold ordF; rw [h]; simp
theorem fold_at {α : Type} (f : List α → α → List α) (l : List α) (j : Nat) (hj : j < l.length) (d y : α) (hy : l.getD j d = y) (L : List α) : (l.drop j).foldl f L = (l.drop (j + 1)).foldl f (f L y) := by
  rw [List.getD_eq_getElem?_getD, List.getElem?_eq_getElem hj] at hy
  simp only [Option.getD_some] at hy
  rw [List.drop_eq_getElem_cons hj, hy, List.foldl_cons]
/-- what the two loops keep: the argument's box, the result's, the box of what is gathered, and its lists -/
def OrAt (w : World) (s : ByteArray) (va vb : Value) (d : Int) (vC vF : Value) (L : List Cls) (M : List Flt) (wr : World) : Prop :=
  Below w.heap.size w wr ∧ w.heap.size + 3 ≤ wr.heap.size ∧ FourIs wr w.heap.size (.string s) va vb (.int .i64 d) ∧ Zer wr (w.heap.size + 1) ∧ FourIs wr (w.heap.size + 1 + 1) (.string s) vC vF (.int .i64 d) ∧ FroB wr (w.heap.size + 1 + 1) ∧
    wr.ownsRow (w.heap.size + 3) 43 8 vC L.length (clsCs L) ∧ wr.ownsRow (w.heap.size + 3) 77 5 vF M.length (fltCs M) ∧ (∀ g, vC.ownBlock = some g → vF.ownBlock ≠ some g) ∧ (L = [] → vC = .slice none 0 0) ∧ (M = [] → vF = .slice none 0 0)
theorem OrAt.on {w wr w' : World} {s : ByteArray} {va vb vC vF : Value} {d : Int} {L : List Cls} {M : List Flt} (h : OrAt w s va vb d vC vF L M wr) (hb : Below wr.heap.size wr w') : OrAt w s va vb d vC vF L M w' := by
  obtain ⟨h1, h2, h3, h4, h5, h6, h7, h8, h9, h10⟩ := h
  exact ⟨h1.trans (hb.mono h1.size), Nat.le_trans h2 hb.size, h3.on hb, h4.on hb, h5.on hb, h6.on hb h5.2.2.2.2, own_low h7 hb (Nat.le_refl _), own_low h8 hb (Nat.le_refl _), h9, h10⟩
theorem FourIs.set2 {w : World} {b : Nat} {a0 a1 a2 a3 : Value} (h : FourIs w b a0 a1 a2 a3) (v : Value) : FourIs (w.setCell ⟨b, 2, none⟩ v) b a0 a1 v a3 := by
  obtain ⟨h0, h1, h2, h3, hg⟩ := h
  refine ⟨?_, ?_, ?_, ?_, by simpa using hg⟩
  · rw [World.cell?_setCell_other _ _ _ _ (by simp)]; exact h0
  · rw [World.cell?_setCell_other _ _ _ _ (by simp)]; exact h1
  · exact World.cell?_setCell_same' _ _ _ (by rw [h2]; rfl)
  · rw [World.cell?_setCell_other _ _ _ _ (by simp)]; exact h3
theorem OrAt.addC {w wr w1 : World} {s : ByteArray} {va vb vC vF r : Value} {d : Int} {L : List Cls} {M : List Flt} (y : Cls) (h : OrAt w s va vb d vC vF L M wr) (hb : Below wr.heap.size wr w1)
    (ho : w1.ownsRow wr.heap.size 43 8 r (L.length + 1) (clsCs (putC L y))) : OrAt w s va vb d r vF (putC L y) M (w1.setCell ⟨w.heap.size + 1 + 1, 1, none⟩ r) := by
  have h9' := fun g (q : vF.ownBlock = some g) => (World.ownsRow.lt h.2.2.2.2.2.2.2.1 g q)
  obtain ⟨h1, h2, h3, h4, h5, h6, h7, h8, h9, h10, h11⟩ := h.on hb
  have hw3 := h.2.1
  have hr := fun g (q : r.ownBlock = some g) => (World.ownsRow.lt ho g q).1
  refine ⟨h1.setCell (p := ⟨w.heap.size + 1 + 1, 1, none⟩) (by show w.heap.size ≤ w.heap.size + 1 + 1; omega) _, by rw [Go.Deep.nblk_setCell]; exact h2, h3.far (by omega) _, h4.set (by omega) _, h5.set1 _, h6.set _ _, ?_, ?_, ?_, ?_, h11⟩
  · rw [putC_length]
    exact own_far (own_base ho hw3) (fun g q => by have := hr g q; omega) _
  · exact own_far h8 (fun g q => by have := (World.ownsRow.lt h8 g q).1; omega) _
  · intro g q q'
    have := hr g q
    have := (h9' g q').2
    omega
  · intro e
    have := putC_length L y
    rw [e] at this
    simp at this
theorem OrAt.addF {w wr w1 : World} {s : ByteArray} {va vb vC vF r : Value} {d : Int} {L : List Cls} {M : List Flt} (y : Flt) (h : OrAt w s va vb d vC vF L M wr) (hb : Below wr.heap.size wr w1)
    (ho : w1.ownsRow wr.heap.size 77 5 r (M.length + 1) (fltCs (putF M y))) : OrAt w s va vb d vC r L (putF M y) (w1.setCell ⟨w.heap.size + 1 + 1, 2, none⟩ r) := by
  have h9' := fun g (q : vC.ownBlock = some g) => (World.ownsRow.lt h.2.2.2.2.2.2.1 g q)
  obtain ⟨h1, h2, h3, h4, h5, h6, h7, h8, h9, h10, h11⟩ := h.on hb
  have hw3 := h.2.1
  have hr := fun g (q : r.ownBlock = some g) => (World.ownsRow.lt ho g q).1
  refine ⟨h1.setCell (p := ⟨w.heap.size + 1 + 1, 2, none⟩) (by show w.heap.size ≤ w.heap.size + 1 + 1; omega) _, by rw [Go.Deep.nblk_setCell]; exact h2, h3.far (by omega) _, h4.set (by omega) _, h5.set2 _, h6.set _ _, ?_, ?_, ?_, h10, ?_⟩
  · exact own_far h7 (fun g q => by have := (World.ownsRow.lt h7 g q).1; omega) _
  · rw [putF_length]
    exact own_far (own_base ho hw3) (fun g q => by have := hr g q; omega) _
  · intro g q q'
    have := hr g q'
    have := (h9' g q).2
    omega
  · intro e
    have := putF_length M y
    rw [e] at this
    simp at this
theorem cfPut_all (v : Value) (B : Nat) (L : List Cls) (x : Cls) (w : World) (HO : Hid (w.ownsRow B 43 8 v L.length (clsCs L))) (hn : L.length ≤ 1048576) (h0 : Hid (L = [] → v = .slice none 0 0)) :
    Calls Tryd.prog 74 #[v, clsV x] w fun e w' => ∃ r, e = .returned r ∧ w'.ownsRow w.heap.size 43 8 r (L.length + 1) (clsCs (putC L x)) ∧ Below w.heap.size w w' := by
  cases L with
  | nil => rw [h0.out rfl]; exact cfPut_nil x w
  | cons y r => exact cfPut_any v B (y :: r) x w HO hn (by simp)
end Go.Proofs.YthgbhnedfdnfpaaDoor

namespace Go.Proofs.YthgbhnedfdnfpaaDoor
open Go.RowKit
set_option linter.unusedVariables false
set_option linter.unusedSimpArgs false

def ordG (c : Cfg) : Cfg := ⟨c.s, ordC c.cs, ordF c.fs, c.d⟩
def resOrderConfig2 (c : Cfg) : Bool := decide (c.cs.length ≤ 24) && (decide (c.fs.length ≤ 16) && goodC (ordG c))
def resOrderConfig1 (c : Cfg) : Cfg := if resOrderConfig2 c then ordG c else cfg0
theorem ordG_M {c : Cfg} (h : CfgM c) : CfgM (ordG c) :=
  ⟨h.1, by show (ordC c.cs).length ≤ _; rw [ordC_length]; exact h.2.1, by show (ordF c.fs).length ≤ _; rw [ordF_length]; exact h.2.2⟩
theorem lenOrderConfig (c : Cfg) (h : CfgM c) : CfgM (resOrderConfig1 c) := by
  unfold resOrderConfig1
  split
  · exact ordG_M h
  · exact ⟨Nat.zero_le _, Nat.zero_le _, Nat.zero_le _⟩
theorem or_no {c : Cfg} (h : 24 < c.cs.length ∨ 16 < c.fs.length) : resOrderConfig1 c = cfg0 ∧ resOrderConfig2 c = false := by
  have : resOrderConfig2 c = false := by
    unfold resOrderConfig2
    rcases h with h | h
    · rw [decide_eq_false (by omega)]; rfl
    · rw [decide_eq_false (p := c.fs.length ≤ 16) (by omega)]; simp
  unfold resOrderConfig1; rw [this]; exact ⟨rfl, rfl⟩
theorem or_yes {c : Cfg} (h1 : c.cs.length ≤ 24) (h2 : c.fs.length ≤ 16) : resOrderConfig1 c = (if goodC (ordG c) then ordG c else cfg0) ∧ resOrderConfig2 c = goodC (ordG c) := by
  have : resOrderConfig2 c = goodC (ordG c) := by unfold resOrderConfig2; rw [decide_eq_true h1, decide_eq_true h2]; simp
  unfold resOrderConfig1; rw [this]; exact ⟨rfl, rfl⟩
theorem or_box {w w1 : World} {a0 a1 a2 a3 : Value} {t1 t3 : TypeId} (b : Below ((w.alloc (.cells #[a0, a1, a2, a3] t1)).alloc (.cells #[.string ⟨#[]⟩, .slice none 0 0, .slice none 0 0, .int .i64 0] t3)).heap.size ((w.alloc (.cells #[a0, a1, a2, a3] t1)).alloc (.cells #[.string ⟨#[]⟩, .slice none 0 0, .slice none 0 0, .int .i64 0] t3)) w1) :
    FourIs w1 w.heap.size a0 a1 a2 a3 ∧ Zer w1 (w.heap.size + 1) ∧ Below w.heap.size w w1 := by
  have c1 := (one_new2 (w.alloc (.cells #[a0, a1, a2, a3] t1)) (.cells #[.string ⟨#[]⟩, .slice none 0 0, .slice none 0 0, .int .i64 0] t3)).trans (b.mono (by simp))
  exact ⟨(box_four c1).1, zer_new b, (box_four c1).2⟩
end Go.Proofs.YthgbhnedfdnfpaaDoor
