import Derived.Test.YthgbhnedfdnfpaaGreatDoorPkw
import Derived.Test.YthgbhnedfdnfpaaGreatDoorPkv
/- A class put into a list that is nil: the model's (for OrderConfig). A filter put into its place: the model's (written by tools/gen_cgu.py of Cgp and Cgt). The model puts a configuration in order: cfOrder. OrderConfig, the model's. -/
namespace Go.Proofs.YthgbhnedfdnfpaaGreatDoor
set_option maxRecDepth 100000
open Go.RowKit
set_option linter.unusedVariables false
set_option linter.unusedSimpArgs false

set_option maxHeartbeats 6400000 in
theorem cfPut_nil (x : Cls) (w : World) :
    Calls Tryz.prog 105 #[.slice none 0 0, clsV x] w fun e w' => ∃ r, e = .returned r ∧ w'.ownsRow w.heap.size 41 8 r 1 (clsCs [x]) ∧ Below w.heap.size w w' := by
  obtain ⟨i0, hi0, hw0, hw1, hw2⟩ := info_parts infoCls
  have HPC : Hid (clsCs [x] = clsC x) := Lib.hid (by simp [clsCs])
  obtain ⟨xi, xp, xr, xe, xb, xu, xo, xl⟩ := x
  unfold clsV
  simp only at HPC ⊢
  go_enter Tryz.func105, Tryz.ntmps105
  go_wp2_with fail
  refine wp_loop_rounds 1 ?_
  rw [rounds_succ]
  go_wp2_with fail
  obtain ⟨wr, hwr⟩ : ∃ u, w.alloc (Obj.cells #[.int .i64 xi, .int .i64 xp, .int .i64 xr, .int .i64 xe, .int .i64 xb, .int .i64 xu, .int .i64 xo, .int .i64 xl] 41) = u := ⟨_, rfl⟩
  have HE : Hid (EightB wr w.heap.size ⟨xi, xp, xr, xe, xb, xu, xo, xl⟩) := Lib.hid (by rw [← hwr]; exact (box_eight (Below.refl _ _)).1)
  have HB : Hid (Below w.heap.size w wr) := Lib.hid (by rw [← hwr]; exact one_new2 _ _)
  have hw : w.heap.size < wr.heap.size := by rw [← hwr]; simp
  rw [hwr]
  clear hwr
  go_quiet (fail)
  obtain ⟨wq, hwq⟩ : ∃ u, wr.drewN nq = u := ⟨_, rfl⟩
  have HBq : Hid (Below w.heap.size w wq) := Lib.hid (by rw [← hwq]; exact HB.out.trans ((below_drewN (Below.refl _ _) _).mono HB.out.size))
  have HEq : Hid (EightB wq w.heap.size ⟨xi, xp, xr, xe, xb, xu, xo, xl⟩) := Lib.hid (by rw [← hwq]; exact HE.out.on2 (below_drewN (Below.refl _ _) _) hw)
  have hq1 : w.heap.size + 1 ≤ wq.heap.size := by rw [← hwq]; exact hw
  rw [hwq]
  clear hwq
  have F1 := Lib.hid (own_empty wq (w.heap.size + 1) 41 8 hq1)
  have R9 := Lib.hid (run_append_owned_none (P := Tryz.prog) _ (w.heap.size + 1) 23 23 41 i0 8 Tryz.underlying23 hi0 _ 0 [] F1.out)
  go_wp2_with (at_builtin; refine wpList_append_run _ rfl _ _ 23 23 rfl (.slice (some ⟨wq.heap.size, 0, none⟩) 0 0) (.slice none 0 0) (by rfl) (by rfl) R9.out ?_; refine Hid.out ?_)
  refine Lib.hid ?_
  have BB : Hid (Below (w.heap.size + 1) wq (wq.alloc (Obj.cells #[] 41))) := Lib.hid ((Below.refl (w.heap.size + 1) wq).alloc hq1 (Obj.cells #[] 41))
  have HS : Hid (∀ w', Below (w.heap.size + 1) wq w' → w'.cell? ⟨w.heap.size, 0, none⟩ = some (.int .i64 xi) ∧ w'.cell? ⟨w.heap.size, 1, none⟩ = some (.int .i64 xp) ∧ w'.cell? ⟨w.heap.size, 2, none⟩ = some (.int .i64 xr) ∧ w'.cell? ⟨w.heap.size, 3, none⟩ = some (.int .i64 xe) ∧ w'.cell? ⟨w.heap.size, 4, none⟩ = some (.int .i64 xb) ∧ w'.cell? ⟨w.heap.size, 5, none⟩ = some (.int .i64 xu) ∧ w'.cell? ⟨w.heap.size, 6, none⟩ = some (.int .i64 xo) ∧ w'.cell? ⟨w.heap.size, 7, none⟩ = some (.int .i64 xl) ∧ Below (w.heap.size + 1) wq w') := Lib.hid (fun w' h => by
    obtain ⟨y0, y1, y2, y3, y4, y5, y6, y7⟩ := HEq.out.on2 h (Nat.lt_succ_self _)
    exact ⟨y0, y1, y2, y3, y4, y5, y6, y7, h⟩)
  go_upto_region 5 with fail
  obtain ⟨w4, hw4⟩ : ∃ u, wq.alloc (Obj.cells #[] 41) = u := ⟨_, rfl⟩
  rw [hw4] at BB F1 ⊢
  clear hw4 R9
  have hs4 := BB.out.size
  refine wp_region_held_drew (S := fun w' => w'.cell? ⟨w.heap.size, 0, none⟩ = some (.int .i64 xi) ∧ w'.cell? ⟨w.heap.size, 1, none⟩ = some (.int .i64 xp) ∧ w'.cell? ⟨w.heap.size, 2, none⟩ = some (.int .i64 xr) ∧ w'.cell? ⟨w.heap.size, 3, none⟩ = some (.int .i64 xe) ∧ w'.cell? ⟨w.heap.size, 4, none⟩ = some (.int .i64 xb) ∧ w'.cell? ⟨w.heap.size, 5, none⟩ = some (.int .i64 xu) ∧ w'.cell? ⟨w.heap.size, 6, none⟩ = some (.int .i64 xo) ∧ w'.cell? ⟨w.heap.size, 7, none⟩ = some (.int .i64 xl) ∧ Below (w.heap.size + 1) wq w') (by kernel_rfl) ?_ (fun hHeld => ?_)
  · (try dsimp only)
    exact HS.out _ (BB.out.trans (below_drewN (Below.refl _ _) 1 |>.mono (by omega)))
  refine held_take (i := 0) (d := 28) (v := ?_) rfl rfl (by kernel_rfl) (by kernel_rfl) (by kernel_rfl) (fun _ _ _ h => h) (by rfl) ?_ (by assumption) ?_
  rotate_left
  · intro w hSw
    (try dsimp only at hSw)
    go_simp
    try with_reducible rfl
  try simp only [Act.put, List.setIfInBounds_toArray, List.set_cons_zero, List.set_cons_succ]
  refine held_take (i := 1) (d := 29) (v := ?_) rfl rfl (by kernel_rfl) (by kernel_rfl) (by kernel_rfl) (fun _ _ _ h => h) (by rfl) ?_ (by assumption) ?_
  rotate_left
  · intro w hSw
    (try dsimp only at hSw)
    go_simp
    try with_reducible rfl
  try simp only [Act.put, List.setIfInBounds_toArray, List.set_cons_zero, List.set_cons_succ]
  refine held_take (i := 4) (d := 32) (v := ?_) rfl rfl (by kernel_rfl) (by kernel_rfl) (by kernel_rfl) (fun _ _ _ h => h) (by rfl) ?_ (by assumption) ?_
  rotate_left
  · intro w hSw
    (try dsimp only at hSw)
    go_simp
    try with_reducible rfl
  try simp only [Act.put, List.setIfInBounds_toArray, List.set_cons_zero, List.set_cons_succ]
  refine held_take (i := 5) (d := 33) (v := ?_) rfl rfl (by kernel_rfl) (by kernel_rfl) (by kernel_rfl) (fun _ _ _ h => h) (by rfl) ?_ (by assumption) ?_
  rotate_left
  · intro w hSw
    (try dsimp only at hSw)
    go_simp
    try with_reducible rfl
  try simp only [Act.put, List.setIfInBounds_toArray, List.set_cons_zero, List.set_cons_succ]
  refine held_take (i := 6) (d := 34) (v := ?_) rfl rfl (by kernel_rfl) (by kernel_rfl) (by kernel_rfl) (fun _ _ _ h => h) (by rfl) ?_ (by assumption) ?_
  rotate_left
  · intro w hSw
    (try dsimp only at hSw)
    go_simp
    try with_reducible rfl
  try simp only [Act.put, List.setIfInBounds_toArray, List.set_cons_zero, List.set_cons_succ]
  have B0 : Hid (Below (w.heap.size + 1) wq w4.drew) := Lib.hid (BB.out.trans (below_drewN (Below.refl _ _) 1 |>.mono (by omega)))
  have R0 : Hid (w4.drew.ownsRow (w.heap.size + 1) 41 8 (.slice (some ⟨wq.heap.size, 0, none⟩) 0 0) 0 []) := Lib.hid (own_low F1.out (below_drewN (Below.refl _ _) 1) (Nat.le_refl _))
  obtain ⟨u0, hu0⟩ : ∃ u0, w4.drew = u0 := ⟨_, rfl⟩
  rw [hu0] at hHeld B0 R0 ⊢
  clear hu0 BB
  have hs0 := B0.out.size
  refine wpAnyH_ready (rs := [2]) (by kernel_rfl) (by simp) ?_
  refine ((AllReadyH.cons rfl (fun K' hK => ?_) AllReadyH.nil))
  go_simp
  refine hK.out _ _ ?_ (fun hHeld => ?_)
  · (try dsimp only)
    exact HS.out _ (B0.out.alloc (by omega) _)
  clear hK K'
  try simp only [Act.put, List.setIfInBounds_toArray, List.set_cons_zero, List.set_cons_succ]
  have B1 := Lib.hid (B0.out.alloc (by omega) (Obj.cells #[.int .i64 xi, .int .i64 xp, .int .i64 xr, .int .i64 xe, .int .i64 xb, .int .i64 xu, .int .i64 xo, .int .i64 xl] 41))
  have G1 := Lib.hid (own_low R0.out (one_new2 u0 (Obj.cells #[.int .i64 xi, .int .i64 xp, .int .i64 xr, .int .i64 xe, .int .i64 xb, .int .i64 xu, .int .i64 xo, .int .i64 xl] 41)) (Nat.le_refl _))
  have G2 := Lib.hid (eight_cells u0 ⟨xi, xp, xr, xe, xb, xu, xo, xl⟩ 41)
  refine wpAnyH_ready (rs := [3]) (by kernel_rfl) (by simp) ?_
  refine ((AllReadyH.cons rfl (fun K' hK => ?_) AllReadyH.nil))
  refine step_append_ad _ rfl (.tmp 28) (.tmp 30) 23 rfl (w.heap.size + 1) 41 i0 (.agg #[.int .i64 0, .int .i64 0, .int .i64 0, .int .i64 0, .int .i64 0, .int .i64 0, .int .i64 0, .int .i64 0]) 8 64 Tryz.underlying23 hi0 hw0 hw1 hw2 rfl (by decide) (.slice (some ⟨wq.heap.size, 0, none⟩) 0 0) 0 [] (by rfl) G1.out ⟨u0.heap.size, 0, none⟩ 1 1 (clsC ⟨xi, xp, xr, xe, xb, xu, xo, xl⟩) (by rfl) rfl G2.out (clsC_one _) (by decide) (by decide) (Nat.le_trans hq1 B1.out.size) ?_
  intro v2 u2 hown hgrow
  have R2 := Lib.hid hown
  have B2 : Hid (Below (w.heap.size + 1) wq u2) := Lib.hid (Below.grown B1.out hgrow (Nat.le_trans hq1 B1.out.size) (fun q hq => (World.ownsRow.lt G1.out q hq).1))
  obtain ⟨a2, c2, rfl, _⟩ := own_in hown
  refine hK.out _ _ ?_ (fun hHeld => ?_)
  · (try dsimp only)
    exact HS.out _ B2.out
  clear hK K'
  try simp only [Act.put, List.setIfInBounds_toArray, List.set_cons_zero, List.set_cons_succ]
  clear hown hgrow
  refine wpAnyH_ready (rs := [7]) (by kernel_rfl) (by simp) ?_
  refine ((AllReadyH.cons rfl (fun K' hK => ?_) AllReadyH.nil))
  refine step_append_src _ rfl (.tmp 31) (.tmp 34) 23 rfl (w.heap.size + 1) 41 i0 (.agg #[.int .i64 0, .int .i64 0, .int .i64 0, .int .i64 0, .int .i64 0, .int .i64 0, .int .i64 0, .int .i64 0]) 8 64 Tryz.underlying23 hi0 hw0 hw1 hw2 rfl (by decide) (.slice a2 1 c2) 1 _ (by rfl) R2.out 0 (.slice none 0 0) 0 [] (by rfl) ⟨rfl, .inl ⟨rfl, rfl⟩⟩ (by simp) (by decide) (by decide) (Nat.le_trans hq1 B2.out.size) ?_
  intro v3 u3 hown hgrow _
  have R3 := Lib.hid hown
  have B3 : Hid (Below (w.heap.size + 1) wq u3) := Lib.hid (Below.grown B2.out hgrow (Nat.le_trans hq1 B2.out.size) (fun q hq => (World.ownsRow.lt R2.out q hq).1))
  obtain ⟨a3, c3, rfl, _⟩ := own_in hown
  refine hK.out _ _ ?_ (fun hHeld => ?_)
  · (try dsimp only)
    exact HS.out _ B3.out
  clear hK K'
  try simp only [Act.put, List.setIfInBounds_toArray, List.set_cons_zero, List.set_cons_succ]
  clear hown hgrow
  refine held_take (i := 8) (d := 4) (v := ?_) rfl rfl (by kernel_rfl) (by kernel_rfl) (by kernel_rfl) (fun _ _ _ h => h) (by rfl) ?_ (by assumption) ?_
  rotate_left
  · intro w hSw
    (try dsimp only at hSw)
    go_simp
    try with_reducible rfl
  try simp only [Act.put, List.setIfInBounds_toArray, List.set_cons_zero, List.set_cons_succ]
  refine wpAnyH_done (by kernel_rfl) ?_ _
  go_wp2_with fail
  go_ret
  refine ⟨_, rfl, ?_, HBq.out.trans (B3.out.mono (by omega))⟩
  have q := own_base R3.out (Nat.le_succ w.heap.size)
  rw [List.nil_append, List.append_nil] at q
  rw [HPC.out]
  exact q
end Go.Proofs.YthgbhnedfdnfpaaGreatDoor

namespace Go.Proofs.YthgbhnedfdnfpaaGreatDoor
open Go.RowKit
set_option linter.unusedVariables false
set_option linter.unusedSimpArgs false

theorem fltC_one (y : Flt) : ∀ u ∈ fltC y, u.oneCell' = true := by
  intro u hu
  simp only [fltC, List.mem_cons, List.not_mem_nil, or_false] at hu
  rcases hu with rfl | rfl | rfl | rfl | rfl <;> rfl
theorem FiveB.on2 {w w1 : World} {b B : Nat} {x : Flt} (h : FiveB w b x) (hb : Below B w w1) (hB : b < B) : FiveB w1 b x := by
  obtain ⟨h0, h1, h2, h3, h4⟩ := h
  exact ⟨(hb.cell (p := ⟨b, 0, none⟩) hB).trans h0, (hb.cell (p := ⟨b, 1, none⟩) hB).trans h1, (hb.cell (p := ⟨b, 2, none⟩) hB).trans h2, (hb.cell (p := ⟨b, 3, none⟩) hB).trans h3, (hb.cell (p := ⟨b, 4, none⟩) hB).trans h4⟩
end Go.Proofs.YthgbhnedfdnfpaaGreatDoor

namespace Go.Proofs.YthgbhnedfdnfpaaGreatDoor
open Go.RowKit
set_option linter.unusedVariables false
set_option linter.unusedSimpArgs false

def ordC (cs : List Cls) : List Cls := cs.foldl putC []
theorem fold_at {α : Type} (f : List α → α → List α) (l : List α) (j : Nat) (hj : j < l.length) (d y : α) (hy : l.getD j d = y) (L : List α) : (l.drop j).foldl f L = (l.drop (j + 1)).foldl f (f L y) := by
  rw [List.getD_eq_getElem?_getD, List.getElem?_eq_getElem hj] at hy
  simp only [Option.getD_some] at hy
  rw [List.drop_eq_getElem_cons hj, hy, List.foldl_cons]
def OrAt (w : World) (s : ByteArray) (va vb : Value) (d : Int) (vC vF : Value) (L : List Cls) (M : List Flt) (wr : World) : Prop :=
  Below w.heap.size w wr ∧ w.heap.size + 3 ≤ wr.heap.size ∧ FourIs wr w.heap.size (.string s) va vb (.int .i64 d) ∧ Zer wr (w.heap.size + 1) ∧ FourIs wr (w.heap.size + 1 + 1) (.string s) vC vF (.int .i64 d) ∧ FroB wr (w.heap.size + 1 + 1) ∧
    wr.ownsRow (w.heap.size + 3) 41 8 vC L.length (clsCs L) ∧ wr.ownsRow (w.heap.size + 3) 82 5 vF M.length (fltCs M) ∧ (∀ g, vC.ownBlock = some g → vF.ownBlock ≠ some g) ∧ (L = [] → vC = .slice none 0 0) ∧ (M = [] → vF = .slice none 0 0)
theorem OrAt.on {w wr w' : World} {s : ByteArray} {va vb vC vF : Value} {d : Int} {L : List Cls} {M : List Flt} (h : OrAt w s va vb d vC vF L M wr) (hb : Below wr.heap.size wr w') : OrAt w s va vb d vC vF L M w' := by
  obtain ⟨h1, h2, h3, h4, h5, h6, h7, h8, h9, h10⟩ := h
  exact ⟨h1.trans (hb.mono h1.size), Nat.le_trans h2 hb.size, h3.on hb, h4.on hb, h5.on hb, h6.on hb h5.2.2.2.2, own_low h7 hb (Nat.le_refl _), own_low h8 hb (Nat.le_refl _), h9, h10⟩
theorem FourIs.set2 {w : World} {b : Nat} {a0 a1 a2 a3 : Value} (h : FourIs w b a0 a1 a2 a3) (v : Value) : FourIs (w.setCell ⟨b, 2, none⟩ v) b a0 a1 v a3 := by
  obtain ⟨h0, h1, h2, h3, hg⟩ := h
  refine ⟨?_, ?_, ?_, ?_, by simpa using hg⟩
  · rw [World.cell?_setCell_other _ _ _ _ (by simp)]; exact h0
  · rw [World.cell?_setCell_other _ _ _ _ (by simp)]; exact h1
  · exact World.cell?_setCell_same' _ _ _ (by rw [h2]; rfl)
  · rw [World.cell?_setCell_other _ _ _ _ (by simp)]; exact h3
theorem cfPut_all (v : Value) (B : Nat) (L : List Cls) (x : Cls) (w : World) (HO : Hid (w.ownsRow B 41 8 v L.length (clsCs L))) (hn : L.length ≤ 1048576) (h0 : Hid (L = [] → v = .slice none 0 0)) :
    Calls Tryz.prog 105 #[v, clsV x] w fun e w' => ∃ r, e = .returned r ∧ w'.ownsRow w.heap.size 41 8 r (L.length + 1) (clsCs (putC L x)) ∧ Below w.heap.size w w' := by
  cases L with
  | nil => rw [h0.out rfl]; exact cfPut_nil x w
  | cons y r => exact cfPut_any v B (y :: r) x w HO hn (by simp)
end Go.Proofs.YthgbhnedfdnfpaaGreatDoor

namespace Go.Proofs.YthgbhnedfdnfpaaGreatDoor
open Go.RowKit
set_option linter.unusedVariables false
set_option linter.unusedSimpArgs false

end Go.Proofs.YthgbhnedfdnfpaaGreatDoor

/- What a law draws of configurations: a configuration in a box, its rows, and the cursor, while it is made and changed. -/
namespace Go.Proofs.YthgbhnedfdnfpaaGreatDoor
set_option maxRecDepth 100000
open Go.RowKit
set_option linter.unusedVariables false
set_option linter.unusedSimpArgs false

def updF (x : Flt) (j : Nat) (z : Int) : Flt := match j with
  | 0 => { x with o := z }
  | 1 => { x with f := z }
  | 2 => { x with m := z }
  | 3 => { x with v := z }
  | _ => { x with t := z }
theorem fltC_upd (x : Flt) (j : Nat) (z : Int) (hj : j < 5) : (fltC x).set j (.int .i64 z) = fltC (updF x j z) := by
  match j, hj with
  | 0, _ | 1, _ | 2, _ | 3, _ | 4, _ => rfl
theorem fltCs_upd : ∀ (fs : List Flt) (k j : Nat) (z : Int), k < fs.length → j < 5 → (fltCs fs).set (k * 5 + j) (.int .i64 z) = fltCs (fs.set k (updF (fs.getD k flt0) j z))
  | [], k, j, z, h, _ => absurd h (by simp)
  | x :: r, 0, j, z, _, hj => by
    rw [fltCs_cons, Nat.zero_mul, Nat.zero_add, List.set_append_left _ _ (by simp [fltC]; omega), fltC_upd x j z hj]
    simp [fltCs_cons]
  | x :: r, k + 1, j, z, h, hj => by
    have ih := fltCs_upd r k j z (by simpa using h) hj
    have e : (k + 1) * 5 + j - (fltC x).length = k * 5 + j := by simp [fltC]; omega
    rw [fltCs_cons, List.set_append_right _ _ (by simp [fltC]; omega), e, ih]
    simp [fltCs_cons]
theorem FourIs.set0 {w : World} {b : Nat} {a0 a1 a2 a3 : Value} (h : FourIs w b a0 a1 a2 a3) (v : Value) : FourIs (w.setCell ⟨b, 0, none⟩ v) b v a1 a2 a3 := by
  obtain ⟨h0, h1, h2, h3, hg⟩ := h
  refine ⟨?_, ?_, ?_, ?_, by simpa using hg⟩
  · exact World.cell?_setCell_same' _ _ _ (by rw [h0]; rfl)
  all_goals (rw [World.cell?_setCell_other _ _ _ _ (by simp)]; assumption)
theorem FourIs.set3 {w : World} {b : Nat} {a0 a1 a2 a3 : Value} (h : FourIs w b a0 a1 a2 a3) (v : Value) : FourIs (w.setCell ⟨b, 3, none⟩ v) b a0 a1 a2 v := by
  obtain ⟨h0, h1, h2, h3, hg⟩ := h
  refine ⟨?_, ?_, ?_, World.cell?_setCell_same' _ _ _ (by rw [h3]; rfl), by simpa using hg⟩
  all_goals (rw [World.cell?_setCell_other _ _ _ _ (by simp)]; assumption)
theorem own_nat {w : World} {B g n c : Nat} {K : List Nat} (h : w.ownsRow B 3 1 (.slice (some ⟨g, 0, none⟩) n c) n (nv K)) (k : Nat) (hk : k < K.length) : w.cell? ⟨g, k, none⟩ = some (.int .i64 ((K.getD k 0 : Nat) : Int)) := by
  obtain ⟨ad, c', e, hi⟩ := own_in h
  cases e
  have hn : K.length = n := by have := h.1; rw [nv_length] at this; omega
  obtain ⟨g', e, ht, _⟩ := hi (by omega)
  cases e
  exact ht.at k (nv_get K k hk)
theorem own_five {w : World} {B g n c : Nat} {M : List Flt} (h : w.ownsRow B 82 5 (.slice (some ⟨g, 0, none⟩) n c) n (fltCs M)) (k : Nat) (hk : k < M.length) : Five w g k (M.getD k flt0) := by
  obtain ⟨ad, c', e, hi⟩ := own_in h
  cases e
  have hn : M.length = n := by have := h.1; rw [fltCs_length] at this; omega
  obtain ⟨g', e, ht, _⟩ := hi (by omega)
  cases e
  exact ht.flt k hk _ rfl
structure KC (w W : World) (a : Option Addr) (n cap t bo : Nat) (s : ByteArray) (vC vF vl : Value) (d : Int) (L : List Cls) (M : List Flt) (K : List Nat) (wx : World) : Prop where
  cur : CurAt wx w.heap.size a n cap t
  bar : Bar w.heap.size W.heap.size W wx
  zer : Zer wx W.heap.size
  box : FourIs wx bo (.string s) vC vF (.int .i64 d)
  fro : FroB wx bo
  rb : W.heap.size < bo
  C : wx.ownsRow (W.heap.size + 1) 41 8 vC L.length (clsCs L)
  F : wx.ownsRow (W.heap.size + 1) 82 5 vF M.length (fltCs M)
  l : wx.ownsRow (W.heap.size + 1) 3 1 vl K.length (nv K)
  nC : ∀ g, vC.ownBlock = some g → g ≠ bo
  nF : ∀ g, vF.ownBlock = some g → g ≠ bo
  nl : ∀ g, vl.ownBlock = some g → g ≠ bo
  CF : ∀ g, vC.ownBlock = some g → vF.ownBlock ≠ some g
  Cl : ∀ g, vC.ownBlock = some g → vl.ownBlock ≠ some g
  Fl : ∀ g, vF.ownBlock = some g → vl.ownBlock ≠ some g
section
variable {w W wx w' : World} {a : Option Addr} {n cap t t' t0 bo : Nat} {zs : List Int} {s s' : ByteArray} {vC vF vl v' : Value} {d : Int} {L L' : List Cls} {M M' : List Flt} {K K' : List Nat}
theorem KC.dr (h : KC w W a n cap t bo s vC vF vl d L M K wx) (HD : Dr w W a n cap zs t0) : Dr w wx a n cap zs t := HD.bar h.cur h.bar
theorem KC.only (h : KC w W a n cap t bo s vC vF vl d L M K wx) (hw : w.heap.size < W.heap.size) (hc : CurAt w' w.heap.size a n cap t') (ho : OnlyBlock w.heap.size wx w') : KC w W a n cap t' bo s vC vF vl d L M K w' := by
  have hrb := h.rb
  have hs : wx.heap.size ≤ w'.heap.size := by rw [ho.2.1]; exact Nat.le_refl _
  exact ⟨hc, h.bar.trans (Bar.of_only ho _), h.zer.same (ho.2.2 _ (by omega)) hs, h.box.same (ho.2.2 _ (by omega)) hs, h.fro.same (ho.2.2 _ (by omega)), h.rb, own_only h.C ho (by omega), own_only h.F ho (by omega), own_only h.l ho (by omega), h.nC, h.nF, h.nl, h.CF, h.Cl, h.Fl⟩
theorem KC.on (h : KC w W a n cap t bo s vC vF vl d L M K wx) (hb : Below wx.heap.size wx w') : KC w W a n cap t bo s vC vF vl d L M K w' :=
  ⟨h.cur.kept (hb.block _ h.cur.lt), h.bar.trans ((Bar.of_below hb).mono h.bar.size), h.zer.on hb, h.box.on hb, h.fro.on hb h.box.2.2.2.2, h.rb, own_low h.C hb (Nat.le_refl _), own_low h.F hb (Nat.le_refl _), own_low h.l hb (Nat.le_refl _), h.nC, h.nF, h.nl, h.CF, h.Cl, h.Fl⟩
theorem KC.upd {g c m : Nat} (h : KC w W a n cap t bo s (.slice (some ⟨g, 0, none⟩) m c) vF vl d L M K wx) (hm : L.length = m) (hw : w.heap.size < W.heap.size) (k j : Nat) (z : Int) (hk : k < L.length) (hj : j < 8) :
    KC w W a n cap t bo s (.slice (some ⟨g, 0, none⟩) m c) vF vl d (L.set k (updC (L.getD k cls0) j z)) M K (wx.setCell ⟨g, k * 8 + j, none⟩ (.int .i64 z)) := by
  have hg := (World.ownsRow.lt h.C g rfl).1
  have hgb := h.nC g rfl
  refine ⟨h.cur.kept (Below.heap_setCell wx ⟨g, k * 8 + j, none⟩ _ _ (by show w.heap.size ≠ g; omega)), h.bar.trans (Bar.of_below ((Below.refl W.heap.size wx).setCell (p := ⟨g, k * 8 + j, none⟩) (by show W.heap.size ≤ g; omega) _)), h.zer.set (by omega) _, h.box.far (by omega) _, h.fro.set _ _, h.rb, ?_, own_far h.F (fun g' e q => h.CF g rfl (by rw [← q]; exact e)) _, own_far h.l (fun g' e q => h.Cl g rfl (by rw [← q]; exact e)) _, h.nC, h.nF, h.nl, h.CF, h.Cl, h.Fl⟩
  subst hm
  rw [List.length_set]
  exact own_updC h.C k j z hk hj
theorem KC.updF {g c m : Nat} (h : KC w W a n cap t bo s vC (.slice (some ⟨g, 0, none⟩) m c) vl d L M K wx) (hm : M.length = m) (hw : w.heap.size < W.heap.size) (k j : Nat) (z : Int) (hk : k < M.length) (hj : j < 5) :
    KC w W a n cap t bo s vC (.slice (some ⟨g, 0, none⟩) m c) vl d L (M.set k (updF (M.getD k flt0) j z)) K (wx.setCell ⟨g, k * 5 + j, none⟩ (.int .i64 z)) := by
  have hg := (World.ownsRow.lt h.F g rfl).1
  have hgb := h.nF g rfl
  refine ⟨h.cur.kept (Below.heap_setCell wx ⟨g, k * 5 + j, none⟩ _ _ (by show w.heap.size ≠ g; omega)), h.bar.trans (Bar.of_below ((Below.refl W.heap.size wx).setCell (p := ⟨g, k * 5 + j, none⟩) (by show W.heap.size ≤ g; omega) _)), h.zer.set (by omega) _, h.box.far (by omega) _, h.fro.set _ _, h.rb, own_far h.C (fun g' e q => h.CF g' e (by rw [q]; rfl)) _, ?_, own_far h.l (fun g' e q => h.Fl g rfl (by rw [← q]; exact e)) _, h.nC, h.nF, h.nl, h.CF, h.Cl, h.Fl⟩
  subst hm
  rw [List.length_set, ← fltCs_upd M k j z hk hj]
  exact own_store h.F _ _
theorem KC.box_ (h : KC w W a n cap t bo s vC vF vl d L M K wx) (hw : w.heap.size < W.heap.size) (j : Nat) (u : Value) :
    CurAt (wx.setCell ⟨bo, j, none⟩ u) w.heap.size a n cap t ∧ Bar w.heap.size W.heap.size W (wx.setCell ⟨bo, j, none⟩ u) ∧ Zer (wx.setCell ⟨bo, j, none⟩ u) W.heap.size ∧ FroB (wx.setCell ⟨bo, j, none⟩ u) bo ∧
    (wx.setCell ⟨bo, j, none⟩ u).ownsRow (W.heap.size + 1) 41 8 vC L.length (clsCs L) ∧ (wx.setCell ⟨bo, j, none⟩ u).ownsRow (W.heap.size + 1) 82 5 vF M.length (fltCs M) ∧ (wx.setCell ⟨bo, j, none⟩ u).ownsRow (W.heap.size + 1) 3 1 vl K.length (nv K) := by
  have hrb := h.rb
  exact ⟨h.cur.kept (Below.heap_setCell wx ⟨bo, j, none⟩ _ _ (by show w.heap.size ≠ bo; omega)), h.bar.trans (Bar.of_below ((Below.refl W.heap.size wx).setCell (p := ⟨bo, j, none⟩) (by show W.heap.size ≤ bo; omega) _)), h.zer.set (by omega) _, h.fro.set _ _, own_far h.C h.nC _, own_far h.F h.nF _, own_far h.l h.nl _⟩
theorem KC.setS (h : KC w W a n cap t bo s vC vF vl d L M K wx) (hw : w.heap.size < W.heap.size) (s' : ByteArray) : KC w W a n cap t bo s' vC vF vl d L M K (wx.setCell ⟨bo, 0, none⟩ (.string s')) := by
  obtain ⟨a1, a2, a3, a4, a5, a6, a7⟩ := h.box_ hw 0 (.string s')
  exact ⟨a1, a2, a3, h.box.set0 _, a4, h.rb, a5, a6, a7, h.nC, h.nF, h.nl, h.CF, h.Cl, h.Fl⟩
theorem KC.setD (h : KC w W a n cap t bo s vC vF vl d L M K wx) (hw : w.heap.size < W.heap.size) (z : Int) : KC w W a n cap t bo s vC vF vl z L M K (wx.setCell ⟨bo, 3, none⟩ (.int .i64 z)) := by
  obtain ⟨a1, a2, a3, a4, a5, a6, a7⟩ := h.box_ hw 3 (.int .i64 z)
  exact ⟨a1, a2, a3, h.box.set3 _, a4, h.rb, a5, a6, a7, h.nC, h.nF, h.nl, h.CF, h.Cl, h.Fl⟩
theorem KC.setNil (h : KC w W a n cap t bo s vC vF vl d L M K wx) (hw : w.heap.size < W.heap.size) : KC w W a n cap t bo s (.slice none 0 0) vF vl d [] M K (wx.setCell ⟨bo, 1, none⟩ (.slice none 0 0)) := by
  obtain ⟨a1, a2, a3, a4, a5, a6, a7⟩ := h.box_ hw 1 (.slice none 0 0)
  exact ⟨a1, a2, a3, h.box.set1 _, a4, h.rb, World.ownsRow_nil _ _ _ _, a6, a7, (fun g e => by cases e), h.nF, h.nl, (fun g e => by cases e), (fun g e => by cases e), h.Fl⟩
theorem KC.newC (h : KC w W a n cap t bo s vC vF vl d L M K wx) (hw : w.heap.size < W.heap.size) (hb : Below wx.heap.size wx w') (ho : w'.ownsRow wx.heap.size 41 8 v' L'.length (clsCs L')) : KC w W a n cap t bo s v' vF vl d L' M K (w'.setCell ⟨bo, 1, none⟩ v') := by
  have h0 := h.on hb
  obtain ⟨a1, a2, a3, a4, a5, a6, a7⟩ := h0.box_ hw 1 v'
  have hlt := fun g e => (World.ownsRow.lt ho g e).1
  have hbo := h.box.2.2.2.2
  have hsz := h.bar.size
  refine ⟨a1, a2, a3, h0.box.set1 _, a4, h.rb, ?_, a6, a7, fun g e => by have := hlt g e; omega, h.nF, h.nl, fun g e q => by have := hlt g e; have := (World.ownsRow.lt h.F g q).2; omega, fun g e q => by have := hlt g e; have := (World.ownsRow.lt h.l g q).2; omega, h.Fl⟩
  exact own_far (own_base ho (by have := h.rb; omega)) (fun g e => by have := hlt g e; omega) _
theorem KC.newl (h : KC w W a n cap t bo s vC vF vl d L M K wx) (hb : Below wx.heap.size wx w') (ho : w'.ownsRow wx.heap.size 3 1 v' K'.length (nv K')) : KC w W a n cap t bo s vC vF v' d L M K' w' := by
  have h0 := h.on hb
  have hlt := fun g e => (World.ownsRow.lt ho g e).1
  have hbo := h.box.2.2.2.2
  have hrb := h.rb
  exact ⟨h0.cur, h0.bar, h0.zer, h0.box, h0.fro, h0.rb, h0.C, h0.F, own_base ho (by omega), h.nC, h.nF, fun g e => by have := hlt g e; omega, h.CF, fun g e q => by have := hlt g q; have := (World.ownsRow.lt h.C g e).2; omega, fun g e q => by have := hlt g q; have := (World.ownsRow.lt h.F g e).2; omega⟩
theorem KC.grown (h : KC w W a n cap t bo s vC vF vl d L M K wx) (hw : w.heap.size < W.heap.size) {o : Option Nat} (hg : wx.grownBy w' o) (hr : ∀ k, o = some k → W.heap.size + 1 ≤ k) (hb : o ≠ some bo) :
    CurAt w' w.heap.size a n cap t ∧ Bar w.heap.size W.heap.size W w' ∧ Zer w' W.heap.size ∧ FourIs w' bo (.string s) vC vF (.int .i64 d) ∧ FroB w' bo := by
  have hz := h.zer.1.2.2.2.2
  have hbo := h.box.2.2.2.2
  exact ⟨cur_grown h.cur hg (fun q => by have := hr _ q; omega), bar_grown h.bar hg h.bar.size (fun k q => by have := hr k q; omega), h.zer.same (hg.block _ hz (fun q => by have := hr _ q.symm; omega)) hg.size, h.box.same (hg.block _ hbo (fun q => hb q.symm)) hg.size, h.fro.same (hg.block _ hbo (fun q => hb q.symm))⟩
theorem ne_app {w : World} {B n z bo : Nat} {T : TypeId} {v v' : Value} {xs : List Value} (h : ∀ g, v.ownBlock = some g → g ≠ bo) (hat : v'.ownBlock = v.ownBlock ∨ v'.ownBlock = some w.heap.size) (hb : bo < w.heap.size) : ∀ g, v'.ownBlock = some g → g ≠ bo := fun g e => by
  rcases hat with q | q
  · exact h g (by rw [← q]; exact e)
  · rw [q] at e
    have : w.heap.size = g := by simpa using e
    omega
theorem KC.appF (h : KC w W a n cap t bo s vC vF vl d L M K wx) (hw : w.heap.size < W.heap.size) (y : Flt) (hg : wx.grownBy w' vF.ownBlock) (ho : w'.ownsRow (W.heap.size + 1) 82 5 v' (M.length + 1) (fltCs M ++ fltC y)) (hat : v'.ownBlock = vF.ownBlock ∨ v'.ownBlock = some wx.heap.size) :
    KC w W a n cap t bo s vC v' vl d L (M ++ [y]) K (w'.setCell ⟨bo, 2, none⟩ v') := by
  have hbo := h.box.2.2.2.2
  obtain ⟨b1, b2, b3, b4, b5⟩ := h.grown hw hg (fun k q => (World.ownsRow.lt h.F k q).1) (fun q => h.nF bo q rfl)
  have nF' := ne_app (w := wx) (B := 0) (n := 0) (z := 0) (T := 3) (xs := []) h.nF hat hbo
  have h0 : KC w W a n cap t bo s vC vF vl d L M K wx := h
  have hrb := h.rb
  refine ⟨b1.kept (Below.heap_setCell w' ⟨bo, 2, none⟩ _ _ (by show w.heap.size ≠ bo; omega)), b2.trans (Bar.of_below ((Below.refl W.heap.size w').setCell (p := ⟨bo, 2, none⟩) (by show W.heap.size ≤ bo; omega) _)), b3.set (by omega) _, b4.set2 _, b5.set _ _, h.rb, own_far (own_kept h.C hg h.CF) h.nC _, ?_, own_far (own_kept h.l hg (dis_symm h.Fl)) h.nl _, h.nC, nF', h.nl, dis_app h.CF hat h.C, h.Cl, dis_symm (dis_app (dis_symm h.Fl) hat h.l)⟩
  rw [List.length_append, fltCs_append, show fltCs [y] = fltC y by simp [fltCs]]
  exact own_far ho nF' _
theorem KC.appC (h : KC w W a n cap t bo s vC vF vl d L M K wx) (hw : w.heap.size < W.heap.size) (y : Cls) (hg : wx.grownBy w' vC.ownBlock) (ho : w'.ownsRow (W.heap.size + 1) 41 8 v' (L.length + 1) (clsCs L ++ clsC y)) (hat : v'.ownBlock = vC.ownBlock ∨ v'.ownBlock = some wx.heap.size) :
    KC w W a n cap t bo s v' vF vl d (L ++ [y]) M K (w'.setCell ⟨bo, 1, none⟩ v') := by
  have hbo := h.box.2.2.2.2
  obtain ⟨b1, b2, b3, b4, b5⟩ := h.grown hw hg (fun k q => (World.ownsRow.lt h.C k q).1) (fun q => h.nC bo q rfl)
  have nC' := ne_app (w := wx) (B := 0) (n := 0) (z := 0) (T := 3) (xs := []) h.nC hat hbo
  have hrb := h.rb
  refine ⟨b1.kept (Below.heap_setCell w' ⟨bo, 1, none⟩ _ _ (by show w.heap.size ≠ bo; omega)), b2.trans (Bar.of_below ((Below.refl W.heap.size w').setCell (p := ⟨bo, 1, none⟩) (by show W.heap.size ≤ bo; omega) _)), b3.set (by omega) _, b4.set1 _, b5.set _ _, h.rb, ?_, own_far (own_kept h.F hg (dis_symm h.CF)) h.nF _, own_far (own_kept h.l hg (dis_symm h.Cl)) h.nl _, nC', h.nF, h.nl, dis_symm (dis_app (dis_symm h.CF) hat h.F), dis_symm (dis_app (dis_symm h.Cl) hat h.l), h.Fl⟩
  rw [List.length_append, clsCs_append, show clsCs [y] = clsC y by simp [clsCs]]
  exact own_far ho nC' _
theorem KC.barS (h : KC w W a n cap t bo s vC vF vl d L M K wx) (hw : w.heap.size < W.heap.size) (hc : CurAt w' w.heap.size a n cap t') (hb : Bar w.heap.size wx.heap.size wx w') : KC w W a n cap t' bo s vC vF vl d L M K w' := by
  have hrb := h.rb
  have hbo := h.box.2.2.2.2
  have hz := h.zer.1.2.2.2.2
  exact ⟨hc, h.bar.trans (hb.mono h.bar.size), h.zer.same (hb.block _ hz (by omega)) hb.size, h.box.same (hb.block _ hbo (by omega)) hb.size, h.fro.same (hb.block _ hbo (by omega)), h.rb, own_bar h.C hb (by omega) (Nat.le_refl _), own_bar h.F hb (by omega) (Nat.le_refl _), own_bar h.l hb (by omega) (Nat.le_refl _), h.nC, h.nF, h.nl, h.CF, h.Cl, h.Fl⟩
theorem KC.mid (h : KC w W a n cap t bo s vC vF vl d L M K wx) (hw : w.heap.size < W.heap.size) (hg : wx.grownBy w' vF.ownBlock) :
    FourIs w' bo (.string s) vC vF (.int .i64 d) ∧ FroB w' bo ∧ w'.ownsRow (W.heap.size + 1) 41 8 vC L.length (clsCs L) ∧ w'.ownsRow (W.heap.size + 1) 3 1 vl K.length (nv K) := by
  obtain ⟨b1, b2, b3, b4, b5⟩ := h.grown hw hg (fun k q => (World.ownsRow.lt h.F k q).1) (fun q => h.nF bo q rfl)
  exact ⟨b4, b5, own_kept h.C hg h.CF, own_kept h.l hg (dis_symm h.Fl)⟩
theorem lit_flt (w : World) (B : Nat) (hB : B ≤ w.heap.size) (x : Flt) : (w.alloc (.cells #[.int .i64 x.o, .int .i64 x.f, .int .i64 x.m, .int .i64 x.v, .int .i64 x.t] 82)).ownsRow B 82 5 (.slice (some ⟨w.heap.size, 0, none⟩) 1 1) 1 (fltC x) :=
  World.ownsRow_lit w #[.int .i64 x.o, .int .i64 x.f, .int .i64 x.m, .int .i64 x.v, .int .i64 x.t] 1 hB (by unfold maxLen; omega) rfl
theorem KC.fin (h : KC w W a n cap t bo s vC vF vl d L M K wx) (hw : w.heap.size < W.heap.size) (u0 u1 u2 u3 : Value) :
    CurAt ((((wx.setCell ⟨W.heap.size, 0, none⟩ u0).setCell ⟨W.heap.size, 1, none⟩ u1).setCell ⟨W.heap.size, 2, none⟩ u2).setCell ⟨W.heap.size, 3, none⟩ u3) w.heap.size a n cap t ∧
    Bar w.heap.size W.heap.size W ((((wx.setCell ⟨W.heap.size, 0, none⟩ u0).setCell ⟨W.heap.size, 1, none⟩ u1).setCell ⟨W.heap.size, 2, none⟩ u2).setCell ⟨W.heap.size, 3, none⟩ u3) ∧
    OwnCfg ((((wx.setCell ⟨W.heap.size, 0, none⟩ u0).setCell ⟨W.heap.size, 1, none⟩ u1).setCell ⟨W.heap.size, 2, none⟩ u2).setCell ⟨W.heap.size, 3, none⟩ u3) W.heap.size (.agg #[.string s, vC, vF, .int .i64 d]) ⟨s, L, M, d⟩ := by
  have hb := set4 (Below.refl W.heap.size wx) W.heap.size (Nat.le_refl _) u0 u1 u2 u3
  have ho : OwnCfg wx (W.heap.size + 1) (.agg #[.string s, vC, vF, .int .i64 d]) ⟨s, L, M, d⟩ := ⟨vC, vF, rfl, h.C, h.F, h.CF⟩
  exact ⟨h.cur.kept (hb.block _ hw), h.bar.trans (Bar.of_below hb), (ho.set4 (Nat.lt_succ_self _) u0 u1 u2 u3).base (Nat.le_succ _)⟩
end
end Go.Proofs.YthgbhnedfdnfpaaGreatDoor
