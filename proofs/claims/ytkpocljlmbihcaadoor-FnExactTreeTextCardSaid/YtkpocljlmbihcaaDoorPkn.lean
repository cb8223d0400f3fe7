import Derived.Test.YtkpocljlmbihcaaDoorPkm
import Derived.Laws.Rows
import Derived.Laws.Tables
import Derived.Laws.CopyRow
import Derived.Deep.MidRow
import Derived.Deep.Cut
import Derived.Laws.IdiomCopy
import Derived.Deep.WholeRow
/- The program's marks of the classes that have children. -/
namespace Go.Proofs.YtkpocljlmbihcaaDoor
set_option maxRecDepth 100000
open Go.RowKit
set_option linter.unusedVariables false

/-- a class of the first ones has the class at an index for its parent -/
def mkP (cs : List Cls) (k j : Nat) : Bool := (cs.take k).any (fun x => fnd cs x.p == Option.some j)
def mkX (cs : List Cls) (k : Nat) : List Value := (List.range 24).map (fun j => Value.bool (mkP cs k j))
theorem mkX_length (cs : List Cls) (k : Nat) : (mkX cs k).length = 24 := by simp [mkX]
theorem mkX_asize (cs : List Cls) (k : Nat) : (mkX cs k).toArray.size = 24 := by rw [List.size_toArray, mkX_length]
theorem mkX_get (cs : List Cls) (k j : Nat) (h : j < 24) : (mkX cs k)[j]? = some (Value.bool (mkP cs k j)) := by simp [mkX, h]
theorem mkX_zero (cs : List Cls) : mkX cs 0 = List.replicate 24 (Value.bool false) := by
  unfold mkX mkP; simp [List.range, List.range.loop]
theorem mkP_more (cs : List Cls) (k j : Nat) (h : k < cs.length) (x : Cls) (hx : cs.getD k cls0 = x) : mkP cs (k + 1) j = (mkP cs k j || (fnd cs x.p == Option.some j)) := by
  have hl : cs[k] = x := by rw [← hx]; simp [List.getD_eq_getElem?_getD, h]
  unfold mkP
  rw [List.take_succ_eq_append_getElem h, List.any_append, hl]
  simp
theorem mkX_none (cs : List Cls) (k : Nat) (h : k < cs.length) (x : Cls) (hx : cs.getD k cls0 = x) (hf : fnd cs x.p = Option.none) : mkX cs (k + 1) = mkX cs k := by
  unfold mkX
  apply List.map_congr_left
  intro j _
  rw [mkP_more cs k j h x hx, hf]; simp
theorem mkX_some (cs : List Cls) (k i : Nat) (h : k < cs.length) (x : Cls) (hx : cs.getD k cls0 = x) (hf : fnd cs x.p = Option.some i) : mkX cs (k + 1) = (mkX cs k).set i (.bool true) := by
  apply List.ext_getElem?
  intro j
  by_cases hj : j < 24
  · rw [mkX_get _ _ _ hj, mkP_more cs k j h x hx, hf]
    by_cases hij : i = j
    · subst hij
      rw [List.getElem?_set_self (by rw [mkX_length]; exact hj)]; simp
    · rw [List.getElem?_set_ne hij, mkX_get _ _ _ hj]; simp [hij]
  · rw [List.getElem?_eq_none (by rw [mkX_length]; omega), List.getElem?_eq_none (by rw [List.length_set, mkX_length]; omega)]
theorem mkP_all {cs : List Cls} (hi : IncC cs) (n j : Nat) (hn : cs.length = n) (hj : j < n) : mkP cs n j = hasK cs (cs.getD j cls0).i := by
  unfold mkP hasK
  rw [List.take_of_length_le (by omega)]
  congr 1
  funext y
  apply Bool.eq_iff_iff.2
  rw [beq_iff_eq, beq_iff_eq]
  constructor
  · intro h; exact (fnd_get cs _ j h).2.symm
  · intro h; rw [h]; exact fnd_inc hi (by omega)
/-- marks in memory -/
def MarkA (w : World) (B g : Nat) (xs : List Value) : Prop := w.ownsRow B 110 1 (.slice (some ⟨g, 0, none⟩) 24 24) 24 xs
theorem MarkA.heap {w : World} {B g : Nat} {xs : List Value} (h : MarkA w B g xs) : w.heap[g]? = some (.cells xs.toArray 110 (0, 0)) := by
  obtain ⟨_, h⟩ := h
  rcases h with ⟨h, _⟩ | ⟨g', cap, cur, hv, _, hg, _, _, hs, ht⟩
  · cases h
  · cases hv
    rw [hg]
    have : cur = xs.toArray := by
      apply Array.toList_inj.1
      rw [← ht, List.take_of_length_le (by rw [Array.length_toList, hs]; exact Nat.le_refl _)]
    rw [this]
theorem MarkA.size {w : World} {B g : Nat} {xs : List Value} (h : MarkA w B g xs) : xs.length = 24 := h.1
theorem MarkA.cell {w : World} {B g : Nat} {xs : List Value} (h : MarkA w B g xs) (j : Nat) : w.cell? ⟨g, j, none⟩ = xs[j]? := by
  rw [cell_of_row w g j _ _ _ h.heap]; simp
theorem MarkA.load {P : Program} {w : World} {B g : Nat} {xs : List Value} (h : MarkA w B g xs) : (loadCellsFrom ⟨g, 0, none⟩ 0 24 #[]).run P w = .ok xs.toArray w := by
  have := run_loadCells_list (P := P) w ⟨g, 0, none⟩ xs (fun j v hv => by
    have hadd : (⟨g, 0, none⟩ : Addr).add j = ⟨g, j, none⟩ := by unfold Addr.add; split <;> simp_all
    rw [hadd, h.cell]; exact hv)
  rw [h.size] at this
  simpa [loadCells] using this
theorem MarkA.store {P : Program} {w : World} {B g : Nat} {xs ys : List Value} (h : MarkA w B g xs) (hy : ys.length = 24) (h1 : ∀ v ∈ ys, v.oneCell' = true) : (storeCells ⟨g, 0, none⟩ ys 0).run P w = .ok () (w.setRow g ys.toArray) := by
  have := run_storeCells_from (P := P) g 110 ys 0 xs.toArray w h.heap (by simp [h.size, hy]) h1
  simpa using this
theorem MarkA.low {w w' : World} {B B' g : Nat} {xs : List Value} (h : MarkA w B g xs) (hb : Below B' w w') (hB : g < B') : MarkA w' B g xs := own_below h hb (fun k hk => by cases hk; exact hB)
theorem mkX_one (cs : List Cls) (k : Nat) : ∀ v ∈ mkX cs k, v.oneCell' = true := by
  intro v hv
  unfold mkX at hv
  obtain ⟨j, _, rfl⟩ := List.mem_map.1 hv
  rfl
theorem marks_new (w : World) (B : Nat) (hB : B ≤ w.heap.size) (cs : List Cls) (Z : Array Value) (hZ : Z.toList = List.replicate 24 (Value.bool false)) : MarkA (w.alloc (.cells Z 110)) B w.heap.size (mkX cs 0) := by
  rw [mkX_zero, ← hZ]
  exact World.ownsRow_lit w Z 24 hB (by unfold maxLen; omega) (by have := congrArg List.length hZ; simpa using this)
theorem mkX_lit (cs : List Cls) (k : Nat) : (mkX cs k).toArray = #[.bool (mkP cs k 0), .bool (mkP cs k 1), .bool (mkP cs k 2), .bool (mkP cs k 3), .bool (mkP cs k 4), .bool (mkP cs k 5), .bool (mkP cs k 6), .bool (mkP cs k 7), .bool (mkP cs k 8), .bool (mkP cs k 9), .bool (mkP cs k 10), .bool (mkP cs k 11), .bool (mkP cs k 12), .bool (mkP cs k 13), .bool (mkP cs k 14), .bool (mkP cs k 15), .bool (mkP cs k 16), .bool (mkP cs k 17), .bool (mkP cs k 18), .bool (mkP cs k 19), .bool (mkP cs k 20), .bool (mkP cs k 21), .bool (mkP cs k 22), .bool (mkP cs k 23)] := rfl
theorem mkX_list (cs : List Cls) (k : Nat) : mkX cs k = [.bool (mkP cs k 0), .bool (mkP cs k 1), .bool (mkP cs k 2), .bool (mkP cs k 3), .bool (mkP cs k 4), .bool (mkP cs k 5), .bool (mkP cs k 6), .bool (mkP cs k 7), .bool (mkP cs k 8), .bool (mkP cs k 9), .bool (mkP cs k 10), .bool (mkP cs k 11), .bool (mkP cs k 12), .bool (mkP cs k 13), .bool (mkP cs k 14), .bool (mkP cs k 15), .bool (mkP cs k 16), .bool (mkP cs k 17), .bool (mkP cs k 18), .bool (mkP cs k 19), .bool (mkP cs k 20), .bool (mkP cs k 21), .bool (mkP cs k 22), .bool (mkP cs k 23)] := rfl
theorem setN_own {B g n : Nat} {T : TypeId} : ∀ (vs : List Value) (i : Nat) (w : World) (xs : List Value), w.ownsRow B T 1 (.slice (some ⟨g, 0, none⟩) n n) n xs → i + vs.length = n → (w.setCells g i vs).ownsRow B T 1 (.slice (some ⟨g, 0, none⟩) n n) n (xs.take i ++ vs)
  | [], i, w, xs, h, hi => by
    have hl : xs.length = n * 1 := h.1
    simp only [List.length_nil, Nat.add_zero] at hi
    rw [List.take_of_length_le (by omega), List.append_nil]
    exact h
  | v :: vs, i, w, xs, h, hi => by
    have hl : xs.length = n * 1 := h.1
    simp only [List.length_cons] at hi
    have q := setN_own vs (i + 1) (w.setCell ⟨g, i, none⟩ v) (xs.set i v) (own_store h i v) (by omega)
    rw [List.take_add_one, List.getElem?_set_self (by omega), List.take_set_of_le (Nat.le_refl i)] at q
    show ((w.setCell ⟨g, i, none⟩ v).setCells g (i + 1) vs).ownsRow _ _ _ _ _ _
    simpa using q
theorem setN_below {B g : Nat} {w0 : World} (hg : B ≤ g) : ∀ (vs : List Value) (i : Nat) (w : World), Below B w0 w → Below B w0 (w.setCells g i vs)
  | [], _, _, h => h
  | v :: vs, i, w, h => setN_below hg vs (i + 1) _ (h.setCell hg v)
theorem MarkA.put {w : World} {B g : Nat} {xs ys : List Value} (h : MarkA w B g xs) (hy : ys.length = 24) : MarkA (w.setCells g 0 ys) B g ys := by
  have := setN_own ys 0 w xs h (by rw [hy])
  unfold MarkA
  simpa using this
theorem MarkA.range {w : World} {B g : Nat} {xs : List Value} (h : MarkA w B g xs) : w.rangeAt g 0 xs := fun j v hv => by rw [Nat.zero_add, h.cell]; exact hv
theorem MarkA.there {w : World} {B g : Nat} {xs : List Value} (h : MarkA w B g xs) : w.there g 0 24 := fun j hj => by
  rw [Nat.zero_add, h.cell]
  exact ⟨by rw [List.getElem?_eq_getElem (by rw [h.size]; exact hj)]; rfl, World.ownsRow.frozenAt h j⟩
theorem infoB24 : (Tryd.prog.info? 110).map (·.size) = some 24 := by kernel_rfl
theorem MarkA.at {w : World} {B g : Nat} {cs : List Cls} {k : Nat} (h : MarkA w B g (mkX cs k)) (j : Nat) (hj : j < 24) : w.cell? ⟨g, j, none⟩ = some (.bool (mkP cs k j)) := (h.cell j).trans (mkX_get cs k j hj)
def MkRel (w : World) (n : Nat) (cs : List Cls) (i : Value) (wr : World) : Prop :=
  ∃ k : Nat, k ≤ n ∧ i = .int .i64 k ∧ MarkA wr w.heap.size w.heap.size (mkX cs 0) ∧ MarkA wr w.heap.size (w.heap.size + 1) (mkX cs k) ∧ Below w.heap.size w wr
set_option maxHeartbeats 3200000 in
theorem parentMarks_any (ac : Option Addr) (n cc : Nat) (cs : List Cls) (w : World) (HI : Hid (InX w ac n (clsCs cs))) (hn : Hid (cs.length = n)) (hm : n ≤ 1048576) (hi : Hid (IncC cs)) (h24 : n ≤ 24) :
    Calls Tryd.prog 85 #[(.slice ac n cc)] w (SaysV w (.agg (mkX cs n).toArray)) := by
  have HPL := Lib.hid (fun id w HI => placeOf_any ac n cc cs id w HI hn hm hi)
  go_enter Tryd.func85, Tryd.ntmps85
  go_wp2_with fail
  go_loopw [10] (fun i wr => MkRel w n cs i wr) (fun i _ => n - (intOf i).toNat)
  case atStart => exact ⟨0, Nat.zero_le _, rfl, (marks_new w w.heap.size (Nat.le_refl _) cs _ rfl).low (one_new2 _ _) (by simp), by have := marks_new (w.alloc (.cells #[.bool false, .bool false, .bool false, .bool false, .bool false, .bool false, .bool false, .bool false, .bool false, .bool false, .bool false, .bool false, .bool false, .bool false, .bool false, .bool false, .bool false, .bool false, .bool false, .bool false, .bool false, .bool false, .bool false, .bool false] 110)) w.heap.size (by simp) cs _ rfl; simpa using this, two_new _ _ _⟩
  case round =>
    obtain ⟨k, hk, rfl, hr, hmk, hb⟩ := hrel
    have HB := Lib.hid hb
    have HR := Lib.hid hr
    have HM := Lib.hid hmk
    clear hr hmk
    by_cases hlt : k < n
    · obtain ⟨g, rfl, ht, hg⟩ := HI.out (by omega)
      obtain ⟨x, hx⟩ : ∃ x, cs.getD k cls0 = x := ⟨_, rfl⟩
      have hl1 : k < cs.length := by rw [hn.out]; exact hlt
      obtain ⟨a0, a1, a2, a3, a4, a5, a6, a7⟩ := (ht.below hb hg).cls k hl1 x hx
      have HPx := Lib.hid (HPL.out x.p)
      have hg1 : w.heap.size + 1 < wr.heap.size := (World.ownsRow.lt HM.out _ rfl).2
      have BA := Lib.hid (one_new2 wr (Obj.cells #[.int .i64 x.i, .int .i64 x.p, .int .i64 x.r, .int .i64 x.e, .int .i64 x.b, .int .i64 x.u, .int .i64 x.o, .int .i64 x.l] 26))
      cases hf : fnd cs x.p with
      | none =>
        have HX := Lib.hid (mkX_none cs k hl1 x hx hf)
        rw [plc_of_none hi.out hf] at HPx
        generalize plc cs x.p = pl at HPx
        obtain ⟨xi, xp, xr, xe, xb, xu, xo, xl⟩ := x
        simp only at a0 a1 a2 a3 a4 a5 a6 a7 BA HPx
        clear hb hx hl1 ht hf
        go_wp2_with (go_at_call 82; refine (HPx.out _ (Lib.hid (HI.out.below (HB.out.trans (BA.out.mono HB.out.size))))).mono ?_; rintro e w1 ⟨rfl, b1⟩; have B1 := Lib.hid (BA.out.trans (b1.mono BA.out.size)); clear b1)
        go_roundw
        case rel => exact ⟨k + 1, by omega, by go_num, HR.out.low B1.out (by omega), by rw [HX.out]; exact HM.out.low B1.out hg1, HB.out.trans (B1.out.mono HB.out.size)⟩
        case measure => simp [intOf]; omega
      | some j =>
        have HX := Lib.hid (mkX_some cs k j hl1 x hx hf)
        have hj := (fnd_get cs x.p j hf).1
        have hjn : j < 24 := by have := hn.out; omega
        rw [(plc_of_fnd hi.out hf).1, (plc_of_fnd hi.out hf).2] at HPx
        have hmj := mkX_get cs k j hjn
        obtain ⟨q, hq⟩ : ∃ q, mkP cs k j = q := ⟨_, rfl⟩
        rw [hq] at hmj
        have HMJ := Lib.hid hmj
        obtain ⟨xi, xp, xr, xe, xb, xu, xo, xl⟩ := x
        simp only at a0 a1 a2 a3 a4 a5 a6 a7 BA HPx
        clear hb hx hl1 ht hf hmj hq hj
        go_wp2_with (go_at_call 82; refine (HPx.out _ (Lib.hid (HI.out.below (HB.out.trans (BA.out.mono HB.out.size))))).mono ?_; rintro e w1 ⟨rfl, b1⟩; have B1 := Lib.hid (BA.out.trans (b1.mono BA.out.size)); have M1 := Lib.hid (HM.out.low B1.out hg1); have c1 := (M1.out.cell j).trans HMJ.out; have f1 := World.ownsRow.frozenAt M1.out j; clear b1)
        go_roundw
        case rel => exact ⟨k + 1, by omega, by go_num, own_below (HR.out.low B1.out (by omega)) (show Below (w.heap.size + 1) w1 (w1.setCell ⟨w.heap.size + 1, j, none⟩ (.bool true)) from Below.setCell (Below.refl (w.heap.size + 1) w1) (Nat.le_refl (w.heap.size + 1)) _) (fun b hb => by cases hb; exact Nat.lt_succ_self _), by rw [HX.out]; exact own_store M1.out j _, (HB.out.trans (B1.out.mono HB.out.size)).setCell (Nat.le_succ _) _⟩
        case measure => simp [intOf]; omega
    · have hkn : k = n := by omega
      subst hkn
      have HRM := Lib.hid HM.out.range
      have HTH := Lib.hid HR.out.there
      have HI1 : Hid ((Tryd.prog.info? 110).map (·.size) = some (mkX cs k).length) := Lib.hid (by rw [mkX_length]; exact infoB24)
      have HI2 : Hid ((Tryd.prog.info? 110).map (·.size) = some (mkX cs k).toArray.size) := Lib.hid (by rw [List.size_toArray, mkX_length]; exact infoB24)
      have HTH2 : Hid (wr.there w.heap.size 0 (mkX cs k).toArray.size) := Lib.hid (by rw [mkX_asize]; exact HTH.out)
      have HP := Lib.hid (HR.out.put (mkX_length cs k))
      have HPB := Lib.hid (setN_below (Nat.le_refl _) (mkX cs k) 0 wr HB.out)
      have H1 := Lib.hid (mkX_one cs k)
      clear hb
      go_upto_region 9 with fail
      go_wp2_with (first | (refine wpList_load_mid rfl 110 _ rfl (w.heap.size + 1) 0 rfl (mkX cs k) _ HRM.out Tryd.underlying110 rfl HI1.out ?_) | (refine wpList_store_mid rfl 110 _ _ rfl w.heap.size 0 (mkX cs k).toArray rfl rfl HTH2.out HI2.out (all_oneCell_toArray H1.out) ?_))
      exact bodyPost_ret (v := .agg (mkX cs k).toArray) (results_cell_row (p := 2) (ty := 110) rfl _ _ w.heap.size 110 _ _ _ rfl HP.out.heap Tryd.underlying110 rfl HI2.out) rfl ⟨rfl, HPB.out⟩
end Go.Proofs.YtkpocljlmbihcaaDoor

/- The program's limits, targets and names. -/
namespace Go.Proofs.YtkpocljlmbihcaaDoor
set_option maxRecDepth 100000
open Go.RowKit
set_option linter.unusedVariables false

theorem marks_store (w : World) (cs : List Cls) (k : Nat) : (storeCells ⟨w.heap.size, 0, none⟩ (mkX cs k) 0).run Tryd.prog (w.alloc (.cells #[.bool false, .bool false, .bool false, .bool false, .bool false, .bool false, .bool false, .bool false, .bool false, .bool false, .bool false, .bool false, .bool false, .bool false, .bool false, .bool false, .bool false, .bool false, .bool false, .bool false, .bool false, .bool false, .bool false, .bool false] 110)) = .ok () (w.alloc (.cells (mkX cs k).toArray 110)) := by
  have := run_storeCells_new (P := Tryd.prog) w 110 #[.bool false, .bool false, .bool false, .bool false, .bool false, .bool false, .bool false, .bool false, .bool false, .bool false, .bool false, .bool false, .bool false, .bool false, .bool false, .bool false, .bool false, .bool false, .bool false, .bool false, .bool false, .bool false, .bool false, .bool false] (mkX cs k).toArray (by rw [mkX_asize]; exact infoB24) (by rw [mkX_asize]; rfl) (all_oneCell_toArray (mkX_one cs k))
  simpa using this
theorem marks_lit (w : World) (B : Nat) (hB : B ≤ w.heap.size) (cs : List Cls) (k : Nat) : MarkA (w.alloc (.cells (mkX cs k).toArray 110)) B w.heap.size (mkX cs k) := by
  unfold MarkA
  have := World.ownsRow_lit (base := B) (e := 110) (size := 1) w (mkX cs k).toArray 24 hB (by unfold maxLen; omega) (by rw [mkX_asize])
  simpa using this
theorem limOk_kid {cs : List Cls} {x : Cls} (h : hasK cs x.i = true) : limOk cs x = (x.l == 0) := by unfold limOk; rw [h]; rfl
theorem limOk_leaf {cs : List Cls} {x : Cls} (h : hasK cs x.i = false) : limOk cs x = inB x.l 1 60 := by unfold limOk; rw [h]; rfl
def LmRel (w : World) (M n : Nat) (cs : List Cls) (B : Bool) (i : Value) (wr : World) : Prop :=
  ∃ k : Nat, k ≤ n ∧ i = .int .i64 k ∧ MarkA wr w.heap.size M (mkX cs n) ∧ Below w.heap.size w wr ∧ Hid (fromK (fun k => limOk cs (cs.getD k cls0)) n k = B)
set_option maxHeartbeats 3200000 in
theorem limitsFit_any (ac : Option Addr) (n cc : Nat) (cs : List Cls) (w : World) (HI : Hid (InX w ac n (clsCs cs))) (hn : Hid (cs.length = n)) (hm : n ≤ 1048576) (hi : Hid (IncC cs)) (h24 : n ≤ 24) :
    Calls Tryd.prog 63 #[(.slice ac n cc)] w (SaysB w (lfG cs)) := by
  obtain ⟨B, hB⟩ : ∃ B, lfG cs = B := ⟨_, rfl⟩
  have H0 : Hid (fromK (fun k => limOk cs (cs.getD k cls0)) n 0 = B) := Lib.hid (by rw [← hB]; unfold lfG; rw [hn.out])
  have HMK := Lib.hid (fun w HI => parentMarks_any ac n cc cs w HI hn hm hi h24)
  rw [hB]
  clear hB
  go_enter Tryd.func63, Tryd.ntmps63
  go_wp2_with (go_at_call 85; refine (HMK.out _ HI).mono ?_; rintro e w1 ⟨rfl, b1⟩; have B1 := Lib.hid b1; have hst := marks_store w1 cs n; clear b1)
  go_loopw [10] (fun i wr => LmRel w w1.heap.size n cs B i wr) (fun i _ => n - (intOf i).toNat)
  case atStart => exact ⟨0, Nat.zero_le _, rfl, marks_lit w1 _ B1.out.size cs n, B1.out.alloc B1.out.size _, H0⟩
  case round =>
    obtain ⟨k, hk, rfl, hmk, hb, HP⟩ := hrel
    have HB := Lib.hid hb
    have HM := Lib.hid hmk
    have hgm : w1.heap.size < wr.heap.size := (World.ownsRow.lt hmk _ rfl).2
    clear hmk
    by_cases hlt : k < n
    · obtain ⟨g, rfl, ht, hg⟩ := HI.out (by omega)
      obtain ⟨x, hx⟩ : ∃ x, cs.getD k cls0 = x := ⟨_, rfl⟩
      have hl1 : k < cs.length := by rw [hn.out]; exact hlt
      obtain ⟨a0, a1, a2, a3, a4, a5, a6, a7⟩ := (ht.below hb hg).cls k hl1 x hx
      have HE := Lib.hid (fromK_at (fun k => limOk cs (cs.getD k cls0)) n k hlt)
      have HEx : Hid (limOk cs (cs.getD k cls0) = limOk cs x) := Lib.hid (by rw [hx])
      have hmk := HM.out.at k (by omega)
      rw [mkP_all hi.out n k hn.out hlt, hx] at hmk
      have hk24 : (k : Int) < 24 := by omega
      have BA := Lib.hid (one_new2 wr (Obj.cells #[.int .i64 x.i, .int .i64 x.p, .int .i64 x.r, .int .i64 x.e, .int .i64 x.b, .int .i64 x.u, .int .i64 x.o, .int .i64 x.l] 26))
      rcases Bool.eq_false_or_eq_true (hasK cs x.i) with hh | hh
      · have HLM := Lib.hid (limOk_kid hh)
        rw [hh] at hmk
        have hma := fun o => ((bcell (one_new2 wr o)).1 _ k hgm).trans hmk
        by_cases hz : x.l = 0
        · have HX := Lib.hid (show fromK (fun k => limOk cs (cs.getD k cls0)) n (k + 1) = B by rw [← HP.out, HE.out, HEx.out, HLM.out, hz]; rfl)
          have dz : (x.l == 0) = true := by simpa using hz
          have dzn : (x.l != 0) = false := by simp [hz]
          obtain ⟨xi, xp, xr, xe, xb, xu, xo, xl⟩ := x
          simp only at a0 a1 a2 a3 a4 a5 a6 a7 BA dz dzn
          clear hb hx hl1 ht hh hz hmk
          go_wp2_with fail
          go_roundw
          case rel => exact ⟨k + 1, by omega, by go_num, HM.out.low BA.out hgm, HB.out.trans (BA.out.mono HB.out.size), HX⟩
          case measure => simp [intOf]; omega
        · have HX : Hid (B = false) := Lib.hid (by rw [← HP.out, HE.out, HEx.out, HLM.out, beq_eq_false_iff_ne.2 hz]; rfl)
          have dz : (x.l == 0) = false := by simpa using hz
          have dzn : (x.l != 0) = true := by simp [hz]
          obtain ⟨xi, xp, xr, xe, xb, xu, xo, xl⟩ := x
          simp only at a0 a1 a2 a3 a4 a5 a6 a7 BA dz dzn
          clear hb hx hl1 ht hh hz hmk
          go_wp2_with fail
          go_ret
          exact ⟨ret_bool HX.out.symm, HB.out.trans (BA.out.mono HB.out.size)⟩
      · have HLM := Lib.hid (limOk_leaf hh)
        rw [hh] at hmk
        have hma := fun o => ((bcell (one_new2 wr o)).1 _ k hgm).trans hmk
        have HN := Lib.hid (fun w => isIn_any x.l 1 60 w)
        rcases Bool.eq_false_or_eq_true (inB x.l 1 60) with hz | hz
        · have HX := Lib.hid (show fromK (fun k => limOk cs (cs.getD k cls0)) n (k + 1) = B by rw [← HP.out, HE.out, HEx.out, HLM.out, hz, Bool.true_and])
          rw [hz] at HN
          obtain ⟨xi, xp, xr, xe, xb, xu, xo, xl⟩ := x
          simp only at a0 a1 a2 a3 a4 a5 a6 a7 BA HN
          clear hb hx hl1 ht hh hz hmk
          go_wp2_with (go_at_call 19; refine (HN.out _).mono ?_; rintro e w' ⟨rfl, rfl⟩)
          go_roundw
          case rel => exact ⟨k + 1, by omega, by go_num, HM.out.low BA.out hgm, HB.out.trans (BA.out.mono HB.out.size), HX⟩
          case measure => simp [intOf]; omega
        · have HX : Hid (B = false) := Lib.hid (by rw [← HP.out, HE.out, HEx.out, HLM.out, hz, Bool.false_and])
          rw [hz] at HN
          obtain ⟨xi, xp, xr, xe, xb, xu, xo, xl⟩ := x
          simp only at a0 a1 a2 a3 a4 a5 a6 a7 BA HN
          clear hb hx hl1 ht hh hz hmk
          go_wp2_with (go_at_call 19; refine (HN.out _).mono ?_; rintro e w' ⟨rfl, rfl⟩)
          go_ret
          exact ⟨ret_bool HX.out.symm, HB.out.trans (BA.out.mono HB.out.size)⟩
    · have HX : Hid (true = B) := Lib.hid (by rw [← HP.out, fromK_end _ n k (by omega)])
      clear hb
      go_wp2_with fail
      go_ret
      exact ⟨ret_bool HX.out, HB.out⟩
set_option maxHeartbeats 3200000 in
theorem isLeaf_any (s : ByteArray) (ac : Option Addr) (vf : Value) (n cc : Nat) (d : Int) (cs : List Cls) (c0 B M : Nat) (id : Int) (w : World) (HI : Hid (InX w ac n (clsCs cs))) (hn : Hid (cs.length = n)) (hm : n ≤ 1048576) (hi : Hid (IncC cs)) (h24 : n ≤ 24) (HF : Hid (FourIs w c0 (.string s) (.slice ac n cc) vf (.int .i64 d))) (HM : Hid (MarkA w B M (mkX cs n))) :
    Calls Tryd.prog 86 #[.int .i64 id, .pointer (some ⟨c0, 0, none⟩), .pointer (some ⟨M, 0, none⟩)] w (SaysB w (leafB cs id)) := by
  obtain ⟨e0, e1, e2, e3, hgc⟩ := HF.out
  have HPL := Lib.hid (fun w HI => placeOf_any ac n cc cs id w HI hn hm hi)
  have hgm : M < w.heap.size := (World.ownsRow.lt HM.out _ rfl).2
  cases hf : fnd cs id with
  | none =>
    have HX : Hid (leafB cs id = false) := Lib.hid (by unfold leafB; rw [hf]; rfl)
    rw [plc_of_none hi.out hf] at HPL
    generalize plc cs id = pl at HPL
    clear hf
    go_enter Tryd.func86, Tryd.ntmps86
    go_wp2_with (go_at_call 82; refine (HPL.out _ HI).mono ?_; rintro e w1 ⟨rfl, b1⟩; have B1 := Lib.hid b1; clear b1)
    go_ret
    exact ⟨ret_bool HX.out.symm, B1.out⟩
  | some j =>
    have hj := fnd_get cs id j hf
    have hjn : j < n := by rw [← hn.out]; exact hj.1
    have hj24 : (j : Int) < 24 := by omega
    obtain ⟨b, hb⟩ : ∃ b, hasK cs id = b := ⟨_, rfl⟩
    have HX : Hid (leafB cs id = !b) := Lib.hid (by unfold leafB; rw [hf, hb]; rfl)
    have hmk := HM.out.at j (by omega)
    rw [mkP_all hi.out n j hn.out hjn, hj.2, hb] at hmk
    have HMK := Lib.hid hmk
    rw [(plc_of_fnd hi.out hf).1, (plc_of_fnd hi.out hf).2] at HPL
    clear hf hj hb hmk
    go_enter Tryd.func86, Tryd.ntmps86
    go_wp2_with (go_at_call 82; refine (HPL.out _ HI).mono ?_; rintro e w1 ⟨rfl, b1⟩; have B1 := Lib.hid b1; have m1 := ((bcell b1).1 M j hgm).trans HMK.out; clear b1)
    go_ret
    exact ⟨ret_bool HX.out.symm, B1.out⟩
end Go.Proofs.YtkpocljlmbihcaaDoor

/- The program's check of all targets, of a name, and of a whole configuration. -/
namespace Go.Proofs.YtkpocljlmbihcaaDoor
set_option maxRecDepth 100000
open Go.RowKit
set_option linter.unusedVariables false

def LdRel (w : World) (M m n : Nat) (a0 a1 a2 a3 : Value) (cs : List Cls) (fs : List Flt) (L : Bool) (i : Value) (wr : World) : Prop :=
  ∃ k : Nat, k ≤ m ∧ i = .int .i64 k ∧ FourIs wr w.heap.size a0 a1 a2 a3 ∧ MarkA wr w.heap.size M (mkX cs n) ∧ Below w.heap.size w wr ∧ Hid (lvF cs (fs.drop k) = L)
set_option maxHeartbeats 3200000 in
theorem leadToLeaves_any (s : ByteArray) (ac af : Option Addr) (n cc m cf : Nat) (d : Int) (cs : List Cls) (fs : List Flt) (w : World) (HI : Hid (InX w ac n (clsCs cs))) (hn : Hid (cs.length = n)) (hm : n ≤ 1048576) (HJ : Hid (InX w af m (fltCs fs))) (hf : Hid (fs.length = m)) (hmf : m ≤ 1048576) (hi : Hid (IncC cs)) (h24 : n ≤ 24) :
    Calls Tryd.prog 65 #[(.agg #[.string s, .slice ac n cc, .slice af m cf, .int .i64 d])] w (SaysB w (lvF cs fs && dfG cs d)) := by
  obtain ⟨L, hL⟩ : ∃ L, lvF cs fs = L := ⟨_, rfl⟩
  have H0 : Hid (lvF cs (fs.drop 0) = L) := Lib.hid hL
  have HMK := Lib.hid (fun w HI => parentMarks_any ac n cc cs w HI hn hm hi h24)
  have HLF := Lib.hid (fun c0 B M id w HI HF HM => isLeaf_any s ac (.slice af m cf) n cc d cs c0 B M id w HI hn hm hi h24 HF HM)
  have HD : Hid (dfG cs d = ((d == 0) || leafB cs d)) := Lib.hid rfl
  rw [hL]
  generalize dfG cs d = D at HD ⊢
  clear hL
  go_enter Tryd.func65, Tryd.ntmps65
  go_wp2_with (go_at_call 85; refine (HMK.out _ (Lib.hid (HI.out.below (one_new2 _ _)))).mono ?_; rintro e w1 ⟨rfl, b1⟩; have B1 := Lib.hid (box_four b1).2; have F1 := Lib.hid (box_four b1).1; have hst := marks_store w1 cs n; have hz1 : w.heap.size < w1.heap.size := (box_four b1).1.2.2.2.2; have ce := fun o => ((bcell (one_new2 w1 o)).1 _ 2 hz1).trans (box_four b1).1.2.2.1; clear b1)
  go_loopw [14] (fun i wr => LdRel w w1.heap.size m n (.string s) (.slice ac n cc) (.slice af m cf) (.int .i64 d) cs fs L i wr) (fun i _ => m - (intOf i).toNat)
  case atStart => exact ⟨0, Nat.zero_le _, rfl, F1.out.on (one_new2 _ _), marks_lit w1 _ B1.out.size cs n, B1.out.alloc B1.out.size _, H0⟩
  case round =>
    obtain ⟨k, hk, rfl, hfo, hmk, hb, HP⟩ := hrel
    have HB := Lib.hid hb
    have HM := Lib.hid hmk
    have HFO := Lib.hid hfo
    obtain ⟨e0, e1, e2, e3, hgc⟩ := hfo
    clear hmk hst ce
    by_cases hlt : k < m
    · obtain ⟨g, rfl, ht, hg⟩ := HJ.out (by omega)
      have hl1 : k < fs.length := by rw [hf.out]; exact hlt
      obtain ⟨x, hx⟩ : ∃ x, fs.getD k flt0 = x := ⟨_, rfl⟩
      obtain ⟨a0, a1, a2, a3, a4⟩ := (ht.below hb hg).flt k hl1 x hx
      have HE := Lib.hid (lvF_at cs fs k hl1 x hx)
      have BA := Lib.hid (one_new2 wr (Obj.cells #[.int .i64 x.o, .int .i64 x.f, .int .i64 x.m, .int .i64 x.v, .int .i64 x.t] 32))
      have HLx := Lib.hid (HLF.out w.heap.size w.heap.size w1.heap.size x.t)
      have hgm : w1.heap.size < wr.heap.size := (World.ownsRow.lt HM.out _ rfl).2
      rcases Bool.eq_false_or_eq_true (leafB cs x.t) with hl | hl
      · have HX := Lib.hid (show lvF cs (fs.drop (k + 1)) = L by rw [← HP.out, HE.out, hl, Bool.true_and])
        rw [hl] at HLx
        obtain ⟨xo, xf, xm, xv, xt⟩ := x
        simp only at a0 a1 a2 a3 a4 BA HLx
        clear hb hx hl1 ht hl
        go_wp2_with (go_at_call 86; refine (HLx.out _ (Lib.hid (HI.out.below (HB.out.trans (BA.out.mono HB.out.size)))) (Lib.hid (HFO.out.on BA.out)) (Lib.hid (HM.out.low BA.out hgm))).mono ?_; rintro e w2 ⟨rfl, b2⟩; have B2 := Lib.hid (BA.out.trans (b2.mono BA.out.size)); clear b2)
        go_roundw
        case rel => exact ⟨k + 1, by omega, by go_num, HFO.out.on B2.out, HM.out.low B2.out hgm, HB.out.trans (B2.out.mono HB.out.size), HX⟩
        case measure => simp [intOf]; omega
      · have HX : Hid (L = false) := Lib.hid (by rw [← HP.out, HE.out, hl, Bool.false_and])
        rw [hl] at HLx
        obtain ⟨xo, xf, xm, xv, xt⟩ := x
        simp only at a0 a1 a2 a3 a4 BA HLx
        clear hb hx hl1 ht hl
        go_wp2_with (go_at_call 86; refine (HLx.out _ (Lib.hid (HI.out.below (HB.out.trans (BA.out.mono HB.out.size)))) (Lib.hid (HFO.out.on BA.out)) (Lib.hid (HM.out.low BA.out hgm))).mono ?_; rintro e w2 ⟨rfl, b2⟩; have B2 := Lib.hid (BA.out.trans (b2.mono BA.out.size)); clear b2)
        go_ret
        exact ⟨ret_bool (by rw [HX.out]; rfl), HB.out.trans (B2.out.mono HB.out.size)⟩
    · have HX : Hid (L = true) := Lib.hid (by rw [← HP.out, lvF_end cs fs k (by rw [hf.out]; omega)])
      have HLx := Lib.hid (HLF.out w.heap.size w.heap.size w1.heap.size d)
      clear hb
      by_cases hd : d = 0
      · have d0 : (d == 0) = true := by simpa using hd
        have HY : Hid (D = true) := Lib.hid (by rw [HD.out, d0]; rfl)
        clear hd
        go_wp2_with fail
        go_ret
        exact ⟨ret_bool (by rw [HX.out, HY.out]; rfl), HB.out⟩
      · have d0 : (d == 0) = false := by simpa using hd
        have HY : Hid (D = leafB cs d) := Lib.hid (by rw [HD.out, d0]; rfl)
        generalize leafB cs d = q at HY HLx
        clear hd
        go_wp2_with (go_at_call 86; refine (HLx.out _ (Lib.hid (HI.out.below HB.out)) HFO HM).mono ?_; rintro e w2 ⟨rfl, b2⟩; have B2 := Lib.hid (HB.out.trans (b2.mono HB.out.size)); clear b2)
        go_ret
        exact ⟨ret_bool (by rw [HX.out, HY.out]; rfl), B2.out⟩
end Go.Proofs.YtkpocljlmbihcaaDoor

/- The program's check of a name and of a whole configuration. -/
namespace Go.Proofs.YtkpocljlmbihcaaDoor
set_option maxRecDepth 100000
open Go.RowKit
set_option linter.unusedVariables false

theorem nm_empty {s : ByteArray} (h : s.size = 0) : s = ⟨#[]⟩ := by
  obtain ⟨⟨l⟩⟩ := s
  simp [ByteArray.size] at h
  rw [h]
theorem nm_full {s : ByteArray} (h : 0 < s.size) : (s.toList == []) = false ∧ s.toList.isEmpty = false := by
  have e : s.toList ≠ [] := by
    rw [ByteArray.toList_eq]
    intro e
    have q : s.data.size = 0 := by rw [← Array.length_toList, e]; rfl
    have q2 : s.size = s.data.size := rfl
    omega
  cases hl : s.toList with
  | nil => exact absurd hl e
  | cons a r => exact ⟨rfl, rfl⟩
set_option maxHeartbeats 1600000 in
theorem isConfigName_any (s : ByteArray) (w : World) (hs : s.size ≤ 1048576) (hK : Hid (Kwt w)) :
    Calls Tryd.prog 59 #[.string s] w (SaysB w (nmG s)) := by
  have HX : Hid (nmG s = ((alB s.data.toList && (decide (1 ≤ s.size) && decide (s.size ≤ 8))) && !isKw s)) := Lib.hid rfl
  have HW := Lib.hid (fun w => isWord_any s w hs)
  have HKW := Lib.hid (fun w hK => implIsKey_any s w hK)
  rw [wd_al] at HW
  generalize nmG s = R at HX ⊢
  rcases Nat.eq_zero_or_pos s.size with h0 | h0
  · have HR : Hid (R = false) := Lib.hid (by rw [HX.out, decide_eq_false (show ¬ 1 ≤ s.size by omega)]; simp)
    have e := nm_empty h0
    subst e
    clear HX HW HKW h0 hs
    go_enter Tryd.func59, Tryd.ntmps59
    go_wp2_with fail
    go_ret
    exact ⟨ret_bool HR.out.symm, Below.refl _ _⟩
  obtain ⟨q1, q2⟩ := nm_full h0
  by_cases h8 : 8 < s.size
  · have HR : Hid (R = false) := Lib.hid (by rw [HX.out, decide_eq_false (show ¬ s.size ≤ 8 by omega)]; simp)
    have d8 := not_le (show (8 : Int) < (s.size : Int) by omega)
    clear HX HW HKW h0 hs h8
    go_enter Tryd.func59, Tryd.ntmps59
    go_wp2_with fail
    go_ret
    exact ⟨ret_bool HR.out.symm, Below.refl _ _⟩
  have d8 := is_le (show (s.size : Int) ≤ 8 by omega)
  rw [decide_eq_true (show s.size ≤ 12 by omega), Bool.and_true] at HW
  have HY : Hid (R = (alB s.data.toList && !isKw s)) := Lib.hid (by rw [HX.out, decide_eq_true (show 1 ≤ s.size by omega), decide_eq_true (show s.size ≤ 8 by omega)]; simp)
  generalize alB s.data.toList = b1 at HY HW
  generalize isKw s = b2 at HY HKW
  clear HX h0 h8
  cases b1
  · have HR : Hid (R = false) := Lib.hid (by rw [HY.out]; rfl)
    go_enter Tryd.func59, Tryd.ntmps59
    go_wp2_with (go_at_call 79; refine (HW.out _).mono ?_; rintro e w1 ⟨rfl, b1⟩; have B1 := Lib.hid b1; clear b1)
    go_ret
    exact ⟨ret_bool HR.out.symm, B1.out⟩
  · have HR : Hid (R = !b2) := Lib.hid (by rw [HY.out]; rfl)
    go_enter Tryd.func59, Tryd.ntmps59
    go_wp2_with (go_at_call 79; refine (HW.out _).mono ?_; rintro e w1 ⟨rfl, b1⟩; have B1 := Lib.hid b1; clear b1)
    go_wp2_with (go_at_call 80; refine (HKW.out _ (Lib.hid (hK.out.below B1.out))).mono ?_; rintro e w2 ⟨rfl, rfl⟩)
    go_ret
    exact ⟨ret_bool HR.out.symm, B1.out⟩
set_option maxHeartbeats 6400000 in
theorem implIsConfig_any (v : Value) (c : Cfg) (w : World) (HK : Hid (Kwt w)) (HV : Hid (CfgV w v c)) (HM : Hid (CfgM c)) :
    Calls Tryd.prog 40 #[v] w (SaysB w (goodC c)) := by
  obtain ⟨ac, cc, af, cf, rfl, ic, if_⟩ := HV.out
  have HG := Lib.hid (goodC_prog c)
  obtain ⟨B, hB⟩ : ∃ B, goodC c = B := ⟨_, rfl⟩
  rw [hB] at HG ⊢
  clear hB HV
  obtain ⟨s, cs, fs, d⟩ := c
  obtain ⟨n, hn⟩ : ∃ n, cs.length = n := ⟨_, rfl⟩
  obtain ⟨m, hm⟩ : ∃ m, fs.length = m := ⟨_, rfl⟩
  have HNN := Lib.hid hn
  have HMM := Lib.hid hm
  have hM := HM.out
  unfold CfgM at hM
  simp only [hn, hm] at ic if_ hM HG ⊢
  obtain ⟨q0, q1, q2⟩ := hM
  have HI := Lib.hid ic
  have HJ := Lib.hid if_
  clear hn hm ic if_ HM
  have A0 := Lib.hid (Aft.refl w (Obj.cells #[.string s, .slice ac n cc, .slice af m cf, .int .i64 d] 44))
  have HN := Lib.hid (fun w hK => isConfigName_any s w q0 (Lib.hid hK))
  have HA := Lib.hid (fun w HI => areClasses_any ac n cc cs w HI HNN q1)
  have HF := Lib.hid (fun w HJ => areFilters_any af m cf fs w HJ HMM q2)
  cases h1 : nmG s
  · have HX : Hid (B = false) := Lib.hid (by rw [HG.out, h1]; rfl)
    rw [h1] at HN
    clear h1
    go_enter Tryd.func40, Tryd.ntmps40
    go_wp2_with (go_at_call 59; refine (HN.out _ (HK.out.below A0.out.all.2)).mono ?_; rintro e w1 ⟨rfl, b1⟩; have A1 := Lib.hid (A0.out.on b1); clear b1)
    go_ret
    exact ⟨ret_bool HX.out.symm, A1.out.all.2⟩
  rw [h1] at HN
  cases h2 : arG cs
  · have HX : Hid (B = false) := Lib.hid (by rw [HG.out, h1, h2]; rfl)
    rw [h2] at HA
    clear h1 h2
    go_enter Tryd.func40, Tryd.ntmps40
    go_wp2_with (go_at_call 59; refine (HN.out _ (HK.out.below A0.out.all.2)).mono ?_; rintro e w1 ⟨rfl, b1⟩; have A1 := Lib.hid (A0.out.on b1); obtain ⟨c0, c1, c2, c3, _⟩ := A1.out.all.1; clear b1)
    go_wp2_with (go_at_call 60; refine (HA.out _ (Lib.hid (HI.out.below A1.out.all.2))).mono ?_; rintro e w2 ⟨rfl, b2⟩; have A2 := Lib.hid (A1.out.on b2); clear b2)
    go_ret
    exact ⟨ret_bool HX.out.symm, A2.out.all.2⟩
  rw [h2] at HA
  have h24 : n ≤ 24 := by
    unfold arG at h2
    simp only [Bool.and_eq_true, decide_eq_true_eq] at h2
    rw [← HNN.out]; exact h2.1.2
  have HO : Hid (okL 0 cs = true) := Lib.hid (by
    unfold arG at h2
    simp only [Bool.and_eq_true] at h2
    exact h2.2)
  have hi := Lib.hid (okL_inc cs 0 HO.out)
  have HRI := Lib.hid (okL_rates HO.out)
  have HT := Lib.hid (fun w HI => isTree_any ac n cc cs w HI HNN q1 hi h24)
  have HR := Lib.hid (fun w HI => ratesFit_any ac n cc cs w HI HNN q1 h24 HRI)
  have HL := Lib.hid (fun w HI => limitsFit_any ac n cc cs w HI HNN q1 hi h24)
  have HD := Lib.hid (fun w HI HJ => leadToLeaves_any s ac af n cc m cf d cs fs w HI HNN q1 HJ HMM q2 hi h24)
  cases h3 : itG cs
  · have HX : Hid (B = false) := Lib.hid (by rw [HG.out, h1, h2, h3]; rfl)
    rw [h3] at HT
    clear h1 h2 h3
    go_enter Tryd.func40, Tryd.ntmps40
    go_wp2_with (go_at_call 59; refine (HN.out _ (HK.out.below A0.out.all.2)).mono ?_; rintro e w1 ⟨rfl, b1⟩; have A1 := Lib.hid (A0.out.on b1); obtain ⟨c0, c1, c2, c3, _⟩ := A1.out.all.1; clear b1)
    go_wp2_with (go_at_call 60; refine (HA.out _ (Lib.hid (HI.out.below A1.out.all.2))).mono ?_; rintro e w2 ⟨rfl, b2⟩; have A2 := Lib.hid (A1.out.on b2); obtain ⟨c0, c1, c2, c3, _⟩ := A2.out.all.1; clear b2)
    go_wp2_with (go_at_call 61; refine (HT.out _ (Lib.hid (HI.out.below A2.out.all.2))).mono ?_; rintro e w3 ⟨rfl, b3⟩; have A3 := Lib.hid (A2.out.on b3); clear b3)
    go_ret
    exact ⟨ret_bool HX.out.symm, A3.out.all.2⟩
  rw [h3] at HT
  cases h4 : rfG cs
  · have HX : Hid (B = false) := Lib.hid (by rw [HG.out, h1, h2, h3, h4]; rfl)
    rw [h4] at HR
    clear h1 h2 h3 h4
    go_enter Tryd.func40, Tryd.ntmps40
    go_wp2_with (go_at_call 59; refine (HN.out _ (HK.out.below A0.out.all.2)).mono ?_; rintro e w1 ⟨rfl, b1⟩; have A1 := Lib.hid (A0.out.on b1); obtain ⟨c0, c1, c2, c3, _⟩ := A1.out.all.1; clear b1)
    go_wp2_with (go_at_call 60; refine (HA.out _ (Lib.hid (HI.out.below A1.out.all.2))).mono ?_; rintro e w2 ⟨rfl, b2⟩; have A2 := Lib.hid (A1.out.on b2); obtain ⟨c0, c1, c2, c3, _⟩ := A2.out.all.1; clear b2)
    go_wp2_with (go_at_call 61; refine (HT.out _ (Lib.hid (HI.out.below A2.out.all.2))).mono ?_; rintro e w3 ⟨rfl, b3⟩; have A3 := Lib.hid (A2.out.on b3); obtain ⟨c0, c1, c2, c3, _⟩ := A3.out.all.1; clear b3)
    go_wp2_with (go_at_call 62; refine (HR.out _ (Lib.hid (HI.out.below A3.out.all.2))).mono ?_; rintro e w4 ⟨rfl, b4⟩; have A4 := Lib.hid (A3.out.on b4); clear b4)
    go_ret
    exact ⟨ret_bool HX.out.symm, A4.out.all.2⟩
  rw [h4] at HR
  cases h5 : lfG cs
  · have HX : Hid (B = false) := Lib.hid (by rw [HG.out, h1, h2, h3, h4, h5]; rfl)
    rw [h5] at HL
    clear h1 h2 h3 h4 h5
    go_enter Tryd.func40, Tryd.ntmps40
    go_wp2_with (go_at_call 59; refine (HN.out _ (HK.out.below A0.out.all.2)).mono ?_; rintro e w1 ⟨rfl, b1⟩; have A1 := Lib.hid (A0.out.on b1); obtain ⟨c0, c1, c2, c3, _⟩ := A1.out.all.1; clear b1)
    go_wp2_with (go_at_call 60; refine (HA.out _ (Lib.hid (HI.out.below A1.out.all.2))).mono ?_; rintro e w2 ⟨rfl, b2⟩; have A2 := Lib.hid (A1.out.on b2); obtain ⟨c0, c1, c2, c3, _⟩ := A2.out.all.1; clear b2)
    go_wp2_with (go_at_call 61; refine (HT.out _ (Lib.hid (HI.out.below A2.out.all.2))).mono ?_; rintro e w3 ⟨rfl, b3⟩; have A3 := Lib.hid (A2.out.on b3); obtain ⟨c0, c1, c2, c3, _⟩ := A3.out.all.1; clear b3)
    go_wp2_with (go_at_call 62; refine (HR.out _ (Lib.hid (HI.out.below A3.out.all.2))).mono ?_; rintro e w4 ⟨rfl, b4⟩; have A4 := Lib.hid (A3.out.on b4); obtain ⟨c0, c1, c2, c3, _⟩ := A4.out.all.1; clear b4)
    go_wp2_with (go_at_call 63; refine (HL.out _ (Lib.hid (HI.out.below A4.out.all.2))).mono ?_; rintro e w5 ⟨rfl, b5⟩; have A5 := Lib.hid (A4.out.on b5); clear b5)
    go_ret
    exact ⟨ret_bool HX.out.symm, A5.out.all.2⟩
  rw [h5] at HL
  cases h6 : afG fs
  · have HX : Hid (B = false) := Lib.hid (by rw [HG.out, h1, h2, h3, h4, h5, h6]; rfl)
    rw [h6] at HF
    clear h1 h2 h3 h4 h5 h6
    go_enter Tryd.func40, Tryd.ntmps40
    go_wp2_with (go_at_call 59; refine (HN.out _ (HK.out.below A0.out.all.2)).mono ?_; rintro e w1 ⟨rfl, b1⟩; have A1 := Lib.hid (A0.out.on b1); obtain ⟨c0, c1, c2, c3, _⟩ := A1.out.all.1; clear b1)
    go_wp2_with (go_at_call 60; refine (HA.out _ (Lib.hid (HI.out.below A1.out.all.2))).mono ?_; rintro e w2 ⟨rfl, b2⟩; have A2 := Lib.hid (A1.out.on b2); obtain ⟨c0, c1, c2, c3, _⟩ := A2.out.all.1; clear b2)
    go_wp2_with (go_at_call 61; refine (HT.out _ (Lib.hid (HI.out.below A2.out.all.2))).mono ?_; rintro e w3 ⟨rfl, b3⟩; have A3 := Lib.hid (A2.out.on b3); obtain ⟨c0, c1, c2, c3, _⟩ := A3.out.all.1; clear b3)
    go_wp2_with (go_at_call 62; refine (HR.out _ (Lib.hid (HI.out.below A3.out.all.2))).mono ?_; rintro e w4 ⟨rfl, b4⟩; have A4 := Lib.hid (A3.out.on b4); obtain ⟨c0, c1, c2, c3, _⟩ := A4.out.all.1; clear b4)
    go_wp2_with (go_at_call 63; refine (HL.out _ (Lib.hid (HI.out.below A4.out.all.2))).mono ?_; rintro e w5 ⟨rfl, b5⟩; have A5 := Lib.hid (A4.out.on b5); obtain ⟨c0, c1, c2, c3, _⟩ := A5.out.all.1; clear b5)
    go_wp2_with (go_at_call 64; refine (HF.out _ (Lib.hid (HJ.out.below A5.out.all.2))).mono ?_; rintro e w6 ⟨rfl, b6⟩; have A6 := Lib.hid (A5.out.on b6); clear b6)
    go_ret
    exact ⟨ret_bool HX.out.symm, A6.out.all.2⟩
  rw [h6] at HF
  have HX : Hid (B = (lvF cs fs && dfG cs d)) := Lib.hid (by rw [HG.out, h1, h2, h3, h4, h5, h6]; rfl)
  generalize (lvF cs fs && dfG cs d) = b7 at HX HD
  clear h1 h2 h3 h4 h5 h6
  go_enter Tryd.func40, Tryd.ntmps40
  go_wp2_with (go_at_call 59; refine (HN.out _ (HK.out.below A0.out.all.2)).mono ?_; rintro e w1 ⟨rfl, b1⟩; have A1 := Lib.hid (A0.out.on b1); obtain ⟨c0, c1, c2, c3, _⟩ := A1.out.all.1; clear b1)
  go_wp2_with (go_at_call 60; refine (HA.out _ (Lib.hid (HI.out.below A1.out.all.2))).mono ?_; rintro e w2 ⟨rfl, b2⟩; have A2 := Lib.hid (A1.out.on b2); obtain ⟨c0, c1, c2, c3, _⟩ := A2.out.all.1; clear b2)
  go_wp2_with (go_at_call 61; refine (HT.out _ (Lib.hid (HI.out.below A2.out.all.2))).mono ?_; rintro e w3 ⟨rfl, b3⟩; have A3 := Lib.hid (A2.out.on b3); obtain ⟨c0, c1, c2, c3, _⟩ := A3.out.all.1; clear b3)
  go_wp2_with (go_at_call 62; refine (HR.out _ (Lib.hid (HI.out.below A3.out.all.2))).mono ?_; rintro e w4 ⟨rfl, b4⟩; have A4 := Lib.hid (A3.out.on b4); obtain ⟨c0, c1, c2, c3, _⟩ := A4.out.all.1; clear b4)
  go_wp2_with (go_at_call 63; refine (HL.out _ (Lib.hid (HI.out.below A4.out.all.2))).mono ?_; rintro e w5 ⟨rfl, b5⟩; have A5 := Lib.hid (A4.out.on b5); obtain ⟨c0, c1, c2, c3, _⟩ := A5.out.all.1; clear b5)
  go_wp2_with (go_at_call 64; refine (HF.out _ (Lib.hid (HJ.out.below A5.out.all.2))).mono ?_; rintro e w6 ⟨rfl, b6⟩; have A6 := Lib.hid (A5.out.on b6); obtain ⟨c0, c1, c2, c3, _⟩ := A6.out.all.1; clear b6)
  go_wp2_with (go_at_call 65; refine (HD.out _ (Lib.hid (HI.out.below A6.out.all.2)) (Lib.hid (HJ.out.below A6.out.all.2))).mono ?_; rintro e w7 ⟨rfl, b7⟩; have A7 := Lib.hid (A6.out.on b7); clear b7)
  go_ret
  exact ⟨ret_bool HX.out.symm, A7.out.all.2⟩
end Go.Proofs.YtkpocljlmbihcaaDoor
