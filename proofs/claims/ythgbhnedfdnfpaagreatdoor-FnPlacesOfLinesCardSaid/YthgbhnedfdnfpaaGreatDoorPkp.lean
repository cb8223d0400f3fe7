import Derived.Test.YthgbhnedfdnfpaaGreatDoorPko
import Derived.Test.YthgbhnedfdnfpaaGreatDoorPkc
import Derived.Laws.Rows
import Derived.Laws.Tables
import Derived.Laws.CopyRow
import Derived.Deep.MidRow
import Derived.Deep.Cut
import Derived.Laws.IdiomCopy
import Derived.Deep.WholeRow
/- The program's checks: the tree of the classes, the marks of parents, limits, targets, and all at once. -/
namespace Go.Proofs.YthgbhnedfdnfpaaGreatDoor
set_option maxRecDepth 100000
open Go.RowKit
set_option linter.unusedVariables false

def TopRel (w : World) (n : Nat) (cs : List Cls) (B : Bool) (t i : Value) (wr : World) : Prop :=
  ∃ k : Nat, k ≤ n ∧ i = .int .i64 k ∧ t = .int .i64 (cT (cs.take k) : Nat) ∧ Below w.heap.size w wr ∧ Hid (fromK (fun k => parOk cs (cs.getD k cls0)) n k = B)
theorem par_top {cs : List Cls} {x : Cls} (h : x.p = 0) : parOk cs x = true := by unfold parOk; rw [h]; rfl
theorem par_found {cs : List Cls} {x : Cls} {j : Nat} (h : fnd cs x.p = Option.some j) : parOk cs x = true := by unfold parOk; rw [h]; simp
theorem par_lost {cs : List Cls} {x : Cls} (hz : x.p ≠ 0) (h : fnd cs x.p = Option.none) : parOk cs x = false := by unfold parOk; rw [h]; simp [hz]
theorem cT_take_le (cs : List Cls) (k : Nat) : cT (cs.take k) ≤ k := Nat.le_trans (cT_le _) (List.length_take_le _ _)
set_option maxHeartbeats 3200000 in
theorem isTree_any (ac : Option Addr) (n cc : Nat) (cs : List Cls) (w : World) (HI : Hid (InX w ac n (clsCs cs))) (hn : Hid (cs.length = n)) (hm : n ≤ 1048576) (hi : Hid (IncC cs)) (h24 : n ≤ 24) :
    Calls Tryz.prog 58 #[(.slice ac n cc)] w (SaysB w (itG cs)) := by
  obtain ⟨B, hB⟩ : ∃ B, fromK (fun k => parOk cs (cs.getD k cls0)) n 0 = B := ⟨_, rfl⟩
  obtain ⟨B2, hB2⟩ : ∃ B2, fromK (fun k => reach cs 7 (cs.getD k cls0)) n 0 = B2 := ⟨_, rfl⟩
  have H0 := Lib.hid hB
  have H2 := Lib.hid hB2
  have HA : Hid (itG cs = (B && ((cT cs == 1) && B2))) := Lib.hid (by unfold itG; rw [hn.out, hB, hB2])
  have HPL := Lib.hid (fun id w HI => placeOf_any ac n cc cs id w HI hn hm hi)
  have HRT := Lib.hid (fun y w HI HPA hy => reachesTop_any ac n cc cs y w HI hn hm hi HPA hy)
  generalize itG cs = R at HA ⊢
  clear hB hB2
  have HC0 : Hid (cT (cs.take 0) = 0) := Lib.hid rfl
  go_enter Tryz.func58, Tryz.ntmps58
  go_wp2_with fail
  go_loopw [3, 12] (fun t i wr => TopRel w n cs B t i wr) (fun _ i _ => n - (intOf i).toNat)
  case atStart => exact ⟨0, Nat.zero_le _, rfl, by rw [HC0.out]; rfl, Below.refl _ _, H0⟩
  case round =>
    obtain ⟨k, hk, rfl, rfl, hb, HP⟩ := hrel
    have HB := Lib.hid hb
    by_cases hlt : k < n
    · obtain ⟨g, rfl, ht, hg⟩ := HI.out (by omega)
      obtain ⟨x, hx⟩ : ∃ x, cs.getD k cls0 = x := ⟨_, rfl⟩
      have hl1 : k < cs.length := by rw [hn.out]; exact hlt
      obtain ⟨a0, a1, a2, a3, a4, a5, a6, a7⟩ := (ht.below hb hg).cls k hl1 x hx
      have HE := Lib.hid (fromK_at (fun k => parOk cs (cs.getD k cls0)) n k hlt)
      have HEx : Hid (parOk cs (cs.getD k cls0) = parOk cs x) := Lib.hid (by rw [hx])
      have HM := Lib.hid (cT_more cs k hl1 x hx)
      have hct := cT_take_le cs k
      have HT := Lib.hid (fun w => isTop_any x w)
      have HPx := Lib.hid (HPL.out x.p)
      have BA := Lib.hid (hb.trans ((one_new2 wr (Obj.cells #[.int .i64 x.i, .int .i64 x.p, .int .i64 x.r, .int .i64 x.e, .int .i64 x.b, .int .i64 x.u, .int .i64 x.o, .int .i64 x.l] 41)).mono hb.size))
      generalize cT (cs.take k) = tk at HM hct
      by_cases hz : x.p = 0
      · have HX := Lib.hid (show fromK (fun k => parOk cs (cs.getD k cls0)) n (k + 1) = B by rw [← HP.out, HE.out, HEx.out, par_top hz, Bool.true_and])
        have HTK : Hid (cT (cs.take (k + 1)) = tk + 1) := Lib.hid (by rw [HM.out, if_pos hz])
        rw [show (x.p == 0) = true by rw [hz]; rfl] at HT
        obtain ⟨xi, xp, xr, xe, xb, xu, xo, xl⟩ := x
        unfold clsV at HT
        simp only at a0 a1 a2 a3 a4 a5 a6 a7 HT BA
        clear hb hx hl1 ht hz
        go_wp2_with (go_at_call 86; refine (HT.out _).mono ?_; rintro e w1 ⟨rfl, b1⟩; have B1 := Lib.hid (BA.out.trans (b1.mono BA.out.size)); clear b1)
        go_roundw
        case rel => exact ⟨k + 1, by omega, by go_num, by rw [HTK.out]; go_num, B1.out, HX⟩
        case measure => simp [intOf]; omega
      · have HTK : Hid (cT (cs.take (k + 1)) = tk) := Lib.hid (by rw [HM.out, if_neg hz]; rfl)
        rw [show (x.p == 0) = false from beq_eq_false_iff_ne.2 hz] at HT
        cases hf : fnd cs x.p with
        | none =>
          have HX : Hid (R = false) := Lib.hid (by rw [HA.out, ← HP.out, HE.out, HEx.out, par_lost hz hf]; rfl)
          rw [plc_of_none hi.out hf] at HPx
          generalize plc cs x.p = pl at HPx
          obtain ⟨xi, xp, xr, xe, xb, xu, xo, xl⟩ := x
          unfold clsV at HT
          simp only at a0 a1 a2 a3 a4 a5 a6 a7 HT BA HPx
          clear hb hx hl1 ht hz hf
          go_wp2_with (go_at_call 86; refine (HT.out _).mono ?_; rintro e w1 ⟨rfl, b1⟩; have B1 := Lib.hid (BA.out.trans (b1.mono BA.out.size)); obtain ⟨c0, c1, c2, c3, c4, c5, c6, c7⟩ := (box_eight b1).1; clear b1)
          go_wp2_with (go_at_call 41; refine (HPx.out _ (Lib.hid (HI.out.below B1.out))).mono ?_; rintro e w2 ⟨rfl, b2⟩; have B2' := Lib.hid (B1.out.trans (b2.mono B1.out.size)); clear b2)
          go_ret
          exact ⟨ret_bool HX.out.symm, B2'.out⟩
        | some j =>
          have HX := Lib.hid (show fromK (fun k => parOk cs (cs.getD k cls0)) n (k + 1) = B by rw [← HP.out, HE.out, HEx.out, par_found hf, Bool.true_and])
          rw [(plc_of_fnd hi.out hf).1, (plc_of_fnd hi.out hf).2] at HPx
          obtain ⟨xi, xp, xr, xe, xb, xu, xo, xl⟩ := x
          unfold clsV at HT
          simp only at a0 a1 a2 a3 a4 a5 a6 a7 HT BA HPx
          clear hb hx hl1 ht hz hf
          go_wp2_with (go_at_call 86; refine (HT.out _).mono ?_; rintro e w1 ⟨rfl, b1⟩; have B1 := Lib.hid (BA.out.trans (b1.mono BA.out.size)); obtain ⟨c0, c1, c2, c3, c4, c5, c6, c7⟩ := (box_eight b1).1; clear b1)
          go_wp2_with (go_at_call 41; refine (HPx.out _ (Lib.hid (HI.out.below B1.out))).mono ?_; rintro e w2 ⟨rfl, b2⟩; have B2' := Lib.hid (B1.out.trans (b2.mono B1.out.size)); clear b2)
          go_roundw
          case rel => exact ⟨k + 1, by omega, by go_num, by rw [HTK.out], B2'.out, HX⟩
          case measure => simp [intOf]; omega
    · have hkn : k = n := by omega
      subst hkn
      have HPA : Hid (B = true) := Lib.hid (by rw [← HP.out, fromK_end _ k k (Nat.le_refl _)])
      have HPB : Hid (ParAll cs) := Lib.hid (fun j hj => (fromK_iff _ k).1 (by rw [H0.out, HPA.out]) j (by rw [← hn.out]; exact hj))
      have hcl := cT_take_le cs k
      have HCT : Hid (cT (cs.take k) = cT cs) := Lib.hid (by rw [List.take_of_length_le (by rw [hn.out]; exact Nat.le_refl _)])
      generalize cT (cs.take k) = tk at HCT hcl
      clear hb hk
      by_cases h1 : tk = 1
      · have d1 : ((tk : Int) == 1) = true := by simp [h1]
        have d1n : ((tk : Int) != 1) = false := by simp [h1]
        have HRR : Hid (R = B2) := Lib.hid (by rw [HA.out, HPA.out, ← HCT.out, h1]; rfl)
        clear h1
        go_wp2_with fail
        go_loopw [34] (fun i wr => AllRel w k (fun k => reach cs 7 (cs.getD k cls0)) B2 i wr) (fun i _ => k - (intOf i).toNat)
        case atStart => exact ⟨0, Nat.zero_le _, rfl, HB.out, H2⟩
        case round =>
          obtain ⟨q, hq, rfl, hb, HP2⟩ := hrel
          have HB2 := Lib.hid hb
          by_cases hlt : q < k
          · obtain ⟨g, rfl, ht, hg⟩ := HI.out (by omega)
            obtain ⟨x, hx⟩ : ∃ x, cs.getD q cls0 = x := ⟨_, rfl⟩
            have hl1 : q < cs.length := by rw [hn.out]; exact hlt
            obtain ⟨a0, a1, a2, a3, a4, a5, a6, a7⟩ := (ht.below hb hg).cls q hl1 x hx
            have HE := Lib.hid (fromK_at (fun k => reach cs 7 (cs.getD k cls0)) k q hlt)
            have HEx : Hid (reach cs 7 (cs.getD q cls0) = reach cs 7 x) := Lib.hid (by rw [hx])
            have HPX : Hid (parOk cs x = true) := Lib.hid (by rw [← hx]; exact HPB.out q hl1)
            have HS := Lib.hid (fun w HI => HRT.out x w HI HPB HPX.out)
            have BA := Lib.hid (hb.trans ((one_new2 wr (Obj.cells #[.int .i64 x.i, .int .i64 x.p, .int .i64 x.r, .int .i64 x.e, .int .i64 x.b, .int .i64 x.u, .int .i64 x.o, .int .i64 x.l] 41)).mono hb.size))
            clear hb hx hl1 ht
            rcases Bool.eq_false_or_eq_true (reach cs 7 x) with hr | hr
            · have HX := Lib.hid (show fromK (fun k => reach cs 7 (cs.getD k cls0)) k (q + 1) = B2 by rw [← HP2.out, HE.out, HEx.out, hr, Bool.true_and])
              rw [hr] at HS
              obtain ⟨xi, xp, xr, xe, xb, xu, xo, xl⟩ := x
              unfold clsV at HS
              simp only at a0 a1 a2 a3 a4 a5 a6 a7 HS BA
              clear hr HE HEx
              go_wp2_with (go_at_call 87; refine (HS.out _ (Lib.hid (HI.out.below BA.out))).mono ?_; rintro e w1 ⟨rfl, b1⟩; have B1 := Lib.hid (BA.out.trans (b1.mono BA.out.size)); clear b1)
              go_roundw
              case rel => exact ⟨q + 1, by omega, by go_num, B1.out, HX⟩
              case measure => simp [intOf]; omega
            · have HX : Hid (R = false) := Lib.hid (by rw [HRR.out, ← HP2.out, HE.out, HEx.out, hr, Bool.false_and])
              rw [hr] at HS
              obtain ⟨xi, xp, xr, xe, xb, xu, xo, xl⟩ := x
              unfold clsV at HS
              simp only at a0 a1 a2 a3 a4 a5 a6 a7 HS BA
              clear hr HE HEx
              go_wp2_with (go_at_call 87; refine (HS.out _ (Lib.hid (HI.out.below BA.out))).mono ?_; rintro e w1 ⟨rfl, b1⟩; have B1 := Lib.hid (BA.out.trans (b1.mono BA.out.size)); clear b1)
              go_ret
              exact ⟨ret_bool HX.out.symm, B1.out⟩
          · have HX : Hid (true = R) := Lib.hid (by rw [HRR.out, ← HP2.out, fromK_end _ k q (by omega)])
            clear hb
            go_wp2_with fail
            go_ret
            exact ⟨ret_bool HX.out, HB2.out⟩
      · have d1 : ((tk : Int) == 1) = false := by simp; omega
        have HX : Hid (R = false) := Lib.hid (by rw [HA.out, ← HCT.out, beq_eq_false_iff_ne.2 h1, Bool.false_and, Bool.and_false])
        clear h1
        go_wp2_with fail
        go_ret
        exact ⟨ret_bool HX.out.symm, HB.out⟩
end Go.Proofs.YthgbhnedfdnfpaaGreatDoor

/- The program's marks of the classes that have children. -/
namespace Go.Proofs.YthgbhnedfdnfpaaGreatDoor
set_option maxRecDepth 100000
open Go.RowKit
set_option linter.unusedVariables false

def mkP (cs : List Cls) (k j : Nat) : Bool := (cs.take k).any (fun x => fnd cs x.p == Option.some j)
def mkX (cs : List Cls) (k : Nat) : List Value := (List.range 24).map (fun j => Value.bool (mkP cs k j))
theorem mkX_length (cs : List Cls) (k : Nat) : (mkX cs k).length = 24 := by simp [mkX]
theorem mkX_asize (cs : List Cls) (k : Nat) : (mkX cs k).toArray.size = 24 := by rw [List.size_toArray, mkX_length]
theorem mkX_get (cs : List Cls) (k j : Nat) (h : j < 24) : (mkX cs k)[j]? = some (Value.bool (mkP cs k j)) := by simp [mkX, h]
theorem mkX_zero (cs : List Cls) : mkX cs 0 = List.replicate 24 (Value.bool false) := by
  unfold mkX mkP; simp [List.range, List.range.loop]
theorem mkP_more (cs : List Cls) (k j : Nat) (h : k < cs.length) (x : Cls) (hx : cs.getD k cls0 = x) : mkP cs (k + 1) j = (mkP cs k j || (fnd cs x.p == Option.some j)) := by
  have hl : cs[k] = x := by rw [← hx]; simp [List.getD_eq_getElem?_getD, h]
  unfold mkP
  rw [List.take_succ_eq_append_getElem h, List.any_append, hl]
  simp
theorem mkX_none (cs : List Cls) (k : Nat) (h : k < cs.length) (x : Cls) (hx : cs.getD k cls0 = x) (hf : fnd cs x.p = Option.none) : mkX cs (k + 1) = mkX cs k := by
  unfold mkX
  apply List.map_congr_left
  intro j _
  rw [mkP_more cs k j h x hx, hf]; simp
theorem mkX_some (cs : List Cls) (k i : Nat) (h : k < cs.length) (x : Cls) (hx : cs.getD k cls0 = x) (hf : fnd cs x.p = Option.some i) : mkX cs (k + 1) = (mkX cs k).set i (.bool true) := by
  apply List.ext_getElem?
  intro j
  by_cases hj : j < 24
  · rw [mkX_get _ _ _ hj, mkP_more cs k j h x hx, hf]
    by_cases hij : i = j
    · subst hij
      rw [List.getElem?_set_self (by rw [mkX_length]; exact hj)]; simp
    · rw [List.getElem?_set_ne hij, mkX_get _ _ _ hj]; simp [hij]
  · rw [List.getElem?_eq_none (by rw [mkX_length]; omega), List.getElem?_eq_none (by rw [List.length_set, mkX_length]; omega)]
theorem mkP_all {cs : List Cls} (hi : IncC cs) (n j : Nat) (hn : cs.length = n) (hj : j < n) : mkP cs n j = hasK cs (cs.getD j cls0).i := by
  unfold mkP hasK
  rw [List.take_of_length_le (by omega)]
  congr 1
  funext y
  apply Bool.eq_iff_iff.2
  rw [beq_iff_eq, beq_iff_eq]
  constructor
  · intro h; exact (fnd_get cs _ j h).2.symm
  · intro h; rw [h]; exact fnd_inc hi (by omega)
def MarkA (w : World) (B g : Nat) (xs : List Value) : Prop := w.ownsRow B 100 1 (.slice (some ⟨g, 0, none⟩) 24 24) 24 xs
theorem MarkA.heap {w : World} {B g : Nat} {xs : List Value} (h : MarkA w B g xs) : w.heap[g]? = some (.cells xs.toArray 100 (0, 0)) := by
  obtain ⟨_, h⟩ := h
  rcases h with ⟨h, _⟩ | ⟨g', cap, cur, hv, _, hg, _, _, hs, ht⟩
  · cases h
  · cases hv
    rw [hg]
    have : cur = xs.toArray := by
      apply Array.toList_inj.1
      rw [← ht, List.take_of_length_le (by rw [Array.length_toList, hs]; exact Nat.le_refl _)]
    rw [this]
theorem MarkA.size {w : World} {B g : Nat} {xs : List Value} (h : MarkA w B g xs) : xs.length = 24 := h.1
theorem MarkA.cell {w : World} {B g : Nat} {xs : List Value} (h : MarkA w B g xs) (j : Nat) : w.cell? ⟨g, j, none⟩ = xs[j]? := by
  rw [cell_of_row w g j _ _ _ h.heap]; simp
theorem MarkA.store {P : Program} {w : World} {B g : Nat} {xs ys : List Value} (h : MarkA w B g xs) (hy : ys.length = 24) (h1 : ∀ v ∈ ys, v.oneCell' = true) : (storeCells ⟨g, 0, none⟩ ys 0).run P w = .ok () (w.setRow g ys.toArray) := by
  have := run_storeCells_from (P := P) g 100 ys 0 xs.toArray w h.heap (by simp [h.size, hy]) h1
  simpa using this
theorem MarkA.low {w w' : World} {B B' g : Nat} {xs : List Value} (h : MarkA w B g xs) (hb : Below B' w w') (hB : g < B') : MarkA w' B g xs := own_below h hb (fun k hk => by cases hk; exact hB)
theorem mkX_one (cs : List Cls) (k : Nat) : ∀ v ∈ mkX cs k, v.oneCell' = true := by
  intro v hv
  unfold mkX at hv
  obtain ⟨j, _, rfl⟩ := List.mem_map.1 hv
  rfl
theorem marks_new (w : World) (B : Nat) (hB : B ≤ w.heap.size) (cs : List Cls) (Z : Array Value) (hZ : Z.toList = List.replicate 24 (Value.bool false)) : MarkA (w.alloc (.cells Z 100)) B w.heap.size (mkX cs 0) := by
  rw [mkX_zero, ← hZ]
  exact World.ownsRow_lit w Z 24 hB (by unfold maxLen; omega) (by have := congrArg List.length hZ; simpa using this)
theorem setN_own {B g n : Nat} {T : TypeId} : ∀ (vs : List Value) (i : Nat) (w : World) (xs : List Value), w.ownsRow B T 1 (.slice (some ⟨g, 0, none⟩) n n) n xs → i + vs.length = n → (w.setCells g i vs).ownsRow B T 1 (.slice (some ⟨g, 0, none⟩) n n) n (xs.take i ++ vs)
  | [], i, w, xs, h, hi => by
    have hl : xs.length = n * 1 := h.1
    simp only [List.length_nil, Nat.add_zero] at hi
    rw [List.take_of_length_le (by omega), List.append_nil]
    exact h
  | v :: vs, i, w, xs, h, hi => by
    have hl : xs.length = n * 1 := h.1
    simp only [List.length_cons] at hi
    have q := setN_own vs (i + 1) (w.setCell ⟨g, i, none⟩ v) (xs.set i v) (own_store h i v) (by omega)
    rw [List.take_add_one, List.getElem?_set_self (by omega), List.take_set_of_le (Nat.le_refl i)] at q
    show ((w.setCell ⟨g, i, none⟩ v).setCells g (i + 1) vs).ownsRow _ _ _ _ _ _
    simpa using q
theorem setN_below {B g : Nat} {w0 : World} (hg : B ≤ g) : ∀ (vs : List Value) (i : Nat) (w : World), Below B w0 w → Below B w0 (w.setCells g i vs)
  | [], _, _, h => h
  | v :: vs, i, w, h => setN_below hg vs (i + 1) _ (h.setCell hg v)
theorem MarkA.put {w : World} {B g : Nat} {xs ys : List Value} (h : MarkA w B g xs) (hy : ys.length = 24) : MarkA (w.setCells g 0 ys) B g ys := by
  have := setN_own ys 0 w xs h (by rw [hy])
  unfold MarkA
  simpa using this
theorem MarkA.range {w : World} {B g : Nat} {xs : List Value} (h : MarkA w B g xs) : w.rangeAt g 0 xs := fun j v hv => by rw [Nat.zero_add, h.cell]; exact hv
theorem MarkA.there {w : World} {B g : Nat} {xs : List Value} (h : MarkA w B g xs) : w.there g 0 24 := fun j hj => by
  rw [Nat.zero_add, h.cell]
  exact ⟨by rw [List.getElem?_eq_getElem (by rw [h.size]; exact hj)]; rfl, World.ownsRow.frozenAt h j⟩
theorem infoB24 : (Tryz.prog.info? 100).map (·.size) = some 24 := by kernel_rfl
theorem MarkA.at {w : World} {B g : Nat} {cs : List Cls} {k : Nat} (h : MarkA w B g (mkX cs k)) (j : Nat) (hj : j < 24) : w.cell? ⟨g, j, none⟩ = some (.bool (mkP cs k j)) := (h.cell j).trans (mkX_get cs k j hj)
def MkRel (w : World) (n : Nat) (cs : List Cls) (i : Value) (wr : World) : Prop :=
  ∃ k : Nat, k ≤ n ∧ i = .int .i64 k ∧ MarkA wr w.heap.size w.heap.size (mkX cs 0) ∧ MarkA wr w.heap.size (w.heap.size + 1) (mkX cs k) ∧ Below w.heap.size w wr
set_option maxHeartbeats 3200000 in
theorem parentMarks_any (ac : Option Addr) (n cc : Nat) (cs : List Cls) (w : World) (HI : Hid (InX w ac n (clsCs cs))) (hn : Hid (cs.length = n)) (hm : n ≤ 1048576) (hi : Hid (IncC cs)) (h24 : n ≤ 24) :
    Calls Tryz.prog 89 #[(.slice ac n cc)] w (SaysV w (.agg (mkX cs n).toArray)) := by
  have HPL := Lib.hid (fun id w HI => placeOf_any ac n cc cs id w HI hn hm hi)
  go_enter Tryz.func89, Tryz.ntmps89
  go_wp2_with fail
  go_loopw [10] (fun i wr => MkRel w n cs i wr) (fun i _ => n - (intOf i).toNat)
  case atStart => exact ⟨0, Nat.zero_le _, rfl, (marks_new w w.heap.size (Nat.le_refl _) cs _ rfl).low (one_new2 _ _) (by simp), by have := marks_new (w.alloc (.cells #[.bool false, .bool false, .bool false, .bool false, .bool false, .bool false, .bool false, .bool false, .bool false, .bool false, .bool false, .bool false, .bool false, .bool false, .bool false, .bool false, .bool false, .bool false, .bool false, .bool false, .bool false, .bool false, .bool false, .bool false] 100)) w.heap.size (by simp) cs _ rfl; simpa using this, two_new _ _ _⟩
  case round =>
    obtain ⟨k, hk, rfl, hr, hmk, hb⟩ := hrel
    have HB := Lib.hid hb
    have HR := Lib.hid hr
    have HM := Lib.hid hmk
    clear hr hmk
    by_cases hlt : k < n
    · obtain ⟨g, rfl, ht, hg⟩ := HI.out (by omega)
      obtain ⟨x, hx⟩ : ∃ x, cs.getD k cls0 = x := ⟨_, rfl⟩
      have hl1 : k < cs.length := by rw [hn.out]; exact hlt
      obtain ⟨a0, a1, a2, a3, a4, a5, a6, a7⟩ := (ht.below hb hg).cls k hl1 x hx
      have HPx := Lib.hid (HPL.out x.p)
      have hg1 : w.heap.size + 1 < wr.heap.size := (World.ownsRow.lt HM.out _ rfl).2
      have BA := Lib.hid (one_new2 wr (Obj.cells #[.int .i64 x.i, .int .i64 x.p, .int .i64 x.r, .int .i64 x.e, .int .i64 x.b, .int .i64 x.u, .int .i64 x.o, .int .i64 x.l] 41))
      cases hf : fnd cs x.p with
      | none =>
        have HX := Lib.hid (mkX_none cs k hl1 x hx hf)
        rw [plc_of_none hi.out hf] at HPx
        generalize plc cs x.p = pl at HPx
        obtain ⟨xi, xp, xr, xe, xb, xu, xo, xl⟩ := x
        simp only at a0 a1 a2 a3 a4 a5 a6 a7 BA HPx
        clear hb hx hl1 ht hf
        go_wp2_with (go_at_call 41; refine (HPx.out _ (Lib.hid (HI.out.below (HB.out.trans (BA.out.mono HB.out.size))))).mono ?_; rintro e w1 ⟨rfl, b1⟩; have B1 := Lib.hid (BA.out.trans (b1.mono BA.out.size)); clear b1)
        go_roundw
        case rel => exact ⟨k + 1, by omega, by go_num, HR.out.low B1.out (by omega), by rw [HX.out]; exact HM.out.low B1.out hg1, HB.out.trans (B1.out.mono HB.out.size)⟩
        case measure => simp [intOf]; omega
      | some j =>
        have HX := Lib.hid (mkX_some cs k j hl1 x hx hf)
        have hj := (fnd_get cs x.p j hf).1
        have hjn : j < 24 := by have := hn.out; omega
        rw [(plc_of_fnd hi.out hf).1, (plc_of_fnd hi.out hf).2] at HPx
        have hmj := mkX_get cs k j hjn
        obtain ⟨q, hq⟩ : ∃ q, mkP cs k j = q := ⟨_, rfl⟩
        rw [hq] at hmj
        have HMJ := Lib.hid hmj
        obtain ⟨xi, xp, xr, xe, xb, xu, xo, xl⟩ := x
        simp only at a0 a1 a2 a3 a4 a5 a6 a7 BA HPx
        clear hb hx hl1 ht hf hmj hq hj
        go_wp2_with (go_at_call 41; refine (HPx.out _ (Lib.hid (HI.out.below (HB.out.trans (BA.out.mono HB.out.size))))).mono ?_; rintro e w1 ⟨rfl, b1⟩; have B1 := Lib.hid (BA.out.trans (b1.mono BA.out.size)); have M1 := Lib.hid (HM.out.low B1.out hg1); have c1 := (M1.out.cell j).trans HMJ.out; have f1 := World.ownsRow.frozenAt M1.out j; clear b1)
        go_roundw
        case rel => exact ⟨k + 1, by omega, by go_num, own_below (HR.out.low B1.out (by omega)) (show Below (w.heap.size + 1) w1 (w1.setCell ⟨w.heap.size + 1, j, none⟩ (.bool true)) from Below.setCell (Below.refl (w.heap.size + 1) w1) (Nat.le_refl (w.heap.size + 1)) _) (fun b hb => by cases hb; exact Nat.lt_succ_self _), by rw [HX.out]; exact own_store M1.out j _, (HB.out.trans (B1.out.mono HB.out.size)).setCell (Nat.le_succ _) _⟩
        case measure => simp [intOf]; omega
    · have hkn : k = n := by omega
      subst hkn
      have HRM := Lib.hid HM.out.range
      have HTH := Lib.hid HR.out.there
      have HI1 : Hid ((Tryz.prog.info? 100).map (·.size) = some (mkX cs k).length) := Lib.hid (by rw [mkX_length]; exact infoB24)
      have HI2 : Hid ((Tryz.prog.info? 100).map (·.size) = some (mkX cs k).toArray.size) := Lib.hid (by rw [List.size_toArray, mkX_length]; exact infoB24)
      have HTH2 : Hid (wr.there w.heap.size 0 (mkX cs k).toArray.size) := Lib.hid (by rw [mkX_asize]; exact HTH.out)
      have HP := Lib.hid (HR.out.put (mkX_length cs k))
      have HPB := Lib.hid (setN_below (Nat.le_refl _) (mkX cs k) 0 wr HB.out)
      have H1 := Lib.hid (mkX_one cs k)
      clear hb
      go_upto_region 9 with fail
      go_wp2_with (first | (refine wpList_load_mid rfl 100 _ rfl (w.heap.size + 1) 0 rfl (mkX cs k) _ HRM.out Tryz.underlying100 rfl HI1.out ?_) | (refine wpList_store_mid rfl 100 _ _ rfl w.heap.size 0 (mkX cs k).toArray rfl rfl HTH2.out HI2.out (all_oneCell_toArray H1.out) ?_))
      exact bodyPost_ret (v := .agg (mkX cs k).toArray) (results_cell_row (p := 2) (ty := 100) rfl _ _ w.heap.size 100 _ _ _ rfl HP.out.heap Tryz.underlying100 rfl HI2.out) rfl ⟨rfl, HPB.out⟩
end Go.Proofs.YthgbhnedfdnfpaaGreatDoor

/- The program's limits, targets and names. -/
namespace Go.Proofs.YthgbhnedfdnfpaaGreatDoor
set_option maxRecDepth 100000
open Go.RowKit
set_option linter.unusedVariables false

theorem marks_store (w : World) (cs : List Cls) (k : Nat) : (storeCells ⟨w.heap.size, 0, none⟩ (mkX cs k) 0).run Tryz.prog (w.alloc (.cells #[.bool false, .bool false, .bool false, .bool false, .bool false, .bool false, .bool false, .bool false, .bool false, .bool false, .bool false, .bool false, .bool false, .bool false, .bool false, .bool false, .bool false, .bool false, .bool false, .bool false, .bool false, .bool false, .bool false, .bool false] 100)) = .ok () (w.alloc (.cells (mkX cs k).toArray 100)) := by
  have := run_storeCells_new (P := Tryz.prog) w 100 #[.bool false, .bool false, .bool false, .bool false, .bool false, .bool false, .bool false, .bool false, .bool false, .bool false, .bool false, .bool false, .bool false, .bool false, .bool false, .bool false, .bool false, .bool false, .bool false, .bool false, .bool false, .bool false, .bool false, .bool false] (mkX cs k).toArray (by rw [mkX_asize]; exact infoB24) (by rw [mkX_asize]; rfl) (all_oneCell_toArray (mkX_one cs k))
  simpa using this
theorem marks_lit (w : World) (B : Nat) (hB : B ≤ w.heap.size) (cs : List Cls) (k : Nat) : MarkA (w.alloc (.cells (mkX cs k).toArray 100)) B w.heap.size (mkX cs k) := by
  unfold MarkA
  have := World.ownsRow_lit (base := B) (e := 100) (size := 1) w (mkX cs k).toArray 24 hB (by unfold maxLen; omega) (by rw [mkX_asize])
  simpa using this
theorem limOk_kid {cs : List Cls} {x : Cls} (h : hasK cs x.i = true) : limOk cs x = (x.l == 0) := by unfold limOk; rw [h]; rfl
theorem limOk_leaf {cs : List Cls} {x : Cls} (h : hasK cs x.i = false) : limOk cs x = inB x.l 1 60 := by unfold limOk; rw [h]; rfl
def LmRel (w : World) (M n : Nat) (cs : List Cls) (B : Bool) (i : Value) (wr : World) : Prop :=
  ∃ k : Nat, k ≤ n ∧ i = .int .i64 k ∧ MarkA wr w.heap.size M (mkX cs n) ∧ Below w.heap.size w wr ∧ Hid (fromK (fun k => limOk cs (cs.getD k cls0)) n k = B)
set_option maxHeartbeats 3200000 in
theorem limitsFit_any (ac : Option Addr) (n cc : Nat) (cs : List Cls) (w : World) (HI : Hid (InX w ac n (clsCs cs))) (hn : Hid (cs.length = n)) (hm : n ≤ 1048576) (hi : Hid (IncC cs)) (h24 : n ≤ 24) :
    Calls Tryz.prog 60 #[(.slice ac n cc)] w (SaysB w (lfG cs)) := by
  obtain ⟨B, hB⟩ : ∃ B, lfG cs = B := ⟨_, rfl⟩
  have H0 : Hid (fromK (fun k => limOk cs (cs.getD k cls0)) n 0 = B) := Lib.hid (by rw [← hB]; unfold lfG; rw [hn.out])
  have HMK := Lib.hid (fun w HI => parentMarks_any ac n cc cs w HI hn hm hi h24)
  rw [hB]
  clear hB
  go_enter Tryz.func60, Tryz.ntmps60
  go_wp2_with (go_at_call 89; refine (HMK.out _ HI).mono ?_; rintro e w1 ⟨rfl, b1⟩; have B1 := Lib.hid b1; have hst := marks_store w1 cs n; clear b1)
  go_loopw [10] (fun i wr => LmRel w w1.heap.size n cs B i wr) (fun i _ => n - (intOf i).toNat)
  case atStart => exact ⟨0, Nat.zero_le _, rfl, marks_lit w1 _ B1.out.size cs n, B1.out.alloc B1.out.size _, H0⟩
  case round =>
    obtain ⟨k, hk, rfl, hmk, hb, HP⟩ := hrel
    have HB := Lib.hid hb
    have HM := Lib.hid hmk
    have hgm : w1.heap.size < wr.heap.size := (World.ownsRow.lt hmk _ rfl).2
    clear hmk
    by_cases hlt : k < n
    · obtain ⟨g, rfl, ht, hg⟩ := HI.out (by omega)
      obtain ⟨x, hx⟩ : ∃ x, cs.getD k cls0 = x := ⟨_, rfl⟩
      have hl1 : k < cs.length := by rw [hn.out]; exact hlt
      obtain ⟨a0, a1, a2, a3, a4, a5, a6, a7⟩ := (ht.below hb hg).cls k hl1 x hx
      have HE := Lib.hid (fromK_at (fun k => limOk cs (cs.getD k cls0)) n k hlt)
      have HEx : Hid (limOk cs (cs.getD k cls0) = limOk cs x) := Lib.hid (by rw [hx])
      have hmk := HM.out.at k (by omega)
      rw [mkP_all hi.out n k hn.out hlt, hx] at hmk
      have hk24 : (k : Int) < 24 := by omega
      have BA := Lib.hid (one_new2 wr (Obj.cells #[.int .i64 x.i, .int .i64 x.p, .int .i64 x.r, .int .i64 x.e, .int .i64 x.b, .int .i64 x.u, .int .i64 x.o, .int .i64 x.l] 41))
      rcases Bool.eq_false_or_eq_true (hasK cs x.i) with hh | hh
      · have HLM := Lib.hid (limOk_kid hh)
        rw [hh] at hmk
        have hma := fun o => ((bcell (one_new2 wr o)).1 _ k hgm).trans hmk
        by_cases hz : x.l = 0
        · have HX := Lib.hid (show fromK (fun k => limOk cs (cs.getD k cls0)) n (k + 1) = B by rw [← HP.out, HE.out, HEx.out, HLM.out, hz]; rfl)
          have dz : (x.l == 0) = true := by simpa using hz
          have dzn : (x.l != 0) = false := by simp [hz]
          obtain ⟨xi, xp, xr, xe, xb, xu, xo, xl⟩ := x
          simp only at a0 a1 a2 a3 a4 a5 a6 a7 BA dz dzn
          clear hb hx hl1 ht hh hz hmk
          go_wp2_with fail
          go_roundw
          case rel => exact ⟨k + 1, by omega, by go_num, HM.out.low BA.out hgm, HB.out.trans (BA.out.mono HB.out.size), HX⟩
          case measure => simp [intOf]; omega
        · have HX : Hid (B = false) := Lib.hid (by rw [← HP.out, HE.out, HEx.out, HLM.out, beq_eq_false_iff_ne.2 hz]; rfl)
          have dz : (x.l == 0) = false := by simpa using hz
          have dzn : (x.l != 0) = true := by simp [hz]
          obtain ⟨xi, xp, xr, xe, xb, xu, xo, xl⟩ := x
          simp only at a0 a1 a2 a3 a4 a5 a6 a7 BA dz dzn
          clear hb hx hl1 ht hh hz hmk
          go_wp2_with fail
          go_ret
          exact ⟨ret_bool HX.out.symm, HB.out.trans (BA.out.mono HB.out.size)⟩
      · have HLM := Lib.hid (limOk_leaf hh)
        rw [hh] at hmk
        have hma := fun o => ((bcell (one_new2 wr o)).1 _ k hgm).trans hmk
        have HN := Lib.hid (fun w => isIn_any x.l 1 60 w)
        rcases Bool.eq_false_or_eq_true (inB x.l 1 60) with hz | hz
        · have HX := Lib.hid (show fromK (fun k => limOk cs (cs.getD k cls0)) n (k + 1) = B by rw [← HP.out, HE.out, HEx.out, HLM.out, hz, Bool.true_and])
          rw [hz] at HN
          obtain ⟨xi, xp, xr, xe, xb, xu, xo, xl⟩ := x
          simp only at a0 a1 a2 a3 a4 a5 a6 a7 BA HN
          clear hb hx hl1 ht hh hz hmk
          go_wp2_with (go_at_call 35; refine (HN.out _).mono ?_; rintro e w' ⟨rfl, rfl⟩)
          go_roundw
          case rel => exact ⟨k + 1, by omega, by go_num, HM.out.low BA.out hgm, HB.out.trans (BA.out.mono HB.out.size), HX⟩
          case measure => simp [intOf]; omega
        · have HX : Hid (B = false) := Lib.hid (by rw [← HP.out, HE.out, HEx.out, HLM.out, hz, Bool.false_and])
          rw [hz] at HN
          obtain ⟨xi, xp, xr, xe, xb, xu, xo, xl⟩ := x
          simp only at a0 a1 a2 a3 a4 a5 a6 a7 BA HN
          clear hb hx hl1 ht hh hz hmk
          go_wp2_with (go_at_call 35; refine (HN.out _).mono ?_; rintro e w' ⟨rfl, rfl⟩)
          go_ret
          exact ⟨ret_bool HX.out.symm, HB.out.trans (BA.out.mono HB.out.size)⟩
    · have HX : Hid (true = B) := Lib.hid (by rw [← HP.out, fromK_end _ n k (by omega)])
      clear hb
      go_wp2_with fail
      go_ret
      exact ⟨ret_bool HX.out, HB.out⟩
set_option maxHeartbeats 3200000 in
theorem isLeaf_any (s : ByteArray) (ac : Option Addr) (vf : Value) (n cc : Nat) (d : Int) (cs : List Cls) (c0 B M : Nat) (id : Int) (w : World) (HI : Hid (InX w ac n (clsCs cs))) (hn : Hid (cs.length = n)) (hm : n ≤ 1048576) (hi : Hid (IncC cs)) (h24 : n ≤ 24) (HF : Hid (FourIs w c0 (.string s) (.slice ac n cc) vf (.int .i64 d))) (HM : Hid (MarkA w B M (mkX cs n))) :
    Calls Tryz.prog 91 #[.int .i64 id, .pointer (some ⟨c0, 0, none⟩), .pointer (some ⟨M, 0, none⟩)] w (SaysB w (leafB cs id)) := by
  obtain ⟨e0, e1, e2, e3, hgc⟩ := HF.out
  have HPL := Lib.hid (fun w HI => placeOf_any ac n cc cs id w HI hn hm hi)
  have hgm : M < w.heap.size := (World.ownsRow.lt HM.out _ rfl).2
  cases hf : fnd cs id with
  | none =>
    have HX : Hid (leafB cs id = false) := Lib.hid (by unfold leafB; rw [hf]; rfl)
    rw [plc_of_none hi.out hf] at HPL
    generalize plc cs id = pl at HPL
    clear hf
    go_enter Tryz.func91, Tryz.ntmps91
    go_wp2_with (go_at_call 41; refine (HPL.out _ HI).mono ?_; rintro e w1 ⟨rfl, b1⟩; have B1 := Lib.hid b1; clear b1)
    go_ret
    exact ⟨ret_bool HX.out.symm, B1.out⟩
  | some j =>
    have hj := fnd_get cs id j hf
    have hjn : j < n := by rw [← hn.out]; exact hj.1
    have hj24 : (j : Int) < 24 := by omega
    obtain ⟨b, hb⟩ : ∃ b, hasK cs id = b := ⟨_, rfl⟩
    have HX : Hid (leafB cs id = !b) := Lib.hid (by unfold leafB; rw [hf, hb]; rfl)
    have hmk := HM.out.at j (by omega)
    rw [mkP_all hi.out n j hn.out hjn, hj.2, hb] at hmk
    have HMK := Lib.hid hmk
    rw [(plc_of_fnd hi.out hf).1, (plc_of_fnd hi.out hf).2] at HPL
    clear hf hj hb hmk
    go_enter Tryz.func91, Tryz.ntmps91
    go_wp2_with (go_at_call 41; refine (HPL.out _ HI).mono ?_; rintro e w1 ⟨rfl, b1⟩; have B1 := Lib.hid b1; have m1 := ((bcell b1).1 M j hgm).trans HMK.out; clear b1)
    go_ret
    exact ⟨ret_bool HX.out.symm, B1.out⟩
end Go.Proofs.YthgbhnedfdnfpaaGreatDoor
