/- Curves: texts: contracts of both sides (written by tools/gen_cvo.py). -/
import Derived.Test.YteogadbjnmcblaaDoorCvb
import Derived.Test.YteogadbjnmcblaaDoorNt2
import Derived.Test.YteogadbjnmcblaaDoorShelf
import Derived.Deep.RegionHeld3
namespace Go.Proofs.YteogadbjnmcblaaDoor
set_option maxRecDepth 100000
open Go.RowKit
set_option linter.unusedVariables false

theorem headS_size (n : Nat) : (headS n).size ≤ n + 2 := by
  have m1 := numS_size (n / 1000000)
  have m2 := numS_size (n / 1000)
  have m3 := numS_size n
  have q1 : (mF n).size ≤ n + 2 := by unfold mF; rw [ByteArray.size_append, size_lit]; omega
  have q2 : (kF n).size ≤ n + 2 := by unfold kF; rw [ByteArray.size_append, size_lit]; omega
  unfold headS formsL preL
  cases isM n
  · cases isK n
    · show (numS n).size ≤ _; omega
    · exact q2
  · cases isK n <;> exact q1
/-- the text of a curve -/
def txN (f l s : Nat) : ByteArray := headS f ++ ⟨#[47]⟩ ++ headS l ++ ⟨#[47]⟩ ++ headS s
theorem join3 (a b c : ByteArray) : (⟨(Lib.join ([a, b, c].map (·.data.toList)) (⟨#[47]⟩ : ByteArray).data.toList).toArray⟩ : ByteArray) = a ++ ⟨#[47]⟩ ++ b ++ ⟨#[47]⟩ ++ c := by
  apply ByteArray.ext
  simp [ByteArray.data_append, Lib.join, List.intercalate, List.intersperse]
structure CvN (c : Cv) (f l s : Nat) : Prop where
  ef : c.f = f
  el : c.l = l
  es : c.s = s
  rf : f ≤ 100000
  rl : l ≤ 10000
  rs : s ≤ 100000
theorem cvn {c : Cv} (h : CvOk c) : CvN c c.f.toNat c.l.toNat c.s.toNat := by
  have := h.f0; have := h.f1; have := h.l0; have := h.l1; have := h.s0; have := h.s1
  exact ⟨by omega, by omega, by omega, by omega, by omega, by omega⟩
set_option maxHeartbeats 6400000 in
theorem cuText_any (nf nl ns : Nat) (hf : nf ≤ 100000) (hl : nl ≤ 10000) (hs : ns ≤ 100000) (w : World) : Calls Tryd.prog 12 #[.agg #[.int .i64 (nf : Int), .int .i64 (nl : Int), .int .i64 (ns : Int)]] w (SaysV w (.string (txN nf nl ns))) := by
  have HF := Lib.hid (fun w => nuText_any nf (by omega) w)
  have HL := Lib.hid (fun w => nuText_any nl (by omega) w)
  have HS := Lib.hid (fun w => nuText_any ns (by omega) w)
  have z1 := headS_size nf
  have z2 := headS_size nl
  have z3 := headS_size ns
  have HX : Hid (txN nf nl ns = headS nf ++ ⟨#[47]⟩ ++ headS nl ++ ⟨#[47]⟩ ++ headS ns) := Lib.hid rfl
  generalize txN nf nl ns = R at HX ⊢
  generalize headS nf = sf at HF HX z1
  generalize headS nl = sl at HL HX z2
  generalize headS ns = ss at HS HX z3
  have y1 : sf.size ≤ 200000 := by omega
  have y2 : sl.size ≤ 200000 := by omega
  have y3 : ss.size ≤ 200000 := by omega
  have k1 : ¬ (9223372036854775807 < sf.size + (⟨#[47]⟩ : ByteArray).size) := by rw [size_lit]; omega
  have k2 : ¬ (9223372036854775807 < (sf ++ ⟨#[47]⟩).size + sl.size) := by rw [ByteArray.size_append, size_lit]; omega
  have k3 : ¬ (9223372036854775807 < (sf ++ ⟨#[47]⟩ ++ sl).size + (⟨#[47]⟩ : ByteArray).size) := by rw [ByteArray.size_append, ByteArray.size_append, size_lit]; omega
  have k4 : ¬ (9223372036854775807 < (sf ++ ⟨#[47]⟩ ++ sl ++ ⟨#[47]⟩).size + ss.size) := by rw [ByteArray.size_append, ByteArray.size_append, ByteArray.size_append, size_lit]; omega
  have k1b : ¬ (9223372036854775807 < sf.size + 1) := by omega
  have k2b : ¬ (9223372036854775807 < sf.size + 1 + sl.size) := by omega
  have k3b : ¬ (9223372036854775807 < sf.size + 1 + sl.size + 1) := by omega
  have k4b : ¬ (9223372036854775807 < sf.size + 1 + sl.size + 1 + ss.size) := by omega
  have HQ : Hid (∀ w', BX (w.alloc (Obj.cells #[.int .i64 (nf : Int), .int .i64 (nl : Int), .int .i64 (ns : Int)] 26)) w' → w'.cell? ⟨w.heap.size, 0, none⟩ = some (.int .i64 (nf : Int)) ∧ w'.cell? ⟨w.heap.size, 1, none⟩ = some (.int .i64 (nl : Int)) ∧ w'.cell? ⟨w.heap.size, 2, none⟩ = some (.int .i64 (ns : Int)) ∧ BX (w.alloc (Obj.cells #[.int .i64 (nf : Int), .int .i64 (nl : Int), .int .i64 (ns : Int)] 26)) w') := Lib.hid (fun w' h => by
    obtain ⟨a0, a1, a2, _⟩ := (three_is w (.int .i64 (nf : Int)) (.int .i64 (nl : Int)) (.int .i64 (ns : Int)) 26).on h
    exact ⟨a0, a1, a2, h⟩)
  have HE : Hid (∀ w', BX (w.alloc (Obj.cells #[.int .i64 (nf : Int), .int .i64 (nl : Int), .int .i64 (ns : Int)] 26)) w' → Below w.heap.size w w') := Lib.hid (fun w' h => (one_new2 w _).trans (Below.mono h (by simp)))
  clear z1 z2 z3 hf hl hs
  go_enter Tryd.func12, Tryd.ntmps12
  go_wp2_with fail
  go_region_held3 (fun w' => w'.cell? ⟨w.heap.size, 0, none⟩ = some (.int .i64 (nf : Int)) ∧ w'.cell? ⟨w.heap.size, 1, none⟩ = some (.int .i64 (nl : Int)) ∧ w'.cell? ⟨w.heap.size, 2, none⟩ = some (.int .i64 (ns : Int)) ∧ BX (w.alloc (Obj.cells #[.int .i64 (nf : Int), .int .i64 (nl : Int), .int .i64 (ns : Int)] 26)) w')
    (first | (go_split_ands; refine HQ.out _ ?_; repeat' (with_reducible first | exact BX.drew0 _ | exact BX.refl _ | assumption | refine BX.call' (by assumption) ?_ | refine BX.drew ?_)))
    (first | (go_at_call 20; (first | (with_reducible refine (HF.out _).mono ?_) | (with_reducible refine (HL.out _).mono ?_) | (with_reducible refine (HS.out _).mono ?_)); rintro e w3 ⟨rfl, b3⟩))
  all_goals
    go_split_ands
    go_wp2_with fail
    go_ret
    exact ⟨congrArg (fun s => Ending.returned (.string s)) HX.out.symm, HE.out _ (by assumption)⟩
theorem txi0 (p q r : Int) (w : World) : (Instr.index 36 (.agg #[.int .i64 p, .int .i64 q, .int .i64 r]) (.int .i64 0)).run Tryd.prog w = .ok (.int .i64 p) w := by kernel_rfl
theorem txi1 (p q r : Int) (w : World) : (Instr.index 36 (.agg #[.int .i64 p, .int .i64 q, .int .i64 r]) (.int .i64 1)).run Tryd.prog w = .ok (.int .i64 q) w := by kernel_rfl
theorem txi2 (p q r : Int) (w : World) : (Instr.index 36 (.agg #[.int .i64 p, .int .i64 q, .int .i64 r]) (.int .i64 2)).run Tryd.prog w = .ok (.int .i64 r) w := by kernel_rfl
theorem implCurveText_no (c : Cv) (w : World) (h : goodV c = false) : Calls Tryd.prog 7 #[cvV c] w (SaysStrB w ⟨#[]⟩ false) := by
  have HG := Lib.hid (fun w => implIsCurve_any c w)
  rw [h] at HG
  clear h
  obtain ⟨xf, xl, xs⟩ := c
  unfold cvV at HG ⊢
  simp only at HG ⊢
  go_enter Tryd.func7, Tryd.ntmps7
  go_wp2_with (go_at_call 13; refine (HG.out _).mono ?_; rintro e w1 ⟨rfl, b1⟩; have B1 := Lib.hid (box_three b1).2; clear b1)
  go_ret2
  exact ⟨rfl, B1.out⟩
set_option maxHeartbeats 12800000 in
theorem implCurveText_yes (nf nl ns : Nat) (hf : nf ≤ 100000) (hl : nl ≤ 10000) (hs : ns ≤ 100000) (w : World) (hU : Hid (Units w)) (hP : Hid (Pow w)) : Calls Tryd.prog 7 #[.agg #[.int .i64 (nf : Int), .int .i64 (nl : Int), .int .i64 (ns : Int)]] w (SaysStrB w (txN nf nl ns) true) := by
  have HG : Hid (∀ w, Calls Tryd.prog 13 #[.agg #[.int .i64 (nf : Int), .int .i64 (nl : Int), .int .i64 (ns : Int)]] w (SaysB w true)) := Lib.hid (fun w => by
    have := implIsCurve_any ⟨nf, nl, ns⟩ w
    rw [show goodV ⟨nf, nl, ns⟩ = true by unfold goodV inB; simp; omega] at this
    exact this)
  have HF := Lib.hid (fun w h h' => implNumberText_any nf (by omega) w h h')
  have HL := Lib.hid (fun w h h' => implNumberText_any nl (by omega) w h h')
  have HS := Lib.hid (fun w h h' => implNumberText_any ns (by omega) w h h')
  have z1 := headS_size nf
  have z2 := headS_size nl
  have z3 := headS_size ns
  have HX : Hid (txN nf nl ns = headS nf ++ ⟨#[47]⟩ ++ headS nl ++ ⟨#[47]⟩ ++ headS ns) := Lib.hid rfl
  generalize txN nf nl ns = R at HX ⊢
  generalize headS nf = sf at HF HX z1
  generalize headS nl = sl at HL HX z2
  generalize headS ns = ss at HS HX z3
  have HJ := Lib.hid (join3 sf sl ss)
  have HJL : Hid ((Lib.join ([sf, sl, ss].map (·.data.toList)) (⟨#[47]⟩ : ByteArray).data.toList).length ≤ 140737488355328) := Lib.hid (by
    have e := congrArg ByteArray.size HJ.out
    rw [ByteArray.size_append, ByteArray.size_append, ByteArray.size_append, ByteArray.size_append, size_lit] at e
    have e2 : (⟨(Lib.join ([sf, sl, ss].map (·.data.toList)) (⟨#[47]⟩ : ByteArray).data.toList).toArray⟩ : ByteArray).size = (Lib.join ([sf, sl, ss].map (·.data.toList)) (⟨#[47]⟩ : ByteArray).data.toList).length := List.size_toArray
    omega)
  have HB3 := Lib.hid (fun w' (h : BX (w.alloc (Obj.cells #[.int .i64 (nf : Int), .int .i64 (nl : Int), .int .i64 (ns : Int)] 26)) w') => ((three_is w (.int .i64 (nf : Int)) (.int .i64 (nl : Int)) (.int .i64 (ns : Int)) 26).on h))
  have HE : Hid (∀ w', BX (w.alloc (Obj.cells #[.int .i64 (nf : Int), .int .i64 (nl : Int), .int .i64 (ns : Int)] 26)) w' → Below w.heap.size w w') := Lib.hid (fun w' h => (one_new2 w _).trans (Below.mono h (by simp)))
  have HUB : Hid (∀ w', BX (w.alloc (Obj.cells #[.int .i64 (nf : Int), .int .i64 (nl : Int), .int .i64 (ns : Int)] 26)) w' → Hid (Units w')) := Lib.hid (fun w' h => Lib.hid (hU.out.below (HE.out w' h)))
  have HPB : Hid (∀ w', BX (w.alloc (Obj.cells #[.int .i64 (nf : Int), .int .i64 (nl : Int), .int .i64 (ns : Int)] 26)) w' → Hid (Pow w')) := Lib.hid (fun w' h => Lib.hid (hP.out.below (HE.out w' h)))
  have X0 := Lib.hid (BX.refl (w.alloc (Obj.cells #[.int .i64 (nf : Int), .int .i64 (nl : Int), .int .i64 (ns : Int)] 26)))
  have i0 := txi0 (nf : Int) (nl : Int) (ns : Int)
  have i1 := txi1 (nf : Int) (nl : Int) (ns : Int)
  have i2 := txi2 (nf : Int) (nl : Int) (ns : Int)
  have hlt1 : w.heap.size + 1 = (w.alloc (Obj.cells #[.int .i64 (nf : Int), .int .i64 (nl : Int), .int .i64 (ns : Int)] 26)).heap.size := by simp
  clear z1 z2 z3 hf hl hs
  go_enter Tryd.func7, Tryd.ntmps7
  go_wp2_with (go_at_call 13; refine (HG.out _).mono ?_; rintro e w1 ⟨rfl, b⟩; have X1 := Lib.hid (X0.out.call b); clear b; refine Hid.out ?_)
  refine Lib.hid ?_
  have XA := Lib.hid (X1.out.alloc (Obj.cells #[.string ⟨#[]⟩, .string ⟨#[]⟩, .string ⟨#[]⟩] 35))
  have OA := Lib.hid (World.ownsRow_lit (base := w1.heap.size) (e := 35) (size := 1) w1 #[.string ⟨#[]⟩, .string ⟨#[]⟩, .string ⟨#[]⟩] 3 (Nat.le_refl _) (by unfold maxLen; omega) rfl)
  have hgX : (w.alloc (Obj.cells #[.int .i64 (nf : Int), .int .i64 (nl : Int), .int .i64 (ns : Int)] 26)).heap.size ≤ w1.heap.size := X1.out.size
  obtain ⟨c0, c1, c2, cl⟩ := HB3.out _ XA.out
  go_wp2_with fail
  refine wp_loop_rounds 4 ?_
  rw [rounds_succ]
  go_wp2_with (go_at_call 14; refine (HF.out _ (HUB.out _ XA.out) (HPB.out _ XA.out)).mono ?_; rintro e w2 ⟨rfl, b⟩; have X2 := Lib.hid (XA.out.call b); have O2 := Lib.hid (own_low OA.out b (Nat.le_refl _)); obtain ⟨u2, k2⟩ := own_cell O2.out 0 (by decide); have f2 := World.ownsRow.frozenAt O2.out 0; clear b; refine Hid.out ?_)
  refine Lib.hid ?_
  have Y2 := Lib.hid (X2.out.set (b := w1.heap.size) (o := 0) hgX (.string sf))
  have P2 := Lib.hid (own_store O2.out 0 (.string sf))
  go_wp2_with fail
  rw [rounds_succ]
  go_wp2_with (go_at_call 14; refine (HL.out _ (HUB.out _ Y2.out) (HPB.out _ Y2.out)).mono ?_; rintro e w3 ⟨rfl, b⟩; have X3 := Lib.hid (Y2.out.call b); have O3 := Lib.hid (own_low P2.out b (Nat.le_refl _)); obtain ⟨u3, k3⟩ := own_cell O3.out 1 (by decide); have f3 := World.ownsRow.frozenAt O3.out 1; clear b; refine Hid.out ?_)
  refine Lib.hid ?_
  have Y3 := Lib.hid (X3.out.set (b := w1.heap.size) (o := 1) hgX (.string sl))
  have P3 := Lib.hid (own_store O3.out 1 (.string sl))
  go_wp2_with fail
  rw [rounds_succ]
  go_wp2_with (go_at_call 14; refine (HS.out _ (HUB.out _ Y3.out) (HPB.out _ Y3.out)).mono ?_; rintro e w4 ⟨rfl, b⟩; have X4 := Lib.hid (Y3.out.call b); have O4 := Lib.hid (own_low P3.out b (Nat.le_refl _)); obtain ⟨u4, k4⟩ := own_cell O4.out 2 (by decide); have f4 := World.ownsRow.frozenAt O4.out 2; clear b; refine Hid.out ?_)
  refine Lib.hid ?_
  have Y4 := Lib.hid (X4.out.set (b := w1.heap.size) (o := 2) hgX (.string ss))
  have P4 := Lib.hid (own_store O4.out 2 (.string ss))
  have HCS : Hid (∀ (j : Nat) x, [sf, sl, ss][j]? = some x → (w4.setCell ⟨w1.heap.size, 2, none⟩ (.string ss)).cell? ⟨w1.heap.size, 0 + j, none⟩ = some (.string x)) := Lib.hid (fun j x hj => by
    have hj3 : j < 3 := (List.getElem?_eq_some_iff.1 hj).1
    rw [Nat.zero_add, World.ownsRow.cellAt P4.out j (by omega)]
    match j, hj3 with
    | 0, _ => simp at hj; subst hj; simp
    | 1, _ => simp at hj; subst hj; simp
    | 2, _ => simp at hj; subst hj; simp)
  have hgl := (World.ownsRow.lt P4.out _ rfl).2
  go_wp2_with fail
  rw [rounds_succ]
  go_wp2_with (go_at_call 15; refine (Tryd.strings_Join w1.heap.size 0 3 [sf, sl, ss] ⟨#[47]⟩ _ HCS.out hgl (by simp) (by simp) HJL.out).mono ?_; rw [HJ.out]; rintro e w5 ⟨rfl, b⟩; have X5 := Lib.hid (Y4.out.call b); clear b)
  go_ret2
  exact ⟨congrArg (fun s => Ending.returned (.tuple #[.string s, .bool true])) HX.out.symm, HE.out _ X5.out⟩
def resCurveText (c : Cv) : ByteArray := if goodV c then txN c.f.toNat c.l.toNat c.s.toNat else ⟨#[]⟩
theorem ct_no {c : Cv} (h : goodV c = false) : resCurveText c = ⟨#[]⟩ := by unfold resCurveText; rw [h]; rfl
theorem ct_yes {c : Cv} (h : goodV c = true) : resCurveText c = txN c.f.toNat c.l.toNat c.s.toNat := by unfold resCurveText; rw [h]; rfl
theorem cv_of {c : Cv} {f l s : Nat} (h : CvN c f l s) : cvV c = .agg #[.int .i64 (f : Int), .int .i64 (l : Int), .int .i64 (s : Int)] := by unfold cvV; rw [h.ef, h.el, h.es]
theorem specCurveText_any (c : Cv) (w : World) : Calls Tryd.prog 5 #[cvV c] w (SaysStrB w (resCurveText c) (goodV c)) := by
  have HG := Lib.hid (fun w => cuGood_any c w)
  cases hg : goodV c
  · rw [ct_no hg]
    rw [hg] at HG
    clear hg
    obtain ⟨xf, xl, xs⟩ := c
    unfold cvV at HG ⊢
    simp only at HG ⊢
    go_enter Tryd.func5, Tryd.ntmps5
    go_wp2_with (go_at_call 11; refine (HG.out _).mono ?_; rintro e w1 ⟨rfl, b1⟩; have B1 := Lib.hid (box_three b1).2; clear b1)
    go_ret2
    exact ⟨rfl, B1.out⟩
  · rw [ct_yes hg]
    rw [hg] at HG
    have N := cvn (cvok hg)
    have HT := Lib.hid (fun w => cuText_any c.f.toNat c.l.toNat c.s.toNat N.rf N.rl N.rs w)
    rw [cv_of N] at HG ⊢
    generalize c.f.toNat = nf at HT HG ⊢
    generalize c.l.toNat = nl at HT HG ⊢
    generalize c.s.toNat = ns at HT HG ⊢
    generalize txN nf nl ns = R at HT ⊢
    clear hg N
    go_enter Tryd.func5, Tryd.ntmps5
    go_wp2_with (go_at_call 11; refine (HG.out _).mono ?_; rintro e w1 ⟨rfl, b1⟩; have B1 := Lib.hid (box_three b1).2; obtain ⟨c0, c1, c2, cl⟩ := (box_three b1).1; clear b1)
    go_wp2_with (go_at_call 12; refine (HT.out _).mono ?_; rintro e w2 ⟨rfl, b2⟩; have B2 := Lib.hid (B1.out.trans (b2.mono B1.out.size)); clear b2)
    go_ret2
    exact ⟨rfl, B2.out⟩
theorem implCurveText_any (c : Cv) (w : World) (hU : Hid (Units w)) (hP : Hid (Pow w)) : Calls Tryd.prog 7 #[cvV c] w (SaysStrB w (resCurveText c) (goodV c)) := by
  cases hg : goodV c
  · rw [ct_no hg]
    exact implCurveText_no c w hg
  · rw [ct_yes hg]
    have N := cvn (cvok hg)
    rw [cv_of N]
    exact implCurveText_yes _ _ _ N.rf N.rl N.rs w hU hP
end Go.Proofs.YteogadbjnmcblaaDoor
