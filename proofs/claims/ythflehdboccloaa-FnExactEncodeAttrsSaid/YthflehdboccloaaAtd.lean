/- Attributes moved, dropped and wrapped: lists made of others; contracts of both sides. -/
import Derived.Test.YthflehdboccloaaAtc
import Derived.Test.YthflehdboccloaaApk
import Derived.Deep.AppendLies
import Derived.Deep.RegionHeld3
import Derived.Laws.AppendOwnNone
namespace Go.Proofs.Ythflehdboccloaa
open Go.RowKit
set_option linter.unusedVariables false
set_option maxRecDepth 100000

def mvA (by_ : Int) (l : List At) : List At := l.map (fun a => ⟨a.d + by_, a.t, a.n, a.s⟩)
theorem mvA_length (b : Int) (l : List At) : (mvA b l).length = l.length := by simp [mvA]
theorem mvA_zero (l : List At) : mvA 0 l = l := by
  unfold mvA
  conv => rhs; rw [← List.map_id l]
  congr 1
  funext a
  simp
theorem gA_take {l : List At} {k i : Nat} (h : k < i) : gA (l.take i) k = gA l k := by unfold gA; simp [h]
theorem take_at {l : List At} {k : Nat} (h : k < l.length) : l.take (k + 1) = l.take k ++ [gA l k] := by
  rw [List.take_succ_eq_append_getElem h, gA_eq h]
theorem mvA_take {l : List At} {k : Nat} (b : Int) (h : k < l.length) : mvA b (l.take (k + 1)) = mvA b (l.take k) ++ [⟨(gA l k).d + b, (gA l k).t, (gA l k).n, (gA l k).s⟩] := by
  rw [take_at h]; simp [mvA]
theorem four_cells (w : World) (x : At) (t : TypeId) : ∀ j u, (atC x)[j]? = some u → (w.alloc (.cells #[.int .i64 x.d, .int .i64 x.t, .bool x.n, .string x.s] t)).cell? ((⟨w.heap.size, 0, none⟩ : Addr).add j) = some u := by
  intro j u hj
  unfold atC at hj
  match j, hj with
  | 0, hj | 1, hj | 2, hj | 3, hj => simp at hj; subst hj; simp [Addr.add]
  | j + 4, hj => simp at hj
theorem atC_one (x : At) : ∀ u ∈ atC x, u.oneCell' = true := by
  intro u hu
  simp only [atC, List.mem_cons, List.not_mem_nil, or_false] at hu
  rcases hu with rfl | rfl | rfl | rfl <;> rfl
theorem atCs_one (l : List At) : ∀ u ∈ atCs l, u.oneCell' = true := by
  intro u hu
  obtain ⟨x, _, hx⟩ := List.mem_flatMap.1 hu
  exact atC_one x u hx
/-- a row of attributes of the call's own -/
def OwnA (w : World) (B : Nat) (v : Value) (l : List At) : Prop := w.ownsRow B 56 4 v l.length (atCs l)
theorem OwnA.nil (w : World) (B : Nat) : OwnA w B (.slice none 0 0) [] := World.ownsRow_nil _ _ _ _
def SaysA (w : World) (K : List At) (e : Ending) (w' : World) : Prop := ∃ v, e = .returned v ∧ OwnA w' w.heap.size v K ∧ Below w.heap.size w w'
def SaysAB (w : World) (K : List At) (q : Bool) (e : Ending) (w' : World) : Prop := ∃ v, e = .returned (.tuple #[v, .bool q]) ∧ OwnA w' w.heap.size v K ∧ Below w.heap.size w w'
theorem snocA {w wx w1 : World} {B : Nat} {v v' : Value} {K : List At} {x : At} {n : Nat} (hn : K.length = n) (hb : Below B w wx) (h' : w1.ownsRow B 56 4 v' (n + 1) (atCs K ++ atC x)) (hB : B ≤ wx.heap.size) (hg : wx.grownBy w1 v.ownBlock) (hl : ∀ g, v.ownBlock = some g → B ≤ g) :
    OwnA w1 B v' (K ++ [x]) ∧ Below B w w1 := by
  refine ⟨?_, hb.grown hg hB hl⟩
  unfold OwnA
  rw [List.length_append, hn, atCs_append, show atCs [x] = atC x by simp [atCs]]
  exact h'
/-- small attributes -/
def Sm (l : List At) : Prop := ∀ k, k < l.length → 0 ≤ (gA l k).d ∧ (gA l k).d ≤ 9 ∧ (gA l k).s.size ≤ 1000
def MvRel (w : World) (b : Int) (l : List At) (n : Nat) (out i : Value) (wr : World) : Prop :=
  ∃ k : Nat, k ≤ n ∧ i = .int .i64 k ∧ BX w wr ∧ OwnA wr w.heap.size out (mvA b (l.take k))
theorem info4 : (Try.prog.info? 56).map (fun i => (i.zero, i.size, i.bytes)) = some (some (.agg #[.int .i64 0, .int .i64 0, .bool false, .string ⟨#[]⟩]), 4, 40) := infoAt
set_option maxHeartbeats 12800000 in
theorem movedAttrs_any (ad : Option Addr) (n cap : Nat) (b : Int) (l : List At) (w : World) (HI : Hid (ArgX w ad n (atCs l))) (hn : Hid (l.length = n)) (HS : Hid (Sm l)) (hm : n ≤ 400) (hb0 : 0 ≤ b) (hb1 : b ≤ 1) :
    Calls Try.prog 73 #[.slice ad n cap, .int .i64 b] w (SaysA w (mvA b l)) := by
  obtain ⟨i0, hi, hz0, hz1, hz2⟩ := info_parts infoAt
  go_enter Try.func73, Try.ntmps73
  go_wp2_with fail
  go_loopw [5, 10] (fun out i wr => MvRel w b l n out i wr) (fun _ i _ => n - (intOf i).toNat)
  case atStart => exact ⟨0, Nat.zero_le _, rfl, BX.refl _, OwnA.nil _ _⟩
  case round =>
    obtain ⟨k, hk, rfl, hb, ho⟩ := hrel
    have X1 := Lib.hid hb
    have O1 := Lib.hid ho
    clear hb ho
    by_cases hlt : k < n
    · obtain ⟨g, off, rfl, ht, hg⟩ := HI.out (by omega)
      obtain ⟨x, hx⟩ : ∃ x, gA l k = x := ⟨_, rfl⟩
      have hl1 : k < l.length := by rw [hn.out]; exact hlt
      obtain ⟨a0, a1, a2, a3⟩ := (ht.below X1.out hg).atr k hl1 x hx
      obtain ⟨hs0, hs1, hs2⟩ := HS.out k hl1
      have HT := Lib.hid (mvA_take b hl1)
      rw [hx] at hs0 hs1 hs2 HT
      have HL : Hid ((mvA b (l.take k)).length = k) := Lib.hid (by rw [mvA_length, List.length_take]; omega)
      have HC := Lib.hid (fun w => strClone_any x.s w (by omega))
      have HLow := Lib.hid (fun wz (b : Below wr.heap.size wr wz) => own_low O1.out b (Nat.le_refl _))
      unfold OwnA at O1
      rw [HL.out] at HLow
      generalize mvA b (l.take k) = K at HT HL HLow O1
      obtain ⟨xd, xt, xn, s⟩ := x
      simp only at a0 a1 a2 a3 hs0 hs1 hs2 HT HC
      clear hx hl1 ht O1
      go_wp2_with (go_at_call 87; refine (HC.out _).mono ?_; rintro _ w2 ⟨rfl, b2⟩; obtain ⟨⟨c0, c1, c2, c3⟩, cl⟩ := (atr_is wr ⟨xd + b, xt, xn, s⟩ 56).on b2; have hcf : w2.frozen? ⟨wr.heap.size, 3, none⟩ = false := (World.frozen?_of_block (a := ⟨wr.heap.size, 3, none⟩) (b2.block wr.heap.size (by simp))).trans (by simp [go_sem]); have B2 := Lib.hid b2; have X2 : Hid (BX w w2) := Lib.hid ((X1.out.alloc _).call b2); clear b2; refine Hid.out ?_)
      refine Lib.hid ?_
      have HD : Hid (Below wr.heap.size wr (w2.setCell ⟨wr.heap.size, 3, none⟩ (.string s))) := Lib.hid (((one_new2 wr (Obj.cells #[.int .i64 (xd + b), .int .i64 xt, .bool xn, .string s] 56)).trans (B2.out.mono (by simp))).setCell (Nat.le_refl _) _)
      have OD := Lib.hid (HLow.out _ HD.out)
      have XD : Hid (BX w (w2.setCell ⟨wr.heap.size, 3, none⟩ (.string s))) := Lib.hid (X1.out.call HD.out)
      have hws := BX.size XD.out
      rw [World.size_setCell] at hws
      go_wp2_with (at_builtin; refine wpList_append_own _ rfl _ _ 25 rfl w.heap.size 56 i0 (.agg #[.int .i64 0, .int .i64 0, .bool false, .string ⟨#[]⟩]) 4 40 Try.underlying25 hi hz0 hz1 hz2 rfl (by decide) _ _ _ rfl (World.ownsRow.alloc (w := (w2.setCell ⟨wr.heap.size, 3, none⟩ (.string s))) OD.out _) ⟨w2.heap.size, 0, none⟩ 1 1 (atC ⟨xd + b, xt, xn, s⟩) rfl rfl (by have := four_cells (w2.setCell ⟨wr.heap.size, 3, none⟩ (.string s)) ⟨xd + b, xt, xn, s⟩ 56; simpa using this) (atC_one _) (by unfold maxLen; omega) (by omega) (by simp; omega) ?_; intro v' w3 hown1 hgrow1 _)
      have F := Lib.hid (snocA (x := ⟨xd + b, xt, xn, s⟩) HL.out (Below.alloc XD.out (BX.size XD.out) (Obj.cells #[.int .i64 (xd + b), .int .i64 xt, .bool xn, .string s] 56)) hown1 (by simp; omega) hgrow1 (fun g h => (World.ownsRow.lt OD.out g h).1))
      clear hown1 hgrow1
      go_roundw
      case rel => exact ⟨k + 1, by omega, by go_num, F.out.2, by rw [HT.out]; exact F.out.1⟩
      case measure => simp [intOf]; omega
    · have hkn : k = n := by omega
      subst hkn
      go_wp2_with fail
      go_ret
      rw [List.take_of_length_le (by rw [hn.out]; exact Nat.le_refl _)] at O1
      exact ⟨_, rfl, O1.out, X1.out⟩
/-! Copies. -/
theorem eqAttrS_own (v v' : Value) (B B' : Nat) (K : List At) (w : World) (HA : Hid (w.ownsRow B 56 4 v K.length (atCs K))) (HB : Hid (w.ownsRow B' 56 4 v' K.length (atCs K))) (hm : K.length ≤ 1048576) :
    Calls Try.prog 18 #[v, v'] w (SaysB w true) := by
  obtain ⟨a, ca, rfl, ia⟩ := own_in HA.out
  obtain ⟨b, cb, rfl, ib⟩ := own_in HB.out
  exact eqAttrS_any a b K.length ca cb K w (Lib.hid ia) (Lib.hid ib) (Lib.hid rfl) hm
theorem appA {w wx w1 : World} {B : Nat} {v v' : Value} {K M : List At} (hb : Below B w wx) (h' : w1.ownsRow B 56 4 v' (K.length + M.length) (atCs K ++ atCs M)) (hB : B ≤ wx.heap.size) (hg : wx.grownBy w1 v.ownBlock) (hl : ∀ g, v.ownBlock = some g → B ≤ g) :
    OwnA w1 B v' (K ++ M) ∧ Below B w w1 := by
  refine ⟨?_, hb.grown hg hB hl⟩
  unfold OwnA
  rw [List.length_append, atCs_append]
  exact h'
theorem off_take {w : World} {g : Nat} {l : List At} (h : AtC w g (atCs l)) (i : Nat) : OffC w g 0 (atCs (l.take i)) := fun j hj => by
  have e : atCs l = atCs (l.take i) ++ atCs (l.drop i) := by rw [← atCs_append, List.take_append_drop]
  have q := h j (by rw [e, List.length_append]; omega)
  rw [e, List.getElem?_append_left hj] at q
  rw [Nat.zero_add]
  exact q
theorem off_drop {w : World} {g : Nat} {l : List At} (h : AtC w g (atCs l)) (i : Nat) (hi : i ≤ l.length) : OffC w g (i * 4) (atCs (l.drop i)) := fun j hj => by
  have e : atCs l = atCs (l.take i) ++ atCs (l.drop i) := by rw [← atCs_append, List.take_append_drop]
  have el : (atCs (l.take i)).length = i * 4 := by rw [atCs_length, List.length_take, Nat.min_eq_left hi]
  have q := h (i * 4 + j) (by rw [e, List.length_append, el]; omega)
  rw [e, List.getElem?_append_right (by omega), el, show i * 4 + j - i * 4 = j by omega] at q
  exact q
theorem off_news {w w1 : World} {g off : Nat} {xs : List Value} (h : OffC w g off xs) (b : Below w.heap.size w w1) : ∀ j u, xs[j]? = some u → w1.cell? ((⟨g, off, none⟩ : Addr).add j) = some u := by
  intro j u hu
  have c := h.at j hu
  have hg : g < w.heap.size := World.block_lt_of_cell? w _ c
  rw [Go.WideShapes.add_plain]
  exact (b.cell (p := ⟨g, off + j, none⟩) hg).trans c
theorem sm_va {l : List At} (V : Va l) : Sm l := fun k hk => ⟨by have := V.pos k hk; omega, by have := V.top k hk; omega, V.sz k hk⟩
theorem sm_take {l : List At} (h : Sm l) (i : Nat) : Sm (l.take i) := fun k hk => by
  rw [List.length_take] at hk
  rw [gA_take (by omega)]
  exact h k (by omega)
theorem gA_drop (l : List At) (i k : Nat) : gA (l.drop i) k = gA l (i + k) := by unfold gA; simp [List.getD_eq_getElem?_getD]
theorem sm_drop {l : List At} (h : Sm l) (i : Nat) : Sm (l.drop i) := fun k hk => by
  rw [List.length_drop] at hk
  rw [gA_drop]
  exact h _ (by omega)
def resD (l : List At) (i : Int) : List At := if hasA l i then l.take i.toNat ++ l.drop (enA l i.toNat) else []
theorem resD_len (l : List At) (i : Int) : (resD l i).length ≤ 800 := by
  unfold resD
  split
  · rename_i h
    have := (va (hasA_of h).1).len
    rw [List.length_append, List.length_take, List.length_drop]
    omega
  · simp
set_option maxHeartbeats 3200000 in
theorem tvOwn_any (g off n c : Nat) (K : List At) (w : World) (HA : Hid (OffC w g off (atCs K))) (hn : Hid (K.length = n)) (hm : n ≤ 1048576) :
    Calls Try.prog 72 #[.slice (some ⟨g, off, none⟩) n c] w (SaysA w K) := by
  obtain ⟨i0, hi, hz0, hz1, hz2⟩ := info_parts infoAt
  have H0 : Hid ((w.alloc (.cells #[] 56)).ownsRow w.heap.size 56 4 (.slice (some ⟨w.heap.size, 0, none⟩) 0 0) 0 []) := Lib.hid (World.ownsRow_lit (base := w.heap.size) (e := 56) (size := 4) w #[] 0 (Nat.le_refl _) (by unfold maxLen; omega) rfl)
  go_enter Try.func72, Try.ntmps72
  go_wp2_with (at_builtin; refine wpList_append_own _ rfl _ _ 25 rfl w.heap.size 56 i0 (.agg #[.int .i64 0, .int .i64 0, .bool false, .string ⟨#[]⟩]) 4 40 Try.underlying25 hi hz0 hz1 hz2 rfl (by decide) _ _ _ rfl H0.out ⟨g, off, none⟩ n c (atCs K) rfl (by rw [atCs_length, hn.out]) (off_news HA.out (one_new2 w _)) (atCs_one _) (by unfold maxLen; omega) (by omega) (by simp) ?_; intro v' w3 hown1 hgrow1 _)
  have F := Lib.hid (appA (w := w) (K := []) (M := K) (one_new2 w (.cells #[] 56)) (by rw [hn.out]; exact hown1) (by simp) hgrow1 (fun g h => (World.ownsRow.lt H0.out g h).1))
  clear hown1 hgrow1
  go_ret
  exact ⟨_, rfl, F.out.1, F.out.2⟩
set_option maxHeartbeats 12800000 in
theorem specDrop_any (ad : Option Addr) (n : Nat) (l : List At) (i : Int) (w : World) (HI : Hid (InX w ad n (atCs l))) (hn : Hid (l.length = n)) (HM : Hid (SzM l)) (hm : n ≤ 1048576) :
    Calls Try.prog 42 #[.slice ad n n, .int .i64 i] w (SaysAB w (resD l i) (hasA l i)) := by
  have HG := Lib.hid (tvHas_any ad n n l i w HI hn HM hm)
  cases hA : hasA l i
  · have HX : Hid (resD l i = []) := Lib.hid (by unfold resD; rw [hA]; rfl)
    rw [hA] at HG
    rw [HX.out]
    clear hA
    go_enter Try.func42, Try.ntmps42
    go_wp2_with (go_at_call 59; refine (HG.out).mono ?_; rintro e w1 ⟨rfl, b⟩; have B1 := Lib.hid b; clear b)
    go_ret2
    exact ⟨_, rfl, OwnA.nil _ _, B1.out⟩
  obtain ⟨hl, k, rfl, hk⟩ := hasA_of hA
  obtain ⟨i0, hi, hz0, hz1, hz2⟩ := info_parts infoAt
  rw [hA] at HG
  have hkn : k < n := by rw [← hn.out]; exact hk
  obtain ⟨g, rfl, ht, hg⟩ := HI.out (by omega)
  have HT := Lib.hid ht
  have HX : Hid (resD l k = l.take k ++ l.drop (enA l k)) := Lib.hid (by unfold resD; rw [hA, if_pos rfl, Int.toNat_natCast])
  rw [HX.out]
  obtain ⟨e', he'⟩ : ∃ e', enA l k = e' := ⟨_, rfl⟩
  obtain ⟨e1, e2, _⟩ := enA_is hk
  have HE := Lib.hid (fun w h => tvEnd_any (some ⟨g, 0, none⟩) n n l k w (Lib.hid h) hn hm hkn)
  rw [he'] at HE e1 e2 ⊢
  rw [hn.out] at e2
  have HK1 : Hid ((l.take k).length = k) := Lib.hid (by rw [List.length_take, Nat.min_eq_left (by omega)])
  have HK2 : Hid ((l.drop e').length = n - e') := Lib.hid (by rw [List.length_drop, hn.out])
  have HO1 := Lib.hid (fun wz (b : BX w wz) => tvOwn_any g 0 k n (l.take k) wz (Lib.hid (off_take (ht.below b hg) k)) HK1 (by omega))
  have HO2 := Lib.hid (fun wz (b : BX w wz) => off_drop (ht.below b hg) e' (by rw [hn.out]; exact e2))
  have HIz := Lib.hid (fun wz (b : BX w wz) => HI.out.below b)
  clear hA he' ht HX
  generalize l.take k = K1 at HK1 HO1 ⊢
  generalize l.drop e' = K2 at HK2 HO2 ⊢
  have hkn2 : k ≤ n := by omega
  rcases Nat.lt_or_eq_of_le e2 with hen | hen
  · go_enter Try.func42, Try.ntmps42
    go_wp2_with (go_at_call 59; refine (HG.out).mono ?_; rintro e w1 ⟨rfl, b⟩; have X1 : Hid (BX w w1) := Lib.hid b; clear b; refine Hid.out ?_)
    refine Lib.hid ?_
    go_wp2_with (go_at_call 72; refine (HO1.out _ X1.out).mono ?_; rintro e w2 ⟨v1, rfl, o, b⟩; have X2 := Lib.hid (X1.out.call b); have O2 : Hid (OwnA w2 w.heap.size v1 K1) := Lib.hid (own_base o (BX.size X1.out)); clear b o; refine Hid.out ?_)
    refine Lib.hid ?_
    have hne : ¬ n = e' := by omega
    have hne2 : ¬ n - e' = 0 := by omega
    go_wp2_with (first | (go_at_call 63; refine (HE.out _ (HIz.out _ X2.out)).mono ?_; rintro e w3 ⟨rfl, q, hq⟩; have X3 : Hid (BX w w3) := Lib.hid (by rw [hq]; exact bx_drew X2.out q); have O3 : Hid (OwnA w3 w.heap.size v1 K1) := Lib.hid (own_low O2.out (by rw [hq]; exact below_drewN (Below.refl _ _) q : Below w2.heap.size w2 w3) (Nat.le_refl _)); have hk1 := HK1.out; have hk2 := HK2.out; clear hq) | (at_builtin; refine wpList_append_own _ rfl _ _ 25 rfl w.heap.size 56 i0 (.agg #[.int .i64 0, .int .i64 0, .bool false, .string ⟨#[]⟩]) 4 40 Try.underlying25 hi hz0 hz1 hz2 rfl (by decide) _ _ _ rfl O3.out ⟨g, e' * 4, none⟩ (n - e') (n - e') (atCs K2) rfl (by rw [atCs_length, HK2.out]) (off_news (HO2.out _ X3.out) (Below.refl _ _)) (atCs_one _) (by unfold maxLen; omega) (by omega) (BX.size X3.out) ?_; intro v' w4 hown1 hgrow1 _))
    have F := Lib.hid (appA (B := w.heap.size) (K := K1) (M := K2) X3.out (by rw [HK2.out]; exact hown1) (BX.size X3.out) hgrow1 (fun g h => (World.ownsRow.lt O3.out g h).1))
    clear hown1 hgrow1
    go_ret2
    exact ⟨_, rfl, F.out.1, F.out.2⟩
  · subst hen
    have HK0 : Hid (K2 = []) := Lib.hid (List.eq_nil_of_length_eq_zero (by rw [HK2.out]; omega))
    go_enter Try.func42, Try.ntmps42
    go_wp2_with (go_at_call 59; refine (HG.out).mono ?_; rintro e w1 ⟨rfl, b⟩; have X1 : Hid (BX w w1) := Lib.hid b; clear b; refine Hid.out ?_)
    refine Lib.hid ?_
    go_wp2_with (go_at_call 72; refine (HO1.out _ X1.out).mono ?_; rintro e w2 ⟨v1, rfl, o, b⟩; have X2 := Lib.hid (X1.out.call b); have O2 : Hid (OwnA w2 w.heap.size v1 K1) := Lib.hid (own_base o (BX.size X1.out)); clear b o; refine Hid.out ?_)
    refine Lib.hid ?_
    go_wp2_with (first | (go_at_call 63; refine (HE.out _ (HIz.out _ X2.out)).mono ?_; rintro e w3 ⟨rfl, q, hq⟩; have X3 : Hid (BX w w3) := Lib.hid (by rw [hq]; exact bx_drew X2.out q); have O3 : Hid (OwnA w3 w.heap.size v1 K1) := Lib.hid (own_low O2.out (by rw [hq]; exact below_drewN (Below.refl _ _) q : Below w2.heap.size w2 w3) (Nat.le_refl _)); have hk1 := HK1.out; clear hq) | (at_builtin; refine wpList_append_own _ rfl _ _ 25 rfl w.heap.size 56 i0 (.agg #[.int .i64 0, .int .i64 0, .bool false, .string ⟨#[]⟩]) 4 40 Try.underlying25 hi hz0 hz1 hz2 rfl (by decide) _ _ _ rfl O3.out ⟨g, 0, none⟩ 0 0 (atCs []) rfl (by rfl) (fun j u hu => by cases hu) (atCs_one _) (by unfold maxLen; omega) (by omega) (BX.size X3.out) ?_; intro v' w4 hown1 hgrow1 _))
    have F := Lib.hid (appA (B := w.heap.size) (K := K1) (M := []) X3.out hown1 (BX.size X3.out) hgrow1 (fun g h => (World.ownsRow.lt O3.out g h).1))
    clear hown1 hgrow1
    go_ret2
    exact ⟨_, rfl, by rw [HK0.out]; exact F.out.1, F.out.2⟩
theorem own_news {w : World} {B n z : Nat} {T : TypeId} {g c : Nat} {xs : List Value} (h : w.ownsRow B T z (.slice (some ⟨g, 0, none⟩) n c) n xs) : ∀ j u, xs[j]? = some u → w.cell? ((⟨g, 0, none⟩ : Addr).add j) = some u := by
  intro j u hu
  have hj : j < n * z := by have := (List.getElem?_eq_some_iff.1 hu).1; rw [h.1] at this; exact this
  have hadd : (⟨g, 0, none⟩ : Addr).add j = ⟨g, j, none⟩ := by unfold Addr.add; split <;> simp_all
  rw [hadd, World.ownsRow.cellAt h j hj, hu]
theorem step_append_src {P : Program} (w : World) {ops : Array Oper} {o : Oper} {a : Act} {K : Act → World → Prop} {Q : Exit → Act → World → Prop} {E : Prop} (hgd : o.guard = none) (s x : Operand) (t : TypeId)
    (ho : o.op = .call { callee := .builtin .append, args := #[s, x], argTypes := #[t, t] })
    (base : Nat) (e : TypeId) (i : TypeInfo) (z : Value) (size bytes : Nat) (ht : P.underlying t = some (.slice e)) (hi : P.info? e = some i) (hz : i.zero = some z)
    (hsize : i.size = size) (hby : i.bytes = bytes) (hzs : z.cells.size = size) (hsz : 0 < size)
    (v : Value) (n : Nat) (xs : List Value) (hs : a.eval s = v) (hown : w.ownsRow base e size v n xs)
    (B2 : Nat) (src : Value) (m : Nat) (news : List Value) (hx : a.eval x = src) (hsrc : w.ownsRow B2 e size src m news) (h1 : ∀ u ∈ news, u.oneCell' = true)
    (h63 : n + m ≤ maxLen) (hbytes : (n + m) * bytes ≤ 140737488355328) (hbase : base ≤ w.heap.size)
    (h : ∀ v' w', w'.ownsRow base e size v' (n + m) (xs ++ news) → w.grownBy w' v.ownBlock → (v'.ownBlock = v.ownBlock ∨ v'.ownBlock = some w.heap.size) → K (a.put o.dst v') w') :
    if Region.wanted o (yielded ops a.tmps) = true then Oper.wp P o a w K Q else E := by
  have hw : Region.wanted o (yielded ops a.tmps) = true := by simp [Region.wanted, hgd]
  rw [if_pos hw]
  obtain ⟨v', w', hr, h2, h3, h5⟩ : ∃ v' w', (Builtin.append_ #[t, t] o.type #[v, src]).run P w = .ok v' w' ∧ w'.ownsRow base e size v' (n + m) (xs ++ news) ∧ w.grownBy w' v.ownBlock ∧ (v'.ownBlock = v.ownBlock ∨ v'.ownBlock = some w.heap.size) := by
    rcases hsrc.2 with ⟨rfl, rfl⟩ | ⟨g, cap, cur, rfl, _⟩
    · obtain rfl : news = [] := List.eq_nil_of_length_eq_zero (by have := hsrc.1; omega)
      exact ⟨v, w, run_append_owned_none w base t o.type e i size ht hi v n xs hown, by simpa using hown, ⟨rfl, rfl, rfl, Nat.le_refl _, fun _ _ _ => rfl⟩, .inl rfl⟩
    · obtain ⟨v', w', hr, h2, h3, _, h5⟩ := run_append_own_at (P := P) w base t o.type e i z size bytes ht hi hz hsize hby hzs hsz v n xs hown ⟨g, 0, none⟩ m cap news hsrc.1 (own_news hsrc) h1 h63 hbytes hbase
      exact ⟨v', w', hr, h2, h3, h5⟩
  unfold Oper.wp execOp
  simp only [ho, resolve, invoke, builtin, Sem.run_bind, Sem.run_pure, Result.andThen_ok, List.map_toArray, List.map_cons, List.map_nil, hs, hx, hr]
  exact h v' w' h2 h3 h5
set_option maxHeartbeats 12800000 in
theorem implDrop_any (ad : Option Addr) (n : Nat) (l : List At) (i : Int) (w : World) (HI : Hid (InX w ad n (atCs l))) (hn : Hid (l.length = n)) (HM : Hid (SzM l)) (hm : n ≤ 1048576) :
    Calls Try.prog 43 #[.slice ad n n, .int .i64 i] w (SaysAB w (resD l i) (hasA l i)) := by
  have HG := Lib.hid (implEndOf_any ad n n l i w HI hn HM hm)
  cases hA : hasA l i
  · have HX : Hid (resD l i = []) := Lib.hid (by unfold resD; rw [hA]; rfl)
    rw [hA] at HG
    rw [HX.out]
    generalize resEn l i = R at HG
    clear hA
    go_enter Try.func43, Try.ntmps43
    go_wp2_with (go_at_call 29; refine (HG.out).mono ?_; rintro e w1 ⟨rfl, b⟩; have B1 := Lib.hid b; clear b)
    go_ret2
    exact ⟨_, rfl, OwnA.nil _ _, B1.out⟩
  obtain ⟨hl, k, rfl, hk⟩ := hasA_of hA
  obtain ⟨i0, hi, hz0, hz1, hz2⟩ := info_parts infoAt
  have HEN : resEn l k = enA l k := by unfold resEn; rw [hA, if_pos rfl, Int.toNat_natCast]
  rw [hA, HEN] at HG
  have hkn : k < n := by rw [← hn.out]; exact hk
  obtain ⟨g, rfl, ht, hg⟩ := HI.out (by omega)
  have HT := Lib.hid ht
  have HX : Hid (resD l k = l.take k ++ l.drop (enA l k)) := Lib.hid (by unfold resD; rw [hA, if_pos rfl, Int.toNat_natCast])
  rw [HX.out]
  have hlen := (va hl).len
  have hsm := sm_va (va hl)
  obtain ⟨e', he'⟩ : ∃ e', enA l k = e' := ⟨_, rfl⟩
  obtain ⟨e1, e2, _⟩ := enA_is hk
  rw [he'] at HG e1 e2 ⊢
  rw [hn.out] at e2 hlen
  have HK1 : Hid ((l.take k).length = k) := Lib.hid (by rw [List.length_take, Nat.min_eq_left (by omega)])
  have HK2 : Hid ((l.drop e').length = n - e') := Lib.hid (by rw [List.length_drop, hn.out])
  have HL12 : Hid ((l.take k).length + (l.drop e').length ≤ 800) := Lib.hid (by rw [HK1.out, HK2.out]; omega)
  have HA1 := Lib.hid (fun wz (b : BX w wz) => (show ArgX wz (some ⟨g, 0, none⟩) k (atCs (l.take k)) from fun _ => ⟨g, 0, rfl, off_take (ht.below b hg) k, Nat.lt_of_lt_of_le hg (BX.size b)⟩))
  have HC1 := Lib.hid (fun wz h => movedAttrs_any (some ⟨g, 0, none⟩) k n 0 (l.take k) wz (Lib.hid h) HK1 (Lib.hid (sm_take hsm k)) (by omega) (by omega) (by omega))
  rw [mvA_zero] at HC1
  rcases Nat.lt_or_eq_of_le e2 with hen | hen
  · have HA2 := Lib.hid (fun wz (b : BX w wz) => (show ArgX wz (some ⟨g, e' * 4, none⟩) (n - e') (atCs (l.drop e')) from fun _ => ⟨g, e' * 4, rfl, off_drop (ht.below b hg) e' (by rw [hn.out]; exact e2), Nat.lt_of_lt_of_le hg (BX.size b)⟩))
    have HC2 := Lib.hid (fun wz h => movedAttrs_any (some ⟨g, e' * 4, none⟩) (n - e') (n - e') 0 (l.drop e') wz (Lib.hid h) HK2 (Lib.hid (sm_drop hsm e')) (by omega) (by omega) (by omega))
    rw [mvA_zero] at HC2
    clear hA he' ht HX hsm HEN hl
    generalize l.take k = K1 at HK1 HA1 HC1 HL12 ⊢
    generalize l.drop e' = K2 at HK2 HA2 HC2 HL12 ⊢
    have hkn2 : k ≤ n := by omega
    have hne : ¬ n = e' := by omega
    have hne2 : ¬ n - e' = 0 := by omega
    have hek : (e' : Int) ≤ (n : Int) := by omega
    have hkk : (k : Int) ≤ (n : Int) := by omega
    go_enter Try.func43, Try.ntmps43
    go_wp2_with (go_at_call 29; refine (HG.out).mono ?_; rintro e w1 ⟨rfl, b⟩; have X1 : Hid (BX w w1) := Lib.hid b; clear b)
    refine wp_region_held_drew (S := fun _ => True) (by kernel_rfl) trivial (fun hHeld => ?_)
    have XD : Hid (BX w w1.drew) := Lib.hid (bx_drew X1.out 1)
    generalize w1.drew = wd at XD ⊢
    refine held_take (i := 0) (d := 16) (v := ?_) rfl rfl (by kernel_rfl) (by kernel_rfl) (by kernel_rfl) (fun _ _ _ h => h) (by rfl) ?_ (by assumption) ?_
    rotate_left
    · intro w hSw
      go_simp
      try with_reducible rfl
    set_option linter.unusedSimpArgs false in try simp only [Act.put, List.setIfInBounds_toArray, List.set_cons_zero, List.set_cons_succ]
    refine held_take (i := 1) (d := 17) (v := ?_) rfl rfl (by kernel_rfl) (by kernel_rfl) (by kernel_rfl) (fun _ _ _ h => h) (by rfl) ?_ (by assumption) ?_
    rotate_left
    · intro w hSw
      go_simp
      try with_reducible rfl
    set_option linter.unusedSimpArgs false in try simp only [Act.put, List.setIfInBounds_toArray, List.set_cons_zero, List.set_cons_succ]
    refine held_take (i := 2) (d := 18) (v := ?_) rfl rfl (by kernel_rfl) (by kernel_rfl) (by kernel_rfl) (fun _ _ _ h => h) (by rfl) ?_ (by assumption) ?_
    rotate_left
    · intro w hSw
      go_simp
      try with_reducible rfl
    set_option linter.unusedSimpArgs false in try simp only [Act.put, List.setIfInBounds_toArray, List.set_cons_zero, List.set_cons_succ]
    refine held_take (i := 4) (d := 20) (v := ?_) rfl rfl (by kernel_rfl) (by kernel_rfl) (by kernel_rfl) (fun _ _ _ h => h) (by rfl) ?_ (by assumption) ?_
    rotate_left
    · intro w hSw
      go_simp
      try with_reducible rfl
    set_option linter.unusedSimpArgs false in try simp only [Act.put, List.setIfInBounds_toArray, List.set_cons_zero, List.set_cons_succ]
    refine held_take (i := 5) (d := 21) (v := ?_) rfl rfl (by kernel_rfl) (by kernel_rfl) (by kernel_rfl) (fun _ _ _ h => h) (by rfl) ?_ (by assumption) ?_
    rotate_left
    · intro w hSw
      go_simp
      try with_reducible rfl
    set_option linter.unusedSimpArgs false in try simp only [Act.put, List.setIfInBounds_toArray, List.set_cons_zero, List.set_cons_succ]
    refine held_take (i := 6) (d := 22) (v := ?_) rfl rfl (by kernel_rfl) (by kernel_rfl) (by kernel_rfl) (fun _ _ _ h => h) (by rfl) ?_ (by assumption) ?_
    rotate_left
    · intro w hSw
      go_simp
      try with_reducible rfl
    set_option linter.unusedSimpArgs false in try simp only [Act.put, List.setIfInBounds_toArray, List.set_cons_zero, List.set_cons_succ]
    refine wpAnyH_ready (rs := [3]) (by kernel_rfl) (by simp) ?_
    refine AllReadyH.cons rfl (fun K' hK => ?_) AllReadyH.nil
    go_simp
    go_at_call 73
    refine (HC1.out _ (HA1.out _ XD.out)).mono ?_
    rintro _ wA ⟨v1, rfl, o1, b1⟩
    have XA := Lib.hid (XD.out.call b1)
    have Q1 : Hid (OwnA wA w.heap.size v1 K1) := Lib.hid (own_base o1 (BX.size XD.out))
    refine hK.out _ _ trivial (fun hHeld => ?_)
    clear o1 b1 hK K'
    set_option linter.unusedSimpArgs false in try simp only [Act.put, List.setIfInBounds_toArray, List.set_cons_zero, List.set_cons_succ]
    refine wpAnyH_ready (rs := [7]) (by kernel_rfl) (by simp) ?_
    refine AllReadyH.cons rfl (fun K' hK => ?_) AllReadyH.nil
    go_simp
    go_at_call 73
    refine (HC2.out _ (HA2.out _ XA.out)).mono ?_
    rintro _ wB ⟨v2, rfl, o2, b2⟩
    have XB := Lib.hid (XA.out.call b2)
    have R1 : Hid (OwnA wB w.heap.size v1 K1) := Lib.hid (own_low Q1.out b2 (Nat.le_refl _))
    have R2 : Hid (OwnA wB w.heap.size v2 K2) := Lib.hid (own_base o2 (BX.size XA.out))
    refine hK.out _ _ trivial (fun hHeld => ?_)
    clear o2 b2 hK K' Q1
    set_option linter.unusedSimpArgs false in try simp only [Act.put, List.setIfInBounds_toArray, List.set_cons_zero, List.set_cons_succ]
    refine wpAnyH_ready (rs := [8]) (by kernel_rfl) (by simp) ?_
    refine AllReadyH.cons rfl (fun K' hK => ?_) AllReadyH.nil
    refine step_append_src _ rfl (.tmp 19) (.tmp 23) 25 rfl w.heap.size 56 i0 (.agg #[.int .i64 0, .int .i64 0, .bool false, .string ⟨#[]⟩]) 4 40 Try.underlying25 hi hz0 hz1 hz2 rfl (by decide) v1 K1.length (atCs K1) (by rfl) R1.out w.heap.size v2 K2.length (atCs K2) (by rfl) R2.out (atCs_one _) (by have := HL12.out; unfold maxLen; omega) (by have := HL12.out; omega) (BX.size XB.out) ?_
    intro v' w3 hown1 hgrow1 _
    have F := Lib.hid (appA (B := w.heap.size) XB.out hown1 (BX.size XB.out) hgrow1 (fun g h => (World.ownsRow.lt R1.out g h).1))
    refine hK.out _ _ trivial (fun hHeld => ?_)
    clear hown1 hgrow1 hK K'
    set_option linter.unusedSimpArgs false in try simp only [List.getElem_toArray, List.getElem_cons_succ, List.getElem_cons_zero, Act.put, List.setIfInBounds_toArray, List.set_cons_zero, List.set_cons_succ]
    refine held_take (i := 9) (d := 4) (v := ?_) rfl rfl (by kernel_rfl) (by kernel_rfl) (by kernel_rfl) (fun _ _ _ h => h) (by rfl) ?_ (by assumption) ?_
    rotate_left
    · intro w hSw
      go_simp
      try with_reducible rfl
    set_option linter.unusedSimpArgs false in try simp only [Act.put, List.setIfInBounds_toArray, List.set_cons_zero, List.set_cons_succ]
    refine held_take (i := 10) (d := 5) (v := ?_) rfl rfl (by kernel_rfl) (by kernel_rfl) (by kernel_rfl) (fun _ _ _ h => h) (by rfl) ?_ (by assumption) ?_
    rotate_left
    · intro w hSw
      go_simp
      try with_reducible rfl
    set_option linter.unusedSimpArgs false in try simp only [Act.put, List.setIfInBounds_toArray, List.set_cons_zero, List.set_cons_succ]
    refine wpAnyH_done (by kernel_rfl) ?_ _
    go_wp2_with fail
    go_ret2
    exact ⟨_, rfl, F.out.1, F.out.2⟩
  · subst hen
    have HA2 := Lib.hid (fun wz (b : BX w wz) => (show ArgX wz (some ⟨g, 0, none⟩) 0 (atCs (l.drop e')) from fun h => absurd h (by omega)))
    have HC2 := Lib.hid (fun wz h => movedAttrs_any (some ⟨g, 0, none⟩) 0 0 0 (l.drop e') wz (Lib.hid h) (Lib.hid (by rw [HK2.out]; omega)) (Lib.hid (sm_drop hsm e')) (by omega) (by omega) (by omega))
    rw [mvA_zero] at HC2
    clear hA he' ht HX hsm HEN hl
    generalize l.take k = K1 at HK1 HA1 HC1 HL12 ⊢
    generalize l.drop e' = K2 at HK2 HA2 HC2 HL12 ⊢
    have hkn2 : k ≤ e' := by omega
    have hkk : (k : Int) ≤ (e' : Int) := by omega
    go_enter Try.func43, Try.ntmps43
    go_wp2_with (go_at_call 29; refine (HG.out).mono ?_; rintro e w1 ⟨rfl, b⟩; have X1 : Hid (BX w w1) := Lib.hid b; clear b)
    refine wp_region_held_drew (S := fun _ => True) (by kernel_rfl) trivial (fun hHeld => ?_)
    have XD : Hid (BX w w1.drew) := Lib.hid (bx_drew X1.out 1)
    generalize w1.drew = wd at XD ⊢
    refine held_take (i := 0) (d := 16) (v := ?_) rfl rfl (by kernel_rfl) (by kernel_rfl) (by kernel_rfl) (fun _ _ _ h => h) (by rfl) ?_ (by assumption) ?_
    rotate_left
    · intro w hSw
      go_simp
      try with_reducible rfl
    set_option linter.unusedSimpArgs false in try simp only [Act.put, List.setIfInBounds_toArray, List.set_cons_zero, List.set_cons_succ]
    refine held_take (i := 1) (d := 17) (v := ?_) rfl rfl (by kernel_rfl) (by kernel_rfl) (by kernel_rfl) (fun _ _ _ h => h) (by rfl) ?_ (by assumption) ?_
    rotate_left
    · intro w hSw
      go_simp
      try with_reducible rfl
    set_option linter.unusedSimpArgs false in try simp only [Act.put, List.setIfInBounds_toArray, List.set_cons_zero, List.set_cons_succ]
    refine held_take (i := 2) (d := 18) (v := ?_) rfl rfl (by kernel_rfl) (by kernel_rfl) (by kernel_rfl) (fun _ _ _ h => h) (by rfl) ?_ (by assumption) ?_
    rotate_left
    · intro w hSw
      go_simp
      try with_reducible rfl
    set_option linter.unusedSimpArgs false in try simp only [Act.put, List.setIfInBounds_toArray, List.set_cons_zero, List.set_cons_succ]
    refine held_take (i := 4) (d := 20) (v := ?_) rfl rfl (by kernel_rfl) (by kernel_rfl) (by kernel_rfl) (fun _ _ _ h => h) (by rfl) ?_ (by assumption) ?_
    rotate_left
    · intro w hSw
      go_simp
      try with_reducible rfl
    set_option linter.unusedSimpArgs false in try simp only [Act.put, List.setIfInBounds_toArray, List.set_cons_zero, List.set_cons_succ]
    refine held_take (i := 5) (d := 21) (v := ?_) rfl rfl (by kernel_rfl) (by kernel_rfl) (by kernel_rfl) (fun _ _ _ h => h) (by rfl) ?_ (by assumption) ?_
    rotate_left
    · intro w hSw
      go_simp
      try with_reducible rfl
    set_option linter.unusedSimpArgs false in try simp only [Act.put, List.setIfInBounds_toArray, List.set_cons_zero, List.set_cons_succ]
    refine held_take (i := 6) (d := 22) (v := ?_) rfl rfl (by kernel_rfl) (by kernel_rfl) (by kernel_rfl) (fun _ _ _ h => h) (by rfl) ?_ (by assumption) ?_
    rotate_left
    · intro w hSw
      go_simp
      try with_reducible rfl
    set_option linter.unusedSimpArgs false in try simp only [Act.put, List.setIfInBounds_toArray, List.set_cons_zero, List.set_cons_succ]
    refine wpAnyH_ready (rs := [3]) (by kernel_rfl) (by simp) ?_
    refine AllReadyH.cons rfl (fun K' hK => ?_) AllReadyH.nil
    go_simp
    go_at_call 73
    refine (HC1.out _ (HA1.out _ XD.out)).mono ?_
    rintro _ wA ⟨v1, rfl, o1, b1⟩
    have XA := Lib.hid (XD.out.call b1)
    have Q1 : Hid (OwnA wA w.heap.size v1 K1) := Lib.hid (own_base o1 (BX.size XD.out))
    refine hK.out _ _ trivial (fun hHeld => ?_)
    clear o1 b1 hK K'
    set_option linter.unusedSimpArgs false in try simp only [Act.put, List.setIfInBounds_toArray, List.set_cons_zero, List.set_cons_succ]
    refine wpAnyH_ready (rs := [7]) (by kernel_rfl) (by simp) ?_
    refine AllReadyH.cons rfl (fun K' hK => ?_) AllReadyH.nil
    go_simp
    go_at_call 73
    refine (HC2.out _ (HA2.out _ XA.out)).mono ?_
    rintro _ wB ⟨v2, rfl, o2, b2⟩
    have XB := Lib.hid (XA.out.call b2)
    have R1 : Hid (OwnA wB w.heap.size v1 K1) := Lib.hid (own_low Q1.out b2 (Nat.le_refl _))
    have R2 : Hid (OwnA wB w.heap.size v2 K2) := Lib.hid (own_base o2 (BX.size XA.out))
    refine hK.out _ _ trivial (fun hHeld => ?_)
    clear o2 b2 hK K' Q1
    set_option linter.unusedSimpArgs false in try simp only [Act.put, List.setIfInBounds_toArray, List.set_cons_zero, List.set_cons_succ]
    refine wpAnyH_ready (rs := [8]) (by kernel_rfl) (by simp) ?_
    refine AllReadyH.cons rfl (fun K' hK => ?_) AllReadyH.nil
    refine step_append_src _ rfl (.tmp 19) (.tmp 23) 25 rfl w.heap.size 56 i0 (.agg #[.int .i64 0, .int .i64 0, .bool false, .string ⟨#[]⟩]) 4 40 Try.underlying25 hi hz0 hz1 hz2 rfl (by decide) v1 K1.length (atCs K1) (by rfl) R1.out w.heap.size v2 K2.length (atCs K2) (by rfl) R2.out (atCs_one _) (by have := HL12.out; unfold maxLen; omega) (by have := HL12.out; omega) (BX.size XB.out) ?_
    intro v' w3 hown1 hgrow1 _
    have F := Lib.hid (appA (B := w.heap.size) XB.out hown1 (BX.size XB.out) hgrow1 (fun g h => (World.ownsRow.lt R1.out g h).1))
    refine hK.out _ _ trivial (fun hHeld => ?_)
    clear hown1 hgrow1 hK K'
    set_option linter.unusedSimpArgs false in try simp only [List.getElem_toArray, List.getElem_cons_succ, List.getElem_cons_zero, Act.put, List.setIfInBounds_toArray, List.set_cons_zero, List.set_cons_succ]
    refine held_take (i := 9) (d := 4) (v := ?_) rfl rfl (by kernel_rfl) (by kernel_rfl) (by kernel_rfl) (fun _ _ _ h => h) (by rfl) ?_ (by assumption) ?_
    rotate_left
    · intro w hSw
      go_simp
      try with_reducible rfl
    set_option linter.unusedSimpArgs false in try simp only [Act.put, List.setIfInBounds_toArray, List.set_cons_zero, List.set_cons_succ]
    refine held_take (i := 10) (d := 5) (v := ?_) rfl rfl (by kernel_rfl) (by kernel_rfl) (by kernel_rfl) (fun _ _ _ h => h) (by rfl) ?_ (by assumption) ?_
    rotate_left
    · intro w hSw
      go_simp
      try with_reducible rfl
    set_option linter.unusedSimpArgs false in try simp only [Act.put, List.setIfInBounds_toArray, List.set_cons_zero, List.set_cons_succ]
    refine wpAnyH_done (by kernel_rfl) ?_ _
    go_wp2_with fail
    go_ret2
    exact ⟨_, rfl, F.out.1, F.out.2⟩
end Go.Proofs.Ythflehdboccloaa
