/- The earliest fault of a list: contracts of both sides. -/
import Derived.Test.YtdfkehgkonadhaaFal
namespace Go.Proofs.Ytdfkehgkonadhaa
open Go.RowKit
set_option linter.unusedVariables false
set_option linter.unusedSimpArgs false

/-- the cells of a result that is a fault are there -/
def TwoS (w1 : World) (b : Nat) : Prop := (w1.cell? ⟨b, 0, none⟩).isSome = true ∧ (w1.cell? ⟨b, 1, none⟩).isSome = true
theorem TwoIs.some {w : World} {b : Nat} {a0 a1 : Value} (h : TwoIs w b a0 a1) : TwoS w b := by
  obtain ⟨h0, h1, _⟩ := h
  exact ⟨by rw [h0]; rfl, by rw [h1]; rfl⟩
theorem readS2 {w1 : World} {b : Nat} (h : TwoS w1 b) (v0 v1 : Value) (W : World) (hW : W = (w1.setCell ⟨b, 0, none⟩ v0).setCell ⟨b, 1, none⟩ v1) :
    W.cell? ⟨b, 0, none⟩ = some v0 ∧ W.cell? ⟨b, 1, none⟩ = some v1 := by
  obtain ⟨h0, h1⟩ := h
  subst hW
  refine ⟨?_, ?_⟩ <;> simp [go_sem, World.cell?_setCell_other, World.cell?_setCell_same', h0, h1]
theorem setS2 {n : Nat} {w w1 : World} (h : Below n w w1) (b : Nat) (hb : n ≤ b) (v0 v1 : Value) : Below n w ((w1.setCell ⟨b, 0, none⟩ v0).setCell ⟨b, 1, none⟩ v1) :=
  (h.setCell hb _).setCell hb _
theorem putS2 {w1 : World} {b : Nat} (h : TwoS w1 b) (hb : b < w1.heap.size) (v0 v1 : Value) : TwoIs ((w1.setCell ⟨b, 0, none⟩ v0).setCell ⟨b, 1, none⟩ v1) b v0 v1 := by
  obtain ⟨r0, r1⟩ := readS2 h v0 v1 _ rfl
  exact ⟨r0, r1, by simpa [Go.Deep.nblk_setCell] using hb⟩
def FroC (w : World) (g : Nat) : Prop := ∀ o, w.frozen? ⟨g, o, none⟩ = false
theorem FroC.on {w w1 : World} {g : Nat} (h : FroC w g) (b : Below w.heap.size w w1) (hg : g < w.heap.size) : FroC w1 g := fun o => ((bcell b).2 g o hg).trans (h o)
theorem FroC.new (w : World) (a : Array Value) (t : TypeId) : FroC (w.alloc (.cells a t)) w.heap.size := fun o => by simp
theorem FroC.set {w : World} {g : Nat} (h : FroC w g) (p : Addr) (v : Value) : FroC (w.setCell p v) g := fun o => by rw [World.frozen?_setCell]; exact h o
theorem bcell' {B : Nat} {W w1 : World} (hb : Below B W w1) : (∀ b o, b < B → w1.cell? ⟨b, o, none⟩ = W.cell? ⟨b, o, none⟩) ∧ (∀ b o, b < B → w1.frozen? ⟨b, o, none⟩ = W.frozen? ⟨b, o, none⟩) :=
  ⟨fun b o h => hb.cell (p := ⟨b, o, none⟩) h, fun b o h => hb.frozen (p := ⟨b, o, none⟩) h⟩
theorem TwoIs.on' {w w1 : World} {g B : Nat} {a0 a1 : Value} (h : TwoIs w g a0 a1) (b : Below B w w1) (hg : g < B) : TwoIs w1 g a0 a1 := by
  obtain ⟨h0, h1, hl⟩ := h
  have hc := (bcell' b).1
  exact ⟨(hc _ _ hg).trans h0, (hc _ _ hg).trans h1, Nat.lt_of_lt_of_le hl b.size⟩
/-- one fault is before another -/
def betF (x m : Fa) : Bool := decide (x.a < m.a) || (x.a == m.a && decide (x.k < m.k))
def bst (l : List Fa) : Nat → Fa
  | 0 => l.getD 0 fa0
  | k + 1 => if betF (l.getD k fa0) (bst l k) = true then l.getD k fa0 else bst l k
theorem betF_self (x : Fa) : betF x x = false := by unfold betF; simp
theorem bst_one (l : List Fa) : bst l 1 = l.getD 0 fa0 := by
  show (if betF (l.getD 0 fa0) (bst l 0) = true then l.getD 0 fa0 else bst l 0) = _
  rw [show bst l 0 = l.getD 0 fa0 from rfl, betF_self]
  rfl
theorem bst_yes {l : List Fa} {k : Nat} {x m : Fa} (hx : l.getD k fa0 = x) (hm : bst l k = m) (h : betF x m = true) : bst l (k + 1) = x := by
  show (if betF (l.getD k fa0) (bst l k) = true then l.getD k fa0 else bst l k) = _
  rw [hx, hm, if_pos h]
theorem bst_no {l : List Fa} {k : Nat} {x m : Fa} (hx : l.getD k fa0 = x) (hm : bst l k = m) (h : betF x m = false) : bst l (k + 1) = m := by
  show (if betF (l.getD k fa0) (bst l k) = true then l.getD k fa0 else bst l k) = _
  rw [hx, hm, if_neg (by rw [h]; simp)]
/-- the four ways of the test -/
theorem bet_ways (x m : Fa) : (x.a < m.a ∧ betF x m = true) ∨ (m.a < x.a ∧ betF x m = false) ∨ (x.a = m.a ∧ x.k < m.k ∧ betF x m = true) ∨ (x.a = m.a ∧ m.k ≤ x.k ∧ betF x m = false) := by
  unfold betF
  rcases Int.lt_trichotomy x.a m.a with h | h | h
  · exact .inl ⟨h, by simp [h]⟩
  · rcases Int.lt_or_le x.k m.k with q | q
    · exact .inr (.inr (.inl ⟨h, q, by simp [h, q]⟩))
    · refine .inr (.inr (.inr ⟨h, q, ?_⟩))
      simp [h]; omega
  · refine .inr (.inl ⟨h, ?_⟩)
    have : ¬ x.a = m.a := by omega
    simp [this]; omega
theorem bet_cmp (x m : Fa) : decide (cmpF x m < 0) = betF x m := by
  have e1 : ∀ {a b : Int}, a < b → cmpI a b = -1 := fun h => cmpI_lt h
  unfold cmpF
  rcases bet_ways x m with ⟨h, e⟩ | ⟨h, e⟩ | ⟨h, q, e⟩ | ⟨h, q, e⟩ <;> rw [e]
  · rw [cmpI_lt h, if_neg (by decide)]; rfl
  · rw [cmpI_gt h, if_neg (by decide)]; rfl
  · rw [cmpI_eq h, if_pos rfl, cmpI_lt q]; rfl
  · rw [cmpI_eq h, if_pos rfl]
    rcases Int.lt_or_eq_of_le q with q | q
    · rw [cmpI_gt q]; rfl
    · rw [cmpI_eq q.symm]; rfl
def resE1 (l : List Fa) : Fa := if lsG7 l = true ∧ 0 < l.length then bst l l.length else fa0
def resE2 (l : List Fa) : Bool := lsG7 l && decide (0 < l.length)
theorem re_no {l : List Fa} (h : lsG7 l = false ∨ l.length = 0) : resE1 l = fa0 ∧ resE2 l = false := by
  unfold resE1 resE2
  rcases h with h | h
  · rw [h]; simp
  · rw [h]; simp
theorem re_yes {l : List Fa} (h : lsG7 l = true) (h0 : 0 < l.length) : resE1 l = bst l l.length ∧ resE2 l = true := by
  unfold resE1 resE2
  rw [if_pos ⟨h, h0⟩, h]; simp [h0]
def ErRel (W0 : World) (l : List Fa) (n gb : Nat) (i : Value) (wr : World) : Prop := ∃ k : Nat, k ≤ n ∧ i = .int .i64 k ∧ TwoIs wr gb (.int .i64 (bst l k).k) (.int .i64 (bst l k).a) ∧ FroC wr gb ∧ Below gb W0 wr
/-- a round that keeps the best -/
theorem er_keep {W0 wr : World} {gb : Nat} {a0 a1 : Value} (ht : TwoIs wr gb a0 a1) (hf : FroC wr gb) (hb : Below gb W0 wr) (o : Obj) : TwoIs (wr.alloc o) gb a0 a1 ∧ FroC (wr.alloc o) gb ∧ Below gb W0 (wr.alloc o) :=
  ⟨ht.on (one_new2 wr o), hf.on (one_new2 wr o) ht.2.2, hb.alloc (Nat.le_of_lt ht.2.2) o⟩
/-- a round that takes another one -/
theorem er_take {W0 wr : World} {gb : Nat} {a0 a1 : Value} (ht : TwoIs wr gb a0 a1) (hf : FroC wr gb) (hb : Below gb W0 wr) (o : Obj) (v0 v1 : Value) :
    TwoIs (((wr.setCell ⟨gb, 0, none⟩ v0).setCell ⟨gb, 1, none⟩ v1).alloc o) gb v0 v1 ∧ FroC (((wr.setCell ⟨gb, 0, none⟩ v0).setCell ⟨gb, 1, none⟩ v1).alloc o) gb ∧ Below gb W0 (((wr.setCell ⟨gb, 0, none⟩ v0).setCell ⟨gb, 1, none⟩ v1).alloc o) :=
  er_keep (putS2 ht.some ht.2.2 v0 v1) ((hf.set _ _).set _ _) (setS2 hb _ (Nat.le_refl _) v0 v1) o
def MnRel (W0 : World) (l : List Fa) (n gb : Nat) (i : Value) (wr : World) : Prop := ∃ k : Nat, 1 ≤ k ∧ k ≤ n ∧ i = .int .i64 k ∧ TwoIs wr gb (.int .i64 (bst l k).k) (.int .i64 (bst l k).a) ∧ FroC wr gb ∧ Below gb W0 wr
theorem mn_start (W0 : World) (a0 a1 : Value) (t : TypeId) (gb : Nat) (h : gb = W0.heap.size) : TwoIs (W0.alloc (.cells #[a0, a1] t)) gb a0 a1 ∧ FroC (W0.alloc (.cells #[a0, a1] t)) gb ∧ Below gb W0 (W0.alloc (.cells #[a0, a1] t)) := by
  subst h
  exact ⟨two_is W0 _ _ _, FroC.new W0 _ _, one_new2 W0 _⟩
set_option maxHeartbeats 12800000 in
theorem specEarliest_any (ad : Option Addr) (n cap : Nat) (l : List Fa) (w : World) (HI : Hid (InX w ad n (faCs l))) (hn : Hid (l.length = n)) (hm : n ≤ 1048576) :
    Calls Try.prog 13 #[.slice ad n cap] w (SaysT2 w (faV (resE1 l)) (.bool (resE2 l))) := by
  have HLI := Lib.hid (fun w h => erList_any ad n cap l w (Lib.hid (show InX w ad n (faCs l) from h)) hn hm)
  have T0 : TwoIs (w.alloc (Obj.cells #[.int .i64 0, .int .i64 0] 25)) w.heap.size (.int .i64 0) (.int .i64 0) := two_is w _ _ _
  have F0 := Lib.hid (FroC.new w #[.int .i64 0, .int .i64 0] 25)
  have T0' := Lib.hid T0
  clear T0
  have I1 := Lib.hid (HI.out.below (one_new2 w (Obj.cells #[.int .i64 0, .int .i64 0] 25)))
  cases hls : lsG7 l
  · obtain ⟨e1, e2⟩ := re_no (l := l) (.inl hls)
    rw [hls] at HLI
    rw [e1, e2]
    clear e1 e2 hls
    unfold faV fa0
    simp only
    go_enter Try.func13, Try.ntmps13
    go_wp2_with (go_at_call 28; refine (HLI.out _ I1.out).mono ?_; rintro e w1 ⟨rfl, b⟩; have B1 := Lib.hid ((one_new2 w _).trans (b.mono (by simp))); have T1 := Lib.hid (T0'.out.on b); obtain ⟨y0, y1, _⟩ := T1.out; have G1 := F0.out.on b (by simp); have z0 := G1 0; have z1 := G1 1; clear b G1)
    obtain ⟨r0, r1⟩ := readS2 T1.out.some (.int .i64 0) (.int .i64 0) _ rfl
    exact bodyPost_ret (v := .tuple #[.agg #[.int .i64 0, .int .i64 0], .bool false]) (by simp [results, Try.results13, go_sem, r0, r1]) rfl ⟨rfl, setS2 B1.out _ (Nat.le_refl _) _ _⟩
  rcases Nat.eq_zero_or_pos n with hz | hz
  · obtain ⟨e1, e2⟩ := re_no (l := l) (.inr (by rw [hn.out]; exact hz))
    rw [hls] at HLI
    rw [e1, e2]
    clear e1 e2 hls
    subst hz
    unfold faV fa0
    simp only
    go_enter Try.func13, Try.ntmps13
    go_wp2_with (go_at_call 28; refine (HLI.out _ I1.out).mono ?_; rintro e w1 ⟨rfl, b⟩; have B1 := Lib.hid ((one_new2 w _).trans (b.mono (by simp))); have T1 := Lib.hid (T0'.out.on b); obtain ⟨y0, y1, _⟩ := T1.out; have G1 := F0.out.on b (by simp); have z0 := G1 0; have z1 := G1 1; clear b G1)
    obtain ⟨r0, r1⟩ := readS2 T1.out.some (.int .i64 0) (.int .i64 0) _ rfl
    exact bodyPost_ret (v := .tuple #[.agg #[.int .i64 0, .int .i64 0], .bool false]) (by simp [results, Try.results13, go_sem, r0, r1]) rfl ⟨rfl, setS2 B1.out _ (Nat.le_refl _) _ _⟩
  · obtain ⟨e1, e2⟩ := re_yes hls (by rw [hn.out]; exact hz)
    have hl40 := (ls7 hls).2
    rw [hn.out] at hl40
    rw [hls] at HLI
    rw [hn.out] at e1
    rw [e1, e2]
    clear e1 e2 hls
    obtain ⟨R, hR⟩ : ∃ R, bst l n = R := ⟨_, rfl⟩
    have HR := Lib.hid hR
    rw [hR]
    clear hR
    obtain ⟨x0, hx0⟩ : ∃ x, l.getD 0 fa0 = x := ⟨_, rfl⟩
    have HB0 : Hid (bst l 0 = x0) := Lib.hid hx0
    have hx00 := Lib.hid hx0
    clear hx0
    have dz : ((n : Int) == 0) = false := by simp; omega
    obtain ⟨g, rfl, ht, hg⟩ := HI.out hz
    have HA1 := Lib.hid (fun w1 (b : Below (w.alloc (Obj.cells #[.int .i64 0, .int .i64 0] 25)).heap.size (w.alloc (Obj.cells #[.int .i64 0, .int .i64 0] 25)) w1) => ht.below ((one_new2 w (Obj.cells #[.int .i64 0, .int .i64 0] 25)).trans (b.mono (by simp))) hg)
    have h0l : Hid (0 < l.length) := Lib.hid (by rw [hn.out]; exact hz)
    obtain ⟨xk, xa⟩ := x0
    clear ht
    go_enter Try.func13, Try.ntmps13
    go_wp2_with (go_at_call 28; refine (HLI.out _ I1.out).mono ?_; rintro e w1 ⟨rfl, b⟩; have B1 := Lib.hid ((one_new2 w _).trans (b.mono (by simp))); have T1 := Lib.hid (T0'.out.on b); have G1 := Lib.hid (F0.out.on b (by simp)); have A1 := Lib.hid (HA1.out w1 b); obtain ⟨c0, c1⟩ := A1.out.fa 0 h0l.out _ hx00.out; rw [Nat.zero_mul] at c0 c1; clear b; simp only at c0 c1)
    have hgw : w.heap.size < w1.heap.size := T1.out.2.2
    go_loopw [21] (fun i wr => ErRel w1 l n w1.heap.size i wr) (fun i _ => n - (intOf i).toNat)
    case atStart => exact ⟨0, Nat.zero_le _, rfl, by rw [HB0.out]; exact two_is w1 _ _ _, FroC.new w1 _ _, one_new2 w1 _⟩
    case round =>
      obtain ⟨k, hk, rfl, ht, hf, hb⟩ := hrel
      have HT := Lib.hid ht
      have HF := Lib.hid hf
      have HB := Lib.hid hb
      by_cases hlt : k < n
      · obtain ⟨x, hx⟩ : ∃ x, l.getD k fa0 = x := ⟨_, rfl⟩
        obtain ⟨m, hm2⟩ : ∃ m, bst l k = m := ⟨_, rfl⟩
        have hl1 : k < l.length := by rw [hn.out]; exact hlt
        have hgl := Nat.lt_of_lt_of_le hg B1.out.size
        obtain ⟨p0, p1⟩ := (A1.out.below hb hgl).fa k hl1 x hx
        rw [hm2] at ht HT
        obtain ⟨q0, q1, q2⟩ := ht
        have g0 := hf 0
        have g1 := hf 1
        have HY := Lib.hid (fun h => bst_yes hx hm2 h)
        have HN := Lib.hid (fun h => bst_no hx hm2 h)
        have hw := bet_ways x m
        have HW := Lib.hid hw
        clear hw hx hm2 hb hf c0 c1
        rcases HW.out with ⟨h, e⟩ | ⟨h, e⟩ | ⟨h, q, e⟩ | ⟨h, q, e⟩
        all_goals
          first | have HZ := Lib.hid (HY.out e) | have HZ := Lib.hid (HN.out e)
          clear e HY HN HW
          obtain ⟨xk', xa'⟩ := x
          obtain ⟨mk, ma⟩ := m
          simp only at p0 p1 q0 q1 h HT
        · have d := is_lt h
          go_wp2_with fail
          go_roundw
          case rel => exact ⟨k + 1, by omega, by go_num, by rw [HZ.out]; exact er_take HT.out HF.out HB.out _ _ _⟩
          case measure => simp [intOf]; omega
        · have d := not_lt (Int.le_of_lt h)
          have d2 : (xa' == ma) = false := by simp; omega
          go_wp2_with fail
          go_roundw
          case rel => exact ⟨k + 1, by omega, by go_num, by rw [HZ.out]; exact er_keep HT.out HF.out HB.out _⟩
          case measure => simp [intOf]; omega
        · simp only at q
          subst h
          have d := not_lt (Int.le_refl xa')
          have d2 : (xa' == xa') = true := by simp
          have d3 := is_lt q
          go_wp2_with fail
          go_roundw
          case rel => exact ⟨k + 1, by omega, by go_num, by rw [HZ.out]; exact er_take HT.out HF.out HB.out _ _ _⟩
          case measure => simp [intOf]; omega
        · simp only at q
          subst h
          have d := not_lt (Int.le_refl xa')
          have d2 : (xa' == xa') = true := by simp
          have d3 := not_lt q
          go_wp2_with fail
          go_roundw
          case rel => exact ⟨k + 1, by omega, by go_num, by rw [HZ.out]; exact er_keep HT.out HF.out HB.out _⟩
          case measure => simp [intOf]; omega
      · have hkn : k = n := by omega
        subst hkn
        rw [HR.out] at ht HT
        obtain ⟨rk, ra⟩ := R
        obtain ⟨q0, q1, q2⟩ := ht
        have T2 := Lib.hid (T1.out.on' hb hgw)
        obtain ⟨y0, y1, _⟩ := T2.out
        have z := fun o => ((bcell' hb).2 w.heap.size o hgw).trans (G1.out o)
        have z0 := z 0
        have z1 := z 1
        have HB2 := Lib.hid (B1.out.trans (hb.mono (Nat.le_of_lt hgw)))
        clear hb hf c0 c1 z
        simp only at q0 q1
        go_wp2_with fail
        obtain ⟨r0, r1⟩ := readS2 T2.out.some (.int .i64 rk) (.int .i64 ra) _ rfl
        exact bodyPost_ret (v := .tuple #[.agg #[.int .i64 rk, .int .i64 ra], .bool true]) (by simp [results, Try.results13, go_sem, r0, r1]) rfl ⟨rfl, setS2 HB2.out _ (Nat.le_refl _) _ _⟩
set_option maxHeartbeats 12800000 in
theorem minFunc_any (ad : Option Addr) (n cap : Nat) (l : List Fa) (w : World) (HI : Hid (InX w ad n (faCs l))) (hn : Hid (l.length = n)) (hm : n ≤ 1048576) (hz : 0 < n) :
    Calls Try.prog 30 #[.slice ad n cap, .func (Fn.func 31) #[] #[]] w (SaysV w (faV (bst l n))) := by
  obtain ⟨R, hR⟩ : ∃ R, bst l n = R := ⟨_, rfl⟩
  have HR := Lib.hid hR
  rw [hR]
  clear hR
  obtain ⟨x0, hx0⟩ : ∃ x, l.getD 0 fa0 = x := ⟨_, rfl⟩
  have HB0 : Hid (bst l 1 = x0) := Lib.hid (by rw [bst_one]; exact hx0)
  obtain ⟨g, rfl, ht, hg⟩ := HI.out hz
  have h0l : 0 < l.length := by rw [hn.out]; exact hz
  have HA := Lib.hid ht
  have T0 : TwoIs (w.alloc (Obj.cells #[.int .i64 0, .int .i64 0] 25)) w.heap.size (.int .i64 0) (.int .i64 0) := two_is w _ _ _
  have F0 := Lib.hid (FroC.new w #[.int .i64 0, .int .i64 0] 25)
  have T0' := Lib.hid T0
  clear T0
  have HO : Hid (Below w.heap.size w (w.alloc (Obj.cells #[.int .i64 0, .int .i64 0] 25))) := Lib.hid (one_new2 w _)
  obtain ⟨c0, c1⟩ := ht.fa 0 h0l _ hx0
  rw [Nat.zero_mul] at c0 c1
  have cc0 := Lib.hid (fun o => (by rw [show (w.alloc o).cell? ⟨g, 0, none⟩ = w.cell? ⟨g, 0, none⟩ from (one_new2 w o).cell (p := ⟨g, 0, none⟩) hg]; exact c0 : (w.alloc o).cell? ⟨g, 0, none⟩ = some (.int .i64 x0.k)))
  have dn : ¬ (n : Int) < 1 := by omega
  have dn2 := not_lt (show (1 : Int) ≤ n by omega)
  clear hx0 h0l
  obtain ⟨xk, xa⟩ := x0
  simp only at c0 c1
  clear ht cc0
  go_enter Try.func30, Try.ntmps30
  go_wp2_with fail
  go_loopw [6] (fun i wr => MnRel (w.alloc (Obj.cells #[.int .i64 0, .int .i64 0] 25)) l n (w.heap.size + 1) i wr) (fun i _ => n - (intOf i).toNat)
  case atStart => exact ⟨1, Nat.le_refl _, hz, rfl, by rw [HB0.out]; exact mn_start _ _ _ _ _ (by simp)⟩
  case round =>
    obtain ⟨k, hk1, hk, rfl, ht, hf, hb⟩ := hrel
    have HT := Lib.hid ht
    have HF := Lib.hid hf
    have HB := Lib.hid hb
    by_cases hlt : k < n
    · obtain ⟨x, hx⟩ : ∃ x, l.getD k fa0 = x := ⟨_, rfl⟩
      obtain ⟨m, hm2⟩ : ∃ m, bst l k = m := ⟨_, rfl⟩
      have hl1 : k < l.length := by rw [hn.out]; exact hlt
      obtain ⟨p0, p1⟩ := (HA.out.below (HO.out.trans (hb.mono (by omega))) hg).fa k hl1 x hx
      rw [hm2] at ht HT
      obtain ⟨q0, q1, q2⟩ := ht
      have g0 := hf 0
      have g1 := hf 1
      have HC := Lib.hid (fun w => compareFaults_any x m w)
      have hd := bet_cmp x m
      have HY := Lib.hid (fun h => bst_yes hx hm2 h)
      have HN := Lib.hid (fun h => bst_no hx hm2 h)
      have hgr : g < wr.heap.size := Nat.lt_of_lt_of_le hg ((HO.out.trans (hb.mono (by omega))).size)
      have HPX : Hid (∀ w2, BX wr w2 → w2.cell? ⟨g, k * 2, none⟩ = some (.int .i64 x.k) ∧ w2.cell? ⟨g, k * 2 + 1, none⟩ = some (.int .i64 x.a)) := Lib.hid (fun w2 b => ⟨((bcell b).1 _ _ hgr).trans p0, ((bcell b).1 _ _ hgr).trans p1⟩)
      clear hx hm2 hb hf c0 c1
      generalize cmpF x m = c at HC hd
      cases hbt : betF x m
      all_goals
        rw [hbt] at hd
        first | have HZ := Lib.hid (HY.out hbt) | have HZ := Lib.hid (HN.out hbt)
        clear hbt HY HN
        obtain ⟨xk', xa'⟩ := x
        obtain ⟨mk, ma⟩ := m
        unfold faV at HC
        simp only at p0 p1 q0 q1 HT HC
        go_wp2_with fail
        refine wp_region_still_tail 6 (by kernel_rfl) (by kernel_rfl) ?_
        change wpStill _ _ (World.drew _) _ _ _
        simp only [List.take_succ_cons, List.take_zero, List.drop_succ_cons, List.drop_zero]
        repeat still_step
        refine wpStill_nil ?_
        change wpList _ _ _ _ _ (World.drew _)
      · go_wp2_with (go_at_call 31; refine (HC.out _).mono ?_; rintro e w2 ⟨rfl, b⟩; have X2 := Lib.hid ((BX.drew0 wr).call b); clear b)
        go_roundw
        case rel => exact ⟨k + 1, by omega, by omega, by go_num, by rw [HZ.out]; exact ⟨HT.out.on X2.out, HF.out.on X2.out q2, HB.out.trans (X2.out.mono (Nat.le_of_lt q2))⟩⟩
        case measure => simp [intOf]; omega
      · go_wp2_with (go_at_call 31; refine (HC.out _).mono ?_; rintro e w2 ⟨rfl, b⟩; have X2 := Lib.hid ((BX.drew0 wr).call b); obtain ⟨p2, p3⟩ := HPX.out w2 X2.out; have T2 := Lib.hid (HT.out.on X2.out); obtain ⟨q3, q4, q5⟩ := T2.out; have F2 := Lib.hid (HF.out.on X2.out q2); have g2 := F2.out 0; have g3 := F2.out 1; clear b)
        go_roundw
        case rel => exact ⟨k + 1, by omega, by omega, by go_num, by rw [HZ.out]; exact ⟨putS2 T2.out.some q5 _ _, (F2.out.set _ _).set _ _, setS2 (HB.out.trans (X2.out.mono (Nat.le_of_lt q2))) _ (Nat.le_refl _) _ _⟩⟩
        case measure => simp [intOf]; omega
    · have hkn : k = n := by omega
      subst hkn
      rw [HR.out] at ht HT
      obtain ⟨rk, ra⟩ := R
      obtain ⟨q0, q1, q2⟩ := ht
      have T2 := Lib.hid (T0'.out.on' hb (Nat.lt_succ_self _))
      obtain ⟨y0, y1, _⟩ := T2.out
      have z := fun o => ((bcell' hb).2 w.heap.size o (Nat.lt_succ_self _)).trans (F0.out o)
      have z0 := z 0
      have z1 := z 1
      have HB2 := Lib.hid (HO.out.trans (hb.mono (Nat.le_succ _)))
      clear hb hf c0 c1 z
      simp only at q0 q1
      go_wp2_with fail
      obtain ⟨r0, r1⟩ := readS2 T2.out.some (.int .i64 rk) (.int .i64 ra) _ rfl
      exact bodyPost_ret (v := .agg #[.int .i64 rk, .int .i64 ra]) (by simp [results, Try.results30, go_sem, r0, r1]) rfl ⟨rfl, setS2 HB2.out _ (Nat.le_refl _) _ _⟩
set_option maxHeartbeats 6400000 in
theorem implEarliest_any (ad : Option Addr) (n cap : Nat) (l : List Fa) (w : World) (HI : Hid (InX w ad n (faCs l))) (hn : Hid (l.length = n)) (hm : n ≤ 1048576) :
    Calls Try.prog 15 #[.slice ad n cap] w (SaysT2 w (faV (resE1 l)) (.bool (resE2 l))) := by
  have HLI := Lib.hid (fun w h => areFaults_any ad n cap l w (Lib.hid (show InX w ad n (faCs l) from h)) hn hm)
  have T0 : TwoIs (w.alloc (Obj.cells #[.int .i64 0, .int .i64 0] 25)) w.heap.size (.int .i64 0) (.int .i64 0) := two_is w _ _ _
  have F0 := Lib.hid (FroC.new w #[.int .i64 0, .int .i64 0] 25)
  have T0' := Lib.hid T0
  have I1 := Lib.hid (HI.out.below (one_new2 w (Obj.cells #[.int .i64 0, .int .i64 0] 25)))
  rcases Nat.eq_zero_or_pos n with hz | hz
  · obtain ⟨e1, e2⟩ := re_no (l := l) (.inr (by rw [hn.out]; exact hz))
    rw [e1, e2]
    clear e1 e2 T0 I1 HLI HI
    subst hz
    unfold faV fa0
    simp only
    obtain ⟨y0, y1, _⟩ := T0'.out
    have z0 := F0.out 0
    have z1 := F0.out 1
    go_enter Try.func15, Try.ntmps15
    go_wp2_with fail
    obtain ⟨r0, r1⟩ := readS2 T0'.out.some (.int .i64 0) (.int .i64 0) _ rfl
    exact bodyPost_ret (v := .tuple #[.agg #[.int .i64 0, .int .i64 0], .bool false]) (by simp [results, Try.results15, go_sem, r0, r1]) rfl ⟨rfl, one_new2 w _⟩
  have dz : ((n : Int) == 0) = false := by simp; omega
  clear T0
  cases hls : lsG7 l
  · obtain ⟨e1, e2⟩ := re_no (l := l) (.inl hls)
    rw [hls] at HLI
    rw [e1, e2]
    clear e1 e2 hls
    unfold faV fa0
    simp only
    go_enter Try.func15, Try.ntmps15
    go_wp2_with (go_at_call 29; refine (HLI.out _ I1.out).mono ?_; rintro e w1 ⟨rfl, b⟩; have B1 := Lib.hid ((one_new2 w _).trans (b.mono (by simp))); have T1 := Lib.hid (T0'.out.on b); obtain ⟨y0, y1, _⟩ := T1.out; have G1 := F0.out.on b (by simp); have z0 := G1 0; have z1 := G1 1; clear b G1)
    obtain ⟨r0, r1⟩ := readS2 T1.out.some (.int .i64 0) (.int .i64 0) _ rfl
    exact bodyPost_ret (v := .tuple #[.agg #[.int .i64 0, .int .i64 0], .bool false]) (by simp [results, Try.results15, go_sem, r0, r1]) rfl ⟨rfl, setS2 B1.out _ (Nat.le_refl _) _ _⟩
  · obtain ⟨e1, e2⟩ := re_yes hls (by rw [hn.out]; exact hz)
    have HM := Lib.hid (fun w h => minFunc_any ad n cap l w (Lib.hid (show InX w ad n (faCs l) from h)) hn hm hz)
    rw [hls] at HLI
    rw [hn.out] at e1
    rw [e1, e2]
    clear e1 e2 hls
    generalize bst l n = R at HM ⊢
    obtain ⟨rk, ra⟩ := R
    unfold faV at HM ⊢
    simp only at HM ⊢
    go_enter Try.func15, Try.ntmps15
    go_wp2_with (go_at_call 29; refine (HLI.out _ I1.out).mono ?_; rintro e w1 ⟨rfl, b⟩; have B1 := Lib.hid ((one_new2 w _).trans (b.mono (by simp))); have T1 := Lib.hid (T0'.out.on b); have G1 := Lib.hid (F0.out.on b (by simp)); have J1 := Lib.hid (HI.out.below B1.out); clear b)
    go_wp2_with (go_at_call 30; refine (HM.out _ J1.out).mono ?_; rintro e w2 ⟨rfl, b⟩; have B2 := Lib.hid (BX.call B1.out b); have T2 := Lib.hid (T1.out.on b); obtain ⟨y0, y1, _⟩ := T2.out; have G2 := G1.out.on b T1.out.2.2; have z0 := G2 0; have z1 := G2 1; clear b G2)
    obtain ⟨r0, r1⟩ := readS2 T2.out.some (.int .i64 rk) (.int .i64 ra) _ rfl
    exact bodyPost_ret (v := .tuple #[.agg #[.int .i64 rk, .int .i64 ra], .bool true]) (by simp [results, Try.results15, go_sem, r0, r1]) rfl ⟨rfl, setS2 B2.out _ (Nat.le_refl _) _ _⟩
end Go.Proofs.Ytdfkehgkonadhaa
