/- Attributes in memory: rows of attributes, arguments opened, measured, lists made of arguments and compared. -/
import Derived.Test.YthflehdboccloaaOpn
import Derived.Test.YthflehdboccloaaBxw
import Derived.Test.YthflehdboccloaaAtp
import Derived.LoopTactic
import Derived.ChangeArms
namespace Go.Proofs.Ythflehdboccloaa
open Go.RowKit
set_option linter.unusedVariables false
set_option maxRecDepth 100000

def atC (x : At) : List Value := [.int .i64 x.d, .int .i64 x.t, .bool x.n, .string x.s]
def atV (x : At) : Value := .agg #[.int .i64 x.d, .int .i64 x.t, .bool x.n, .string x.s]
def atCs (l : List At) : List Value := l.flatMap atC
theorem atCs_cons (x : At) (r : List At) : atCs (x :: r) = atC x ++ atCs r := by simp [atCs]
theorem atCs_append (l m : List At) : atCs (l ++ m) = atCs l ++ atCs m := by simp [atCs]
theorem atCs_length (l : List At) : (atCs l).length = l.length * 4 := by
  unfold atCs
  induction l with
  | nil => rfl
  | cons x r ih => simp [atC] at *; omega
theorem atCs_get : ∀ (l : List At) (i j : Nat), j < 4 → i < l.length → (atCs l)[i * 4 + j]? = (atC (gA l i))[j]?
  | [], i, j, _, h => absurd h (by simp)
  | x :: r, 0, j, hj, _ => by
    rw [atCs_cons, List.getElem?_append_left (by simp [atC]; omega)]
    simp [gA]
  | x :: r, i + 1, j, hj, h => by
    have e : (i + 1) * 4 + j - (atC x).length = i * 4 + j := by simp [atC]; omega
    have g : gA (x :: r) (i + 1) = gA r i := by simp [gA]
    rw [atCs_cons, List.getElem?_append_right (by simp [atC]; omega), e, g, atCs_get r i j hj (by simpa using h)]
/-- the cells of an attribute of a row -/
def Atr4 (w : World) (g o : Nat) (x : At) : Prop := w.cell? ⟨g, o, none⟩ = some (.int .i64 x.d) ∧ w.cell? ⟨g, o + 1, none⟩ = some (.int .i64 x.t) ∧ w.cell? ⟨g, o + 2, none⟩ = some (.bool x.n) ∧ w.cell? ⟨g, o + 3, none⟩ = some (.string x.s)
theorem AtC.atr {w : World} {g : Nat} {l : List At} (h : AtC w g (atCs l)) (k : Nat) (hk : k < l.length) (x : At) (hx : gA l k = x) : Atr4 w g (k * 4) x := by
  subst hx
  have q := fun j (hj : j < 4) => atCs_get l k j hj hk
  exact ⟨h.at _ ((q 0 (by decide)).trans rfl), h.at _ ((q 1 (by decide)).trans rfl), h.at _ ((q 2 (by decide)).trans rfl), h.at _ ((q 3 (by decide)).trans rfl)⟩
theorem OffC.atr {w : World} {b off : Nat} {l : List At} (h : OffC w b off (atCs l)) (k : Nat) (hk : k < l.length) (x : At) (hx : gA l k = x) : Atr4 w b (off + k * 4) x := by
  subst hx
  have q := fun j (hj : j < 4) => atCs_get l k j hj hk
  exact ⟨h.at _ ((q 0 (by decide)).trans rfl), h.at _ ((q 1 (by decide)).trans rfl), h.at _ ((q 2 (by decide)).trans rfl), h.at _ ((q 3 (by decide)).trans rfl)⟩
def SzM (l : List At) : Prop := ∀ k, k < l.length → (gA l k).s.size ≤ 9223372036854775807
section
open Go.Joins Go.ChangeShapes Go.WideShapes Go.Deep
variable {H : Type} {enc : TypeId × Value → H} {w : World} {base : Nat} {spare : Nat → Bool} {held : Bool}
theorem open_ats {fuel : Nat} {cs : List Value} {x : DataW H × List MemPlace} (h : DataW.trod enc Try.prog w base spare held fuel 22 cs = some x) :
    ∃ (a : Option Addr) (len cap : Nat) (l : List At), cs = [.slice a len cap] ∧ len ≤ maxLen ∧ l.length = len ∧ ArgX w a len (atCs l) ∧ SzM l := by
  rcases open_slice Try.underlying22 h with ⟨h0, _⟩ | ⟨a, len, cap, m, n, D, Pl, hcs, hb, hl, hm, hmm, hx, hi⟩
  · exact ⟨none, 0, 0, [], h0, Nat.zero_le _, rfl, fun h => absurd h (by omega), fun i hi => absurd hi (by simp)⟩
  · have hC : Try.prog.cellsOf 55 = 4 := by kernel_rfl
    have hlm : len ≤ m := by rw [hmm]; split <;> omega
    have each : ∀ i : Nat, ∃ y : At, i < len → (y.s.size ≤ maxLen ∧ ∀ j, j < 4 → w.cell? (a.add (i * 4 + j)) = (atC y)[j]?) := by
      intro i
      by_cases hil : i < len
      · obtain ⟨cs', hc, ht⟩ := hi i (by omega)
        rw [hC] at hc
        obtain ⟨_, hcl, hat⟩ := World.cells?_some hc
        obtain ⟨y0, y1, y2, y3, n', _, _, h0, h1, h2, h3⟩ := trod_struct4 Try.underlying55 ht
        match cs', hcl with
        | [c0, c1, c2, c3], _ =>
          obtain ⟨k, e0, _, w0⟩ := DataW.trod_int (P := Try.prog) (t := 3) Try.underlying3 (show DataW.trod enc Try.prog w base spare held n' 3 [c0] = some y0 from h0)
          obtain ⟨p, e1, _, w1⟩ := DataW.trod_int (P := Try.prog) (t := 3) Try.underlying3 (show DataW.trod enc Try.prog w base spare held n' 3 [c1] = some y1 from h1)
          obtain ⟨v, e2, _⟩ := DataW.trod_bool (P := Try.prog) (t := 4) Try.underlying4 (show DataW.trod enc Try.prog w base spare held n' 4 [c2] = some y2 from h2)
          obtain ⟨s, e3, _, w3⟩ := DataW.trod_string (P := Try.prog) (t := 9) Try.underlying9 (show DataW.trod enc Try.prog w base spare held n' 9 [c3] = some y3 from h3)
          obtain rfl := (List.cons.inj e0).1
          obtain rfl := (List.cons.inj e1).1
          obtain rfl := (List.cons.inj e2).1
          obtain rfl := (List.cons.inj e3).1
          refine ⟨⟨k, p, v, s⟩, fun _ => ⟨w3, fun j hj => ?_⟩⟩
          rw [← add_add, hat j hj]
          rfl
      · exact ⟨at0, fun h => absurd h hil⟩
    obtain ⟨f, hf⟩ := Classical.axiomOfChoice each
    have hlen : ((List.range len).map f).length = len := by simp
    have hget : ∀ i, i < len → gA ((List.range len).map f) i = f i := fun i hil => by simp [gA, List.getD_eq_getElem?_getD, hil]
    refine ⟨some a, len, cap, (List.range len).map f, hcs, Nat.le_trans hl hm, hlen, fun hn => ?_, fun i hil => ?_⟩
    · obtain ⟨b, off, spot⟩ := a
      have h00 := (hf 0 hn).2 0 (by decide)
      have hspot : spot = none := World.cell?_spot (show w.cell? ⟨b, off, spot⟩ = some (.int .i64 (f 0).d) from h00)
      subst hspot
      refine ⟨b, off, rfl, fun j hj => ?_, World.block_lt_of_cell? w ⟨b, off + (0 * 4 + 0), none⟩ (by rw [← add_plain]; exact h00)⟩
      rw [atCs_length, hlen] at hj
      have q := (hf (j / 4) (by omega)).2 (j % 4) (by omega)
      rw [show j / 4 * 4 + j % 4 = j by omega, add_plain] at q
      have g := atCs_get ((List.range len).map f) (j / 4) (j % 4) (by omega) (by rw [hlen]; omega)
      rw [show j / 4 * 4 + j % 4 = j by omega, hget _ (by omega)] at g
      rw [q, g]
    · rw [hlen] at hil
      rw [hget i hil]
      exact (hf i hil).1
end
theorem infoAt : (Try.prog.info? 56).map (fun i => (i.zero, i.size, i.bytes)) = some (some (.agg #[.int .i64 0, .int .i64 0, .bool false, .string ⟨#[]⟩]), 4, 40) := by kernel_rfl
theorem set_at {n : Nat} {w w1 : World} (h : Below n w w1) (b : Nat) (hb : n ≤ b) (j0 j1 j2 j3 : Nat) (v0 v1 v2 v3 : Value) : Below n w ((((w1.setCell ⟨b, j0, none⟩ v0).setCell ⟨b, j1, none⟩ v1).setCell ⟨b, j2, none⟩ v2).setCell ⟨b, j3, none⟩ v3) := (((h.setCell hb _).setCell hb _).setCell hb _).setCell hb _
theorem got_at {l : List At} {xs : List Value} {k n : Nat} (h : GotX (atCs l) xs (k * 4)) (hl : xs.length = n * 4) (hk : k < n) (hn : l.length = n) (x : At) (hx : gA l k = x) :
    GotX (atCs l) ((((xs.set (k * 4) (.int .i64 x.d)).set (k * 4 + 1) (.int .i64 x.t)).set (k * 4 + 2) (.bool x.n)).set (k * 4 + 3) (.string x.s)) ((k + 1) * 4) := by
  intro m hm
  by_cases hmk : m < k * 4
  · rw [List.getElem?_set_ne (by omega), List.getElem?_set_ne (by omega), List.getElem?_set_ne (by omega), List.getElem?_set_ne (by omega)]
    exact h m hmk
  · obtain ⟨j, hj, hm2⟩ : ∃ j, j < 4 ∧ m = k * 4 + j := ⟨m - k * 4, by omega, by omega⟩
    have q := atCs_get l k j hj (by omega)
    rw [← hm2, hx] at q
    rw [q]
    match j, hj with
    | 0, _ => rw [hm2]; simp [List.getElem?_set, atC]; omega
    | 1, _ => rw [hm2]; simp [List.getElem?_set, atC]; omega
    | 2, _ => rw [hm2]; simp [List.getElem?_set, atC]; omega
    | 3, _ => rw [hm2]; simp [List.getElem?_set, atC]; omega
/-- a boxed attribute keeps its cells -/
def AtrIs (w : World) (g : Nat) (x : At) : Prop := Atr4 w g 0 x ∧ g < w.heap.size
theorem AtrIs.on {w w1 : World} {g : Nat} {x : At} (h : AtrIs w g x) (b : Below w.heap.size w w1) : AtrIs w1 g x := by
  obtain ⟨⟨h0, h1, h2, h3⟩, hg⟩ := h
  have hc := (bcell b).1
  exact ⟨⟨(hc _ _ hg).trans h0, (hc _ _ hg).trans h1, (hc _ _ hg).trans h2, (hc _ _ hg).trans h3⟩, Nat.lt_of_lt_of_le hg b.size⟩
set_option maxHeartbeats 1600000 in
theorem toAttr_any (x : At) (w : World) :
    Calls Try.prog 48 #[atV x] w (SaysV w (atV x)) := by
  obtain ⟨xd, xt, xn, xs⟩ := x
  unfold atV
  simp only
  go_enter Try.func48, Try.ntmps48
  go_wp2
  exact bodyPost_ret (v := .agg #[.int .i64 xd, .int .i64 xt, .bool xn, .string xs]) (by simp [results, Try.results48, go_sem]) rfl ⟨rfl, (two_new _ _ _).alloc (by simp; omega) _⟩
set_option maxHeartbeats 1600000 in
theorem eqAttr_same (x : At) (w : World) :
    Calls Try.prog 51 #[atV x, atV x] w (SaysB w true) := by
  obtain ⟨xd, xt, xn, xs⟩ := x
  unfold atV
  simp only
  cases xn
  all_goals
    go_enter Try.func51, Try.ntmps51
    go_wp2
    go_ret
    exact ⟨rfl, two_new _ _ _⟩
def atRel (w : World) (l : List At) (n : Nat) (i : Value) (wr : World) : Prop :=
  ∃ (k : Nat) (xs : List Value), k ≤ n ∧ i = .int .i64 k ∧ wr.ownsRow w.heap.size 56 4 (.slice (some ⟨w.heap.size, 0, none⟩) n n) n xs ∧ Below w.heap.size w wr ∧ GotX (atCs l) xs (k * 4)
def SaysAtS (w : World) (l : List At) (e : Ending) (w' : World) : Prop := e = .returned (.slice (some ⟨w.heap.size, 0, none⟩) l.length l.length) ∧ Below w.heap.size w w' ∧ w'.ownsRow w.heap.size 56 4 (.slice (some ⟨w.heap.size, 0, none⟩) l.length l.length) l.length (atCs l)
set_option maxHeartbeats 6400000 in
theorem toAttrS_any (ad : Option Addr) (n c : Nat) (l : List At) (w : World) (HI : Hid (ArgX w ad n (atCs l))) (hn : Hid (l.length = n)) (hm : n ≤ 1048576) :
    Calls Try.prog 16 #[.slice ad n c] w (SaysAtS w l) := by
  obtain ⟨i0, hi, hz0, hz1, hz2⟩ := info_parts infoAt
  have H0 : GotX (atCs l) (madeCells (Value.agg #[.int .i64 0, .int .i64 0, .bool false, .string ⟨#[]⟩]).cells (n * 4)).toList (0 * 4) := fun j hj => absurd hj (by omega)
  have HG0 := Lib.hid H0
  clear H0
  go_enter Try.func16, Try.ntmps16
  go_wp2_with (at_make; refine wpList_make_full _ rfl _ _ 25 rfl w.heap.size 56 i0 (.agg #[.int .i64 0, .int .i64 0, .bool false, .string ⟨#[]⟩]) 4 Try.underlying25 hi hz0 hz1 .i64 .i64 _ _ n rfl rfl (by omega) (by omega) (by rw [hz2]; omega) (by unfold maxLen; omega) (Nat.le_refl _) ?_; intro w0 hown0 hgrow0; have HO := Lib.hid hown0; clear hown0)
  go_loopw [4] (fun i wr => atRel w l n i wr) (fun i _ => n - (intOf i).toNat)
  case atStart => exact ⟨0, _, Nat.zero_le _, rfl, HO.out, (Below.refl _ _).grown hgrow0 (Nat.le_refl _) (by intro k h; cases h), HG0.out⟩
  case round =>
    obtain ⟨k, xs, hk, rfl, ho, hb, hg⟩ := hrel
    have HO1 := Lib.hid ho
    have HB1 := Lib.hid hb
    have HG := Lib.hid hg
    clear hg hgrow0
    by_cases hlt : k < n
    · obtain ⟨b, off, rfl, HR, hbw⟩ := HI.out (by omega)
      obtain ⟨x, hx⟩ : ∃ x, gA l k = x := ⟨_, rfl⟩
      have hl1 : k < l.length := by rw [hn.out]; exact hlt
      obtain ⟨a0, a1, a2, a3⟩ := (HR.below hb hbw).atr k hl1 x hx
      have HX := Lib.hid (got_at HG.out ho.1 hlt hn.out x hx)
      have HS : Hid (∀ w, Calls Try.prog 48 #[atV x] w (SaysV w (atV x))) := Lib.hid (fun w => toAttr_any x w)
      obtain ⟨xd, xt, xn, xs⟩ := x
      unfold atV at HS
      simp only at HS a0 a1 a2 a3
      clear hb hx hl1 ho HR
      go_wp2_with (go_at_call 48; refine (HS.out _).mono ?_; rintro e w1 ⟨rfl, b1⟩; have B1 := Lib.hid b1; have O1 := Lib.hid (own_low HO1.out b1 (Nat.le_refl _)); obtain ⟨u0, c0⟩ := own_cell O1.out (k * 4) (by omega); obtain ⟨u1, c1⟩ := own_cell O1.out (k * 4 + 1) (by omega); obtain ⟨u2, c2⟩ := own_cell O1.out (k * 4 + 2) (by omega); obtain ⟨u3, c3⟩ := own_cell O1.out (k * 4 + 3) (by omega); have f0 := World.ownsRow.frozenAt O1.out (k * 4); have f1 := World.ownsRow.frozenAt O1.out (k * 4 + 1); have f2 := World.ownsRow.frozenAt O1.out (k * 4 + 2); have f3 := World.ownsRow.frozenAt O1.out (k * 4 + 3); clear b1)
      go_roundw
      case rel => exact ⟨k + 1, _, by omega, by go_num, own_store (own_store (own_store (own_store O1.out _ _) _ _) _ _) _ _, set_at (HB1.out.trans (B1.out.mono HB1.out.size)) _ (Nat.le_refl _) _ _ _ _ _ _ _ _, HX.out⟩
      case measure => simp [intOf]; omega
    · have hkn : k = n := by omega
      subst hkn
      clear hb
      go_wp2_with fail
      go_ret
      have e := got_all (ys := atCs l) (xs := xs) (by rw [atCs_length, hn.out]; exact HG.out) (by rw [atCs_length, hn.out]; exact ho.1)
      subst e
      exact ⟨by rw [hn.out]; rfl, HB1.out, by rw [hn.out]; exact HO1.out⟩
def EqAtRel (w : World) (n : Nat) (i : Value) (wr : World) : Prop := ∃ k : Nat, k ≤ n ∧ i = .int .i64 k ∧ Below w.heap.size w wr
theorem eqAttrS_none (a b : Option Addr) (ca cb : Nat) (w : World) :
    Calls Try.prog 18 #[.slice a 0 ca, .slice b 0 cb] w (SaysB w true) := by
  go_enter Try.func18, Try.ntmps18
  go_wp2
  refine wp_loop_rounds 1 ?_
  rw [rounds_succ]
  go_wp2
  go_ret
  exact ⟨rfl, Below.refl _ _⟩
set_option maxHeartbeats 3200000 in
theorem eqAttrS_go (ga gb n ca cb : Nat) (l : List At) (w : World) (HA : Hid (AtC w ga (atCs l))) (HB : Hid (AtC w gb (atCs l))) (hn : Hid (l.length = n)) (hga : ga < w.heap.size) (hgb : gb < w.heap.size) (hm : n ≤ 1048576) :
    Calls Try.prog 18 #[.slice (some ⟨ga, 0, none⟩) n ca, .slice (some ⟨gb, 0, none⟩) n cb] w (SaysB w true) := by
  go_enter Try.func18, Try.ntmps18
  go_wp2_with fail
  go_loopw [5] (fun i wr => EqAtRel w n i wr) (fun i _ => n - (intOf i).toNat)
  case atStart => exact ⟨0, Nat.zero_le _, rfl, Below.refl _ _⟩
  case round =>
    obtain ⟨k, hk, rfl, hb⟩ := hrel
    have HR := Lib.hid hb
    by_cases hlt : k < n
    · obtain ⟨x, hx⟩ : ∃ x, gA l k = x := ⟨_, rfl⟩
      obtain ⟨a0, a1, a2, a3⟩ := (HA.out.below hb hga).atr k (by rw [hn.out]; exact hlt) x hx
      obtain ⟨b0, b1, b2, b3⟩ := (HB.out.below hb hgb).atr k (by rw [hn.out]; exact hlt) x hx
      have HS := Lib.hid (fun w => eqAttr_same x w)
      obtain ⟨xd, xt, xn, xs⟩ := x
      unfold atV at HS
      simp only at HS a0 a1 a2 a3 b0 b1 b2 b3
      clear hb hx
      go_wp2_with fail
      go_region_with (go_at_call 51; refine (HS.out _).mono ?_; rintro e w1 ⟨rfl, b1⟩; have B1 := Lib.hid b1; clear b1)
      all_goals
        go_wp2
        go_roundw
        case rel => exact ⟨k + 1, by omega, by go_num, (show Below w.heap.size w wr.drew from below_drewN HR.out 1).trans (B1.out.mono (show w.heap.size ≤ wr.heap.size from HR.out.size))⟩
        case measure => simp [intOf]; omega
    · go_wp2_with fail
      go_ret
      exact ⟨rfl, HR.out⟩
theorem eqAttrS_any (a b : Option Addr) (n ca cb : Nat) (l : List At) (w : World) (HA : Hid (InX w a n (atCs l))) (HB : Hid (InX w b n (atCs l))) (hn : Hid (l.length = n)) (hm : n ≤ 1048576) :
    Calls Try.prog 18 #[.slice a n ca, .slice b n cb] w (SaysB w true) := by
  rcases Nat.eq_zero_or_pos n with h0 | h0
  · subst h0; exact eqAttrS_none a b ca cb w
  · obtain ⟨ga, rfl, ha, hga⟩ := HA.out h0
    obtain ⟨gb, rfl, hb, hgb⟩ := HB.out h0
    exact eqAttrS_go ga gb n ca cb l w ha hb hn hga hgb hm
def lessA (n : Int) (s : ByteArray) : Int := if n - s.size < 0 then -1 else n - s.size
set_option maxHeartbeats 800000 in
theorem szAttr_any (x : At) (n : Int) (w : World) (hs : x.s.size ≤ 9223372036854775807) (h0 : 0 ≤ n) (h1 : n ≤ 1048576) :
    Calls Try.prog 46 #[atV x, .int .i64 n] w (SaysI w (lessA n x.s)) := by
  obtain ⟨xd, xt, xn, s⟩ := x
  unfold atV
  simp only at hs ⊢
  by_cases h : n - s.size < 0
  · have d := is_lt h
    have e : lessA n s = -1 := if_pos h
    rw [e]
    clear e h
    go_enter Try.func46, Try.ntmps46
    go_wp2
    go_ret
    exact ⟨rfl, one_new2 _ _⟩
  · have d := not_lt (Int.not_lt.1 h)
    have e : lessA n s = n - s.size := if_neg h
    rw [e]
    clear e h
    go_enter Try.func46, Try.ntmps46
    go_wp2
    go_ret
    exact ⟨rfl, one_new2 _ _⟩
/-- a measure of a list -/
def SaysZ (w : World) (n : Nat) (e : Ending) (w' : World) : Prop := ∃ r : Int, e = .returned (.int .i64 r) ∧ Below w.heap.size w w' ∧ (0 ≤ r → n ≤ 1048576)
def ZRel (w : World) (n : Nat) (i m : Value) (wr : World) : Prop := ∃ (k : Nat) (r : Int), k ≤ n ∧ i = .int .i64 k ∧ m = .int .i64 r ∧ 0 ≤ r ∧ r ≤ 1048576 ∧ Below w.heap.size w wr
set_option maxHeartbeats 3200000 in
theorem szAttrS_any (ad : Option Addr) (n c : Nat) (l : List At) (w : World) (HI : Hid (ArgX w ad n (atCs l))) (hn : Hid (l.length = n)) (HM : Hid (SzM l)) (hm : n ≤ 9223372036854775807) :
    Calls Try.prog 14 #[.slice ad n c, .int .i64 1048576] w (SaysZ w n) := by
  by_cases h : 1048576 < n
  · have d : decide ((1048576 : Int) - (n : Int) < 0) = true := is_lt (by omega)
    go_enter Try.func14, Try.ntmps14
    go_wp2
    go_ret
    exact ⟨-1, rfl, Below.refl _ _, fun h => absurd h (by omega)⟩
  have d : decide ((1048576 : Int) - (n : Int) < 0) = false := not_lt (by omega)
  go_enter Try.func14, Try.ntmps14
  go_wp2_with fail
  go_loopw [5, 1] (fun i m wr => ZRel w n i m wr) (fun i _ _ => n - (intOf i).toNat)
  case atStart => exact ⟨0, 1048576 - n, Nat.zero_le _, rfl, rfl, by omega, by omega, Below.refl _ _⟩
  case round =>
    obtain ⟨k, r, hk, rfl, rfl, hr0, hr1, hb⟩ := hrel
    have HR := Lib.hid hb
    by_cases hlt : k < n
    · obtain ⟨b, off, rfl, HT, hbw⟩ := HI.out (by omega)
      obtain ⟨x, hx⟩ : ∃ x, gA l k = x := ⟨_, rfl⟩
      have hl1 : k < l.length := by rw [hn.out]; exact hlt
      obtain ⟨a0, a1, a2, a3⟩ := (HT.below hb hbw).atr k hl1 x hx
      have hxm := HM.out k hl1
      rw [hx] at hxm
      have HS := Lib.hid (fun w => szAttr_any x r w hxm hr0 hr1)
      obtain ⟨xd, xt, xn, xs⟩ := x
      unfold atV at HS
      simp only at HS a0 a1 a2 a3 hxm
      clear hb hx hl1 HT
      by_cases h : r - xs.size < 0
      · have e : lessA r xs = -1 := if_pos h
        rw [e] at HS
        clear e h hxm
        go_wp2_with (go_at_call 46; refine (HS.out _).mono ?_; rintro e w1 ⟨rfl, b1⟩; have B1 := Lib.hid b1; clear b1)
        go_ret
        exact ⟨-1, rfl, HR.out.trans (B1.out.mono HR.out.size), fun h => absurd h (by omega)⟩
      · have e : lessA r xs = r - xs.size := if_neg h
        have d2 := not_lt (Int.not_lt.1 h)
        have h4 : 0 ≤ r - xs.size ∧ r - xs.size ≤ 1048576 := by omega
        have H34 := Lib.hid h4
        rw [e] at HS
        clear e h h4 hxm
        go_wp2_with (go_at_call 46; refine (HS.out _).mono ?_; rintro e w1 ⟨rfl, b1⟩; have B1 := Lib.hid b1; clear b1)
        go_roundw
        case rel => exact ⟨k + 1, r - xs.size, by omega, by go_num, rfl, H34.out.1, H34.out.2, HR.out.trans (B1.out.mono HR.out.size)⟩
        case measure => simp [intOf]; omega
    · go_wp2_with fail
      go_ret
      exact ⟨r, rfl, HR.out, fun _ => by omega⟩
end Go.Proofs.Ythflehdboccloaa
