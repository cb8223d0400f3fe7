/- Curves in memory: rows of curves, arguments opened, lists made of arguments and compared. -/
import Derived.Test.YteogadbjnmcblaaCva
import Derived.Test.YteogadbjnmcblaaOpn
import Derived.Test.YteogadbjnmcblaaBxw
import Derived.LoopTactic
namespace Go.Proofs.Yteogadbjnmcblaa
open Go.RowKit
set_option linter.unusedVariables false

def cvC (x : Cv) : List Value := [.int .i64 x.f, .int .i64 x.l, .int .i64 x.s]
def cvV (x : Cv) : Value := .agg #[.int .i64 x.f, .int .i64 x.l, .int .i64 x.s]
def cvCs (l : List Cv) : List Value := l.flatMap cvC
theorem cvCs_cons (x : Cv) (r : List Cv) : cvCs (x :: r) = cvC x ++ cvCs r := by simp [cvCs]
theorem cvCs_append (l m : List Cv) : cvCs (l ++ m) = cvCs l ++ cvCs m := by simp [cvCs]
theorem cvCs_length (l : List Cv) : (cvCs l).length = l.length * 3 := by
  unfold cvCs
  induction l with
  | nil => rfl
  | cons x r ih => simp [cvC] at *; omega
theorem cvCs_get : ∀ (l : List Cv) (i j : Nat), j < 3 → i < l.length → (cvCs l)[i * 3 + j]? = (cvC (l.getD i cv0))[j]?
  | [], i, j, _, h => absurd h (by simp)
  | x :: r, 0, j, hj, _ => by
    rw [cvCs_cons, List.getElem?_append_left (by simp [cvC]; omega)]
    simp
  | x :: r, i + 1, j, hj, h => by
    have e : (i + 1) * 3 + j - (cvC x).length = i * 3 + j := by simp [cvC]; omega
    rw [cvCs_cons, List.getElem?_append_right (by simp [cvC]; omega), e, cvCs_get r i j hj (by simpa using h)]
    simp
/-- the cells of a curve of a row -/
def Thr3 (w : World) (g k : Nat) (x : Cv) : Prop := w.cell? ⟨g, k * 3, none⟩ = some (.int .i64 x.f) ∧ w.cell? ⟨g, k * 3 + 1, none⟩ = some (.int .i64 x.l) ∧ w.cell? ⟨g, k * 3 + 2, none⟩ = some (.int .i64 x.s)
theorem AtC.cv {w : World} {g : Nat} {l : List Cv} (h : AtC w g (cvCs l)) (k : Nat) (hk : k < l.length) (x : Cv) (hx : l.getD k cv0 = x) : Thr3 w g k x := by
  subst hx
  have q := fun j (hj : j < 3) => cvCs_get l k j hj hk
  exact ⟨h.at _ ((q 0 (by decide)).trans rfl), h.at _ ((q 1 (by decide)).trans rfl), h.at _ ((q 2 (by decide)).trans rfl)⟩
def Thr3O (w : World) (b off k : Nat) (x : Cv) : Prop := w.cell? ⟨b, off + k * 3, none⟩ = some (.int .i64 x.f) ∧ w.cell? ⟨b, off + k * 3 + 1, none⟩ = some (.int .i64 x.l) ∧ w.cell? ⟨b, off + k * 3 + 2, none⟩ = some (.int .i64 x.s)
theorem OffC.cv {w : World} {b off : Nat} {l : List Cv} (h : OffC w b off (cvCs l)) (k : Nat) (hk : k < l.length) (x : Cv) (hx : l.getD k cv0 = x) : Thr3O w b off k x := by
  subst hx
  have q := fun j (hj : j < 3) => cvCs_get l k j hj hk
  exact ⟨h.at _ ((q 0 (by decide)).trans rfl), h.at _ ((q 1 (by decide)).trans rfl), h.at _ ((q 2 (by decide)).trans rfl)⟩
/-- a boxed curve keeps its cells -/
def ThreeIs (w : World) (g : Nat) (a0 a1 a2 : Value) : Prop := w.cell? ⟨g, 0, none⟩ = some a0 ∧ w.cell? ⟨g, 1, none⟩ = some a1 ∧ w.cell? ⟨g, 2, none⟩ = some a2 ∧ g < w.heap.size
theorem ThreeIs.on {w w1 : World} {g : Nat} {a0 a1 a2 : Value} (h : ThreeIs w g a0 a1 a2) (b : Below w.heap.size w w1) : ThreeIs w1 g a0 a1 a2 := by
  obtain ⟨h0, h1, h2, hg⟩ := h
  have hc := (bcell b).1
  exact ⟨(hc _ _ hg).trans h0, (hc _ _ hg).trans h1, (hc _ _ hg).trans h2, Nat.lt_of_lt_of_le hg b.size⟩
theorem three_is (w : World) (a0 a1 a2 : Value) (t : TypeId) : ThreeIs (w.alloc (.cells #[a0, a1, a2] t)) w.heap.size a0 a1 a2 := by
  refine ⟨?_, ?_, ?_, ?_⟩ <;> simp [go_sem]
theorem box_three {w w1 : World} {a0 a1 a2 : Value} {t : TypeId} (b : Below (w.alloc (.cells #[a0, a1, a2] t)).heap.size (w.alloc (.cells #[a0, a1, a2] t)) w1) : ThreeIs w1 w.heap.size a0 a1 a2 ∧ Below w.heap.size w w1 :=
  ⟨(three_is w a0 a1 a2 t).on b, (one_new2 w _).trans (b.mono (by simp))⟩
section
open Go.Joins Go.ChangeShapes Go.WideShapes Go.Deep
variable {H : Type} {enc : TypeId × Value → H} {w : World} {base : Nat} {spare : Nat → Bool} {held : Bool}
theorem array3 {α : Type} {cs : Array α} (h : cs.size = 3) : ∃ c0 c1 c2, cs = #[c0, c1, c2] := by
  obtain ⟨l⟩ := cs
  match l, h with
  | [c0, c1, c2], _ => exact ⟨c0, c1, c2, rfl⟩
theorem open_cv {r : Reach} {b0 : Nat} {v : Value} {d : DataW H} {p : List MemPlace} (hv : Value.okWide Try.prog w r b0 23 v) (h : DataW.Trod enc Try.prog w base spare held 23 v d p) : ∃ x : Cv, v = cvV x := by
  obtain ⟨cs, rfl, hsz⟩ := okWide_struct Try.underlying23 hv
  obtain ⟨c0, c1, c2, rfl⟩ := array3 (hsz.trans (show Try.prog.cellsOf 23 = 3 by kernel_rfl))
  obtain ⟨fuel, hf⟩ := h
  obtain ⟨f, hfj⟩ := open_ints_struct Try.underlying23 (by
    intro i hi
    rcases (show i = 0 ∨ i = 1 ∨ i = 2 by simp at hi; omega) with rfl | rfl | rfl <;> exact ⟨_, rfl, rfl, rfl⟩) hf
  have q := fun j (hj : j < 3) => hfj j hj
  refine ⟨⟨f 0, f 1, f 2⟩, ?_⟩
  have q0 := Option.some.inj (q 0 (by decide))
  have q1 := Option.some.inj (q 1 (by decide))
  have q2 := Option.some.inj (q 2 (by decide))
  rw [q0, q1, q2]
  rfl
theorem open_cvs {fuel : Nat} {cs : List Value} {x : DataW H × List MemPlace} (h : DataW.trod enc Try.prog w base spare held fuel 39 cs = some x) :
    ∃ (a : Option Addr) (len cap : Nat) (l : List Cv), cs = [.slice a len cap] ∧ len ≤ maxLen ∧ l.length = len ∧ ArgX w a len (cvCs l) := by
  obtain ⟨a, len, cap, F, hcs, hm, hF⟩ := open_rows (z := 3) Try.underlying39 (by kernel_rfl) rfl (by decide) Try.underlying23 (by
    intro i hi
    rcases (show i = 0 ∨ i = 1 ∨ i = 2 by simp at hi; omega) with rfl | rfl | rfl <;> exact ⟨_, rfl, rfl, rfl⟩) h
  refine ⟨a, len, cap, (List.range len).map (fun i => ⟨F i 0, F i 1, F i 2⟩), hcs, hm, by simp, fun hn => ?_⟩
  obtain ⟨b, off, ha, hc, hb⟩ := hF hn
  refine ⟨b, off, ha, fun j hj => ?_, hb⟩
  rw [cvCs_length, List.length_map, List.length_range] at hj
  have q := hc (j / 3) (j % 3) (by omega) (by omega)
  rw [show j / 3 * 3 + j % 3 = j by omega] at q
  have g := cvCs_get ((List.range len).map (fun i => (⟨F i 0, F i 1, F i 2⟩ : Cv))) (j / 3) (j % 3) (by omega) (by simp; omega)
  rw [show j / 3 * 3 + j % 3 = j by omega] at g
  rw [q, g]
  have e : ((List.range len).map (fun i => (⟨F i 0, F i 1, F i 2⟩ : Cv))).getD (j / 3) cv0 = ⟨F (j / 3) 0, F (j / 3) 1, F (j / 3) 2⟩ := by
    simp [List.getD_eq_getElem?_getD, show j / 3 < len by omega]
  rw [e]
  rcases (show j % 3 = 0 ∨ j % 3 = 1 ∨ j % 3 = 2 by omega) with h | h | h <;> rw [h] <;> rfl
end
theorem infoCv : (Try.prog.info? 25).map (fun i => (i.zero, i.size, i.bytes)) = some (some (.agg #[.int .i64 0, .int .i64 0, .int .i64 0]), 3, 24) := by kernel_rfl
theorem set_cv {n : Nat} {w w1 : World} (h : Below n w w1) (b : Nat) (hb : n ≤ b) (j0 j1 j2 : Nat) (v0 v1 v2 : Value) : Below n w (((w1.setCell ⟨b, j0, none⟩ v0).setCell ⟨b, j1, none⟩ v1).setCell ⟨b, j2, none⟩ v2) := ((h.setCell hb _).setCell hb _).setCell hb _
theorem got_cv {l : List Cv} {xs : List Value} {k n : Nat} (h : GotX (cvCs l) xs (k * 3)) (hl : xs.length = n * 3) (hk : k < n) (hn : l.length = n) (x : Cv) (hx : l.getD k cv0 = x) :
    GotX (cvCs l) (((xs.set (k * 3) (.int .i64 x.f)).set (k * 3 + 1) (.int .i64 x.l)).set (k * 3 + 2) (.int .i64 x.s)) ((k + 1) * 3) := by
  intro m hm
  by_cases hmk : m < k * 3
  · rw [List.getElem?_set_ne (by omega), List.getElem?_set_ne (by omega), List.getElem?_set_ne (by omega)]
    exact h m hmk
  · obtain ⟨j, hj, hm2⟩ : ∃ j, j < 3 ∧ m = k * 3 + j := ⟨m - k * 3, by omega, by omega⟩
    have q := cvCs_get l k j hj (by omega)
    rw [← hm2, hx] at q
    rw [q]
    match j, hj with
    | 0, _ => rw [hm2]; simp [List.getElem?_set, cvC]; omega
    | 1, _ => rw [hm2]; simp [List.getElem?_set, cvC]; omega
    | 2, _ => rw [hm2]; simp [List.getElem?_set, cvC]; omega
set_option maxHeartbeats 1600000 in
theorem toCurve_any (x : Cv) (w : World) :
    Calls Try.prog 14 #[cvV x] w (SaysV w (cvV x)) := by
  obtain ⟨xf, xl, xs⟩ := x
  unfold cvV
  simp only
  go_enter Try.func14, Try.ntmps14
  go_wp2
  exact bodyPost_ret (v := .agg #[.int .i64 xf, .int .i64 xl, .int .i64 xs]) (by simp [results, Try.results14, go_sem]) rfl ⟨rfl, (two_new _ _ _).alloc (by simp; omega) _⟩
set_option maxHeartbeats 1600000 in
theorem eqCurve_same (x : Cv) (w : World) :
    Calls Try.prog 26 #[cvV x, cvV x] w (SaysB w true) := by
  obtain ⟨xf, xl, xs⟩ := x
  unfold cvV
  simp only
  go_enter Try.func26, Try.ntmps26
  go_wp2
  go_ret
  exact ⟨rfl, two_new _ _ _⟩
def cvRel (w : World) (l : List Cv) (n : Nat) (i : Value) (wr : World) : Prop :=
  ∃ (k : Nat) (xs : List Value), k ≤ n ∧ i = .int .i64 k ∧ wr.ownsRow w.heap.size 25 3 (.slice (some ⟨w.heap.size, 0, none⟩) n n) n xs ∧ Below w.heap.size w wr ∧ GotX (cvCs l) xs (k * 3)
def SaysCvS (w : World) (l : List Cv) (e : Ending) (w' : World) : Prop := e = .returned (.slice (some ⟨w.heap.size, 0, none⟩) l.length l.length) ∧ Below w.heap.size w w' ∧ w'.ownsRow w.heap.size 25 3 (.slice (some ⟨w.heap.size, 0, none⟩) l.length l.length) l.length (cvCs l)
set_option maxHeartbeats 6400000 in
theorem toCurveS_any (ad : Option Addr) (n c : Nat) (l : List Cv) (w : World) (HI : Hid (ArgX w ad n (cvCs l))) (hn : Hid (l.length = n)) (hm : n ≤ 1048576) :
    Calls Try.prog 33 #[.slice ad n c] w (SaysCvS w l) := by
  obtain ⟨i0, hi, hz0, hz1, hz2⟩ := info_parts infoCv
  have H0 : GotX (cvCs l) (madeCells (Value.agg #[.int .i64 0, .int .i64 0, .int .i64 0]).cells (n * 3)).toList (0 * 3) := fun j hj => absurd hj (by omega)
  have HG0 := Lib.hid H0
  clear H0
  go_enter Try.func33, Try.ntmps33
  go_wp2_with (at_make; refine wpList_make_full _ rfl _ _ 42 rfl w.heap.size 25 i0 (.agg #[.int .i64 0, .int .i64 0, .int .i64 0]) 3 Try.underlying42 hi hz0 hz1 .i64 .i64 _ _ n rfl rfl (by omega) (by omega) (by rw [hz2]; omega) (by unfold maxLen; omega) (Nat.le_refl _) ?_; intro w0 hown0 hgrow0; have HO := Lib.hid hown0; clear hown0)
  go_loopw [4] (fun i wr => cvRel w l n i wr) (fun i _ => n - (intOf i).toNat)
  case atStart => exact ⟨0, _, Nat.zero_le _, rfl, HO.out, (Below.refl _ _).grown hgrow0 (Nat.le_refl _) (by intro k h; cases h), HG0.out⟩
  case round =>
    obtain ⟨k, xs, hk, rfl, ho, hb, hg⟩ := hrel
    have HO1 := Lib.hid ho
    have HB1 := Lib.hid hb
    have HG := Lib.hid hg
    clear hg hgrow0
    by_cases hlt : k < n
    · obtain ⟨b, off, rfl, HR, hbw⟩ := HI.out (by omega)
      obtain ⟨x, hx⟩ : ∃ x, l.getD k cv0 = x := ⟨_, rfl⟩
      have hl1 : k < l.length := by rw [hn.out]; exact hlt
      obtain ⟨a0, a1, a2⟩ := (HR.below hb hbw).cv k hl1 x hx
      have HX := Lib.hid (got_cv HG.out ho.1 hlt hn.out x hx)
      have HS : Hid (∀ w, Calls Try.prog 14 #[cvV x] w (SaysV w (cvV x))) := Lib.hid (fun w => toCurve_any x w)
      obtain ⟨xf, xl, xs⟩ := x
      unfold cvV at HS
      simp only at HS a0 a1 a2
      clear hb hx hl1 ho HR
      go_wp2_with (go_at_call 14; refine (HS.out _).mono ?_; rintro e w1 ⟨rfl, b1⟩; have B1 := Lib.hid b1; have O1 := Lib.hid (own_low HO1.out b1 (Nat.le_refl _)); obtain ⟨u0, c0⟩ := own_cell O1.out (k * 3) (by omega); obtain ⟨u1, c1⟩ := own_cell O1.out (k * 3 + 1) (by omega); obtain ⟨u2, c2⟩ := own_cell O1.out (k * 3 + 2) (by omega); have f0 := World.ownsRow.frozenAt O1.out (k * 3); have f1 := World.ownsRow.frozenAt O1.out (k * 3 + 1); have f2 := World.ownsRow.frozenAt O1.out (k * 3 + 2); clear b1)
      go_roundw
      case rel => exact ⟨k + 1, _, by omega, by go_num, own_store (own_store (own_store O1.out _ _) _ _) _ _, set_cv (HB1.out.trans (B1.out.mono HB1.out.size)) _ (Nat.le_refl _) _ _ _ _ _ _, HX.out⟩
      case measure => simp [intOf]; omega
    · have hkn : k = n := by omega
      subst hkn
      clear hb
      go_wp2_with fail
      go_ret
      have e := got_all (ys := cvCs l) (xs := xs) (by rw [cvCs_length, hn.out]; exact HG.out) (by rw [cvCs_length, hn.out]; exact ho.1)
      subst e
      exact ⟨by rw [hn.out]; rfl, HB1.out, by rw [hn.out]; exact HO1.out⟩
def EqCvRel (w : World) (n : Nat) (i : Value) (wr : World) : Prop := ∃ k : Nat, k ≤ n ∧ i = .int .i64 k ∧ Below w.heap.size w wr
theorem eqCurveS_none (a b : Option Addr) (ca cb : Nat) (w : World) :
    Calls Try.prog 35 #[.slice a 0 ca, .slice b 0 cb] w (SaysB w true) := by
  go_enter Try.func35, Try.ntmps35
  go_wp2
  refine wp_loop_rounds 1 ?_
  rw [rounds_succ]
  go_wp2
  go_ret
  exact ⟨rfl, Below.refl _ _⟩
set_option maxHeartbeats 3200000 in
theorem eqCurveS_go (ga gb n ca cb : Nat) (l : List Cv) (w : World) (HA : Hid (AtC w ga (cvCs l))) (HB : Hid (AtC w gb (cvCs l))) (hn : Hid (l.length = n)) (hga : ga < w.heap.size) (hgb : gb < w.heap.size) (hm : n ≤ 1048576) :
    Calls Try.prog 35 #[.slice (some ⟨ga, 0, none⟩) n ca, .slice (some ⟨gb, 0, none⟩) n cb] w (SaysB w true) := by
  go_enter Try.func35, Try.ntmps35
  go_wp2_with fail
  go_loopw [5] (fun i wr => EqCvRel w n i wr) (fun i _ => n - (intOf i).toNat)
  case atStart => exact ⟨0, Nat.zero_le _, rfl, Below.refl _ _⟩
  case round =>
    obtain ⟨k, hk, rfl, hb⟩ := hrel
    have HR := Lib.hid hb
    by_cases hlt : k < n
    · obtain ⟨x, hx⟩ : ∃ x, l.getD k cv0 = x := ⟨_, rfl⟩
      obtain ⟨a0, a1, a2⟩ := (HA.out.below hb hga).cv k (by rw [hn.out]; exact hlt) x hx
      obtain ⟨b0, b1, b2⟩ := (HB.out.below hb hgb).cv k (by rw [hn.out]; exact hlt) x hx
      have HS := Lib.hid (fun w => eqCurve_same x w)
      obtain ⟨xf, xl, xs⟩ := x
      unfold cvV at HS
      simp only at HS a0 a1 a2 b0 b1 b2
      clear hb hx
      go_wp2_with fail
      go_region_with (go_at_call 26; refine (HS.out _).mono ?_; rintro e w1 ⟨rfl, b1⟩; have B1 := Lib.hid b1; clear b1)
      all_goals
        go_wp2
        go_roundw
        case rel => exact ⟨k + 1, by omega, by go_num, (show Below w.heap.size w wr.drew from below_drewN HR.out 1).trans (B1.out.mono (show w.heap.size ≤ wr.heap.size from HR.out.size))⟩
        case measure => simp [intOf]; omega
    · go_wp2_with fail
      go_ret
      exact ⟨rfl, HR.out⟩
theorem eqCurveS_any (a b : Option Addr) (n ca cb : Nat) (l : List Cv) (w : World) (HA : Hid (InX w a n (cvCs l))) (HB : Hid (InX w b n (cvCs l))) (hn : Hid (l.length = n)) (hm : n ≤ 1048576) :
    Calls Try.prog 35 #[.slice a n ca, .slice b n cb] w (SaysB w true) := by
  rcases Nat.eq_zero_or_pos n with h0 | h0
  · subst h0; exact eqCurveS_none a b ca cb w
  · obtain ⟨ga, rfl, ha, hga⟩ := HA.out h0
    obtain ⟨gb, rfl, hb, hgb⟩ := HB.out h0
    exact eqCurveS_go ga gb n ca cb l w ha hb hn hga hgb hm
theorem szCurveS_any (a : Option Addr) (n c : Nat) (r : Int) (w : World) (hn : n ≤ 9223372036854775807) (h0 : 0 ≤ r) (h1 : r ≤ 1048576) :
    Calls Try.prog 31 #[.slice a n c, .int .i64 r] w (SaysI w (lessN r n)) := by
  by_cases h : r - (n : Int) < 0
  · have d := is_lt h
    have e : lessN r n = -1 := if_pos h
    rw [e]
    clear e h
    go_enter Try.func31, Try.ntmps31
    go_wp2
    go_ret
    exact ⟨rfl, Below.refl _ _⟩
  · have d := not_lt (Int.not_lt.1 h)
    have e : lessN r n = r - n := if_neg h
    rw [e]
    clear e h
    go_enter Try.func31, Try.ntmps31
    go_wp2
    go_ret
    exact ⟨rfl, Below.refl _ _⟩
end Go.Proofs.Yteogadbjnmcblaa
