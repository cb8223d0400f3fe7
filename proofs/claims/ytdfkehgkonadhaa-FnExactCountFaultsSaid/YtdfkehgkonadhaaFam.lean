/- Faults: plain functions; faults in memory: rows of faults, arguments opened, lists made of arguments and compared. -/
import Derived.Test.YtdfkehgkonadhaaOpn
import Derived.Test.YtdfkehgkonadhaaBxw
import Derived.LoopTactic
namespace Go.Proofs.Ytdfkehgkonadhaa
open Go.RowKit
set_option linter.unusedVariables false

structure Fa where
  k : Int
  a : Int
def fa0 : Fa := ⟨0, 0⟩
def goodF (x : Fa) : Bool := inB x.k 1 7 && inB x.a 0 6000
structure FaOk (x : Fa) : Prop where
  k1 : 1 ≤ x.k
  k7 : x.k ≤ 7
  a0 : 0 ≤ x.a
  a6 : x.a ≤ 6000
theorem faok {x : Fa} (h : goodF x = true) : FaOk x := by
  unfold goodF inB at h
  simp only [Bool.and_eq_true, decide_eq_true_eq] at h
  exact ⟨h.1.1, h.1.2, h.2.1, h.2.2⟩
def faC (x : Fa) : List Value := [.int .i64 x.k, .int .i64 x.a]
def faV (x : Fa) : Value := .agg #[.int .i64 x.k, .int .i64 x.a]
def faCs (l : List Fa) : List Value := l.flatMap faC
theorem faCs_cons (x : Fa) (r : List Fa) : faCs (x :: r) = faC x ++ faCs r := by simp [faCs]
theorem faCs_append (l m : List Fa) : faCs (l ++ m) = faCs l ++ faCs m := by simp [faCs]
theorem faCs_length (l : List Fa) : (faCs l).length = l.length * 2 := by
  unfold faCs
  induction l with
  | nil => rfl
  | cons x r ih => simp [faC] at *; omega
theorem faCs_get : ∀ (l : List Fa) (i j : Nat), j < 2 → i < l.length → (faCs l)[i * 2 + j]? = (faC (l.getD i fa0))[j]?
  | [], i, j, _, h => absurd h (by simp)
  | x :: r, 0, j, hj, _ => by
    rw [faCs_cons, List.getElem?_append_left (by simp [faC]; omega)]
    simp
  | x :: r, i + 1, j, hj, h => by
    have e : (i + 1) * 2 + j - (faC x).length = i * 2 + j := by simp [faC]; omega
    rw [faCs_cons, List.getElem?_append_right (by simp [faC]; omega), e, faCs_get r i j hj (by simpa using h)]
    simp
/-- the cells of a curve of a row -/
def Two2 (w : World) (g k : Nat) (x : Fa) : Prop := w.cell? ⟨g, k * 2, none⟩ = some (.int .i64 x.k) ∧ w.cell? ⟨g, k * 2 + 1, none⟩ = some (.int .i64 x.a)
theorem AtC.fa {w : World} {g : Nat} {l : List Fa} (h : AtC w g (faCs l)) (k : Nat) (hk : k < l.length) (x : Fa) (hx : l.getD k fa0 = x) : Two2 w g k x := by
  subst hx
  have q := fun j (hj : j < 2) => faCs_get l k j hj hk
  exact ⟨h.at _ ((q 0 (by decide)).trans rfl), h.at _ ((q 1 (by decide)).trans rfl)⟩
def Two2O (w : World) (b off k : Nat) (x : Fa) : Prop := w.cell? ⟨b, off + k * 2, none⟩ = some (.int .i64 x.k) ∧ w.cell? ⟨b, off + k * 2 + 1, none⟩ = some (.int .i64 x.a)
theorem OffC.fa {w : World} {b off : Nat} {l : List Fa} (h : OffC w b off (faCs l)) (k : Nat) (hk : k < l.length) (x : Fa) (hx : l.getD k fa0 = x) : Two2O w b off k x := by
  subst hx
  have q := fun j (hj : j < 2) => faCs_get l k j hj hk
  exact ⟨h.at _ ((q 0 (by decide)).trans rfl), h.at _ ((q 1 (by decide)).trans rfl)⟩
/-- a boxed curve keeps its cells -/
def TwoIs (w : World) (g : Nat) (a0 a1 : Value) : Prop := w.cell? ⟨g, 0, none⟩ = some a0 ∧ w.cell? ⟨g, 1, none⟩ = some a1 ∧ g < w.heap.size
theorem TwoIs.on {w w1 : World} {g : Nat} {a0 a1 : Value} (h : TwoIs w g a0 a1) (b : Below w.heap.size w w1) : TwoIs w1 g a0 a1 := by
  obtain ⟨h0, h1, hg⟩ := h
  have hc := (bcell b).1
  exact ⟨(hc _ _ hg).trans h0, (hc _ _ hg).trans h1, Nat.lt_of_lt_of_le hg b.size⟩
theorem two_is (w : World) (a0 a1 : Value) (t : TypeId) : TwoIs (w.alloc (.cells #[a0, a1] t)) w.heap.size a0 a1 := by
  refine ⟨?_, ?_, ?_⟩ <;> simp [go_sem]
theorem box_two {w w1 : World} {a0 a1 : Value} {t : TypeId} (b : Below (w.alloc (.cells #[a0, a1] t)).heap.size (w.alloc (.cells #[a0, a1] t)) w1) : TwoIs w1 w.heap.size a0 a1 ∧ Below w.heap.size w w1 :=
  ⟨(two_is w a0 a1 t).on b, (one_new2 w _).trans (b.mono (by simp))⟩
section
open Go.Joins Go.ChangeShapes Go.WideShapes Go.Deep
variable {H : Type} {enc : TypeId × Value → H} {w : World} {base : Nat} {spare : Nat → Bool} {held : Bool}
theorem array2 {α : Type} {cs : Array α} (h : cs.size = 2) : ∃ c0 c1, cs = #[c0, c1] := by
  obtain ⟨l⟩ := cs
  match l, h with
  | [c0, c1], _ => exact ⟨c0, c1, rfl⟩
theorem open_fa {r : Reach} {b0 : Nat} {v : Value} {d : DataW H} {p : List MemPlace} (hv : Value.okWide Try.prog w r b0 23 v) (h : DataW.Trod enc Try.prog w base spare held 23 v d p) : ∃ x : Fa, v = faV x := by
  obtain ⟨cs, rfl, hsz⟩ := okWide_struct Try.underlying23 hv
  obtain ⟨c0, c1, rfl⟩ := array2 (hsz.trans (show Try.prog.cellsOf 23 = 2 by kernel_rfl))
  obtain ⟨fuel, hf⟩ := h
  obtain ⟨f, hfj⟩ := open_ints_struct Try.underlying23 (by
    intro i hi
    rcases (show i = 0 ∨ i = 1 by simp at hi; omega) with rfl | rfl <;> exact ⟨_, rfl, rfl, rfl⟩) hf
  have q := fun j (hj : j < 2) => hfj j hj
  refine ⟨⟨f 0, f 1⟩, ?_⟩
  have q0 := Option.some.inj (q 0 (by decide))
  have q1 := Option.some.inj (q 1 (by decide))
  rw [q0, q1]
  rfl
theorem open_fas {fuel : Nat} {cs : List Value} {x : DataW H × List MemPlace} (h : DataW.trod enc Try.prog w base spare held fuel 31 cs = some x) :
    ∃ (a : Option Addr) (len cap : Nat) (l : List Fa), cs = [.slice a len cap] ∧ len ≤ maxLen ∧ l.length = len ∧ ArgX w a len (faCs l) := by
  obtain ⟨a, len, cap, F, hcs, hm, hF⟩ := open_rows (z := 2) Try.underlying31 (by kernel_rfl) rfl (by decide) Try.underlying23 (by
    intro i hi
    rcases (show i = 0 ∨ i = 1 by simp at hi; omega) with rfl | rfl <;> exact ⟨_, rfl, rfl, rfl⟩) h
  refine ⟨a, len, cap, (List.range len).map (fun i => ⟨F i 0, F i 1⟩), hcs, hm, by simp, fun hn => ?_⟩
  obtain ⟨b, off, ha, hc, hb⟩ := hF hn
  refine ⟨b, off, ha, fun j hj => ?_, hb⟩
  rw [faCs_length, List.length_map, List.length_range] at hj
  have q := hc (j / 2) (j % 2) (by omega) (by omega)
  rw [show j / 2 * 2 + j % 2 = j by omega] at q
  have g := faCs_get ((List.range len).map (fun i => (⟨F i 0, F i 1⟩ : Fa))) (j / 2) (j % 2) (by omega) (by simp; omega)
  rw [show j / 2 * 2 + j % 2 = j by omega] at g
  rw [q, g]
  have e : ((List.range len).map (fun i => (⟨F i 0, F i 1⟩ : Fa))).getD (j / 2) fa0 = ⟨F (j / 2) 0, F (j / 2) 1⟩ := by
    simp [List.getD_eq_getElem?_getD, show j / 2 < len by omega]
  rw [e]
  rcases (show j % 2 = 0 ∨ j % 2 = 1 by omega) with h | h <;> rw [h] <;> rfl
end
theorem infoFa : (Try.prog.info? 25).map (fun i => (i.zero, i.size, i.bytes)) = some (some (.agg #[.int .i64 0, .int .i64 0]), 2, 16) := by kernel_rfl
theorem set_fa {n : Nat} {w w1 : World} (h : Below n w w1) (b : Nat) (hb : n ≤ b) (j0 j1 : Nat) (v0 v1 : Value) : Below n w ((w1.setCell ⟨b, j0, none⟩ v0).setCell ⟨b, j1, none⟩ v1) := (h.setCell hb _).setCell hb _
theorem got_fa {l : List Fa} {xs : List Value} {k n : Nat} (h : GotX (faCs l) xs (k * 2)) (hl : xs.length = n * 2) (hk : k < n) (hn : l.length = n) (x : Fa) (hx : l.getD k fa0 = x) :
    GotX (faCs l) ((xs.set (k * 2) (.int .i64 x.k)).set (k * 2 + 1) (.int .i64 x.a)) ((k + 1) * 2) := by
  intro m hm
  by_cases hmk : m < k * 2
  · rw [List.getElem?_set_ne (by omega), List.getElem?_set_ne (by omega)]
    exact h m hmk
  · obtain ⟨j, hj, hm2⟩ : ∃ j, j < 2 ∧ m = k * 2 + j := ⟨m - k * 2, by omega, by omega⟩
    have q := faCs_get l k j hj (by omega)
    rw [← hm2, hx] at q
    rw [q]
    match j, hj with
    | 0, _ => rw [hm2]; simp [List.getElem?_set, faC]; omega
    | 1, _ => rw [hm2]; simp [List.getElem?_set, faC]; omega
set_option maxHeartbeats 1600000 in
theorem toFault_any (x : Fa) (w : World) :
    Calls Try.prog 8 #[faV x] w (SaysV w (faV x)) := by
  obtain ⟨xk, xa⟩ := x
  unfold faV
  simp only
  go_enter Try.func8, Try.ntmps8
  go_wp2
  exact bodyPost_ret (v := .agg #[.int .i64 xk, .int .i64 xa]) (by simp [results, Try.results8, go_sem]) rfl ⟨rfl, (two_new _ _ _).alloc (by simp; omega) _⟩
set_option maxHeartbeats 1600000 in
theorem eqFault_same (x : Fa) (w : World) :
    Calls Try.prog 16 #[faV x, faV x] w (SaysB w true) := by
  obtain ⟨xk, xa⟩ := x
  unfold faV
  simp only
  go_enter Try.func16, Try.ntmps16
  go_wp2
  go_ret
  exact ⟨rfl, two_new _ _ _⟩
def faRel (w : World) (l : List Fa) (n : Nat) (i : Value) (wr : World) : Prop :=
  ∃ (k : Nat) (xs : List Value), k ≤ n ∧ i = .int .i64 k ∧ wr.ownsRow w.heap.size 25 2 (.slice (some ⟨w.heap.size, 0, none⟩) n n) n xs ∧ Below w.heap.size w wr ∧ GotX (faCs l) xs (k * 2)
def SaysFaS (w : World) (l : List Fa) (e : Ending) (w' : World) : Prop := e = .returned (.slice (some ⟨w.heap.size, 0, none⟩) l.length l.length) ∧ Below w.heap.size w w' ∧ w'.ownsRow w.heap.size 25 2 (.slice (some ⟨w.heap.size, 0, none⟩) l.length l.length) l.length (faCs l)
set_option maxHeartbeats 6400000 in
theorem toFaultS_any (ad : Option Addr) (n c : Nat) (l : List Fa) (w : World) (HI : Hid (ArgX w ad n (faCs l))) (hn : Hid (l.length = n)) (hm : n ≤ 1048576) :
    Calls Try.prog 14 #[.slice ad n c] w (SaysFaS w l) := by
  obtain ⟨i0, hi, hz0, hz1, hz2⟩ := info_parts infoFa
  have H0 : GotX (faCs l) (madeCells (Value.agg #[.int .i64 0, .int .i64 0]).cells (n * 2)).toList (0 * 2) := fun j hj => absurd hj (by omega)
  have HG0 := Lib.hid H0
  clear H0
  go_enter Try.func14, Try.ntmps14
  go_wp2_with (at_make; refine wpList_make_full _ rfl _ _ 35 rfl w.heap.size 25 i0 (.agg #[.int .i64 0, .int .i64 0]) 2 Try.underlying35 hi hz0 hz1 .i64 .i64 _ _ n rfl rfl (by omega) (by omega) (by rw [hz2]; omega) (by unfold maxLen; omega) (Nat.le_refl _) ?_; intro w0 hown0 hgrow0; have HO := Lib.hid hown0; clear hown0)
  go_loopw [4] (fun i wr => faRel w l n i wr) (fun i _ => n - (intOf i).toNat)
  case atStart => exact ⟨0, _, Nat.zero_le _, rfl, HO.out, (Below.refl _ _).grown hgrow0 (Nat.le_refl _) (by intro k h; cases h), HG0.out⟩
  case round =>
    obtain ⟨k, xs, hk, rfl, ho, hb, hg⟩ := hrel
    have HO1 := Lib.hid ho
    have HB1 := Lib.hid hb
    have HG := Lib.hid hg
    clear hg hgrow0
    by_cases hlt : k < n
    · obtain ⟨b, off, rfl, HR, hbw⟩ := HI.out (by omega)
      obtain ⟨x, hx⟩ : ∃ x, l.getD k fa0 = x := ⟨_, rfl⟩
      have hl1 : k < l.length := by rw [hn.out]; exact hlt
      obtain ⟨a0, a1⟩ := (HR.below hb hbw).fa k hl1 x hx
      have HX := Lib.hid (got_fa HG.out ho.1 hlt hn.out x hx)
      have HS : Hid (∀ w, Calls Try.prog 8 #[faV x] w (SaysV w (faV x))) := Lib.hid (fun w => toFault_any x w)
      obtain ⟨xk, xa⟩ := x
      unfold faV at HS
      simp only at HS a0 a1
      clear hb hx hl1 ho HR
      go_wp2_with (go_at_call 8; refine (HS.out _).mono ?_; rintro e w1 ⟨rfl, b1⟩; have B1 := Lib.hid b1; have O1 := Lib.hid (own_low HO1.out b1 (Nat.le_refl _)); obtain ⟨u0, c0⟩ := own_cell O1.out (k * 2) (by omega); obtain ⟨u1, c1⟩ := own_cell O1.out (k * 2 + 1) (by omega); have f0 := World.ownsRow.frozenAt O1.out (k * 2); have f1 := World.ownsRow.frozenAt O1.out (k * 2 + 1); clear b1)
      go_roundw
      case rel => exact ⟨k + 1, _, by omega, by go_num, own_store (own_store O1.out _ _) _ _, set_fa (HB1.out.trans (B1.out.mono HB1.out.size)) _ (Nat.le_refl _) _ _ _ _, HX.out⟩
      case measure => simp [intOf]; omega
    · have hkn : k = n := by omega
      subst hkn
      clear hb
      go_wp2_with fail
      go_ret
      have e := got_all (ys := faCs l) (xs := xs) (by rw [faCs_length, hn.out]; exact HG.out) (by rw [faCs_length, hn.out]; exact ho.1)
      subst e
      exact ⟨by rw [hn.out]; rfl, HB1.out, by rw [hn.out]; exact HO1.out⟩
def EqFaRel (w : World) (n : Nat) (i : Value) (wr : World) : Prop := ∃ k : Nat, k ≤ n ∧ i = .int .i64 k ∧ Below w.heap.size w wr
theorem eqFaultS_none (a b : Option Addr) (ca cb : Nat) (w : World) :
    Calls Try.prog 17 #[.slice a 0 ca, .slice b 0 cb] w (SaysB w true) := by
  go_enter Try.func17, Try.ntmps17
  go_wp2
  refine wp_loop_rounds 1 ?_
  rw [rounds_succ]
  go_wp2
  go_ret
  exact ⟨rfl, Below.refl _ _⟩
set_option maxHeartbeats 3200000 in
theorem eqFaultS_go (ga gb n ca cb : Nat) (l : List Fa) (w : World) (HA : Hid (AtC w ga (faCs l))) (HB : Hid (AtC w gb (faCs l))) (hn : Hid (l.length = n)) (hga : ga < w.heap.size) (hgb : gb < w.heap.size) (hm : n ≤ 1048576) :
    Calls Try.prog 17 #[.slice (some ⟨ga, 0, none⟩) n ca, .slice (some ⟨gb, 0, none⟩) n cb] w (SaysB w true) := by
  go_enter Try.func17, Try.ntmps17
  go_wp2_with fail
  go_loopw [5] (fun i wr => EqFaRel w n i wr) (fun i _ => n - (intOf i).toNat)
  case atStart => exact ⟨0, Nat.zero_le _, rfl, Below.refl _ _⟩
  case round =>
    obtain ⟨k, hk, rfl, hb⟩ := hrel
    have HR := Lib.hid hb
    by_cases hlt : k < n
    · obtain ⟨x, hx⟩ : ∃ x, l.getD k fa0 = x := ⟨_, rfl⟩
      obtain ⟨a0, a1⟩ := (HA.out.below hb hga).fa k (by rw [hn.out]; exact hlt) x hx
      obtain ⟨b0, b1⟩ := (HB.out.below hb hgb).fa k (by rw [hn.out]; exact hlt) x hx
      have HS := Lib.hid (fun w => eqFault_same x w)
      obtain ⟨xk, xa⟩ := x
      unfold faV at HS
      simp only at HS a0 a1 b0 b1
      clear hb hx
      go_wp2_with fail
      go_region_with (go_at_call 16; refine (HS.out _).mono ?_; rintro e w1 ⟨rfl, b1⟩; have B1 := Lib.hid b1; clear b1)
      all_goals
        go_wp2
        go_roundw
        case rel => exact ⟨k + 1, by omega, by go_num, (show Below w.heap.size w wr.drew from below_drewN HR.out 1).trans (B1.out.mono (show w.heap.size ≤ wr.heap.size from HR.out.size))⟩
        case measure => simp [intOf]; omega
    · go_wp2_with fail
      go_ret
      exact ⟨rfl, HR.out⟩
theorem eqFaultS_any (a b : Option Addr) (n ca cb : Nat) (l : List Fa) (w : World) (HA : Hid (InX w a n (faCs l))) (HB : Hid (InX w b n (faCs l))) (hn : Hid (l.length = n)) (hm : n ≤ 1048576) :
    Calls Try.prog 17 #[.slice a n ca, .slice b n cb] w (SaysB w true) := by
  rcases Nat.eq_zero_or_pos n with h0 | h0
  · subst h0; exact eqFaultS_none a b ca cb w
  · obtain ⟨ga, rfl, ha, hga⟩ := HA.out h0
    obtain ⟨gb, rfl, hb, hgb⟩ := HB.out h0
    exact eqFaultS_go ga gb n ca cb l w ha hb hn hga hgb hm
theorem szFaultS_any (a : Option Addr) (n c : Nat) (r : Int) (w : World) (hn : n ≤ 9223372036854775807) (h0 : 0 ≤ r) (h1 : r ≤ 1048576) :
    Calls Try.prog 12 #[.slice a n c, .int .i64 r] w (SaysI w (lessN r n)) := by
  by_cases h : r - (n : Int) < 0
  · have d := is_lt h
    have e : lessN r n = -1 := if_pos h
    rw [e]
    clear e h
    go_enter Try.func12, Try.ntmps12
    go_wp2
    go_ret
    exact ⟨rfl, Below.refl _ _⟩
  · have d := not_lt (Int.not_lt.1 h)
    have e : lessN r n = r - n := if_neg h
    rw [e]
    clear e h
    go_enter Try.func12, Try.ntmps12
    go_wp2
    go_ret
    exact ⟨rfl, Below.refl _ _⟩
end Go.Proofs.Ytdfkehgkonadhaa
