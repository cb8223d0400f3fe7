/- Lists of tokens made of arguments. -/
import Derived.Test.YtnenfpbiobmlcaaDoorTkt2
import Derived.Test.YtnenfpbiobmlcaaDoorTkv
import Derived.Deep.OwnRows
namespace Go.Proofs.YtnenfpbiobmlcaaDoor
set_option maxRecDepth 100000
open Go.RowKit
set_option linter.unusedVariables false

theorem szTokenS_none (a : Option Addr) (c : Nat) (l : List Tok) (hl : l = []) (w : World) :
    Calls Tryd.prog 27 #[.slice a 0 c, .int .i64 1048576] w (SaysZ w l) := by
  go_enter Tryd.func27, Tryd.ntmps27
  go_wp2
  refine wp_loop_rounds 1 ?_
  rw [rounds_succ]
  go_wp2
  go_ret
  exact ⟨_, rfl, Below.refl _ _, fun _ => by subst hl; exact ⟨Nat.zero_le _, fun k h => absurd h (by simp)⟩⟩
theorem szTokenS_long (a : Option Addr) (n c : Nat) (l : List Tok) (w : World) (h : 1048576 < n) (hm : n ≤ 9223372036854775807) :
    Calls Tryd.prog 27 #[.slice a n c, .int .i64 1048576] w (SaysZ w l) := by
  have d : decide ((1048576 : Int) - (n : Int) < 0) = true := is_lt (by omega)
  go_enter Tryd.func27, Tryd.ntmps27
  go_wp2
  go_ret
  exact ⟨-1, rfl, Below.refl _ _, fun h => absurd h (by omega)⟩
theorem szTokenS_any (a : Option Addr) (n c : Nat) (l : List Tok) (w : World) (HI : Hid (InT w a l)) (hn : Hid (l.length = n)) (hm : n ≤ 9223372036854775807) (HM : Hid (SzM l)) :
    Calls Tryd.prog 27 #[.slice a n c, .int .i64 1048576] w (SaysZ w l) := by
  by_cases h : 1048576 < n
  · exact szTokenS_long a n c l w h hm
  · rcases HI.out with hl | ⟨b, off, ha, hi⟩
    · have : n = 0 := by rw [← hn.out, hl]; rfl
      subst this
      exact szTokenS_none a c l hl w
    · rcases Nat.eq_zero_or_pos n with h0 | h0
      · subst h0
        exact szTokenS_none a c l (List.eq_nil_of_length_eq_zero hn.out) w
      · subst ha
        exact szTokenS_go b off n c l w hi hn h0 (by omega) HM
/-- a row of tokens of the call's own, cell by cell -/
def OwnX (w : World) (B g n : Nat) (xs : List Value) : Prop := w.ownsRow B 24 4 (.slice (some ⟨g, 0, none⟩) n n) n xs
theorem OwnX.lt {w : World} {B g n : Nat} {xs : List Value} (h : OwnX w B g n xs) : B ≤ g ∧ g < w.heap.size := World.ownsRow.lt h g rfl
theorem OwnX.below {w w' : World} {B B' g n : Nat} {xs : List Value} (h : OwnX w B g n xs) (hb : Below B' w w') (hg : g < B') : OwnX w' B g n xs := by
  obtain ⟨h1, h2⟩ := h
  refine ⟨h1, ?_⟩
  rcases h2 with h2 | ⟨g', cap', cur, a, b, c, d⟩
  · exact .inl h2
  · cases a
    exact .inr ⟨g, n, cur, rfl, b, by rw [hb.block g hg]; exact c, d⟩
theorem OwnX.len {w : World} {B g n : Nat} {xs : List Value} (h : OwnX w B g n xs) : xs.length = n * 4 := h.1
theorem OwnX.cell {w : World} {B g n : Nat} {xs : List Value} (h : OwnX w B g n xs) (j : Nat) (hj : j < n * 4) : ∃ u, w.cell? ⟨g, j, none⟩ = some u :=
  ⟨xs[j]'(by rw [h.len]; exact hj), by rw [World.ownsRow.cellAt h j hj]; exact List.getElem?_eq_getElem _⟩
theorem OwnX.store {w : World} {B g n : Nat} {xs : List Value} (h : OwnX w B g n xs) (j : Nat) (v : Value) : OwnX (w.setCell ⟨g, j, none⟩ v) B g n (xs.set j v) := (World.ownsRow.stored h j v).1
/-- the first tokens are there -/
def GotT (l : List Tok) (xs : List Value) (k : Nat) : Prop := ∀ i j, i < k → j < 4 → xs[i * 4 + j]? = (tkC (l.getD i tok0))[j]?
theorem GotT.more {l : List Tok} {xs : List Value} {k n : Nat} (h : GotT l xs k) (hl : xs.length = n * 4) (hk : k < n) (x : Tok) (hx : l.getD k tok0 = x) :
    GotT l ((((xs.set (k * 4) (.int .i64 x.k)).set (k * 4 + 1) (.int .i64 x.a)).set (k * 4 + 2) (.string x.t)).set (k * 4 + 3) (.int .i64 x.v)) (k + 1) := by
  intro i j hi hj
  by_cases hik : i = k
  · subst hik
    rw [hx]
    match j, hj with
    | 0, _ => simp [List.getElem?_set, tkC]; omega
    | 1, _ => simp [List.getElem?_set, tkC]; omega
    | 2, _ => simp [List.getElem?_set, tkC]; omega
    | 3, _ => simp [List.getElem?_set, tkC]; omega
  · rw [List.getElem?_set_ne (by omega), List.getElem?_set_ne (by omega), List.getElem?_set_ne (by omega), List.getElem?_set_ne (by omega)]
    exact h i j (by omega) hj
theorem GotT.all {w : World} {B g n : Nat} {l : List Tok} {xs : List Value} (ho : OwnX w B g n xs) (h : GotT l xs n) (hn : l.length = n) : OwnK w B (.slice (some ⟨g, 0, none⟩) n n) n l := by
  have e : xs = tkCs l := by
    apply List.ext_getElem?
    intro m
    by_cases hm : m < n * 4
    · have q := h (m / 4) (m % 4) (by omega) (by omega)
      have q2 := tkCs_get l (m / 4) (m % 4) (by omega) (by omega)
      have e1 : m / 4 * 4 + m % 4 = m := by omega
      rw [e1] at q q2
      rw [q, q2]
      rfl
    · rw [List.getElem?_eq_none (by rw [ho.len]; omega), List.getElem?_eq_none (by rw [tkCs_length]; omega)]
  subst e
  exact ho
def SaysS (w : World) (l : List Tok) (e : Ending) (w' : World) : Prop := ∃ v, e = .returned v ∧ SlT w' v l ∧ Below w.heap.size w w' ∧ OwnK w' w.heap.size v l.length l
theorem set4' {n : Nat} {w w1 : World} (h : Below n w w1) (b : Nat) (hb : n ≤ b) (j0 j1 j2 j3 : Nat) (v0 v1 v2 v3 : Value) : Below n w ((((w1.setCell ⟨b, j0, none⟩ v0).setCell ⟨b, j1, none⟩ v1).setCell ⟨b, j2, none⟩ v2).setCell ⟨b, j3, none⟩ v3) :=
  (((h.setCell hb _).setCell hb _).setCell hb _).setCell hb _
def TRel (w : World) (l : List Tok) (n : Nat) (i : Value) (wr : World) : Prop :=
  ∃ (k : Nat) (xs : List Value), k ≤ n ∧ i = .int .i64 k ∧ OwnX wr w.heap.size w.heap.size n xs ∧ Below w.heap.size w wr ∧ GotT l xs k
set_option maxHeartbeats 6400000 in
theorem toTokenS_go (b off n c : Nat) (l : List Tok) (w : World) (HI : Hid (OffT w b off l)) (hn : Hid (l.length = n)) (h0 : 0 < n) (hm : n ≤ 1048576) :
    Calls Tryd.prog 29 #[.slice (some ⟨b, off, none⟩) n c] w (SaysS w l) := by
  obtain ⟨i0, hi, hz0, hz1, hz2⟩ := info_parts infoTok
  have hbw := HI.out.lt (by rw [hn.out]; exact h0)
  go_enter Tryd.func29, Tryd.ntmps29
  go_wp2_with (at_make; refine wpList_make_full _ rfl _ _ 32 rfl w.heap.size 24 i0 (.agg #[.int .i64 0, .int .i64 0, .string ⟨#[]⟩, .int .i64 0]) 4 Tryd.underlying32 hi hz0 hz1 .i64 .i64 _ _ n rfl rfl (by omega) (by omega) (by rw [hz2]; omega) (by unfold maxLen; omega) (Nat.le_refl _) ?_; intro w0 hown0 hgrow0; have HO := Lib.hid hown0; clear hown0)
  go_loopw [4] (fun i wr => TRel w l n i wr) (fun i _ => n - (intOf i).toNat)
  case atStart => exact ⟨0, _, Nat.zero_le _, rfl, HO.out, (Below.refl _ _).grown hgrow0 (Nat.le_refl _) (by intro k h; cases h), fun i j hi => absurd hi (Nat.not_lt_zero i)⟩
  case round =>
    obtain ⟨k, xs, hk, rfl, ho, hb, hg⟩ := hrel
    have HO1 := Lib.hid ho
    have HB1 := Lib.hid hb
    have HG := Lib.hid hg
    clear hg hgrow0
    by_cases hlt : k < n
    · obtain ⟨x, hx⟩ : ∃ x, l.getD k tok0 = x := ⟨_, rfl⟩
      have hl1 : k < l.length := by rw [hn.out]; exact hlt
      obtain ⟨a0, a1, a2, a3⟩ := (HI.out.below hb hbw).four k hl1 x hx
      have HX := Lib.hid (HG.out.more ho.len hlt x hx)
      have hgl := ho.lt.2
      obtain ⟨xk, xa, xt, xv⟩ := x
      have HS : Hid (∀ w, Calls Tryd.prog 25 #[.agg #[.int .i64 xk, .int .i64 xa, .string xt, .int .i64 xv]] w (SaysV w (.agg #[.int .i64 xk, .int .i64 xa, .string xt, .int .i64 xv]))) := Lib.hid (fun w => toToken_any xk xa xv xt w)
      clear hb hx hl1 ho
      go_wp2_with (go_at_call 25; refine (HS.out _).mono ?_; rintro e w1 ⟨rfl, b1⟩; have B1 := Lib.hid b1; have O1 := Lib.hid (HO1.out.below b1 hgl); obtain ⟨u0, c0⟩ := O1.out.cell (k * 4) (by omega); obtain ⟨u1, c1⟩ := O1.out.cell (k * 4 + 1) (by omega); obtain ⟨u2, c2⟩ := O1.out.cell (k * 4 + 2) (by omega); obtain ⟨u3, c3⟩ := O1.out.cell (k * 4 + 3) (by omega); have f0 := World.ownsRow.frozenAt O1.out (k * 4); have f1 := World.ownsRow.frozenAt O1.out (k * 4 + 1); have f2 := World.ownsRow.frozenAt O1.out (k * 4 + 2); have f3 := World.ownsRow.frozenAt O1.out (k * 4 + 3); clear b1)
      go_roundw
      case rel => exact ⟨k + 1, _, by omega, by go_num, (((O1.out.store _ _).store _ _).store _ _).store _ _, set4' (HB1.out.trans (B1.out.mono HB1.out.size)) _ (Nat.le_refl _) _ _ _ _ _ _ _ _, HX.out⟩
      case measure => simp [intOf]; omega
    · have hkn : k = n := by omega
      subst hkn
      clear hb
      go_wp2_with fail
      go_ret
      exact ⟨.slice (some ⟨w.heap.size, 0, none⟩) k k, rfl, .inr ⟨w.heap.size, k, by rw [hn.out], fun i j hj hi => by rw [World.ownsRow.cellAt HO1.out (i * 4 + j) (by have := hn.out; omega)]; exact HG.out i j (by have := hn.out; omega) hj, ho.lt.2⟩, HB1.out, by have e := hn.out; rw [e]; exact HG.out.all HO1.out e⟩
theorem toTokenS_none (a : Option Addr) (c : Nat) (l : List Tok) (hl : l = []) (w : World) :
    Calls Tryd.prog 29 #[.slice a 0 c] w (SaysS w l) := by
  obtain ⟨i0, hi, hz0, hz1, hz2⟩ := info_parts infoTok
  go_enter Tryd.func29, Tryd.ntmps29
  go_wp2_with (at_make; refine wpList_make_full _ rfl _ _ 32 rfl w.heap.size 24 i0 (.agg #[.int .i64 0, .int .i64 0, .string ⟨#[]⟩, .int .i64 0]) 4 Tryd.underlying32 hi hz0 hz1 .i64 .i64 _ _ 0 rfl rfl (by omega) (by omega) (by rw [hz2]; omega) (by unfold maxLen; omega) (Nat.le_refl _) ?_; intro w0 hown0 hgrow0)
  have HB := Lib.hid ((Below.refl w.heap.size w).grown hgrow0 (Nat.le_refl _) (by intro k h; cases h))
  rw [show (madeCells (Value.agg #[.int .i64 0, .int .i64 0, .string ⟨#[]⟩, .int .i64 0]).cells (0 * 4)).toList = tkCs [] by simp [madeCells, tkCs]] at hown0
  have hown1 := Lib.hid (show OwnK w0 w.heap.size (.slice (some ⟨w.heap.size, 0, none⟩) 0 0) 0 [] from hown0)
  clear hown0 hgrow0
  refine wp_loop_rounds 1 ?_
  rw [rounds_succ]
  go_wp2
  go_ret
  exact ⟨.slice (some ⟨w.heap.size, 0, none⟩) 0 0, rfl, .inl ⟨hl, _, _, rfl⟩, HB.out, by subst hl; exact hown1.out⟩
theorem toTokenS_any (a : Option Addr) (n c : Nat) (l : List Tok) (w : World) (HI : Hid (InT w a l)) (hn : Hid (l.length = n)) (hm : n ≤ 1048576) :
    Calls Tryd.prog 29 #[.slice a n c] w (SaysS w l) := by
  rcases HI.out with hl | ⟨b, off, ha, hi⟩
  · have : n = 0 := by rw [← hn.out, hl]; rfl
    subst this
    exact toTokenS_none a c l hl w
  · rcases Nat.eq_zero_or_pos n with h0 | h0
    · subst h0
      exact toTokenS_none a c l (List.eq_nil_of_length_eq_zero hn.out) w
    · subst ha
      exact toTokenS_go b off n c l w hi hn h0 hm
end Go.Proofs.YtnenfpbiobmlcaaDoor
