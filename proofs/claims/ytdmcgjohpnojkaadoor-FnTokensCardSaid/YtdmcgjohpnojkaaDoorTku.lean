/- Tokens of two texts compared: contracts of faultlessTokens, isSameToken, slices.EqualFunc and the model's tkSame. -/
import Derived.Test.YtdmcgjohpnojkaaDoorTkv
import Derived.Deep.QuietTactic
import Derived.BigQuiet
namespace Go.Proofs.YtdmcgjohpnojkaaDoor
set_option maxRecDepth 100000
open Go.RowKit
set_option linter.unusedVariables false

/-- a list of tokens of the call's own and whether there is one -/
def SaysFl (w : World) (l : List Tok) (ok : Bool) (e : Ending) (w' : World) : Prop :=
  ∃ v, e = .returned (.tuple #[v, .bool ok]) ∧ OwnK w' w.heap.size v l.length l ∧ Below w.heap.size w w'
/-- a text has tokens and no fault -/
def flO (s : ByteArray) : Bool := tkO s && ((tkT s).f == 0)
set_option maxHeartbeats 1600000 in
theorem faultless_any (s : ByteArray) (w : World) (hT : Hid (Tabs w)) : Calls Tryd.prog 45 #[.string s] w (SaysFl w (tkT s).l (flO s)) := by
  have HA := Lib.hid (fun w hT => implTokensOf_any s w hT)
  have HO : Hid (flO s = (tkO s && ((tkT s).f == 0))) := Lib.hid rfl
  obtain ⟨R, hR⟩ : ∃ R, tkT s = R := ⟨_, rfl⟩
  obtain ⟨o, ho⟩ : ∃ o, tkO s = o := ⟨_, rfl⟩
  rw [hR, ho] at HA HO
  rw [HO.out, hR]
  clear hR ho HO
  obtain ⟨l, f, g⟩ := R
  rcases Bool.eq_false_or_eq_true (f == 0) with hf | hf <;> cases o
  all_goals
    go_enter Tryd.func45, Tryd.ntmps45
    go_wp2_with (go_at_call 6; refine (HA.out _ hT).mono ?_; rintro e w1 ⟨v, rfl, o1, b1⟩; have B1 := Lib.hid b1; have O1 := Lib.hid o1; clear b1 o1)
    go_quiet (fail)
    go_wp2
    go_ret2
    exact ⟨v, ret_pair rfl (by first | rfl | (rw [hf]; rfl)), (World.ownsRow.alloc (w := w1) O1.out _ : OwnK (w1.alloc _) _ _ _ _), below_drewN (B1.out.alloc B1.out.size _) _⟩
/-- two tokens differ in their places alone -/
def sameB (x y : Tok) : Bool := (x.k == y.k) && ((x.t.toList == y.t.toList) && (x.v == y.v))
def sameL : List Tok → List Tok → Bool
  | [], [] => true
  | x :: r, y :: q => sameB x y && sameL r q
  | _, _ => false
theorem sameL_len : ∀ (l m : List Tok), l.length ≠ m.length → sameL l m = false
  | [], [], h => absurd rfl h
  | [], _ :: _, _ => rfl
  | _ :: _, [], _ => rfl
  | x :: r, y :: q, h => by unfold sameL; rw [sameL_len r q (by simpa using h), Bool.and_false]
theorem sameL_at (l m : List Tok) (k : Nat) (h : k < l.length) (h' : k < m.length) (x y : Tok) (hx : l.getD k tok0 = x) (hy : m.getD k tok0 = y) : sameL (l.drop k) (m.drop k) = (sameB x y && sameL (l.drop (k + 1)) (m.drop (k + 1))) := by
  rw [List.drop_eq_getElem_cons h, List.drop_eq_getElem_cons h']
  subst hx hy
  simp [sameL, List.getD_eq_getElem?_getD, h, h']
theorem sameL_end (l m : List Tok) (k : Nat) (h : l.length ≤ k) (h' : m.length ≤ k) : sameL (l.drop k) (m.drop k) = true := by
  rw [List.drop_eq_nil_of_le h, List.drop_eq_nil_of_le h']; rfl
set_option maxHeartbeats 1600000 in
theorem isSame_any (xk xa xv yk ya yv : Int) (xt yt : ByteArray) (w : World) :
    Calls Tryd.prog 49 #[.agg #[.int .i64 xk, .int .i64 xa, .string xt, .int .i64 xv], .agg #[.int .i64 yk, .int .i64 ya, .string yt, .int .i64 yv]] w (SaysB w (sameB ⟨xk, xa, xt, xv⟩ ⟨yk, ya, yt, yv⟩)) := by
  have HS : Hid (sameB ⟨xk, xa, xt, xv⟩ ⟨yk, ya, yt, yv⟩ = ((xk == yk) && ((xt.toList == yt.toList) && (xv == yv)))) := Lib.hid rfl
  rcases Bool.eq_false_or_eq_true (xk == yk) with h1 | h1
  · rcases Bool.eq_false_or_eq_true (xt.toList == yt.toList) with h2 | h2
    · rcases Bool.eq_false_or_eq_true (xv == yv) with h3 | h3
      · have HX : Hid (sameB ⟨xk, xa, xt, xv⟩ ⟨yk, ya, yt, yv⟩ = true) := Lib.hid (by rw [HS.out, h1, h2, h3]; rfl)
        go_enter Tryd.func49, Tryd.ntmps49
        go_wp2
        go_ret
        exact ⟨ret_bool HX.out.symm, two_new _ _ _⟩
      · have HX : Hid (sameB ⟨xk, xa, xt, xv⟩ ⟨yk, ya, yt, yv⟩ = false) := Lib.hid (by rw [HS.out, h1, h2, h3]; rfl)
        go_enter Tryd.func49, Tryd.ntmps49
        go_wp2
        go_ret
        exact ⟨ret_bool HX.out.symm, two_new _ _ _⟩
    · have HX : Hid (sameB ⟨xk, xa, xt, xv⟩ ⟨yk, ya, yt, yv⟩ = false) := Lib.hid (by rw [HS.out, h1, h2]; rfl)
      go_enter Tryd.func49, Tryd.ntmps49
      go_wp2
      go_ret
      exact ⟨ret_bool HX.out.symm, two_new _ _ _⟩
  · have HX : Hid (sameB ⟨xk, xa, xt, xv⟩ ⟨yk, ya, yt, yv⟩ = false) := Lib.hid (by rw [HS.out, h1]; rfl)
    go_enter Tryd.func49, Tryd.ntmps49
    go_wp2
    go_ret
    exact ⟨ret_bool HX.out.symm, two_new _ _ _⟩
def SmRel (w : World) (l m : List Tok) (b : Bool) (n : Nat) (i : Value) (wr : World) : Prop := ∃ k : Nat, k ≤ n ∧ i = .int .i64 k ∧ Below w.heap.size w wr ∧ Hid (sameL (l.drop k) (m.drop k) = b)
/-- the same cells behind an allocation: for the walk -/
theorem four_later {w : World} {g i : Nat} {a b c d : Value} (hg : g < w.heap.size) (h0 : w.cell? ⟨g, i, none⟩ = some a) (h1 : w.cell? ⟨g, i + 1, none⟩ = some b) (h2 : w.cell? ⟨g, i + 2, none⟩ = some c) (h3 : w.cell? ⟨g, i + 3, none⟩ = some d) :
    (∀ o, (w.alloc o).cell? ⟨g, i, none⟩ = some a) ∧ (∀ o, (w.alloc o).cell? ⟨g, i + 1, none⟩ = some b) ∧ (∀ o, (w.alloc o).cell? ⟨g, i + 2, none⟩ = some c) ∧ (∀ o, (w.alloc o).cell? ⟨g, i + 3, none⟩ = some d) :=
  have q := fun o => bcell (one_new2 w o)
  ⟨fun o => ((q o).1 g i hg).trans h0, fun o => ((q o).1 g (i + 1) hg).trans h1, fun o => ((q o).1 g (i + 2) hg).trans h2, fun o => ((q o).1 g (i + 3) hg).trans h3⟩
set_option maxHeartbeats 3200000 in
theorem equalFunc_go (ga gb n ca cb : Nat) (l m : List Tok) (w : World) (HA : Hid (ToksAt w ga l)) (HB : Hid (ToksAt w gb m)) (hn : Hid (l.length = n)) (hn' : Hid (m.length = n)) (hga : ga < w.heap.size) (hgb : gb < w.heap.size) (hm : n ≤ 1048576) :
    Calls Tryd.prog 48 #[.slice (some ⟨ga, 0, none⟩) n ca, .slice (some ⟨gb, 0, none⟩) n cb, .func (Fn.func 49) #[] #[]] w (SaysB w (sameL l m)) := by
  obtain ⟨b, hb⟩ : ∃ b, sameL l m = b := ⟨_, rfl⟩
  have H0 : Hid (sameL (l.drop 0) (m.drop 0) = b) := Lib.hid hb
  rw [hb]
  clear hb
  go_enter Tryd.func48, Tryd.ntmps48
  go_wp2_with fail
  go_loopw [17] (fun i wr => SmRel w l m b n i wr) (fun i _ => n - (intOf i).toNat)
  case atStart => exact ⟨0, Nat.zero_le _, rfl, Below.refl _ _, H0⟩
  case round =>
    obtain ⟨k, hk, rfl, hb, HP⟩ := hrel
    have HR := Lib.hid hb
    by_cases hlt : k < n
    · obtain ⟨x, hx⟩ : ∃ x, l.getD k tok0 = x := ⟨_, rfl⟩
      obtain ⟨y, hy⟩ : ∃ y, m.getD k tok0 = y := ⟨_, rfl⟩
      have hl1 : k < l.length := by rw [hn.out]; exact hlt
      have hm1 : k < m.length := by rw [hn'.out]; exact hlt
      obtain ⟨a0, a1, a2, a3⟩ := (HA.out.below hb hga).four k hl1 x hx
      obtain ⟨b0, b1, b2, b3⟩ := (HB.out.below hb hgb).four k hm1 y hy
      have hgr : gb < wr.heap.size := Nat.lt_of_lt_of_le hgb hb.size
      obtain ⟨q0, q1, q2, q3⟩ := four_later hgr b0 b1 b2 b3
      have HE := Lib.hid (sameL_at l m k hl1 hm1 x y hx hy)
      obtain ⟨xk, xa, xt, xv⟩ := x
      obtain ⟨yk, ya, yt, yv⟩ := y
      have HS := Lib.hid (fun w => isSame_any xk xa xv yk ya yv xt yt w)
      clear hb hx hy b0 b1 b2 b3 hl1 hm1
      rcases Bool.eq_false_or_eq_true (sameB ⟨xk, xa, xt, xv⟩ ⟨yk, ya, yt, yv⟩) with hs | hs
      · have HX : Hid (sameL (l.drop (k + 1)) (m.drop (k + 1)) = b) := Lib.hid (by rw [← HP.out, HE.out, hs]; rfl)
        rw [hs] at HS
        clear hs
        go_wp2_with (go_at_call 49; refine (HS.out _).mono ?_; rintro e w1 ⟨rfl, b1⟩; have B1 := Lib.hid (two_below b1); clear b1)
        go_roundw
        case rel => exact ⟨k + 1, by omega, by go_num, HR.out.trans (B1.out.mono HR.out.size), HX⟩
        case measure => simp [intOf]; omega
      · have HX : Hid (b = false) := Lib.hid (by rw [← HP.out, HE.out, hs]; rfl)
        rw [hs] at HS
        clear hs
        go_wp2_with (go_at_call 49; refine (HS.out _).mono ?_; rintro e w1 ⟨rfl, b1⟩; have B1 := Lib.hid (two_below b1); clear b1)
        go_ret
        exact ⟨ret_bool HX.out.symm, HR.out.trans (B1.out.mono HR.out.size)⟩
    · have HX : Hid (b = true) := Lib.hid (by rw [← HP.out, sameL_end l m k (by rw [hn.out]; omega) (by rw [hn'.out]; omega)])
      go_wp2_with fail
      go_ret
      exact ⟨ret_bool HX.out.symm, HR.out⟩
theorem equalFunc_none (a a' : Option Addr) (c c' : Nat) (f : Value) (w : World) :
    Calls Tryd.prog 48 #[.slice a 0 c, .slice a' 0 c', f] w (SaysB w true) := by
  go_enter Tryd.func48, Tryd.ntmps48
  go_wp2
  refine wp_loop_rounds 1 ?_
  rw [rounds_succ]
  go_wp2
  go_ret
  exact ⟨rfl, Below.refl _ _⟩
theorem equalFunc_len (a a' : Option Addr) (n n' c c' : Nat) (f : Value) (w : World) (h : n ≠ n') :
    Calls Tryd.prog 48 #[.slice a n c, .slice a' n' c', f] w (SaysB w false) := by
  have d : ((n : Int) != (n' : Int)) = true := by simp; omega
  go_enter Tryd.func48, Tryd.ntmps48
  go_wp2
  go_ret
  exact ⟨rfl, Below.refl _ _⟩
theorem SlT.form {w : World} {v : Value} {l : List Tok} (h : SlT w v l) : ∃ ad c, v = .slice ad l.length c := by
  rcases h with ⟨hl, ad, c, hv⟩ | ⟨g, c, hv, _, _⟩
  · subst hl; exact ⟨ad, c, hv⟩
  · exact ⟨_, c, hv⟩
theorem equalFunc_any (v v' : Value) (l m : List Tok) (w : World) (h : Hid (SlT w v l)) (h' : Hid (SlT w v' m)) (hm : l.length ≤ 1048576) :
    Calls Tryd.prog 48 #[v, v', .func (Fn.func 49) #[] #[]] w (SaysB w (sameL l m)) := by
  by_cases hlen : l.length = m.length
  · rcases h.out with ⟨hl, ad, c, hv⟩ | ⟨g, c, hv, ht, hg⟩
    · obtain ⟨ad', c', hv'⟩ := h'.out.form
      have hm0 : m = [] := List.eq_nil_of_length_eq_zero (by rw [← hlen, hl]; rfl)
      rw [hv, hv', hl, hm0]
      exact equalFunc_none _ _ _ _ _ w
    · rcases h'.out with ⟨hl', ad', c', hv'⟩ | ⟨g', c', hv', ht', hg'⟩
      · have hl0 : l = [] := List.eq_nil_of_length_eq_zero (by rw [hlen, hl']; rfl)
        rw [hv, hv', hl', hl0]
        exact equalFunc_none _ _ _ _ _ w
      · rw [hv, hv', ← hlen]
        exact equalFunc_go g g' l.length c c' l m w ht ht' rfl hlen.symm hg hg' hm
  · obtain ⟨ad, c, hv⟩ := h.out.form
    obtain ⟨ad', c', hv'⟩ := h'.out.form
    rw [hv, hv', sameL_len l m hlen]
    exact equalFunc_len _ _ _ _ _ _ _ w hlen
end Go.Proofs.YtdmcgjohpnojkaaDoor
