import Derived.Test.YtmmofchfafnkcaaGreatDoorPkh
import Derived.Deep.QuietTactic
import Derived.BigQuiet
import Derived.Deep.RegionWith
import Derived.Test.YtmmofchfafnkcaaGreatDoorPke
import Derived.WalkSmall
import Derived.Deep.RegionHeld3
/- Tokens of two texts compared: contracts of faultlessTokens, isSameToken, slices.EqualFunc and the model's tkSame. -/
namespace Go.Proofs.YtmmofchfafnkcaaGreatDoor
set_option maxRecDepth 100000
open Go.RowKit
set_option linter.unusedVariables false

/-- a list of tokens of the call's own and whether there is one -/
def SaysFl (w : World) (l : List Tok) (ok : Bool) (e : Ending) (w' : World) : Prop :=
  ∃ v, e = .returned (.tuple #[v, .bool ok]) ∧ OwnK w' w.heap.size v l.length l ∧ Below w.heap.size w w'
/-- a text has tokens and no fault -/
def flO (s : ByteArray) : Bool := tkO s && ((tkT s).f == 0)
set_option maxHeartbeats 1600000 in
theorem faultless_any (s : ByteArray) (w : World) (hT : Hid (Tabs w)) : Calls Tryz.prog 71 #[.string s] w (SaysFl w (tkT s).l (flO s)) := by
  have HA := Lib.hid (fun w hT => implTokensOf_any s w hT)
  have HO : Hid (flO s = (tkO s && ((tkT s).f == 0))) := Lib.hid rfl
  obtain ⟨R, hR⟩ : ∃ R, tkT s = R := ⟨_, rfl⟩
  obtain ⟨o, ho⟩ : ∃ o, tkO s = o := ⟨_, rfl⟩
  rw [hR, ho] at HA HO
  rw [HO.out, hR]
  clear hR ho HO
  obtain ⟨l, f, g⟩ := R
  rcases Bool.eq_false_or_eq_true (f == 0) with hf | hf <;> cases o
  all_goals
    go_enter Tryz.func71, Tryz.ntmps71
    go_wp2_with (go_at_call 25; refine (HA.out _ hT).mono ?_; rintro e w1 ⟨v, rfl, o1, b1⟩; have B1 := Lib.hid b1; have O1 := Lib.hid o1; clear b1 o1)
    go_quiet (fail)
    go_wp2
    go_ret2
    exact ⟨v, ret_pair rfl (by first | rfl | (rw [hf]; rfl)), (World.ownsRow.alloc (w := w1) O1.out _ : OwnK (w1.alloc _) _ _ _ _), below_drewN (B1.out.alloc B1.out.size _) _⟩
/-- two tokens differ in their places alone -/
def sameB (x y : Tok) : Bool := (x.k == y.k) && ((x.t.toList == y.t.toList) && (x.v == y.v))
def sameL : List Tok → List Tok → Bool
  | [], [] => true
  | x :: r, y :: q => sameB x y && sameL r q
  | _, _ => false
theorem sameL_len : ∀ (l m : List Tok), l.length ≠ m.length → sameL l m = false
  | [], [], h => absurd rfl h
  | [], _ :: _, _ => rfl
  | _ :: _, [], _ => rfl
  | x :: r, y :: q, h => by unfold sameL; rw [sameL_len r q (by simpa using h), Bool.and_false]
theorem sameL_at (l m : List Tok) (k : Nat) (h : k < l.length) (h' : k < m.length) (x y : Tok) (hx : l.getD k tok0 = x) (hy : m.getD k tok0 = y) : sameL (l.drop k) (m.drop k) = (sameB x y && sameL (l.drop (k + 1)) (m.drop (k + 1))) := by
  rw [List.drop_eq_getElem_cons h, List.drop_eq_getElem_cons h']
  subst hx hy
  simp [sameL, List.getD_eq_getElem?_getD, h, h']
theorem sameL_end (l m : List Tok) (k : Nat) (h : l.length ≤ k) (h' : m.length ≤ k) : sameL (l.drop k) (m.drop k) = true := by
  rw [List.drop_eq_nil_of_le h, List.drop_eq_nil_of_le h']; rfl
set_option maxHeartbeats 1600000 in
theorem isSame_any (xk xa xv yk ya yv : Int) (xt yt : ByteArray) (w : World) :
    Calls Tryz.prog 73 #[.agg #[.int .i64 xk, .int .i64 xa, .string xt, .int .i64 xv], .agg #[.int .i64 yk, .int .i64 ya, .string yt, .int .i64 yv]] w (SaysB w (sameB ⟨xk, xa, xt, xv⟩ ⟨yk, ya, yt, yv⟩)) := by
  have HS : Hid (sameB ⟨xk, xa, xt, xv⟩ ⟨yk, ya, yt, yv⟩ = ((xk == yk) && ((xt.toList == yt.toList) && (xv == yv)))) := Lib.hid rfl
  rcases Bool.eq_false_or_eq_true (xk == yk) with h1 | h1
  · rcases Bool.eq_false_or_eq_true (xt.toList == yt.toList) with h2 | h2
    · rcases Bool.eq_false_or_eq_true (xv == yv) with h3 | h3
      · have HX : Hid (sameB ⟨xk, xa, xt, xv⟩ ⟨yk, ya, yt, yv⟩ = true) := Lib.hid (by rw [HS.out, h1, h2, h3]; rfl)
        go_enter Tryz.func73, Tryz.ntmps73
        go_wp2
        go_ret
        exact ⟨ret_bool HX.out.symm, two_new _ _ _⟩
      · have HX : Hid (sameB ⟨xk, xa, xt, xv⟩ ⟨yk, ya, yt, yv⟩ = false) := Lib.hid (by rw [HS.out, h1, h2, h3]; rfl)
        go_enter Tryz.func73, Tryz.ntmps73
        go_wp2
        go_ret
        exact ⟨ret_bool HX.out.symm, two_new _ _ _⟩
    · have HX : Hid (sameB ⟨xk, xa, xt, xv⟩ ⟨yk, ya, yt, yv⟩ = false) := Lib.hid (by rw [HS.out, h1, h2]; rfl)
      go_enter Tryz.func73, Tryz.ntmps73
      go_wp2
      go_ret
      exact ⟨ret_bool HX.out.symm, two_new _ _ _⟩
  · have HX : Hid (sameB ⟨xk, xa, xt, xv⟩ ⟨yk, ya, yt, yv⟩ = false) := Lib.hid (by rw [HS.out, h1]; rfl)
    go_enter Tryz.func73, Tryz.ntmps73
    go_wp2
    go_ret
    exact ⟨ret_bool HX.out.symm, two_new _ _ _⟩
def SmRel (w : World) (l m : List Tok) (b : Bool) (n : Nat) (i : Value) (wr : World) : Prop := ∃ k : Nat, k ≤ n ∧ i = .int .i64 k ∧ Below w.heap.size w wr ∧ Hid (sameL (l.drop k) (m.drop k) = b)
/-- the same cells behind an allocation: for the walk -/
theorem four_later {w : World} {g i : Nat} {a b c d : Value} (hg : g < w.heap.size) (h0 : w.cell? ⟨g, i, none⟩ = some a) (h1 : w.cell? ⟨g, i + 1, none⟩ = some b) (h2 : w.cell? ⟨g, i + 2, none⟩ = some c) (h3 : w.cell? ⟨g, i + 3, none⟩ = some d) :
    (∀ o, (w.alloc o).cell? ⟨g, i, none⟩ = some a) ∧ (∀ o, (w.alloc o).cell? ⟨g, i + 1, none⟩ = some b) ∧ (∀ o, (w.alloc o).cell? ⟨g, i + 2, none⟩ = some c) ∧ (∀ o, (w.alloc o).cell? ⟨g, i + 3, none⟩ = some d) :=
  have q := fun o => bcell (one_new2 w o)
  ⟨fun o => ((q o).1 g i hg).trans h0, fun o => ((q o).1 g (i + 1) hg).trans h1, fun o => ((q o).1 g (i + 2) hg).trans h2, fun o => ((q o).1 g (i + 3) hg).trans h3⟩
set_option maxHeartbeats 3200000 in
theorem equalFunc_go (ga gb n ca cb : Nat) (l m : List Tok) (w : World) (HA : Hid (ToksAt w ga l)) (HB : Hid (ToksAt w gb m)) (hn : Hid (l.length = n)) (hn' : Hid (m.length = n)) (hga : ga < w.heap.size) (hgb : gb < w.heap.size) (hm : n ≤ 1048576) :
    Calls Tryz.prog 72 #[.slice (some ⟨ga, 0, none⟩) n ca, .slice (some ⟨gb, 0, none⟩) n cb, .func (Fn.func 73) #[] #[]] w (SaysB w (sameL l m)) := by
  obtain ⟨b, hb⟩ : ∃ b, sameL l m = b := ⟨_, rfl⟩
  have H0 : Hid (sameL (l.drop 0) (m.drop 0) = b) := Lib.hid hb
  rw [hb]
  clear hb
  go_enter Tryz.func72, Tryz.ntmps72
  go_wp2_with fail
  go_loopw [17] (fun i wr => SmRel w l m b n i wr) (fun i _ => n - (intOf i).toNat)
  case atStart => exact ⟨0, Nat.zero_le _, rfl, Below.refl _ _, H0⟩
  case round =>
    obtain ⟨k, hk, rfl, hb, HP⟩ := hrel
    have HR := Lib.hid hb
    by_cases hlt : k < n
    · obtain ⟨x, hx⟩ : ∃ x, l.getD k tok0 = x := ⟨_, rfl⟩
      obtain ⟨y, hy⟩ : ∃ y, m.getD k tok0 = y := ⟨_, rfl⟩
      have hl1 : k < l.length := by rw [hn.out]; exact hlt
      have hm1 : k < m.length := by rw [hn'.out]; exact hlt
      obtain ⟨a0, a1, a2, a3⟩ := (HA.out.below hb hga).four k hl1 x hx
      obtain ⟨b0, b1, b2, b3⟩ := (HB.out.below hb hgb).four k hm1 y hy
      have hgr : gb < wr.heap.size := Nat.lt_of_lt_of_le hgb hb.size
      obtain ⟨q0, q1, q2, q3⟩ := four_later hgr b0 b1 b2 b3
      have HE := Lib.hid (sameL_at l m k hl1 hm1 x y hx hy)
      obtain ⟨xk, xa, xt, xv⟩ := x
      obtain ⟨yk, ya, yt, yv⟩ := y
      have HS := Lib.hid (fun w => isSame_any xk xa xv yk ya yv xt yt w)
      clear hb hx hy b0 b1 b2 b3 hl1 hm1
      rcases Bool.eq_false_or_eq_true (sameB ⟨xk, xa, xt, xv⟩ ⟨yk, ya, yt, yv⟩) with hs | hs
      · have HX : Hid (sameL (l.drop (k + 1)) (m.drop (k + 1)) = b) := Lib.hid (by rw [← HP.out, HE.out, hs]; rfl)
        rw [hs] at HS
        clear hs
        go_wp2_with (go_at_call 73; refine (HS.out _).mono ?_; rintro e w1 ⟨rfl, b1⟩; have B1 := Lib.hid (two_below b1); clear b1)
        go_roundw
        case rel => exact ⟨k + 1, by omega, by go_num, HR.out.trans (B1.out.mono HR.out.size), HX⟩
        case measure => simp [intOf]; omega
      · have HX : Hid (b = false) := Lib.hid (by rw [← HP.out, HE.out, hs]; rfl)
        rw [hs] at HS
        clear hs
        go_wp2_with (go_at_call 73; refine (HS.out _).mono ?_; rintro e w1 ⟨rfl, b1⟩; have B1 := Lib.hid (two_below b1); clear b1)
        go_ret
        exact ⟨ret_bool HX.out.symm, HR.out.trans (B1.out.mono HR.out.size)⟩
    · have HX : Hid (b = true) := Lib.hid (by rw [← HP.out, sameL_end l m k (by rw [hn.out]; omega) (by rw [hn'.out]; omega)])
      go_wp2_with fail
      go_ret
      exact ⟨ret_bool HX.out.symm, HR.out⟩
theorem equalFunc_none (a a' : Option Addr) (c c' : Nat) (f : Value) (w : World) :
    Calls Tryz.prog 72 #[.slice a 0 c, .slice a' 0 c', f] w (SaysB w true) := by
  go_enter Tryz.func72, Tryz.ntmps72
  go_wp2
  refine wp_loop_rounds 1 ?_
  rw [rounds_succ]
  go_wp2
  go_ret
  exact ⟨rfl, Below.refl _ _⟩
theorem equalFunc_len (a a' : Option Addr) (n n' c c' : Nat) (f : Value) (w : World) (h : n ≠ n') :
    Calls Tryz.prog 72 #[.slice a n c, .slice a' n' c', f] w (SaysB w false) := by
  have d : ((n : Int) != (n' : Int)) = true := by simp; omega
  go_enter Tryz.func72, Tryz.ntmps72
  go_wp2
  go_ret
  exact ⟨rfl, Below.refl _ _⟩
theorem SlT.form {w : World} {v : Value} {l : List Tok} (h : SlT w v l) : ∃ ad c, v = .slice ad l.length c := by
  rcases h with ⟨hl, ad, c, hv⟩ | ⟨g, c, hv, _, _⟩
  · subst hl; exact ⟨ad, c, hv⟩
  · exact ⟨_, c, hv⟩
theorem equalFunc_any (v v' : Value) (l m : List Tok) (w : World) (h : Hid (SlT w v l)) (h' : Hid (SlT w v' m)) (hm : l.length ≤ 1048576) :
    Calls Tryz.prog 72 #[v, v', .func (Fn.func 73) #[] #[]] w (SaysB w (sameL l m)) := by
  by_cases hlen : l.length = m.length
  · rcases h.out with ⟨hl, ad, c, hv⟩ | ⟨g, c, hv, ht, hg⟩
    · obtain ⟨ad', c', hv'⟩ := h'.out.form
      have hm0 : m = [] := List.eq_nil_of_length_eq_zero (by rw [← hlen, hl]; rfl)
      rw [hv, hv', hl, hm0]
      exact equalFunc_none _ _ _ _ _ w
    · rcases h'.out with ⟨hl', ad', c', hv'⟩ | ⟨g', c', hv', ht', hg'⟩
      · have hl0 : l = [] := List.eq_nil_of_length_eq_zero (by rw [hlen, hl']; rfl)
        rw [hv, hv', hl', hl0]
        exact equalFunc_none _ _ _ _ _ w
      · rw [hv, hv', ← hlen]
        exact equalFunc_go g g' l.length c c' l m w ht ht' rfl hlen.symm hg hg' hm
  · obtain ⟨ad, c, hv⟩ := h.out.form
    obtain ⟨ad', c', hv'⟩ := h'.out.form
    rw [hv, hv', sameL_len l m hlen]
    exact equalFunc_len _ _ _ _ _ _ _ w hlen
set_option maxHeartbeats 6400000 in
theorem tkSame_go (ga gb n ca cb : Nat) (l m : List Tok) (w : World) (HA : Hid (ToksAt w ga l)) (HB : Hid (ToksAt w gb m)) (hn : Hid (l.length = n)) (hn' : Hid (m.length = n)) (hga : ga < w.heap.size) (hgb : gb < w.heap.size) (hm : n ≤ 1048576) :
    Calls Tryz.prog 76 #[.slice (some ⟨ga, 0, none⟩) n ca, .slice (some ⟨gb, 0, none⟩) n cb] w (SaysB w (sameL l m)) := by
  obtain ⟨b, hb⟩ : ∃ b, sameL l m = b := ⟨_, rfl⟩
  have H0 : Hid (sameL (l.drop 0) (m.drop 0) = b) := Lib.hid hb
  rw [hb]
  clear hb
  go_enter Tryz.func76, Tryz.ntmps76
  go_wp2_with fail
  go_loopw [14] (fun i wr => SmRel w l m b n i wr) (fun i _ => n - (intOf i).toNat)
  case atStart => exact ⟨0, Nat.zero_le _, rfl, Below.refl _ _, H0⟩
  case round =>
    obtain ⟨k, hk, rfl, hb, HP⟩ := hrel
    have HR := Lib.hid hb
    by_cases hlt : k < n
    · obtain ⟨x, hx⟩ : ∃ x, l.getD k tok0 = x := ⟨_, rfl⟩
      obtain ⟨y, hy⟩ : ∃ y, m.getD k tok0 = y := ⟨_, rfl⟩
      have hl1 : k < l.length := by rw [hn.out]; exact hlt
      have hm1 : k < m.length := by rw [hn'.out]; exact hlt
      obtain ⟨a0, a1, a2, a3⟩ := (HA.out.below hb hga).four k hl1 x hx
      obtain ⟨b0, b1, b2, b3⟩ := (HB.out.below hb hgb).four k hm1 y hy
      have hgr : gb < wr.heap.size := Nat.lt_of_lt_of_le hgb hb.size
      obtain ⟨q0, q1, q2, q3⟩ := four_later hgr b0 b1 b2 b3
      have HE := Lib.hid (sameL_at l m k hl1 hm1 x y hx hy)
      obtain ⟨xk, xa, xt, xv⟩ := x
      obtain ⟨yk, ya, yt, yv⟩ := y
      have HS : Hid (sameB ⟨xk, xa, xt, xv⟩ ⟨yk, ya, yt, yv⟩ = ((xk == yk) && ((xt.toList == yt.toList) && (xv == yv)))) := Lib.hid rfl
      have i0 : (0 : Int) ≤ (k : Int) := by omega
      have i1 : (k : Int) < (n : Int) := by omega
      clear hb hx hy b0 b1 b2 b3 hl1 hm1
      rcases Bool.eq_false_or_eq_true (xk == yk) with h1 | h1
      · have h1' : (xk != yk) = false := by simpa using h1
        rcases Bool.eq_false_or_eq_true (xt.toList == yt.toList) with h2 | h2
        · rcases Bool.eq_false_or_eq_true (xv == yv) with h3 | h3
          · have h3' : (xv != yv) = false := by simpa using h3
            have HX : Hid (sameL (l.drop (k + 1)) (m.drop (k + 1)) = b) := Lib.hid (by rw [← HP.out, HE.out, HS.out, h1, h2, h3]; rfl)
            go_wp2_with fail
            go_quiet (fail)
            go_wp2
            go_roundw
            case rel => exact ⟨k + 1, by omega, by go_num, below_drewN (HR.out.alloc HR.out.size _) _, HX⟩
            case measure => simp [intOf]; omega
          · have h3' : (xv != yv) = true := by simpa using h3
            have HX : Hid (b = false) := Lib.hid (by rw [← HP.out, HE.out, HS.out, h1, h2, h3]; rfl)
            go_wp2_with fail
            go_quiet (fail)
            go_wp2
            go_ret
            exact ⟨ret_bool HX.out.symm, below_drewN (HR.out.alloc HR.out.size _) _⟩
        · have HX : Hid (b = false) := Lib.hid (by rw [← HP.out, HE.out, HS.out, h1, h2]; rfl)
          go_wp2_with fail
          go_quiet (fail)
          go_wp2
          go_ret
          exact ⟨ret_bool HX.out.symm, below_drewN (HR.out.alloc HR.out.size _) _⟩
      · have h1' : (xk != yk) = true := by simpa using h1
        have HX : Hid (b = false) := Lib.hid (by rw [← HP.out, HE.out, HS.out, h1]; rfl)
        go_wp2_with fail
        go_quiet (fail)
        go_wp2
        go_ret
        exact ⟨ret_bool HX.out.symm, below_drewN (HR.out.alloc HR.out.size _) _⟩
    · have HX : Hid (b = true) := Lib.hid (by rw [← HP.out, sameL_end l m k (by rw [hn.out]; omega) (by rw [hn'.out]; omega)])
      go_wp2_with fail
      go_ret
      exact ⟨ret_bool HX.out.symm, HR.out⟩
theorem tkSame_none (a a' : Option Addr) (c c' : Nat) (w : World) :
    Calls Tryz.prog 76 #[.slice a 0 c, .slice a' 0 c'] w (SaysB w true) := by
  go_enter Tryz.func76, Tryz.ntmps76
  go_wp2
  refine wp_loop_rounds 1 ?_
  rw [rounds_succ]
  go_wp2
  go_ret
  exact ⟨rfl, Below.refl _ _⟩
theorem tkSame_len (a a' : Option Addr) (n n' c c' : Nat) (w : World) (h : n ≠ n') :
    Calls Tryz.prog 76 #[.slice a n c, .slice a' n' c'] w (SaysB w false) := by
  have d : ((n : Int) != (n' : Int)) = true := by simp; omega
  go_enter Tryz.func76, Tryz.ntmps76
  go_wp2
  go_ret
  exact ⟨rfl, Below.refl _ _⟩
theorem tkSame_any (v v' : Value) (l m : List Tok) (w : World) (h : Hid (SlT w v l)) (h' : Hid (SlT w v' m)) (hm : l.length ≤ 1048576) :
    Calls Tryz.prog 76 #[v, v'] w (SaysB w (sameL l m)) := by
  by_cases hlen : l.length = m.length
  · rcases h.out with ⟨hl, ad, c, hv⟩ | ⟨g, c, hv, ht, hg⟩
    · obtain ⟨ad', c', hv'⟩ := h'.out.form
      have hm0 : m = [] := List.eq_nil_of_length_eq_zero (by rw [← hlen, hl]; rfl)
      rw [hv, hv', hl, hm0]
      exact tkSame_none _ _ _ _ w
    · rcases h'.out with ⟨hl', ad', c', hv'⟩ | ⟨g', c', hv', ht', hg'⟩
      · have hl0 : l = [] := List.eq_nil_of_length_eq_zero (by rw [hlen, hl']; rfl)
        rw [hv, hv', hl', hl0]
        exact tkSame_none _ _ _ _ w
      · rw [hv, hv', ← hlen]
        exact tkSame_go g g' l.length c c' l m w ht ht' rfl hlen.symm hg hg' hm
  · obtain ⟨ad, c, hv⟩ := h.out.form
    obtain ⟨ad', c', hv'⟩ := h'.out.form
    rw [hv, hv', sameL_len l m hlen]
    exact tkSame_len _ _ _ _ _ _ w hlen
end Go.Proofs.YtmmofchfafnkcaaGreatDoor

/- Tokens that a text can have: the plain function and its facts. -/
namespace Go.Proofs.YtmmofchfafnkcaaGreatDoor
set_option maxRecDepth 100000
open Go.RowKit
set_option linter.unusedVariables false

/-- a token is one that a text can have -/
def goodT (k a : Int) (s : ByteArray) (v : Int) : Bool :=
  inB a 0 4000 && (decide (tkFa (ftL s.data.toList) = 0) && ((tkKi (ftL s.data.toList) == k) && (((ftL s.data.toList).toList == s.toList) && (tkVa (ftL s.data.toList) == v))))
theorem good_out {k a v : Int} {s : ByteArray} (h : inB a 0 4000 = false) : goodT k a s v = false := by unfold goodT; rw [h]; rfl
theorem good_in {k a v : Int} {s : ByteArray} (h : inB a 0 4000 = true) : goodT k a s v = (decide (tkFa (ftL s.data.toList) = 0) && ((tkKi (ftL s.data.toList) == k) && (((ftL s.data.toList).toList == s.toList) && (tkVa (ftL s.data.toList) == v)))) := by unfold goodT; rw [h]; rfl
theorem in_cases (a : Int) : (0 ≤ a ∧ a ≤ 4000 ∧ inB a 0 4000 = true) ∨ (a < 0 ∧ inB a 0 4000 = false) ∨ (0 ≤ a ∧ 4000 < a ∧ inB a 0 4000 = false) := by
  rcases Int.lt_or_le a 0 with h | h
  · exact .inr (.inl ⟨h, inB_low h⟩)
  · rcases Int.lt_or_le 4000 a with h2 | h2
    · exact .inr (.inr ⟨h, h2, inB_high h2⟩)
    · exact .inl ⟨h, h2, inB_true h h2⟩

/-! Signs. -/
theorem one_in (s : ByteArray) : ∀ l : List ByteArray, oneOf s l = true → s ∈ l
  | [], h => by cases h
  | x :: r, h => by
    unfold oneOf at h
    rcases Bool.or_eq_true_iff.1 h with q | q
    · have : x.toList = s.toList := by simpa using q
      rw [ByteArray.toList_eq, ByteArray.toList_eq] at this
      have e : x = s := ByteArray.ext (Array.toList_inj.1 this)
      rw [e]; simp
    · exact List.mem_cons_of_mem _ (one_in s r q)
theorem in_one (s : ByteArray) : ∀ l : List ByteArray, s ∈ l → oneOf s l = true
  | x :: r, h => by
    unfold oneOf
    rcases List.mem_cons.1 h with q | q
    · rw [q]; simp
    · rw [in_one s r q, Bool.or_true]
theorem sg_facts (s : ByteArray) (h : s ∈ sgA) : ftL s.data.toList = s ∧ tkFa s = 0 ∧ tkKi s = 4 ∧ tkVa s = 0 := by
  simp only [sgA, List.mem_cons, List.not_mem_nil, or_false] at h
  rcases h with rfl | rfl | rfl | rfl | rfl | rfl <;> decide
theorem good_sign {k a v : Int} {s : ByteArray} (h : inB a 0 4000 = true) (ho : oneOf s sgA = true) : goodT k a s v = ((k == 4) && (v == 0)) := by
  obtain ⟨e1, e2, e3, e4⟩ := sg_facts s (one_in s sgA ho)
  rw [good_in h, e1, e2, e3, e4]
  simp
  rw [Bool.beq_comm, Bool.beq_comm (a := (0 : Int))]
end Go.Proofs.YtmmofchfafnkcaaGreatDoor

/- Worlds that differ from one only behind it: what a region that draws its order keeps. -/
namespace Go.Proofs.YtmmofchfafnkcaaGreatDoor
set_option maxRecDepth 100000
open Go.RowKit
set_option linter.unusedVariables false

/-- only what lies behind the box was written -/
def BX (wb w' : World) : Prop := Below wb.heap.size wb w'
theorem BX.drew0 (wb : World) : BX wb wb.drew := below_drewN (Below.refl _ _) 1
theorem undrew {X w1 : World} (b : Below X.drew.heap.size X.drew w1) : Below X.heap.size X w1 := (show Below X.heap.size X X.drew from below_drewN (Below.refl _ _) 1).trans b
theorem BX.refl (wb : World) : BX wb wb := Below.refl _ _
theorem BX.alloc {wb w' : World} (h : BX wb w') (o : Obj) : BX wb (w'.alloc o) := Below.alloc h h.size o
theorem BX.call {wb w' w1 : World} (h : BX wb w') (b : Below w'.heap.size w' w1) : BX wb w1 := Below.trans h (b.mono h.size)
theorem BX.call' {wb w' w1 : World} (b : Below w'.heap.size w' w1) (h : BX wb w') : BX wb w1 := h.call b
theorem BX.set {wb w' : World} {b o : Nat} (h : BX wb w') (hb : wb.heap.size ≤ b) (v : Value) : BX wb (w'.setCell ⟨b, o, none⟩ v) := Below.setCell h hb v
theorem BX.size {wb w' : World} (h : BX wb w') : wb.heap.size ≤ w'.heap.size := Below.size h
theorem BX.size1 {wb w' : World} (h : BX wb w') : wb.heap.size ≤ w'.heap.size + 1 := Nat.le_succ_of_le (Below.size h)
theorem BX.drew {wb w' : World} (h : BX wb w') : BX wb w'.drew := below_drewN h 1
/-- An operation of a region that draws its order, taken first: its slot's number written out. -/
theorem held_take {P : Program} {ops : Array Oper} {Q : Exit → Act → World → Prop} {md : Region.Mode} {S : World → Prop} {i d : Nat} {oi : Oper} {v : Value} {fuel : Nat} {listed : Array Bool} {a : Act} {w : World} (hi : ops[i]? = Option.some oi) (hd : oi.dst = Option.some d)
    (hs : Region.noSelect ops = true) (hf : Region.free md ops listed i = true) (hr : (Region.ready md ops listed).contains i = true)
    (hQ : ∀ c a w, Q (.panic c) (a.put oi.dst v) w → Q (.panic c) a w) (hw : Region.wanted oi (yielded ops a.tmps) = true) (hv : ∀ w, S w → (execOp a.eval oi).run P w = .ok (.value v) w) (hS : S w)
    (h : wpAnyH P md ops Q S fuel (listed.setIfInBounds i true) (a.put (Option.some d) v) w) : wpAnyH P md ops Q S (fuel + 1) listed a w :=
  wpAnyH_take hi hs hf hr hQ (.inl ⟨hw, hv⟩) hS (by rw [hd]; exact h)
/-- The same of one that is not wanted. -/
theorem held_skip {P : Program} {ops : Array Oper} {Q : Exit → Act → World → Prop} {md : Region.Mode} {S : World → Prop} {i d : Nat} {oi : Oper} {fuel : Nat} {listed : Array Bool} {a : Act} {w : World} (hi : ops[i]? = Option.some oi) (hd : oi.dst = Option.some d)
    (hs : Region.noSelect ops = true) (hf : Region.free md ops listed i = true) (hr : (Region.ready md ops listed).contains i = true)
    (hQ : ∀ c a w, Q (.panic c) (a.put oi.dst undef) w → Q (.panic c) a w) (hw : Region.wanted oi (yielded ops a.tmps) = false) (hS : S w)
    (h : wpAnyH P md ops Q S fuel (listed.setIfInBounds i true) (a.put (Option.some d) undef) w) : wpAnyH P md ops Q S (fuel + 1) listed a w :=
  wpAnyH_take hi hs hf hr hQ (.inr ⟨hw, rfl⟩) hS (by rw [hd]; exact h)
end Go.Proofs.YtmmofchfafnkcaaGreatDoor

/- Tokens that a text can have, in the program: contracts of IsToken. -/
namespace Go.Proofs.YtmmofchfafnkcaaGreatDoor
set_option maxRecDepth 100000
open Go.RowKit
set_option linter.unusedVariables false

theorem one_size {w w1 : World} {o : Obj} (b : Below (w.alloc o).heap.size (w.alloc o) w1) : w.heap.size < w1.heap.size := by have := b.size; simp at this; omega
theorem box_facts {w w1 : World} {k a t v : Value} {T : TypeId} (b : Below (w.alloc (.cells #[k, a, t, v] T)).heap.size (w.alloc (.cells #[k, a, t, v] T)) w1) :
    w1.cell? ⟨w.heap.size, 0, none⟩ = some k ∧ w1.cell? ⟨w.heap.size, 1, none⟩ = some a ∧ w1.cell? ⟨w.heap.size, 2, none⟩ = some t ∧ w1.cell? ⟨w.heap.size, 3, none⟩ = some v ∧ Below w.heap.size w w1 := by
  have hc := (bcell b).1
  have e : (w.alloc (.cells #[k, a, t, v] T)).heap.size = w.heap.size + 1 := by simp
  rw [e] at hc
  refine ⟨?_, ?_, ?_, ?_, (one_new2 w _).trans (b.mono (by simp))⟩ <;> rw [hc _ _ (by omega)] <;> simp [go_sem]
theorem sz1 {w w1 : World} {o : Obj} (b : Below (w.alloc o).heap.size (w.alloc o) w1) : w.heap.size < w1.heap.size := by have := b.size; simp at this; omega
theorem sz2 {w w1 : World} {o o' : Obj} (b : Below ((w.alloc o).alloc o').heap.size ((w.alloc o).alloc o') w1) : w.heap.size < w1.heap.size ∧ w.heap.size + 1 < w1.heap.size := by have := b.size; simp at this; omega
theorem BX.cells {w w' : World} {k a t v : Value} {T : TypeId} (h : BX (w.alloc (.cells #[k, a, t, v] T)) w') :
    w'.cell? ⟨w.heap.size, 0, none⟩ = some k ∧ w'.cell? ⟨w.heap.size, 1, none⟩ = some a ∧ w'.cell? ⟨w.heap.size, 2, none⟩ = some t ∧ w'.cell? ⟨w.heap.size, 3, none⟩ = some v ∧ BX (w.alloc (.cells #[k, a, t, v] T)) w' := by
  obtain ⟨c0, c1, c2, c3, _⟩ := box_facts h
  exact ⟨c0, c1, c2, c3, h⟩
/-- a token's variable, made and not yet written; a fault's -/
def LocT (w : World) (b : Nat) : Prop := b < w.heap.size ∧ (w.cell? ⟨b, 0, none⟩ = some (.int .i64 0) ∧ w.cell? ⟨b, 1, none⟩ = some (.int .i64 0) ∧ w.cell? ⟨b, 2, none⟩ = some (.string ⟨#[]⟩) ∧ w.cell? ⟨b, 3, none⟩ = some (.int .i64 0)) ∧ (w.frozen? ⟨b, 0, none⟩ = false ∧ w.frozen? ⟨b, 1, none⟩ = false ∧ w.frozen? ⟨b, 2, none⟩ = false ∧ w.frozen? ⟨b, 3, none⟩ = false)
def LocF (w : World) (b : Nat) : Prop := b < w.heap.size ∧ (w.cell? ⟨b, 0, none⟩ = some (.int .i64 0) ∧ w.cell? ⟨b, 1, none⟩ = some (.int .i64 0)) ∧ (w.frozen? ⟨b, 0, none⟩ = false ∧ w.frozen? ⟨b, 1, none⟩ = false)
theorem LocT.below {w w' : World} {b : Nat} (h : LocT w b) (hb : Below w.heap.size w w') : LocT w' b := by
  obtain ⟨hc, hf⟩ := bcell hb
  obtain ⟨hl, ⟨h0, h1, h2, h3⟩, f0, f1, f2, f3⟩ := h
  exact ⟨Nat.lt_of_lt_of_le hl hb.size, ⟨by rw [hc _ _ hl]; exact h0, by rw [hc _ _ hl]; exact h1, by rw [hc _ _ hl]; exact h2, by rw [hc _ _ hl]; exact h3⟩, by rw [hf _ _ hl]; exact f0, by rw [hf _ _ hl]; exact f1, by rw [hf _ _ hl]; exact f2, by rw [hf _ _ hl]; exact f3⟩
theorem LocF.below {w w' : World} {b : Nat} (h : LocF w b) (hb : Below w.heap.size w w') : LocF w' b := by
  obtain ⟨hc, hf⟩ := bcell hb
  obtain ⟨hl, ⟨h0, h1⟩, f0, f1⟩ := h
  exact ⟨Nat.lt_of_lt_of_le hl hb.size, ⟨by rw [hc _ _ hl]; exact h0, by rw [hc _ _ hl]; exact h1⟩, by rw [hf _ _ hl]; exact f0, by rw [hf _ _ hl]; exact f1⟩
theorem locT_new (w : World) (T : TypeId) : LocT (w.alloc (.cells #[.int .i64 0, .int .i64 0, .string ⟨#[]⟩, .int .i64 0] T)) w.heap.size := by
  refine ⟨by simp, ⟨?_, ?_, ?_, ?_⟩, ?_, ?_, ?_, ?_⟩ <;> simp [go_sem]
theorem locF_new (w : World) (T : TypeId) : LocF (w.alloc (.cells #[.int .i64 0, .int .i64 0] T)) w.heap.size := by
  refine ⟨by simp, ⟨?_, ?_⟩, ?_, ?_⟩ <;> simp [go_sem]
theorem size_alloc1 (w : World) (o : Obj) : (w.alloc o).heap.size = w.heap.size + 1 := by simp
abbrev tokZ (T : TypeId) : Obj := .cells #[.int .i64 0, .int .i64 0, .string ⟨#[]⟩, .int .i64 0] T
abbrev fauZ (T : TypeId) : Obj := .cells #[.int .i64 0, .int .i64 0] T
theorem locTF {u w1 : World} {T T' : TypeId} (b : Below ((u.alloc (.cells #[.int .i64 0, .int .i64 0, .string ⟨#[]⟩, .int .i64 0] T)).alloc (.cells #[.int .i64 0, .int .i64 0] T')).heap.size ((u.alloc (.cells #[.int .i64 0, .int .i64 0, .string ⟨#[]⟩, .int .i64 0] T)).alloc (.cells #[.int .i64 0, .int .i64 0] T')) w1) : LocT w1 u.heap.size ∧ LocF w1 (u.heap.size + 1) := by
  have h := locF_new (u.alloc (.cells #[.int .i64 0, .int .i64 0, .string ⟨#[]⟩, .int .i64 0] T)) T'
  rw [size_alloc1] at h
  exact ⟨((locT_new u T).below (one_new2 _ _)).below b, h.below b⟩
theorem locFT {u w1 : World} {T T' : TypeId} (b : Below ((u.alloc (.cells #[.int .i64 0, .int .i64 0] T')).alloc (.cells #[.int .i64 0, .int .i64 0, .string ⟨#[]⟩, .int .i64 0] T)).heap.size ((u.alloc (.cells #[.int .i64 0, .int .i64 0] T')).alloc (.cells #[.int .i64 0, .int .i64 0, .string ⟨#[]⟩, .int .i64 0] T)) w1) : LocF w1 u.heap.size ∧ LocT w1 (u.heap.size + 1) := by
  have h := locT_new (u.alloc (.cells #[.int .i64 0, .int .i64 0] T')) T
  rw [size_alloc1] at h
  exact ⟨((locF_new u T').below (one_new2 _ _)).below b, h.below b⟩
theorem locT {u w1 : World} {T : TypeId} (b : Below (u.alloc (.cells #[.int .i64 0, .int .i64 0, .string ⟨#[]⟩, .int .i64 0] T)).heap.size (u.alloc (.cells #[.int .i64 0, .int .i64 0, .string ⟨#[]⟩, .int .i64 0] T)) w1) : LocT w1 u.heap.size := (locT_new u T).below b
theorem locF {u w1 : World} {T : TypeId} (b : Below (u.alloc (.cells #[.int .i64 0, .int .i64 0] T)).heap.size (u.alloc (.cells #[.int .i64 0, .int .i64 0] T)) w1) : LocF w1 u.heap.size := (locF_new u T).below b
theorem LocT.call {w1 X w2 : World} {b : Nat} (h : LocT w1 b) (hX : Below w1.heap.size w1 X) (b2 : Below X.heap.size X w2) : LocT w2 b := (h.below hX).below b2
theorem LocF.call {w1 X w2 : World} {b : Nat} (h : LocF w1 b) (hX : Below w1.heap.size w1 X) (b2 : Below X.heap.size X w2) : LocF w2 b := (h.below hX).below b2
/-- what the walk asks, of a world and of it behind one allocation -/
theorem LocT.facts {w : World} {b : Nat} (h : LocT w b) : ((w.cell? ⟨b, 0, none⟩ = some (.int .i64 0) ∧ w.cell? ⟨b, 1, none⟩ = some (.int .i64 0) ∧ w.cell? ⟨b, 2, none⟩ = some (.string ⟨#[]⟩) ∧ w.cell? ⟨b, 3, none⟩ = some (.int .i64 0)) ∧ (w.frozen? ⟨b, 0, none⟩ = false ∧ w.frozen? ⟨b, 1, none⟩ = false ∧ w.frozen? ⟨b, 2, none⟩ = false ∧ w.frozen? ⟨b, 3, none⟩ = false)) ∧
    (((∀ o, (w.alloc o).cell? ⟨b, 0, none⟩ = some (.int .i64 0)) ∧ (∀ o, (w.alloc o).cell? ⟨b, 1, none⟩ = some (.int .i64 0)) ∧ (∀ o, (w.alloc o).cell? ⟨b, 2, none⟩ = some (.string ⟨#[]⟩)) ∧ (∀ o, (w.alloc o).cell? ⟨b, 3, none⟩ = some (.int .i64 0))) ∧ ((∀ o, (w.alloc o).frozen? ⟨b, 0, none⟩ = false) ∧ (∀ o, (w.alloc o).frozen? ⟨b, 1, none⟩ = false) ∧ (∀ o, (w.alloc o).frozen? ⟨b, 2, none⟩ = false) ∧ (∀ o, (w.alloc o).frozen? ⟨b, 3, none⟩ = false))) :=
  have q := fun o => h.below (one_new2 w o)
  ⟨⟨h.2.1, h.2.2⟩, ⟨fun o => (q o).2.1.1, fun o => (q o).2.1.2.1, fun o => (q o).2.1.2.2.1, fun o => (q o).2.1.2.2.2⟩, fun o => (q o).2.2.1, fun o => (q o).2.2.2.1, fun o => (q o).2.2.2.2.1, fun o => (q o).2.2.2.2.2⟩
theorem LocF.facts {w : World} {b : Nat} (h : LocF w b) : ((w.cell? ⟨b, 0, none⟩ = some (.int .i64 0) ∧ w.cell? ⟨b, 1, none⟩ = some (.int .i64 0)) ∧ (w.frozen? ⟨b, 0, none⟩ = false ∧ w.frozen? ⟨b, 1, none⟩ = false)) ∧
    (((∀ o, (w.alloc o).cell? ⟨b, 0, none⟩ = some (.int .i64 0)) ∧ (∀ o, (w.alloc o).cell? ⟨b, 1, none⟩ = some (.int .i64 0))) ∧ ((∀ o, (w.alloc o).frozen? ⟨b, 0, none⟩ = false) ∧ (∀ o, (w.alloc o).frozen? ⟨b, 1, none⟩ = false))) :=
  have q := fun o => h.below (one_new2 w o)
  ⟨⟨h.2.1, h.2.2⟩, ⟨fun o => (q o).2.1.1, fun o => (q o).2.1.2⟩, fun o => (q o).2.2.1, fun o => (q o).2.2.2⟩
set_option maxHeartbeats 40000000 in
theorem implIsToken_go (k a v : Int) (s : ByteArray) (w : World) (hs : s.size ≤ 1048576) (hT : Hid (Tabs w)) (h0 : 0 ≤ a) (h1 : a ≤ 4000) (f : ByteArray) (hf : Hid (ftS s = f)) (K A V F G : Int) (t : ByteArray)
    (HM : Hid (∀ w, Hid (Tabs w) → Calls Tryz.prog 81 #[.string f, .int .i64 a] w (SaysV w (.tuple #[.agg #[.int .i64 K, .int .i64 A, .string t, .int .i64 V], .agg #[.int .i64 F, .int .i64 G]]))))
    (r : Bool) (HR : Hid (r = ((F == 0) && ((K == k) && ((t.toList == s.toList) && (V == v)))))) (HA : Hid (F = 0 → (A == a) = true)) :
    Calls Tryz.prog 21 #[.agg #[.int .i64 k, .int .i64 a, .string s, .int .i64 v]] w (SaysB w r) := by
  have HF := Lib.hid (fun w hS => firstText_any s w hs hS)
  rw [hf.out] at HF
  have d0 := not_lt h0
  have d1 := not_lt h1
  obtain ⟨wb, hwb⟩ : ∃ wb, w.alloc (.cells #[.int .i64 k, .int .i64 a, .string s, .int .i64 v] 31) = wb := ⟨_, rfl⟩
  have HW := Lib.hid hwb
  have HB : Hid (∀ w', BX wb w' → w'.cell? ⟨w.heap.size, 0, none⟩ = some (.int .i64 k) ∧ w'.cell? ⟨w.heap.size, 1, none⟩ = some (.int .i64 a) ∧ w'.cell? ⟨w.heap.size, 2, none⟩ = some (.string s) ∧ w'.cell? ⟨w.heap.size, 3, none⟩ = some (.int .i64 v) ∧ BX wb w') := Lib.hid (fun w' h => by subst hwb; exact h.cells)
  have HBel : Hid (∀ w', BX wb w' → Below w.heap.size w w') := Lib.hid (fun w' h => by subst hwb; exact (one_new2 _ _).trans (Below.mono h (by simp)))
  have HTb : Hid (∀ w', BX wb w' → Tabs w') := Lib.hid (fun w' h => by subst hwb; exact hT.out.below ((one_new2 _ _).trans (Below.mono h (by simp))))
  clear hwb
  go_enter Tryz.func21, Tryz.ntmps21
  go_wp2_with fail
  rw [HW.out]
  go_region_held3 (fun w' => w'.cell? ⟨w.heap.size, 0, none⟩ = some (.int .i64 k) ∧ w'.cell? ⟨w.heap.size, 1, none⟩ = some (.int .i64 a) ∧ w'.cell? ⟨w.heap.size, 2, none⟩ = some (.string s) ∧ w'.cell? ⟨w.heap.size, 3, none⟩ = some (.int .i64 v) ∧ BX wb w')
    (first
      | (go_split_ands; refine HB.out _ ?_; repeat' (with_reducible first | exact BX.drew0 _ | exact BX.refl _ | assumption | refine BX.set ?_ ?_ _ | refine BX.alloc ?_ _ | refine BX.call' (by assumption) ?_ | refine BX.drew ?_ | refine BX.size ?_ | refine BX.size1 ?_)))
    (first
      | (go_at_call 82; go_split_ands; refine (HF.out _ (HTb.out _ (by assumption)).2.2.2).mono ?_; rintro e w1 ⟨rfl, b0⟩; have b1 := undrew b0; clear b0; (first | (have q := locTF b1; have LT1 := Lib.hid q.1; have LF1 := Lib.hid q.2; clear q) | (have q := locFT b1; have LF1 := Lib.hid q.1; have LT1 := Lib.hid q.2; clear q) | (have LT1 := Lib.hid (locT b1)) | (have LF1 := Lib.hid (locF b1)) | skip); (first | (have ql := LT1.out.1; have qn := Nat.ne_of_lt ql; have qm := Nat.ne_of_gt ql) | skip); (first | (have rl := LF1.out.1; have rn := Nat.ne_of_lt rl; have rm := Nat.ne_of_gt rl) | skip))
      | (go_at_call 81; go_split_ands; refine (HM.out _ (HTb.out _ (by assumption))).mono ?_; rintro e w2 ⟨rfl, b2⟩; (first | (have q := locTF b2; have LT2 := Lib.hid q.1; have LF2 := Lib.hid q.2; clear q) | (have q := locFT b2; have LF2 := Lib.hid q.1; have LT2 := Lib.hid q.2; clear q) | (have LT2 := Lib.hid (locT b2)) | (have LF2 := Lib.hid (locF b2)) | skip); (first | (have LT2 := Lib.hid (LT1.out.call (one_new2 _ _) b2)) | (have LT2 := Lib.hid (LT1.out.call (Below.refl _ _) b2)) | skip); (first | (have LF2 := Lib.hid (LF1.out.call (one_new2 _ _) b2)) | (have LF2 := Lib.hid (LF1.out.call (Below.refl _ _) b2)) | skip); (first | (have q := LT2.out.facts; go_split_ands) | skip); (first | (have q := LF2.out.facts; go_split_ands) | skip); (first | (have sl := LT2.out.1; have sn := Nat.ne_of_lt sl; have sm := Nat.ne_of_gt sl) | skip); (first | (have tl := LF2.out.1; have tn := Nat.ne_of_lt tl; have tm := Nat.ne_of_gt tl) | skip)))
  all_goals
    go_split_ands
    rcases Bool.eq_false_or_eq_true (F == 0) with e1 | e1
    · have e2 := HA.out (by simpa using e1)
      rcases Bool.eq_false_or_eq_true (K == k) with e3 | e3
      · rcases Bool.eq_false_or_eq_true (t.toList == s.toList) with e4 | e4
        · rcases Bool.eq_false_or_eq_true (V == v) with e5 | e5
          · have HX : Hid (r = true) := Lib.hid (by rw [HR.out, e1, e3, e4, e5]; rfl)
            go_wp2
            go_ret
            exact ⟨ret_bool HX.out.symm, HBel.out _ (by assumption)⟩
          · have HX : Hid (r = false) := Lib.hid (by rw [HR.out, e1, e3, e4, e5]; rfl)
            go_wp2
            go_ret
            exact ⟨ret_bool HX.out.symm, HBel.out _ (by assumption)⟩
        · have HX : Hid (r = false) := Lib.hid (by rw [HR.out, e1, e3, e4]; rfl)
          go_wp2
          go_ret
          exact ⟨ret_bool HX.out.symm, HBel.out _ (by assumption)⟩
      · have HX : Hid (r = false) := Lib.hid (by rw [HR.out, e1, e3]; rfl)
        go_wp2
        go_ret
        exact ⟨ret_bool HX.out.symm, HBel.out _ (by assumption)⟩
    · have HX : Hid (r = false) := Lib.hid (by rw [HR.out, e1]; rfl)
      go_wp2
      go_ret
      exact ⟨ret_bool HX.out.symm, HBel.out _ (by assumption)⟩
theorem implIsToken_out (k a v : Int) (s : ByteArray) (w : World) (h : a < 0 ∨ (0 ≤ a ∧ 4000 < a)) :
    Calls Tryz.prog 21 #[.agg #[.int .i64 k, .int .i64 a, .string s, .int .i64 v]] w (SaysB w false) := by
  rcases h with h | ⟨h, h2⟩
  · have d0 := is_lt h
    go_enter Tryz.func21, Tryz.ntmps21
    go_wp2
    go_ret
    exact ⟨rfl, one_new2 _ _⟩
  · have d0 := not_lt h
    have d1 := is_lt h2
    go_enter Tryz.func21, Tryz.ntmps21
    go_wp2
    go_ret
    exact ⟨rfl, one_new2 _ _⟩
theorem implIsToken_any (k a v : Int) (s : ByteArray) (w : World) (hs : s.size ≤ 1048576) (hT : Hid (Tabs w)) :
    Calls Tryz.prog 21 #[.agg #[.int .i64 k, .int .i64 a, .string s, .int .i64 v]] w (SaysB w (goodT k a s v)) := by
  rcases in_cases a with ⟨h0, h1, hi⟩ | ⟨h, hi⟩ | ⟨h, h2, hi⟩
  · have hsz : (ftS s).size ≤ 1048576 := by rw [ftS_eq]; have := ftL_len s.data.toList; rw [← size_list] at this; omega
    have HM := fun w hT => tokenOf_any (ftS s) a w hsz hT
    have hg := good_in (k := k) (v := v) (s := s) hi
    rw [← ftS_eq] at hg
    by_cases hf : tkFa (ftS s) = 0
    · rw [(tokR_yes a hf rfl rfl).1, (tokR_yes a hf rfl rfl).2] at HM
      refine implIsToken_go k a v s w hs hT h0 h1 (ftS s) rfl _ _ _ _ _ _ (Lib.hid HM) _ (Lib.hid ?_) (Lib.hid fun _ => by simp)
      rw [hg, decide_eq_true hf]; rfl
    · rw [(tokR_no a rfl hf).1, (tokR_no a rfl hf).2] at HM
      refine implIsToken_go k a v s w hs hT h0 h1 (ftS s) rfl _ _ _ _ _ _ (Lib.hid HM) _ (Lib.hid ?_) (Lib.hid fun q => absurd q hf)
      rw [hg, decide_eq_false hf]
      have : (tkFa (ftS s) == 0) = false := by simpa using hf
      rw [this]; rfl
  · rw [good_out hi]; exact implIsToken_out k a v s w (.inl h)
  · rw [good_out hi]; exact implIsToken_out k a v s w (.inr ⟨h, h2⟩)
end Go.Proofs.YtmmofchfafnkcaaGreatDoor

/- Tokens that a text can have, in the model: contracts of tkGood and IsToken. -/
namespace Go.Proofs.YtmmofchfafnkcaaGreatDoor
set_option maxRecDepth 100000
open Go.RowKit
set_option linter.unusedVariables false

theorem specGood_out (k a v : Int) (s : ByteArray) (w : World) (h : Hid (inB a 0 4000 = false)) :
    Calls Tryz.prog 74 #[.agg #[.int .i64 k, .int .i64 a, .string s, .int .i64 v]] w (SaysB w false) := by
  have HI := Lib.hid (fun w => l1In_any a 0 4000 w)
  rw [h.out] at HI
  go_enter Tryz.func74, Tryz.ntmps74
  go_wp2_with (go_at_call 133; refine (HI.out _).mono ?_; rintro e w' ⟨rfl, rfl⟩)
  go_ret
  exact ⟨rfl, one_new2 _ _⟩
theorem specGood_empty (k a v : Int) (s : ByteArray) (w : World) (h : Hid (inB a 0 4000 = true)) (hz : s.size = 0) :
    Calls Tryz.prog 74 #[.agg #[.int .i64 k, .int .i64 a, .string s, .int .i64 v]] w (SaysB w false) := by
  have HI := Lib.hid (fun w => l1In_any a 0 4000 w)
  rw [h.out] at HI
  obtain ⟨f1, f2⟩ := empty_tests hz
  clear hz
  go_enter Tryz.func74, Tryz.ntmps74
  go_wp2_with (go_at_call 133; refine (HI.out _).mono ?_; rintro e w' ⟨rfl, rfl⟩)
  go_ret
  exact ⟨rfl, one_new2 _ _⟩
/-- what a box says of later worlds -/
theorem box_hid {w wb : World} {k a v : Int} {s : ByteArray} {T : TypeId} (hwb : w.alloc (.cells #[.int .i64 k, .int .i64 a, .string s, .int .i64 v] T) = wb) :
    Hid (∀ w', BX wb w' → w'.cell? ⟨w.heap.size, 0, none⟩ = some (.int .i64 k) ∧ w'.cell? ⟨w.heap.size, 1, none⟩ = some (.int .i64 a) ∧ w'.cell? ⟨w.heap.size, 2, none⟩ = some (.string s) ∧ w'.cell? ⟨w.heap.size, 3, none⟩ = some (.int .i64 v) ∧ BX wb w') ∧
    Hid (∀ w', BX wb w' → Below w.heap.size w w') := by
  subst hwb
  exact ⟨Lib.hid (fun w' h => h.cells), Lib.hid (fun w' h => (one_new2 _ _).trans (Below.mono h (by simp)))⟩
theorem undrewN {X w1 : World} {n : Nat} (b : Below (X.drewN n).heap.size (X.drewN n) w1) : Below X.heap.size X w1 := (show Below X.heap.size X (X.drewN n) from below_drewN (Below.refl _ _) n).trans b
set_option maxHeartbeats 3200000 in
theorem specGood_sign (k a v : Int) (s : ByteArray) (w : World) (h : Hid (inB a 0 4000 = true)) (hz : 0 < s.size) (ho : Hid (oneOf s sgA = true)) :
    Calls Tryz.prog 74 #[.agg #[.int .i64 k, .int .i64 a, .string s, .int .i64 v]] w (SaysB w ((k == 4) && (v == 0))) := by
  have HI := Lib.hid (fun w => l1In_any a 0 4000 w)
  rw [h.out] at HI
  obtain ⟨f1, f2⟩ := full_tests hz
  have HS : Hid (∀ (g : Nat) (w : World), TextsAt w g sgA → Calls Tryz.prog 83 #[.slice (some ⟨g, 0, none⟩) 6 6, .string s] w fun e w' => e = .returned (.bool true) ∧ w = w') := Lib.hid (fun g w HT => by
    have := l1HasS_any g 6 6 sgA s w HT (Lib.hid rfl) (by omega)
    rw [ho.out] at this
    exact this)
  clear hz
  obtain ⟨wb, hwb⟩ : ∃ wb, w.alloc (.cells #[.int .i64 k, .int .i64 a, .string s, .int .i64 v] 31) = wb := ⟨_, rfl⟩
  have HW := Lib.hid hwb
  obtain ⟨HB, HBel⟩ := box_hid hwb
  clear hwb
  rcases Bool.eq_false_or_eq_true (k == 4) with h1 | h1 <;> rcases Bool.eq_false_or_eq_true (v == 0) with h2 | h2
  all_goals
    rw [h1, h2]
    go_enter Tryz.func74, Tryz.ntmps74
    go_wp2_with (go_at_call 133; refine (HI.out _).mono ?_; rintro e w' ⟨rfl, rfl⟩)
    rw [HW.out]
    obtain ⟨c0, c1, c2, c3, _⟩ := HB.out wb (BX.refl _)
    go_region_with (first | (go_at_call 146; refine (tkSigns_any _).mono ?_; rintro e w1 ⟨rfl, ht, b0⟩; have HT1 := Lib.hid ht; have b1 := undrew b0; obtain ⟨e0, e1, e2, e3, bx⟩ := HB.out w1 b1; have BX1 := Lib.hid bx; clear b0 b1 ht bx) | (go_at_call 83; refine (HS.out _ _ HT1.out).mono ?_; rintro e w' ⟨rfl, rfl⟩))
    all_goals
      go_wp2
      go_ret
      exact ⟨rfl, HBel.out _ BX1.out⟩
set_option maxHeartbeats 3200000 in
theorem specGood_norun (k a v : Int) (s : ByteArray) (w : World) (h : Hid (inB a 0 4000 = true)) (hz : 0 < s.size) (hs : s.size ≤ 1048576) (ho : Hid (oneOf s sgA = false)) (u : ByteArray) (hu : Hid (s.extract 0 (0 + runN (s.data.toList.drop 0)) = u)) (hne : (u.toList == s.toList) = false) :
    Calls Tryz.prog 74 #[.agg #[.int .i64 k, .int .i64 a, .string s, .int .i64 v]] w (SaysB w false) := by
  have HI := Lib.hid (fun w => l1In_any a 0 4000 w)
  rw [h.out] at HI
  obtain ⟨f1, f2⟩ := full_tests hz
  have HS : Hid (∀ (g : Nat) (w : World), TextsAt w g sgA → Calls Tryz.prog 83 #[.slice (some ⟨g, 0, none⟩) 6 6, .string s] w fun e w' => e = .returned (.bool false) ∧ w = w') := Lib.hid (fun g w HT => by
    have := l1HasS_any g 6 6 sgA s w HT (Lib.hid rfl) (by omega)
    rw [ho.out] at this
    exact this)
  have HR : Hid (∀ w : World, Calls Tryz.prog 147 #[.string s, .int .i64 0] w fun e w' => e = .returned (.string u) ∧ w' = w) := Lib.hid (fun w => by
    have := tkRun_any s 0 w hs (Nat.zero_le _)
    rw [hu.out] at this
    exact this.mono fun e w' ⟨q, q2⟩ => ⟨q, q2.symm⟩)
  have hne2 : (u.toList != s.toList) = true := by simpa using hne
  clear hz
  obtain ⟨wb, hwb⟩ : ∃ wb, w.alloc (.cells #[.int .i64 k, .int .i64 a, .string s, .int .i64 v] 31) = wb := ⟨_, rfl⟩
  have HW := Lib.hid hwb
  obtain ⟨HB, HBel⟩ := box_hid hwb
  clear hwb
  go_enter Tryz.func74, Tryz.ntmps74
  go_wp2_with (go_at_call 133; refine (HI.out _).mono ?_; rintro e w' ⟨rfl, rfl⟩)
  rw [HW.out]
  obtain ⟨c0, c1, c2, c3, _⟩ := HB.out wb (BX.refl _)
  go_region_with (first | (go_at_call 146; refine (tkSigns_any _).mono ?_; rintro e w1 ⟨rfl, ht, b0⟩; have HT1 := Lib.hid ht; have b1 := undrew b0; obtain ⟨e0, e1, e2, e3, bx⟩ := HB.out w1 b1; have BX1 := Lib.hid bx; clear b0 b1 ht bx) | (go_at_call 83; refine (HS.out _ _ HT1.out).mono ?_; rintro e w' ⟨rfl, rfl⟩))
  all_goals
    clear c0 c1 c2 c3
    go_wp2
    go_quiet ((go_at_call 147; exact Calls.quiet_of_same (HR.out _)))
    go_wp2
    go_ret
    exact ⟨rfl, below_drewN (HBel.out _ BX1.out) _⟩
set_option maxHeartbeats 6400000 in
theorem specGood_make (k a v : Int) (s : ByteArray) (w : World) (h : Hid (inB a 0 4000 = true)) (hz : 0 < s.size) (hs : s.size ≤ 1048576) (ho : Hid (oneOf s sgA = false)) (hu : Hid (s.extract 0 (0 + runN (s.data.toList.drop 0)) = s)) (K A V F : Int) (T : ByteArray)
    (HM : Hid (∀ w, Calls Tryz.prog 145 #[.string s, .int .i64 a] w (SaysV w (.tuple #[.agg #[.int .i64 K, .int .i64 A, .string T, .int .i64 V], .int .i64 F]))))
    (r : Bool) (HR0 : Hid (r = ((F == 0) && ((K == k) && ((T.toList == s.toList) && (V == v)))))) (HA : Hid (F = 0 → (A == a) = true)) :
    Calls Tryz.prog 74 #[.agg #[.int .i64 k, .int .i64 a, .string s, .int .i64 v]] w (SaysB w r) := by
  have HI := Lib.hid (fun w => l1In_any a 0 4000 w)
  rw [h.out] at HI
  obtain ⟨f1, f2⟩ := full_tests hz
  have HS : Hid (∀ (g : Nat) (w : World), TextsAt w g sgA → Calls Tryz.prog 83 #[.slice (some ⟨g, 0, none⟩) 6 6, .string s] w fun e w' => e = .returned (.bool false) ∧ w = w') := Lib.hid (fun g w HT => by
    have := l1HasS_any g 6 6 sgA s w HT (Lib.hid rfl) (by omega)
    rw [ho.out] at this
    exact this)
  have HR : Hid (∀ w : World, Calls Tryz.prog 147 #[.string s, .int .i64 0] w fun e w' => e = .returned (.string s) ∧ w' = w) := Lib.hid (fun w => by
    have := tkRun_any s 0 w hs (Nat.zero_le _)
    rw [hu.out] at this
    exact this.mono fun e w' ⟨q, q2⟩ => ⟨q, q2.symm⟩)
  clear hz
  obtain ⟨wb, hwb⟩ : ∃ wb, w.alloc (.cells #[.int .i64 k, .int .i64 a, .string s, .int .i64 v] 31) = wb := ⟨_, rfl⟩
  have HW := Lib.hid hwb
  obtain ⟨HB, HBel⟩ := box_hid hwb
  clear hwb
  go_enter Tryz.func74, Tryz.ntmps74
  go_wp2_with (go_at_call 133; refine (HI.out _).mono ?_; rintro e w' ⟨rfl, rfl⟩)
  rw [HW.out]
  obtain ⟨c0, c1, c2, c3, _⟩ := HB.out wb (BX.refl _)
  go_region_with (first | (go_at_call 146; refine (tkSigns_any _).mono ?_; rintro e w1 ⟨rfl, ht, b0⟩; have HT1 := Lib.hid ht; have b1 := undrew b0; obtain ⟨e0, e1, e2, e3, bx⟩ := HB.out w1 b1; have BX1 := Lib.hid bx; clear b0 b1 ht bx) | (go_at_call 83; refine (HS.out _ _ HT1.out).mono ?_; rintro e w' ⟨rfl, rfl⟩))
  all_goals
    clear c0 c1 c2 c3
    go_wp2
    go_quiet ((go_at_call 147; exact Calls.quiet_of_same (HR.out _)))
    rcases Bool.eq_false_or_eq_true (F == 0) with g1 | g1
    · have g2 := HA.out (by simpa using g1)
      rcases Bool.eq_false_or_eq_true (K == k) with g3 | g3
      · rcases Bool.eq_false_or_eq_true (T.toList == s.toList) with g4 | g4
        · rcases Bool.eq_false_or_eq_true (V == v) with g5 | g5
          · have HX : Hid (r = true) := Lib.hid (by rw [HR0.out, g1, g3, g4, g5]; rfl)
            go_wp2_with (go_at_call 145; refine (HM.out _).mono ?_; rintro e w2 ⟨rfl, b0⟩; have bx := BX.call' (undrewN b0) BX1.out; obtain ⟨i0, i1, i2, i3, _⟩ := HB.out _ (BX.alloc bx (.cells #[.int .i64 K, .int .i64 A, .string T, .int .i64 V] 31)); have BX2 := Lib.hid (BX.alloc bx (.cells #[.int .i64 K, .int .i64 A, .string T, .int .i64 V] 31)); clear b0 bx)
            go_ret
            exact ⟨ret_bool HX.out.symm, HBel.out _ BX2.out⟩
          · have HX : Hid (r = false) := Lib.hid (by rw [HR0.out, g1, g3, g4, g5]; rfl)
            go_wp2_with (go_at_call 145; refine (HM.out _).mono ?_; rintro e w2 ⟨rfl, b0⟩; have bx := BX.call' (undrewN b0) BX1.out; obtain ⟨i0, i1, i2, i3, _⟩ := HB.out _ (BX.alloc bx (.cells #[.int .i64 K, .int .i64 A, .string T, .int .i64 V] 31)); have BX2 := Lib.hid (BX.alloc bx (.cells #[.int .i64 K, .int .i64 A, .string T, .int .i64 V] 31)); clear b0 bx)
            go_ret
            exact ⟨ret_bool HX.out.symm, HBel.out _ BX2.out⟩
        · have HX : Hid (r = false) := Lib.hid (by rw [HR0.out, g1, g3, g4]; rfl)
          go_wp2_with (go_at_call 145; refine (HM.out _).mono ?_; rintro e w2 ⟨rfl, b0⟩; have bx := BX.call' (undrewN b0) BX1.out; obtain ⟨i0, i1, i2, i3, _⟩ := HB.out _ (BX.alloc bx (.cells #[.int .i64 K, .int .i64 A, .string T, .int .i64 V] 31)); have BX2 := Lib.hid (BX.alloc bx (.cells #[.int .i64 K, .int .i64 A, .string T, .int .i64 V] 31)); clear b0 bx)
          go_ret
          exact ⟨ret_bool HX.out.symm, HBel.out _ BX2.out⟩
      · have HX : Hid (r = false) := Lib.hid (by rw [HR0.out, g1, g3]; rfl)
        go_wp2_with (go_at_call 145; refine (HM.out _).mono ?_; rintro e w2 ⟨rfl, b0⟩; have bx := BX.call' (undrewN b0) BX1.out; obtain ⟨i0, i1, i2, i3, _⟩ := HB.out _ (BX.alloc bx (.cells #[.int .i64 K, .int .i64 A, .string T, .int .i64 V] 31)); have BX2 := Lib.hid (BX.alloc bx (.cells #[.int .i64 K, .int .i64 A, .string T, .int .i64 V] 31)); clear b0 bx)
        go_ret
        exact ⟨ret_bool HX.out.symm, HBel.out _ BX2.out⟩
    · have HX : Hid (r = false) := Lib.hid (by rw [HR0.out, g1]; rfl)
      go_wp2_with (go_at_call 145; refine (HM.out _).mono ?_; rintro e w2 ⟨rfl, b0⟩; have bx := BX.call' (undrewN b0) BX1.out; obtain ⟨i0, i1, i2, i3, _⟩ := HB.out _ (BX.alloc bx (.cells #[.int .i64 K, .int .i64 A, .string T, .int .i64 V] 31)); have BX2 := Lib.hid (BX.alloc bx (.cells #[.int .i64 K, .int .i64 A, .string T, .int .i64 V] 31)); clear b0 bx)
      go_ret
      exact ⟨ret_bool HX.out.symm, HBel.out _ BX2.out⟩
end Go.Proofs.YtmmofchfafnkcaaGreatDoor
