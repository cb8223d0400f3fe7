/- The end of an attribute, its parent: contracts of both sides. -/
import Derived.Test.YthflehdboccloaaAta
namespace Go.Proofs.Ythflehdboccloaa
open Go.RowKit
set_option linter.unusedVariables false
set_option maxRecDepth 100000

/-- a value, and nothing but draws -/
def SaysQ (w : World) (v : Value) (e : Ending) (w' : World) : Prop := e = .returned v ∧ ∃ q, w' = w.drewN q
theorem bx_drew {wb w : World} (h : BX wb w) (q : Nat) : BX wb (w.drewN q) := h.call (below_drewN (Below.refl _ _) q)
theorem drew_two (w : World) (a b : Nat) : (w.drewN a).drewN b = w.drewN (a + b) := World.drewN_drewN w a b
theorem q_of {w wr : World} {q nq : Nat} (h : wr = w.drewN q) : ∃ q', wr.drewN nq = w.drewN q' := ⟨q + nq, by rw [h, World.drewN_drewN]⟩
theorem ret_int2 {a b : Int} (h : a = b) : Ending.returned (.int .i64 a) = .returned (.int .i64 b) := by rw [h]
def hasA (l : List At) (i : Int) : Bool := lsA l && inB i 0 ((l.length : Int) - 1)
theorem hasA_of {l : List At} {i : Int} (h : hasA l i = true) : lsA l = true ∧ ∃ k : Nat, i = (k : Int) ∧ k < l.length := by
  unfold hasA inB at h
  simp only [Bool.and_eq_true, decide_eq_true_eq] at h
  exact ⟨h.1, i.toNat, by omega, by omega⟩
theorem hasA_no {l : List At} {i : Int} (h : lsA l = false) : hasA l i = false := by unfold hasA; rw [h]; rfl
def EnRel (w : World) (l : List At) (n i : Nat) (v : Value) (wr : World) : Prop := ∃ k q : Nat, i < k ∧ k ≤ n ∧ v = .int .i64 k ∧ Hid (wr = w.drewN q) ∧ Hid (∀ j, i < j → j < k → (gA l i).d < (gA l j).d)
set_option maxHeartbeats 6400000 in
theorem attrEnd_any (ad : Option Addr) (n cap : Nat) (l : List At) (i : Nat) (w : World) (HI : Hid (InX w ad n (atCs l))) (hn : Hid (l.length = n)) (hm : n ≤ 1048576) (hi : i < n) :
    Calls Try.prog 54 #[.slice ad n cap, .int .i64 (i : Int)] w (SaysQ w (.int .i64 (enA l i))) := by
  obtain ⟨g, rfl, ht, hg⟩ := HI.out (by omega)
  have HT := Lib.hid ht
  obtain ⟨x, hx⟩ : ∃ x, gA l i = x := ⟨_, rfl⟩
  have HX := Lib.hid hx
  have hd : ∃ d, x.d = d := ⟨_, rfl⟩
  clear ht hx
  go_enter Try.func54, Try.ntmps54
  go_wp2_with fail
  go_loopw [5] (fun v wr => EnRel w l n i v wr) (fun v _ => n - (intOf v).toNat)
  case atStart => exact ⟨i + 1, 0, by omega, by omega, by go_num, Lib.hid rfl, Lib.hid (fun j a b => absurd b (by omega))⟩
  case round =>
    obtain ⟨k, q, hik, hk, rfl, HW, HP⟩ := hrel
    have X1 : Hid (BX w wr) := Lib.hid (by rw [HW.out]; exact bx_drew (BX.refl w) q)
    by_cases hlt : k < n
    · obtain ⟨a0, _⟩ := (HT.out.below X1.out hg).atr i (by rw [hn.out]; exact hi) x HX.out
      obtain ⟨y, hy⟩ : ∃ y, gA l k = y := ⟨_, rfl⟩
      obtain ⟨b0, _⟩ := (HT.out.below X1.out hg).atr k (by rw [hn.out]; exact hlt) y hy
      have HY := Lib.hid hy
      clear hy
      by_cases hxy : x.d < y.d
      · have dq := is_lt hxy
        have HZ : Hid (∀ j, i < j → j < k + 1 → (gA l i).d < (gA l j).d) := Lib.hid (fun j a b => by
          rcases Nat.lt_succ_iff_lt_or_eq.1 b with b | b
          · exact HP.out j a b
          · rw [b, HX.out, HY.out]; exact hxy)
        obtain ⟨xd, xt, xn, xs⟩ := x
        obtain ⟨yd, yt, yn, ys⟩ := y
        simp only at a0 b0 dq
        clear hxy
        go_wp2_with fail
        go_quiet (fail)
        go_wp2_with fail
        go_roundw
        case rel => exact ⟨k + 1, q + nq, by omega, by omega, by go_num, Lib.hid (by rw [HW.out, World.drewN_drewN]), HZ⟩
        case measure => simp [intOf] <;> omega
      · have dq := not_lt (Int.not_lt.1 hxy)
        have HZ : Hid (k = enA l i) := Lib.hid (en_eq ⟨hik, by rw [hn.out]; exact hk, HP.out, fun _ => by rw [HX.out, HY.out]; omega⟩)
        obtain ⟨xd, xt, xn, xs⟩ := x
        obtain ⟨yd, yt, yn, ys⟩ := y
        simp only at a0 b0 dq
        clear hxy
        go_wp2_with fail
        go_quiet (fail)
        go_wp2_with fail
        go_ret
        exact ⟨ret_int2 (by rw [HZ.out]), q_of HW.out⟩
    · have HZ : Hid (k = enA l i) := Lib.hid (en_eq ⟨hik, by rw [hn.out]; exact hk, HP.out, fun h => absurd h (by rw [hn.out]; omega)⟩)
      have dq : decide ((k : Int) < (n : Int)) = false := not_lt (by omega)
      go_wp2_with fail
      go_quiet (fail)
      go_wp2_with fail
      go_ret
      exact ⟨ret_int2 (by rw [HZ.out]), q_of HW.out⟩
set_option maxHeartbeats 6400000 in
theorem tvEnd_any (ad : Option Addr) (n cap : Nat) (l : List At) (i : Nat) (w : World) (HI : Hid (InX w ad n (atCs l))) (hn : Hid (l.length = n)) (hm : n ≤ 1048576) (hi : i < n) :
    Calls Try.prog 63 #[.slice ad n cap, .int .i64 (i : Int)] w (SaysQ w (.int .i64 (enA l i))) := by
  obtain ⟨g, rfl, ht, hg⟩ := HI.out (by omega)
  have HT := Lib.hid ht
  obtain ⟨x, hx⟩ : ∃ x, gA l i = x := ⟨_, rfl⟩
  have HX := Lib.hid hx
  have hd : ∃ d, x.d = d := ⟨_, rfl⟩
  clear ht hx
  go_enter Try.func63, Try.ntmps63
  go_wp2_with fail
  go_loopw [5] (fun v wr => EnRel w l n i v wr) (fun v _ => n - (intOf v).toNat)
  case atStart => exact ⟨i + 1, 0, by omega, by omega, by go_num, Lib.hid rfl, Lib.hid (fun j a b => absurd b (by omega))⟩
  case round =>
    obtain ⟨k, q, hik, hk, rfl, HW, HP⟩ := hrel
    have X1 : Hid (BX w wr) := Lib.hid (by rw [HW.out]; exact bx_drew (BX.refl w) q)
    by_cases hlt : k < n
    · obtain ⟨a0, _⟩ := (HT.out.below X1.out hg).atr i (by rw [hn.out]; exact hi) x HX.out
      obtain ⟨y, hy⟩ : ∃ y, gA l k = y := ⟨_, rfl⟩
      obtain ⟨b0, _⟩ := (HT.out.below X1.out hg).atr k (by rw [hn.out]; exact hlt) y hy
      have HY := Lib.hid hy
      clear hy
      by_cases hxy : x.d < y.d
      · have dq := is_lt hxy
        have HZ : Hid (∀ j, i < j → j < k + 1 → (gA l i).d < (gA l j).d) := Lib.hid (fun j a b => by
          rcases Nat.lt_succ_iff_lt_or_eq.1 b with b | b
          · exact HP.out j a b
          · rw [b, HX.out, HY.out]; exact hxy)
        obtain ⟨xd, xt, xn, xs⟩ := x
        obtain ⟨yd, yt, yn, ys⟩ := y
        simp only at a0 b0 dq
        clear hxy
        go_wp2_with fail
        go_quiet (fail)
        go_wp2_with fail
        go_roundw
        case rel => exact ⟨k + 1, q + nq, by omega, by omega, by go_num, Lib.hid (by rw [HW.out, World.drewN_drewN]), HZ⟩
        case measure => simp [intOf] <;> omega
      · have dq := not_lt (Int.not_lt.1 hxy)
        have HZ : Hid (k = enA l i) := Lib.hid (en_eq ⟨hik, by rw [hn.out]; exact hk, HP.out, fun _ => by rw [HX.out, HY.out]; omega⟩)
        obtain ⟨xd, xt, xn, xs⟩ := x
        obtain ⟨yd, yt, yn, ys⟩ := y
        simp only at a0 b0 dq
        clear hxy
        go_wp2_with fail
        go_quiet (fail)
        go_wp2_with fail
        go_ret
        exact ⟨ret_int2 (by rw [HZ.out]), q_of HW.out⟩
    · have HZ : Hid (k = enA l i) := Lib.hid (en_eq ⟨hik, by rw [hn.out]; exact hk, HP.out, fun h => absurd h (by rw [hn.out]; omega)⟩)
      have dq : decide ((k : Int) < (n : Int)) = false := not_lt (by omega)
      go_wp2_with fail
      go_quiet (fail)
      go_wp2_with fail
      go_ret
      exact ⟨ret_int2 (by rw [HZ.out]), q_of HW.out⟩
set_option maxHeartbeats 3200000 in
theorem hasAttr_any (ad : Option Addr) (n cap : Nat) (l : List At) (i : Int) (w : World) (HI : Hid (InX w ad n (atCs l))) (hn : Hid (l.length = n)) (HM : Hid (SzM l)) (hm : n ≤ 1048576) :
    Calls Try.prog 64 #[.slice ad n cap, .int .i64 i] w (SaysB w (hasA l i)) := by
  have HG := Lib.hid (areAttrs_any ad n cap l w HI hn HM hm)
  have HN := Lib.hid (fun w => isIn_any i 0 ((n : Int) - 1) w)
  have HX : Hid (hasA l i = (lsA l && inB i 0 ((n : Int) - 1))) := Lib.hid (by unfold hasA; rw [hn.out])
  generalize hasA l i = R at HX ⊢
  generalize lsA l = b at HG HX
  generalize inB i 0 ((n : Int) - 1) = c at HN HX
  cases b
  · go_enter Try.func64, Try.ntmps64
    go_wp2_with (go_at_call 17; refine (HG.out).mono ?_; rintro e w1 ⟨rfl, b⟩; have B1 := Lib.hid b; clear b)
    go_ret
    exact ⟨ret_bool (by rw [HX.out]; rfl), B1.out⟩
  · go_enter Try.func64, Try.ntmps64
    go_wp2_with (first | (go_at_call 17; refine (HG.out).mono ?_; rintro e w1 ⟨rfl, b⟩; have B1 := Lib.hid b; clear b) | (go_at_call 49; refine (HN.out _).mono ?_; rintro e w2 ⟨rfl, rfl⟩))
    go_ret
    exact ⟨ret_bool (by rw [HX.out]; rfl), B1.out⟩
set_option maxHeartbeats 3200000 in
theorem tvHas_any (ad : Option Addr) (n cap : Nat) (l : List At) (i : Int) (w : World) (HI : Hid (InX w ad n (atCs l))) (hn : Hid (l.length = n)) (HM : Hid (SzM l)) (hm : n ≤ 1048576) :
    Calls Try.prog 59 #[.slice ad n cap, .int .i64 i] w (SaysB w (hasA l i)) := by
  have HG := Lib.hid (tvGood_any ad n cap l w HI hn HM hm)
  have HN := Lib.hid (fun w => l1In_any i 0 ((n : Int) - 1) w)
  have HX : Hid (hasA l i = (lsA l && inB i 0 ((n : Int) - 1))) := Lib.hid (by unfold hasA; rw [hn.out])
  generalize hasA l i = R at HX ⊢
  generalize lsA l = b at HG HX
  generalize inB i 0 ((n : Int) - 1) = c at HN HX
  cases b
  · go_enter Try.func59, Try.ntmps59
    go_wp2_with (go_at_call 47; refine (HG.out).mono ?_; rintro e w1 ⟨rfl, b⟩; have B1 := Lib.hid b; clear b)
    go_ret
    exact ⟨ret_bool (by rw [HX.out]; rfl), B1.out⟩
  · go_enter Try.func59, Try.ntmps59
    go_wp2_with (first | (go_at_call 47; refine (HG.out).mono ?_; rintro e w1 ⟨rfl, b⟩; have B1 := Lib.hid b; clear b) | (go_at_call 67; refine (HN.out _).mono ?_; rintro e w2 ⟨rfl, rfl⟩))
    go_ret
    exact ⟨ret_bool (by rw [HX.out]; rfl), B1.out⟩
/-! EndOfAttr. -/
def resEn (l : List At) (i : Int) : Int := if hasA l i then (enA l i.toNat : Int) else 0
set_option maxHeartbeats 3200000 in
theorem implEndOf_any (ad : Option Addr) (n cap : Nat) (l : List At) (i : Int) (w : World) (HI : Hid (InX w ad n (atCs l))) (hn : Hid (l.length = n)) (HM : Hid (SzM l)) (hm : n ≤ 1048576) :
    Calls Try.prog 29 #[.slice ad n cap, .int .i64 i] w (SaysT2 w (.int .i64 (resEn l i)) (.bool (hasA l i))) := by
  have HG := Lib.hid (hasAttr_any ad n cap l i w HI hn HM hm)
  cases hA : hasA l i
  · have HX : Hid (resEn l i = 0) := Lib.hid (by unfold resEn; rw [hA]; rfl)
    rw [hA] at HG
    generalize resEn l i = R at HX ⊢
    clear hA
    go_enter Try.func29, Try.ntmps29
    go_wp2_with (go_at_call 64; refine (HG.out).mono ?_; rintro e w1 ⟨rfl, b⟩; have B1 := Lib.hid b; clear b)
    go_ret2
    exact ⟨ret_ib HX.out.symm rfl, B1.out⟩
  · obtain ⟨_, k, rfl, hk⟩ := hasA_of hA
    have HX : Hid (resEn l k = enA l k) := Lib.hid (by unfold resEn; rw [hA]; simp)
    rw [hA] at HG
    have HE := Lib.hid (fun w h => attrEnd_any ad n cap l k w (Lib.hid h) hn hm (by rw [hn.out] at hk; exact hk))
    generalize resEn l k = R at HX ⊢
    clear hA
    go_enter Try.func29, Try.ntmps29
    go_wp2_with (first | (go_at_call 64; refine (HG.out).mono ?_; rintro e w1 ⟨rfl, b⟩; have B1 := Lib.hid b; have I1 := Lib.hid (HI.out.below b); clear b) | (go_at_call 54; refine (HE.out _ I1.out).mono ?_; rintro e w2 ⟨rfl, q, rfl⟩))
    go_ret2
    exact ⟨ret_ib HX.out.symm rfl, B1.out.trans ((below_drewN (Below.refl _ _) q).mono B1.out.size)⟩
set_option maxHeartbeats 3200000 in
theorem specEndOf_any (ad : Option Addr) (n cap : Nat) (l : List At) (i : Int) (w : World) (HI : Hid (InX w ad n (atCs l))) (hn : Hid (l.length = n)) (HM : Hid (SzM l)) (hm : n ≤ 1048576) :
    Calls Try.prog 28 #[.slice ad n cap, .int .i64 i] w (SaysT2 w (.int .i64 (resEn l i)) (.bool (hasA l i))) := by
  have HG := Lib.hid (tvHas_any ad n cap l i w HI hn HM hm)
  cases hA : hasA l i
  · have HX : Hid (resEn l i = 0) := Lib.hid (by unfold resEn; rw [hA]; rfl)
    rw [hA] at HG
    generalize resEn l i = R at HX ⊢
    clear hA
    go_enter Try.func28, Try.ntmps28
    go_wp2_with (go_at_call 59; refine (HG.out).mono ?_; rintro e w1 ⟨rfl, b⟩; have B1 := Lib.hid b; clear b)
    go_ret2
    exact ⟨ret_ib HX.out.symm rfl, B1.out⟩
  · obtain ⟨_, k, rfl, hk⟩ := hasA_of hA
    have HX : Hid (resEn l k = enA l k) := Lib.hid (by unfold resEn; rw [hA]; simp)
    rw [hA] at HG
    have HE := Lib.hid (fun w h => tvEnd_any ad n cap l k w (Lib.hid h) hn hm (by rw [hn.out] at hk; exact hk))
    generalize resEn l k = R at HX ⊢
    clear hA
    go_enter Try.func28, Try.ntmps28
    go_wp2_with (first | (go_at_call 59; refine (HG.out).mono ?_; rintro e w1 ⟨rfl, b⟩; have B1 := Lib.hid b; have I1 := Lib.hid (HI.out.below b); clear b) | (go_at_call 63; refine (HE.out _ I1.out).mono ?_; rintro e w2 ⟨rfl, q, rfl⟩))
    go_ret2
    exact ⟨ret_ib HX.out.symm rfl, B1.out.trans ((below_drewN (Below.refl _ _) q).mono B1.out.size)⟩
/-! The parent. -/
def UpRel (w : World) (l : List At) (c : Int) (n i : Nat) (U : Int) (v : Value) (wr : World) : Prop := ∃ k q : Nat, k ≤ i ∧ v = .int .i64 ((k : Int) - 1) ∧ Hid (wr = w.drewN q) ∧ Hid (upG l c k = U)
theorem upG_no {l : List At} {c : Int} {k : Nat} (h : c ≤ (gA l k).d) : upG l c (k + 1) = upG l c k := by rw [upG, if_neg (by omega)]
theorem upG_yes {l : List At} {c : Int} {k : Nat} (h : (gA l k).d < c) : upG l c (k + 1) = k := by rw [upG, if_pos h]
set_option maxHeartbeats 6400000 in
theorem tvParent_any (ad : Option Addr) (n cap : Nat) (l : List At) (i : Nat) (w : World) (HI : Hid (InX w ad n (atCs l))) (hn : Hid (l.length = n)) (hm : n ≤ 1048576) (hi : i < n) :
    Calls Try.prog 66 #[.slice ad n cap, .int .i64 (i : Int)] w (SaysQ w (.int .i64 (upA l i))) := by
  obtain ⟨g, rfl, ht, hg⟩ := HI.out (by omega)
  have HT := Lib.hid ht
  obtain ⟨x, hx⟩ : ∃ x, gA l i = x := ⟨_, rfl⟩
  have HX := Lib.hid hx
  obtain ⟨U, hU⟩ : ∃ U, upA l i = U := ⟨_, rfl⟩
  have H0 : Hid (upG l x.d i = U) := Lib.hid (by rw [← hU, ← hx]; rfl)
  rw [hU]
  clear ht hx hU
  go_enter Try.func66, Try.ntmps66
  go_wp2_with fail
  go_loopw [5] (fun v wr => UpRel w l x.d n i U v wr) (fun v _ => (intOf v + 1).toNat)
  case atStart => exact ⟨i, 0, Nat.le_refl _, by go_num, Lib.hid rfl, H0⟩
  case round =>
    obtain ⟨k, q, hk, rfl, HW, HP⟩ := hrel
    have X1 : Hid (BX w wr) := Lib.hid (by rw [HW.out]; exact bx_drew (BX.refl w) q)
    rcases Nat.eq_zero_or_pos k with hk0 | hk0
    · subst hk0
      have HZ : Hid (U = -1) := Lib.hid HP.out.symm
      go_wp2_with fail
      go_quiet (fail)
      go_wp2_with fail
      go_ret
      exact ⟨ret_int2 (by rw [HZ.out]; rfl), q_of HW.out⟩
    · obtain ⟨j, rfl⟩ : ∃ j, k = j + 1 := ⟨k - 1, by omega⟩
      obtain ⟨a0, _⟩ := (HT.out.below X1.out hg).atr i (by rw [hn.out]; exact hi) x HX.out
      obtain ⟨y, hy⟩ : ∃ y, gA l j = y := ⟨_, rfl⟩
      obtain ⟨b0, _⟩ := (HT.out.below X1.out hg).atr j (by rw [hn.out]; omega) y hy
      have e1 : ((j + 1 : Nat) : Int) - 1 = (j : Int) := by omega
      rw [e1]
      by_cases hxy : x.d ≤ y.d
      · have dq := is_le hxy
        have HZ : Hid (upG l x.d j = U) := Lib.hid (by rw [← HP.out, upG_no (by rw [hy]; exact hxy)])
        obtain ⟨xd, xt, xn, xs⟩ := x
        obtain ⟨yd, yt, yn, ys⟩ := y
        simp only at a0 b0 dq HZ
        clear hxy hy HP e1
        go_wp2_with fail
        go_quiet (fail)
        go_wp2_with fail
        go_roundw
        case rel => exact ⟨j, q + nq, by omega, by go_num, Lib.hid (by rw [HW.out, World.drewN_drewN]), HZ⟩
        case measure => simp [intOf] <;> omega
      · have dq := not_le (Int.not_le.1 hxy)
        have HZ : Hid (U = j) := Lib.hid (by rw [← HP.out, upG_yes (by rw [hy]; omega)])
        obtain ⟨xd, xt, xn, xs⟩ := x
        obtain ⟨yd, yt, yn, ys⟩ := y
        simp only at a0 b0 dq
        clear hxy hy HP e1
        go_wp2_with fail
        go_quiet (fail)
        go_wp2_with fail
        go_ret
        exact ⟨ret_int2 (by rw [HZ.out]), q_of HW.out⟩
def resP1 (l : List At) (i : Int) : Int := if hasA l i then (if 0 ≤ upA l i.toNat then upA l i.toNat else 0) else 0
def resP2 (l : List At) (i : Int) : Bool := hasA l i && decide (0 ≤ upA l i.toNat)
theorem resP_no {l : List At} {i : Int} (h : hasA l i = false) : resP1 l i = 0 ∧ resP2 l i = false := by
  unfold resP1 resP2; rw [h]; exact ⟨rfl, rfl⟩
theorem resP_top {l : List At} {k : Nat} (h : hasA l k = true) (hu : upA l k = -1) : resP1 l k = 0 ∧ resP2 l k = false := by
  unfold resP1 resP2; rw [h, Int.toNat_natCast, hu]; exact ⟨rfl, rfl⟩
theorem resP_up {l : List At} {k : Nat} (h : hasA l k = true) (hu : 0 ≤ upA l k) : resP1 l k = upA l k ∧ resP2 l k = true := by
  unfold resP1 resP2; rw [h, Int.toNat_natCast, if_pos rfl, if_pos hu, decide_eq_true hu]; exact ⟨rfl, rfl⟩
set_option maxHeartbeats 6400000 in
theorem specParentOf_any (ad : Option Addr) (n cap : Nat) (l : List At) (i : Int) (w : World) (HI : Hid (InX w ad n (atCs l))) (hn : Hid (l.length = n)) (HM : Hid (SzM l)) (hm : n ≤ 1048576) :
    Calls Try.prog 35 #[.slice ad n cap, .int .i64 i] w (SaysT2 w (.int .i64 (resP1 l i)) (.bool (resP2 l i))) := by
  have HG := Lib.hid (tvHas_any ad n cap l i w HI hn HM hm)
  cases hA : hasA l i
  · have HX := Lib.hid (resP_no hA)
    rw [hA] at HG
    generalize resP1 l i = R at HX ⊢
    generalize resP2 l i = R2 at HX ⊢
    clear hA
    go_enter Try.func35, Try.ntmps35
    go_wp2_with (go_at_call 59; refine (HG.out).mono ?_; rintro e w1 ⟨rfl, b⟩; have B1 := Lib.hid b; clear b)
    go_ret2
    exact ⟨ret_ib HX.out.1.symm HX.out.2.symm, B1.out⟩
  · obtain ⟨hl, k, rfl, hk⟩ := hasA_of hA
    rw [hA] at HG
    have hkn : k < n := by rw [← hn.out]; exact hk
    have V := va hl
    obtain ⟨g, rfl, ht, hg⟩ := HI.out (by omega)
    have HT := Lib.hid ht
    obtain ⟨x, hx⟩ : ∃ x, gA l k = x := ⟨_, rfl⟩
    by_cases h1 : x.d = 1
    · have HX := Lib.hid (resP_top hA (up_top V hk (by rw [hx]; exact h1)))
      have HXX := Lib.hid hx
      generalize resP1 l k = R at HX ⊢
      generalize resP2 l k = R2 at HX ⊢
      obtain ⟨xd, xt, xn, xs⟩ := x
      simp only at h1
      subst h1
      clear hA hx V ht hl
      go_enter Try.func35, Try.ntmps35
      go_wp2_with (go_at_call 59; refine (HG.out).mono ?_; rintro e w1 ⟨rfl, b⟩; have B1 := Lib.hid b; obtain ⟨a0, _⟩ := (HT.out.below b hg).atr k hk _ HXX.out; clear b)
      go_ret2
      exact ⟨ret_ib HX.out.1.symm HX.out.2.symm, B1.out⟩
    · have HX := Lib.hid (resP_up hA (up_some V hk (by rw [hx]; exact h1)))
      have HXX := Lib.hid hx
      have HU := Lib.hid (fun w h => tvParent_any (some ⟨g, 0, none⟩) n cap l k w (Lib.hid h) hn hm hkn)
      generalize resP1 l k = R at HX ⊢
      generalize resP2 l k = R2 at HX ⊢
      obtain ⟨xd, xt, xn, xs⟩ := x
      have dq : (xd == 1) = false := by simpa using h1
      clear hA hx V ht hl
      go_enter Try.func35, Try.ntmps35
      go_wp2_with (first | (go_at_call 59; refine (HG.out).mono ?_; rintro e w1 ⟨rfl, b⟩; have B1 := Lib.hid b; have I1 := Lib.hid (HI.out.below b); obtain ⟨a0, _⟩ := (HT.out.below b hg).atr k hk _ HXX.out; clear b) | (go_at_call 66; refine (HU.out _ I1.out).mono ?_; rintro e w2 ⟨rfl, q, rfl⟩))
      go_ret2
      exact ⟨ret_ib HX.out.1.symm HX.out.2.symm, B1.out.trans ((below_drewN (Below.refl _ _) q).mono B1.out.size)⟩
def PaRel (w : World) (l : List At) (c : Int) (i : Nat) (U : Int) (v : Value) (wr : World) : Prop := ∃ k : Nat, k ≤ i ∧ v = .int .i64 ((k : Int) - 1) ∧ BX w wr ∧ Hid (upG l c k = U) ∧ Hid (c ≤ (gA l k).d)
set_option maxHeartbeats 6400000 in
theorem implParentOf_any (ad : Option Addr) (n cap : Nat) (l : List At) (i : Int) (w : World) (HI : Hid (InX w ad n (atCs l))) (hn : Hid (l.length = n)) (HM : Hid (SzM l)) (hm : n ≤ 1048576) :
    Calls Try.prog 36 #[.slice ad n cap, .int .i64 i] w (SaysT2 w (.int .i64 (resP1 l i)) (.bool (resP2 l i))) := by
  have HG := Lib.hid (hasAttr_any ad n cap l i w HI hn HM hm)
  cases hA : hasA l i
  · have HX := Lib.hid (resP_no hA)
    rw [hA] at HG
    generalize resP1 l i = R at HX ⊢
    generalize resP2 l i = R2 at HX ⊢
    clear hA
    go_enter Try.func36, Try.ntmps36
    go_wp2_with (go_at_call 64; refine (HG.out).mono ?_; rintro e w1 ⟨rfl, b⟩; have B1 := Lib.hid b; clear b)
    go_ret2
    exact ⟨ret_ib HX.out.1.symm HX.out.2.symm, B1.out⟩
  obtain ⟨hl, k0, rfl, hk0⟩ := hasA_of hA
  rw [hA] at HG
  have hkn : k0 < n := by rw [← hn.out]; exact hk0
  have VV := Lib.hid (va hl)
  obtain ⟨g, rfl, ht, hg⟩ := HI.out (by omega)
  have HT := Lib.hid ht
  obtain ⟨x, hx⟩ : ∃ x, gA l k0 = x := ⟨_, rfl⟩
  have HXX := Lib.hid hx
  have hx1 := VV.out.pos k0 hk0
  have hx8 := VV.out.top k0 hk0
  rw [hx] at hx1 hx8
  obtain ⟨U, hU⟩ : ∃ U, upA l k0 = U := ⟨_, rfl⟩
  have H0 : Hid (upG l x.d k0 = U) := Lib.hid (by rw [← hU, ← hx]; rfl)
  have HTop := Lib.hid (fun h => resP_top hA (by rw [hU]; exact h))
  have HUp := Lib.hid (fun h => resP_up hA (by rw [hU]; exact h))
  rw [hU] at HUp
  generalize resP1 l k0 = R at HTop HUp ⊢
  generalize resP2 l k0 = R2 at HTop HUp ⊢
  clear hA hx ht hl hU
  go_enter Try.func36, Try.ntmps36
  go_wp2_with (go_at_call 64; refine (HG.out).mono ?_; rintro e w1 ⟨rfl, b⟩; have B1 := Lib.hid b; have X0 : Hid (BX w w1) := Lib.hid b; clear b)
  go_loopw [6] (fun v wr => PaRel w l x.d k0 U v wr) (fun v _ => (intOf v + 1).toNat)
  case atStart => exact ⟨k0, Nat.le_refl _, by go_num, X0.out, H0, Lib.hid (by rw [HXX.out]; exact Int.le_refl _)⟩
  case round =>
    obtain ⟨k, hk, rfl, hb, HP, HC⟩ := hrel
    have X1 := Lib.hid hb
    clear hb
    rcases Nat.eq_zero_or_pos k with hk0' | hk0'
    · subst hk0'
      have HZ : Hid (U = -1) := Lib.hid HP.out.symm
      go_wp2_with fail
      go_ret2
      exact ⟨ret_ib (HTop.out HZ.out).1.symm (HTop.out HZ.out).2.symm, X1.out⟩
    · obtain ⟨j, rfl⟩ : ∃ j, k = j + 1 := ⟨k - 1, by omega⟩
      obtain ⟨a0, _⟩ := (HT.out.below X1.out hg).atr k0 hk0 x HXX.out
      obtain ⟨y, hy⟩ : ∃ y, gA l j = y := ⟨_, rfl⟩
      obtain ⟨b0, _⟩ := (HT.out.below X1.out hg).atr j (by omega) y hy
      have e1 : ((j + 1 : Nat) : Int) - 1 = (j : Int) := by omega
      rw [e1]
      by_cases hxy : x.d ≤ y.d
      · have dq : (y.d == x.d - 1) = false := by simp; omega
        have HZ : Hid (upG l x.d j = U) := Lib.hid (by rw [← HP.out, upG_no (by rw [hy]; exact hxy)])
        have HC2 : Hid (x.d ≤ (gA l j).d) := Lib.hid (by rw [hy]; exact hxy)
        obtain ⟨xd, xt, xn, xs⟩ := x
        obtain ⟨yd, yt, yn, ys⟩ := y
        simp only at a0 b0 dq HZ HC2 hx1 hx8
        clear hxy hy HP e1 HC
        go_wp2_with fail
        go_quiet (fail)
        go_wp2_with fail
        go_roundw
        case rel => exact ⟨j, by omega, by go_num, bx_drew X1.out _, HZ, HC2⟩
        case measure => simp [intOf] <;> omega
      · have hs := step_down VV.out (show j + 1 < l.length by omega) HC.out (by rw [hy]; exact hxy)
        rw [hy] at hs
        have HZ : Hid (U = j) := Lib.hid (by rw [← HP.out, upG_yes (by rw [hy]; omega)])
        have dq : (y.d == x.d - 1) = true := by simp; omega
        obtain ⟨xd, xt, xn, xs⟩ := x
        obtain ⟨yd, yt, yn, ys⟩ := y
        simp only at a0 b0 dq hx1 hx8
        clear hxy hy HP e1 HC hs
        go_wp2_with fail
        go_quiet (fail)
        go_wp2_with fail
        go_ret2
        exact ⟨ret_ib (by rw [(HUp.out (by rw [HZ.out]; omega)).1, HZ.out]) (HUp.out (by rw [HZ.out]; omega)).2.symm, bx_drew X1.out _⟩
end Go.Proofs.Ythflehdboccloaa
