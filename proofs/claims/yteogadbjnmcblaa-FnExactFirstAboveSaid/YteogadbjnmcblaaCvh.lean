/- Lists of curves: validity, sums: contracts of both sides. -/
import Derived.Test.YteogadbjnmcblaaCvd
namespace Go.Proofs.Yteogadbjnmcblaa
open Go.RowKit
set_option linter.unusedVariables false

theorem allV_at (l : List Cv) (k : Nat) (h : k < l.length) : allV (l.drop k) = (goodV (l.getD k cv0) && allV (l.drop (k + 1))) := by
  unfold allV
  rw [List.drop_eq_getElem_cons h, List.all_cons, show l.getD k cv0 = l[k] by simp [List.getD_eq_getElem?_getD, h]]
theorem allV_end (l : List Cv) (k : Nat) (h : l.length ≤ k) : allV (l.drop k) = true := by rw [List.drop_eq_nil_of_le h]; rfl
theorem allV_get {l : List Cv} (h : allV l = true) (k : Nat) (hk : k < l.length) : goodV (l.getD k cv0) = true := by
  unfold allV at h
  rw [List.all_eq_true] at h
  rw [show l.getD k cv0 = l[k] by simp [List.getD_eq_getElem?_getD, hk]]
  exact h _ (List.getElem_mem hk)
theorem sum_take (l : List Cv) (k : Nat) (h : k < l.length) (t : Int) : sumV (l.take (k + 1)) t = sumV (l.take k) t + atV (l.getD k cv0) t := by
  rw [List.take_add_one, sumV_append]
  simp [List.getD_eq_getElem?_getD, h, sumV]
theorem allV_take {l : List Cv} (h : allV l = true) (k : Nat) : allV (l.take k) = true := by
  unfold allV at h ⊢
  rw [List.all_eq_true] at h ⊢
  exact fun x hx => h x (List.mem_of_mem_take hx)
def lsG5 (l : List Cv) : Bool := allV l && decide (l.length ≤ 12)
def AvRel (w : World) (l : List Cv) (n : Nat) (B : Bool) (i : Value) (wr : World) : Prop := ∃ k : Nat, k ≤ n ∧ i = .int .i64 k ∧ BX w wr ∧ Hid (allV (l.drop k) = B)
set_option maxHeartbeats 3200000 in
theorem cuList_any (ad : Option Addr) (n cap : Nat) (l : List Cv) (w : World) (HI : Hid (InX w ad n (cvCs l))) (hn : Hid (l.length = n)) (hm : n ≤ 1048576) :
    Calls Try.prog 54 #[.slice ad n cap] w (SaysB w (lsG5 l)) := by
  obtain ⟨B, hB⟩ : ∃ B, allV l = B := ⟨_, rfl⟩
  have H0 : Hid (allV (l.drop 0) = B) := Lib.hid hB
  have HX : Hid (lsG5 l = (B && decide ((n : Int) ≤ 12))) := Lib.hid (by unfold lsG5; rw [hB, hn.out]; congr 1; apply Bool.eq_iff_iff.2; simp; omega)
  generalize lsG5 l = R at HX ⊢
  clear hB
  go_enter Try.func54, Try.ntmps54
  go_wp2_with fail
  go_loopw [7] (fun i wr => AvRel w l n B i wr) (fun i _ => n - (intOf i).toNat)
  case atStart => exact ⟨0, Nat.zero_le _, rfl, BX.refl _, H0⟩
  case round =>
    obtain ⟨k, hk, rfl, hb, HP⟩ := hrel
    have X1 := Lib.hid hb
    by_cases hlt : k < n
    · obtain ⟨g, rfl, ht, hg⟩ := HI.out (by omega)
      obtain ⟨x, hx⟩ : ∃ x, l.getD k cv0 = x := ⟨_, rfl⟩
      have hl1 : k < l.length := by rw [hn.out]; exact hlt
      obtain ⟨a0, a1, a2⟩ := (ht.below hb hg).cv k hl1 x hx
      have HE := Lib.hid (allV_at l k hl1)
      rw [hx] at HE
      have HG := Lib.hid (fun w => cuGood_any x w)
      cases hgx : goodV x
      · have HZ : Hid (B = false) := Lib.hid (by rw [← HP.out, HE.out, hgx]; rfl)
        rw [hgx] at HG
        obtain ⟨xf, xl, xs⟩ := x
        unfold cvV at HG
        simp only at a0 a1 a2 HG
        clear hb hx hl1 ht hgx HE HP
        go_wp2_with (go_at_call 38; refine (HG.out _).mono ?_; rintro e w1 ⟨rfl, b⟩; have X2 := Lib.hid ((X1.out.alloc _).call b); clear b)
        go_ret
        exact ⟨ret_bool (by rw [HX.out, HZ.out]; rfl), X2.out⟩
      · have HZ : Hid (allV (l.drop (k + 1)) = B) := Lib.hid (by rw [← HP.out, HE.out, hgx, Bool.true_and])
        rw [hgx] at HG
        obtain ⟨xf, xl, xs⟩ := x
        unfold cvV at HG
        simp only at a0 a1 a2 HG
        clear hb hx hl1 ht hgx HE HP
        go_wp2_with (go_at_call 38; refine (HG.out _).mono ?_; rintro e w1 ⟨rfl, b⟩; have X2 := Lib.hid ((X1.out.alloc _).call b); clear b)
        go_roundw
        case rel => exact ⟨k + 1, by omega, by go_num, X2.out, HZ⟩
        case measure => simp [intOf]; omega
    · have HZ : Hid (B = true) := Lib.hid (by rw [← HP.out, allV_end l k (by rw [hn.out]; omega)])
      clear hb
      go_wp2_with fail
      go_ret
      exact ⟨ret_bool (by rw [HX.out, HZ.out]; simp), X1.out⟩
set_option maxHeartbeats 3200000 in
theorem areCurves_any (ad : Option Addr) (n cap : Nat) (l : List Cv) (w : World) (HI : Hid (InX w ad n (cvCs l))) (hn : Hid (l.length = n)) (hm : n ≤ 1048576) :
    Calls Try.prog 56 #[.slice ad n cap] w (SaysB w (lsG5 l)) := by
  by_cases h12 : 12 < n
  · have HX : Hid (lsG5 l = false) := Lib.hid (by unfold lsG5; rw [hn.out]; simp; intro _; omega)
    have d : decide ((12 : Int) < (n : Int)) = true := by simp; omega
    generalize lsG5 l = R at HX ⊢
    clear h12
    go_enter Try.func56, Try.ntmps56
    go_wp2_with fail
    go_ret
    exact ⟨ret_bool HX.out.symm, Below.refl _ _⟩
  obtain ⟨B, hB⟩ : ∃ B, allV l = B := ⟨_, rfl⟩
  have H0 : Hid (allV (l.drop 0) = B) := Lib.hid hB
  have HX : Hid (lsG5 l = B) := Lib.hid (by unfold lsG5; rw [hB, hn.out]; simp; intro _; omega)
  have d : decide ((12 : Int) < (n : Int)) = false := by simp; omega
  generalize lsG5 l = R at HX ⊢
  clear hB
  go_enter Try.func56, Try.ntmps56
  go_wp2_with fail
  go_loopw [10] (fun i wr => AvRel w l n B i wr) (fun i _ => n - (intOf i).toNat)
  case atStart => exact ⟨0, Nat.zero_le _, rfl, BX.refl _, H0⟩
  case round =>
    obtain ⟨k, hk, rfl, hb, HP⟩ := hrel
    have X1 := Lib.hid hb
    by_cases hlt : k < n
    · obtain ⟨g, rfl, ht, hg⟩ := HI.out (by omega)
      obtain ⟨x, hx⟩ : ∃ x, l.getD k cv0 = x := ⟨_, rfl⟩
      have hl1 : k < l.length := by rw [hn.out]; exact hlt
      obtain ⟨a0, a1, a2⟩ := (ht.below hb hg).cv k hl1 x hx
      have HE := Lib.hid (allV_at l k hl1)
      rw [hx] at HE
      have HG := Lib.hid (fun w => implIsCurve_any x w)
      cases hgx : goodV x
      · have HZ : Hid (B = false) := Lib.hid (by rw [← HP.out, HE.out, hgx]; rfl)
        rw [hgx] at HG
        obtain ⟨xf, xl, xs⟩ := x
        unfold cvV at HG
        simp only at a0 a1 a2 HG
        clear hb hx hl1 ht hgx HE HP
        go_wp2_with (go_at_call 15; refine (HG.out _).mono ?_; rintro e w1 ⟨rfl, b⟩; have X2 := Lib.hid ((X1.out.alloc _).call b); clear b)
        go_ret
        exact ⟨ret_bool (by rw [HX.out, HZ.out]), X2.out⟩
      · have HZ : Hid (allV (l.drop (k + 1)) = B) := Lib.hid (by rw [← HP.out, HE.out, hgx, Bool.true_and])
        rw [hgx] at HG
        obtain ⟨xf, xl, xs⟩ := x
        unfold cvV at HG
        simp only at a0 a1 a2 HG
        clear hb hx hl1 ht hgx HE HP
        go_wp2_with (go_at_call 15; refine (HG.out _).mono ?_; rintro e w1 ⟨rfl, b⟩; have X2 := Lib.hid ((X1.out.alloc _).call b); clear b)
        go_roundw
        case rel => exact ⟨k + 1, by omega, by go_num, X2.out, HZ⟩
        case measure => simp [intOf]; omega
    · have HZ : Hid (B = true) := Lib.hid (by rw [← HP.out, allV_end l k (by rw [hn.out]; omega)])
      clear hb
      go_wp2_with fail
      go_ret
      exact ⟨ret_bool (by rw [HX.out, HZ.out]), X1.out⟩
def SmRel (w : World) (l : List Cv) (n : Nat) (t : Int) (s i : Value) (wr : World) : Prop := ∃ (k : Nat) (z : Int), k ≤ n ∧ i = .int .i64 k ∧ s = .int .i64 z ∧ BX w wr ∧ 0 ≤ z ∧ z ≤ 10000000000 * (k : Int) ∧ Hid (sumV (l.take k) t = z)
set_option maxHeartbeats 3200000 in
theorem cuSum_any (ad : Option Addr) (n cap : Nat) (l : List Cv) (t : Int) (w : World) (HI : Hid (InX w ad n (cvCs l))) (hn : Hid (l.length = n)) (hm : n ≤ 12) (hg : Hid (allV l = true)) (h0 : 0 ≤ t) (h1 : t ≤ 100000) :
    Calls Try.prog 55 #[.slice ad n cap, .int .i64 t] w (SaysI w (sumV l t)) := by
  obtain ⟨S, hS⟩ : ∃ S, sumV l t = S := ⟨_, rfl⟩
  have HS : Hid (sumV l t = S) := Lib.hid hS
  rw [hS]
  clear hS
  go_enter Try.func55, Try.ntmps55
  go_wp2_with fail
  go_loopw [5, 10] (fun s i wr => SmRel w l n t s i wr) (fun _ i _ => n - (intOf i).toNat)
  case atStart => exact ⟨0, 0, Nat.zero_le _, rfl, rfl, BX.refl _, Int.le_refl _, by omega, rfl⟩
  case round =>
    obtain ⟨k, z, hk, rfl, rfl, hb, z0, z1, HP⟩ := hrel
    have X1 := Lib.hid hb
    by_cases hlt : k < n
    · obtain ⟨g, rfl, ht, hgw⟩ := HI.out (by omega)
      obtain ⟨x, hx⟩ : ∃ x, l.getD k cv0 = x := ⟨_, rfl⟩
      have hl1 : k < l.length := by rw [hn.out]; exact hlt
      obtain ⟨a0, a1, a2⟩ := (ht.below hb hgw).cv k hl1 x hx
      have HE := Lib.hid (sum_take l k hl1 t)
      have hgx := allV_get hg.out k hl1
      rw [hx] at HE hgx
      have HV := Lib.hid (fun w => cuAt_any x t w (cvok hgx) h0 h1)
      obtain ⟨v0, v1⟩ := atV_two (cvok hgx) h0 h1
      generalize atV x t = V at HE HV v0 v1
      have HZ : Hid (sumV (l.take (k + 1)) t = z + V) := Lib.hid (by rw [HE.out, HP.out])
      have kk : (k : Int) ≤ 12 := by omega
      obtain ⟨xf, xl, xs⟩ := x
      unfold cvV at HV
      simp only at a0 a1 a2 HV
      clear hb hx hl1 ht hgx HE HP
      go_wp2_with (go_at_call 41; refine (HV.out _).mono ?_; rintro e w1 ⟨rfl, b⟩; have X2 := Lib.hid ((X1.out.alloc _).call b); clear b)
      go_roundw
      case rel => exact ⟨k + 1, z + V, by omega, by go_num, by go_num, X2.out, by omega, by omega, HZ⟩
      case measure => simp [intOf]; omega
    · have HZ : Hid (z = S) := Lib.hid (by rw [← HP.out, ← HS.out, List.take_of_length_le (by rw [hn.out]; omega)])
      clear hb
      go_wp2_with fail
      go_ret
      exact ⟨ret_int HZ.out, X1.out⟩
set_option maxHeartbeats 3200000 in
theorem sumAt_any (ad : Option Addr) (n cap : Nat) (l : List Cv) (t : Int) (w : World) (HI : Hid (InX w ad n (cvCs l))) (hn : Hid (l.length = n)) (hm : n ≤ 12) (hg : Hid (allV l = true)) (h0 : 0 ≤ t) (h1 : t ≤ 100000) :
    Calls Try.prog 57 #[.slice ad n cap, .int .i64 t] w (SaysI w (sumV l t)) := by
  obtain ⟨S, hS⟩ : ∃ S, sumV l t = S := ⟨_, rfl⟩
  have HS : Hid (sumV l t = S) := Lib.hid hS
  rw [hS]
  clear hS
  go_enter Try.func57, Try.ntmps57
  go_wp2_with fail
  go_loopw [5, 10] (fun s i wr => SmRel w l n t s i wr) (fun _ i _ => n - (intOf i).toNat)
  case atStart => exact ⟨0, 0, Nat.zero_le _, rfl, rfl, BX.refl _, Int.le_refl _, by omega, rfl⟩
  case round =>
    obtain ⟨k, z, hk, rfl, rfl, hb, z0, z1, HP⟩ := hrel
    have X1 := Lib.hid hb
    by_cases hlt : k < n
    · obtain ⟨g, rfl, ht, hgw⟩ := HI.out (by omega)
      obtain ⟨x, hx⟩ : ∃ x, l.getD k cv0 = x := ⟨_, rfl⟩
      have hl1 : k < l.length := by rw [hn.out]; exact hlt
      obtain ⟨a0, a1, a2⟩ := (ht.below hb hgw).cv k hl1 x hx
      have HE := Lib.hid (sum_take l k hl1 t)
      have hgx := allV_get hg.out k hl1
      rw [hx] at HE hgx
      have HV := Lib.hid (fun w => valueAt_any x t w (cvok hgx) h0 h1)
      obtain ⟨v0, v1⟩ := atV_two (cvok hgx) h0 h1
      generalize atV x t = V at HE HV v0 v1
      have HZ : Hid (sumV (l.take (k + 1)) t = z + V) := Lib.hid (by rw [HE.out, HP.out])
      have kk : (k : Int) ≤ 12 := by omega
      obtain ⟨xf, xl, xs⟩ := x
      unfold cvV at HV
      simp only at a0 a1 a2 HV
      clear hb hx hl1 ht hgx HE HP
      go_wp2_with (go_at_call 43; refine (HV.out _).mono ?_; rintro e w1 ⟨rfl, b⟩; have X2 := Lib.hid ((X1.out.alloc _).call b); clear b)
      go_roundw
      case rel => exact ⟨k + 1, z + V, by omega, by go_num, by go_num, X2.out, by omega, by omega, HZ⟩
      case measure => simp [intOf]; omega
    · have HZ : Hid (z = S) := Lib.hid (by rw [← HP.out, ← HS.out, List.take_of_length_le (by rw [hn.out]; omega)])
      clear hb
      go_wp2_with fail
      go_ret
      exact ⟨ret_int HZ.out, X1.out⟩
def resSumAt1 (l : List Cv) (t : Int) : Int := if lsG5 l && inB t 0 100000 then sumV l t else 0
def resSumAt2 (l : List Cv) (t : Int) : Bool := lsG5 l && inB t 0 100000
theorem sa_no {l : List Cv} {t : Int} (h : (lsG5 l && inB t 0 100000) = false) : resSumAt1 l t = 0 ∧ resSumAt2 l t = false := by unfold resSumAt1 resSumAt2; rw [h]; exact ⟨rfl, rfl⟩
theorem sa_yes {l : List Cv} {t : Int} (h : (lsG5 l && inB t 0 100000) = true) : resSumAt1 l t = sumV l t ∧ resSumAt2 l t = true := by unfold resSumAt1 resSumAt2; rw [h]; exact ⟨rfl, rfl⟩
theorem ls5 {l : List Cv} (h : lsG5 l = true) : allV l = true ∧ l.length ≤ 12 := by unfold lsG5 at h; simpa using h
set_option maxHeartbeats 3200000 in
theorem specSumAt_any (ad : Option Addr) (n cap : Nat) (l : List Cv) (t : Int) (w : World) (HI : Hid (InX w ad n (cvCs l))) (hn : Hid (l.length = n)) (hm : n ≤ 1048576) :
    Calls Try.prog 32 #[.slice ad n cap, .int .i64 t] w (SaysT2 w (.int .i64 (resSumAt1 l t)) (.bool (resSumAt2 l t))) := by
  have HG := Lib.hid (cuList_any ad n cap l w HI hn hm)
  have HT := Lib.hid (fun w => cuTime_any t w)
  cases hg : lsG5 l
  · rw [hg] at HG
    obtain ⟨x1, x2⟩ := sa_no (l := l) (t := t) (by rw [hg]; rfl)
    have HX1 := Lib.hid x1
    have HX2 := Lib.hid x2
    generalize resSumAt1 l t = R1 at HX1 ⊢
    generalize resSumAt2 l t = R2 at HX2 ⊢
    clear hg x1 x2
    go_enter Try.func32, Try.ntmps32
    go_wp2_with (go_at_call 54; refine (HG.out).mono ?_; rintro e w1 ⟨rfl, b⟩; have X1 := Lib.hid b; clear b)
    go_ret2
    exact ⟨ret_ib HX1.out.symm HX2.out.symm, X1.out⟩
  cases ht : inB t 0 100000
  · rw [hg] at HG
    rw [ht] at HT
    obtain ⟨x1, x2⟩ := sa_no (l := l) (t := t) (by rw [hg, ht]; rfl)
    have HX1 := Lib.hid x1
    have HX2 := Lib.hid x2
    generalize resSumAt1 l t = R1 at HX1 ⊢
    generalize resSumAt2 l t = R2 at HX2 ⊢
    clear hg ht x1 x2
    go_enter Try.func32, Try.ntmps32
    go_wp2_with (go_at_call 54; refine (HG.out).mono ?_; rintro e w1 ⟨rfl, b⟩; have X1 := Lib.hid b; clear b)
    go_wp2_with (go_at_call 40; refine (HT.out _).mono ?_; rintro e w' ⟨rfl, rfl⟩)
    go_ret2
    exact ⟨ret_ib HX1.out.symm HX2.out.symm, X1.out⟩
  · rw [hg] at HG
    rw [ht] at HT
    obtain ⟨x1, x2⟩ := sa_yes (l := l) (t := t) (by rw [hg, ht]; rfl)
    have HX1 := Lib.hid x1
    have HX2 := Lib.hid x2
    have hq := ls5 hg
    have hq2 := inB_iff.1 ht
    have HS := Lib.hid (fun w HI => cuSum_any ad n cap l t w HI hn (by rw [← hn.out]; exact hq.2) (Lib.hid hq.1) hq2.1 hq2.2)
    generalize sumV l t = S at HS HX1
    generalize resSumAt1 l t = R1 at HX1 ⊢
    generalize resSumAt2 l t = R2 at HX2 ⊢
    clear hg ht x1 x2 hq hq2
    go_enter Try.func32, Try.ntmps32
    go_wp2_with (go_at_call 54; refine (HG.out).mono ?_; rintro e w1 ⟨rfl, b⟩; have X1 := Lib.hid b; clear b)
    go_wp2_with (go_at_call 40; refine (HT.out _).mono ?_; rintro e w' ⟨rfl, rfl⟩)
    go_wp2_with (go_at_call 55; refine (HS.out _ (Lib.hid (HI.out.below X1.out))).mono ?_; rintro e w2 ⟨rfl, b⟩; have X2 := Lib.hid (BX.call X1.out b); clear b)
    go_ret2
    exact ⟨ret_ib HX1.out.symm HX2.out.symm, X2.out⟩
set_option maxHeartbeats 3200000 in
theorem implSumAt_any (ad : Option Addr) (n cap : Nat) (l : List Cv) (t : Int) (w : World) (HI : Hid (InX w ad n (cvCs l))) (hn : Hid (l.length = n)) (hm : n ≤ 1048576) :
    Calls Try.prog 34 #[.slice ad n cap, .int .i64 t] w (SaysT2 w (.int .i64 (resSumAt1 l t)) (.bool (resSumAt2 l t))) := by
  have HG := Lib.hid (areCurves_any ad n cap l w HI hn hm)
  have HT := Lib.hid (fun w => isTime_any t w)
  cases hg : lsG5 l
  · rw [hg] at HG
    obtain ⟨x1, x2⟩ := sa_no (l := l) (t := t) (by rw [hg]; rfl)
    have HX1 := Lib.hid x1
    have HX2 := Lib.hid x2
    generalize resSumAt1 l t = R1 at HX1 ⊢
    generalize resSumAt2 l t = R2 at HX2 ⊢
    clear hg x1 x2
    go_enter Try.func34, Try.ntmps34
    go_wp2_with (go_at_call 56; refine (HG.out).mono ?_; rintro e w1 ⟨rfl, b⟩; have X1 := Lib.hid b; clear b)
    go_ret2
    exact ⟨ret_ib HX1.out.symm HX2.out.symm, X1.out⟩
  cases ht : inB t 0 100000
  · rw [hg] at HG
    rw [ht] at HT
    obtain ⟨x1, x2⟩ := sa_no (l := l) (t := t) (by rw [hg, ht]; rfl)
    have HX1 := Lib.hid x1
    have HX2 := Lib.hid x2
    generalize resSumAt1 l t = R1 at HX1 ⊢
    generalize resSumAt2 l t = R2 at HX2 ⊢
    clear hg ht x1 x2
    go_enter Try.func34, Try.ntmps34
    go_wp2_with (go_at_call 56; refine (HG.out).mono ?_; rintro e w1 ⟨rfl, b⟩; have X1 := Lib.hid b; clear b)
    go_wp2_with (go_at_call 42; refine (HT.out _).mono ?_; rintro e w' ⟨rfl, rfl⟩)
    go_ret2
    exact ⟨ret_ib HX1.out.symm HX2.out.symm, X1.out⟩
  · rw [hg] at HG
    rw [ht] at HT
    obtain ⟨x1, x2⟩ := sa_yes (l := l) (t := t) (by rw [hg, ht]; rfl)
    have HX1 := Lib.hid x1
    have HX2 := Lib.hid x2
    have hq := ls5 hg
    have hq2 := inB_iff.1 ht
    have HS := Lib.hid (fun w HI => sumAt_any ad n cap l t w HI hn (by rw [← hn.out]; exact hq.2) (Lib.hid hq.1) hq2.1 hq2.2)
    generalize sumV l t = S at HS HX1
    generalize resSumAt1 l t = R1 at HX1 ⊢
    generalize resSumAt2 l t = R2 at HX2 ⊢
    clear hg ht x1 x2 hq hq2
    go_enter Try.func34, Try.ntmps34
    go_wp2_with (go_at_call 56; refine (HG.out).mono ?_; rintro e w1 ⟨rfl, b⟩; have X1 := Lib.hid b; clear b)
    go_wp2_with (go_at_call 42; refine (HT.out _).mono ?_; rintro e w' ⟨rfl, rfl⟩)
    go_wp2_with (go_at_call 57; refine (HS.out _ (Lib.hid (HI.out.below X1.out))).mono ?_; rintro e w2 ⟨rfl, b⟩; have X2 := Lib.hid (BX.call X1.out b); clear b)
    go_ret2
    exact ⟨ret_ib HX1.out.symm HX2.out.symm, X2.out⟩
end Go.Proofs.Yteogadbjnmcblaa
