/- Lists of faults: validity; the order of faults, the earliest one: contracts of both sides (the list part is written after Cvh). -/
import Derived.Test.YtdfkehgkonadhaaFac
import Derived.StillTailTactics
import Derived.Deep.CutRange
namespace Go.Proofs.Ytdfkehgkonadhaa
open Go.RowKit
set_option linter.unusedVariables false

def allF (l : List Fa) : Bool := l.all goodF
theorem allF_at (l : List Fa) (k : Nat) (h : k < l.length) : allF (l.drop k) = (goodF (l.getD k fa0) && allF (l.drop (k + 1))) := by
  unfold allF
  rw [List.drop_eq_getElem_cons h, List.all_cons, show l.getD k fa0 = l[k] by simp [List.getD_eq_getElem?_getD, h]]
theorem allF_end (l : List Fa) (k : Nat) (h : l.length ≤ k) : allF (l.drop k) = true := by rw [List.drop_eq_nil_of_le h]; rfl
theorem allF_get {l : List Fa} (h : allF l = true) (k : Nat) (hk : k < l.length) : goodF (l.getD k fa0) = true := by
  unfold allF at h
  rw [List.all_eq_true] at h
  rw [show l.getD k fa0 = l[k] by simp [List.getD_eq_getElem?_getD, hk]]
  exact h _ (List.getElem_mem hk)
theorem allF_take {l : List Fa} (h : allF l = true) (k : Nat) : allF (l.take k) = true := by
  unfold allF at h ⊢
  rw [List.all_eq_true] at h ⊢
  exact fun x hx => h x (List.mem_of_mem_take hx)
def lsG7 (l : List Fa) : Bool := allF l && decide (l.length ≤ 40)
def AfRel (w : World) (l : List Fa) (n : Nat) (B : Bool) (i : Value) (wr : World) : Prop := ∃ k : Nat, k ≤ n ∧ i = .int .i64 k ∧ BX w wr ∧ Hid (allF (l.drop k) = B)
set_option maxHeartbeats 3200000 in
theorem erList_any (ad : Option Addr) (n cap : Nat) (l : List Fa) (w : World) (HI : Hid (InX w ad n (faCs l))) (hn : Hid (l.length = n)) (hm : n ≤ 1048576) :
    Calls Try.prog 28 #[.slice ad n cap] w (SaysB w (lsG7 l)) := by
  obtain ⟨B, hB⟩ : ∃ B, allF l = B := ⟨_, rfl⟩
  have H0 : Hid (allF (l.drop 0) = B) := Lib.hid hB
  have HX : Hid (lsG7 l = (B && decide ((n : Int) ≤ 40))) := Lib.hid (by unfold lsG7; rw [hB, hn.out]; congr 1; apply Bool.eq_iff_iff.2; simp; omega)
  generalize lsG7 l = R at HX ⊢
  clear hB
  go_enter Try.func28, Try.ntmps28
  go_wp2_with fail
  go_loopw [7] (fun i wr => AfRel w l n B i wr) (fun i _ => n - (intOf i).toNat)
  case atStart => exact ⟨0, Nat.zero_le _, rfl, BX.refl _, H0⟩
  case round =>
    obtain ⟨k, hk, rfl, hb, HP⟩ := hrel
    have X1 := Lib.hid hb
    by_cases hlt : k < n
    · obtain ⟨g, rfl, ht, hg⟩ := HI.out (by omega)
      obtain ⟨x, hx⟩ : ∃ x, l.getD k fa0 = x := ⟨_, rfl⟩
      have hl1 : k < l.length := by rw [hn.out]; exact hlt
      obtain ⟨a0, a1⟩ := (ht.below hb hg).fa k hl1 x hx
      have HE := Lib.hid (allF_at l k hl1)
      rw [hx] at HE
      have HG := Lib.hid (fun w => erGood_any x w)
      cases hgx : goodF x
      · have HZ : Hid (B = false) := Lib.hid (by rw [← HP.out, HE.out, hgx]; rfl)
        rw [hgx] at HG
        obtain ⟨xk, xa⟩ := x
        unfold faV at HG
        simp only at a0 a1 HG
        clear hb hx hl1 ht hgx HE HP
        go_wp2_with (go_at_call 24; refine (HG.out _).mono ?_; rintro e w1 ⟨rfl, b⟩; have X2 := Lib.hid ((X1.out.alloc _).call b); clear b)
        go_ret
        exact ⟨ret_bool (by rw [HX.out, HZ.out]; rfl), X2.out⟩
      · have HZ : Hid (allF (l.drop (k + 1)) = B) := Lib.hid (by rw [← HP.out, HE.out, hgx, Bool.true_and])
        rw [hgx] at HG
        obtain ⟨xk, xa⟩ := x
        unfold faV at HG
        simp only at a0 a1 HG
        clear hb hx hl1 ht hgx HE HP
        go_wp2_with (go_at_call 24; refine (HG.out _).mono ?_; rintro e w1 ⟨rfl, b⟩; have X2 := Lib.hid ((X1.out.alloc _).call b); clear b)
        go_roundw
        case rel => exact ⟨k + 1, by omega, by go_num, X2.out, HZ⟩
        case measure => simp [intOf]; omega
    · have HZ : Hid (B = true) := Lib.hid (by rw [← HP.out, allF_end l k (by rw [hn.out]; omega)])
      clear hb
      go_wp2_with fail
      go_ret
      exact ⟨ret_bool (by rw [HX.out, HZ.out]; simp), X1.out⟩
set_option maxHeartbeats 3200000 in
theorem areFaults_any (ad : Option Addr) (n cap : Nat) (l : List Fa) (w : World) (HI : Hid (InX w ad n (faCs l))) (hn : Hid (l.length = n)) (hm : n ≤ 1048576) :
    Calls Try.prog 29 #[.slice ad n cap] w (SaysB w (lsG7 l)) := by
  by_cases h40 : 40 < n
  · have HX : Hid (lsG7 l = false) := Lib.hid (by unfold lsG7; rw [hn.out]; simp; intro _; omega)
    have d : decide ((40 : Int) < (n : Int)) = true := by simp; omega
    generalize lsG7 l = R at HX ⊢
    clear h40
    go_enter Try.func29, Try.ntmps29
    go_wp2_with fail
    go_ret
    exact ⟨ret_bool HX.out.symm, Below.refl _ _⟩
  obtain ⟨B, hB⟩ : ∃ B, allF l = B := ⟨_, rfl⟩
  have H0 : Hid (allF (l.drop 0) = B) := Lib.hid hB
  have HX : Hid (lsG7 l = B) := Lib.hid (by unfold lsG7; rw [hB, hn.out]; simp; intro _; omega)
  have d : decide ((40 : Int) < (n : Int)) = false := by simp; omega
  generalize lsG7 l = R at HX ⊢
  clear hB
  go_enter Try.func29, Try.ntmps29
  go_wp2_with fail
  go_loopw [10] (fun i wr => AfRel w l n B i wr) (fun i _ => n - (intOf i).toNat)
  case atStart => exact ⟨0, Nat.zero_le _, rfl, BX.refl _, H0⟩
  case round =>
    obtain ⟨k, hk, rfl, hb, HP⟩ := hrel
    have X1 := Lib.hid hb
    by_cases hlt : k < n
    · obtain ⟨g, rfl, ht, hg⟩ := HI.out (by omega)
      obtain ⟨x, hx⟩ : ∃ x, l.getD k fa0 = x := ⟨_, rfl⟩
      have hl1 : k < l.length := by rw [hn.out]; exact hlt
      obtain ⟨a0, a1⟩ := (ht.below hb hg).fa k hl1 x hx
      have HE := Lib.hid (allF_at l k hl1)
      rw [hx] at HE
      have HG := Lib.hid (fun w => implIsFault_any x w)
      cases hgx : goodF x
      · have HZ : Hid (B = false) := Lib.hid (by rw [← HP.out, HE.out, hgx]; rfl)
        rw [hgx] at HG
        obtain ⟨xk, xa⟩ := x
        unfold faV at HG
        simp only at a0 a1 HG
        clear hb hx hl1 ht hgx HE HP
        go_wp2_with (go_at_call 9; refine (HG.out _).mono ?_; rintro e w1 ⟨rfl, b⟩; have X2 := Lib.hid ((X1.out.alloc _).call b); clear b)
        go_ret
        exact ⟨ret_bool (by rw [HX.out, HZ.out]), X2.out⟩
      · have HZ : Hid (allF (l.drop (k + 1)) = B) := Lib.hid (by rw [← HP.out, HE.out, hgx, Bool.true_and])
        rw [hgx] at HG
        obtain ⟨xk, xa⟩ := x
        unfold faV at HG
        simp only at a0 a1 HG
        clear hb hx hl1 ht hgx HE HP
        go_wp2_with (go_at_call 9; refine (HG.out _).mono ?_; rintro e w1 ⟨rfl, b⟩; have X2 := Lib.hid ((X1.out.alloc _).call b); clear b)
        go_roundw
        case rel => exact ⟨k + 1, by omega, by go_num, X2.out, HZ⟩
        case measure => simp [intOf]; omega
    · have HZ : Hid (B = true) := Lib.hid (by rw [← HP.out, allF_end l k (by rw [hn.out]; omega)])
      clear hb
      go_wp2_with fail
      go_ret
      exact ⟨ret_bool (by rw [HX.out, HZ.out]), X1.out⟩
theorem ls7 {l : List Fa} (h : lsG7 l = true) : allF l = true ∧ l.length ≤ 40 := by unfold lsG7 at h; simpa using h
/-! The order. -/
def cmpF (x y : Fa) : Int := if cmpI x.a y.a = 0 then cmpI x.k y.k else cmpI x.a y.a
theorem cmpI_rng (a b : Int) : -1 ≤ cmpI a b ∧ cmpI a b ≤ 1 := by unfold cmpI; split; omega; split <;> omega
set_option maxHeartbeats 1600000 in
theorem cmpOr_any (g : Nat) (p q : Int) (w : World) (h0 : w.cell? ⟨g, 0, none⟩ = some (.int .i64 p)) (h1 : w.cell? ⟨g, 1, none⟩ = some (.int .i64 q)) :
    Calls Try.prog 33 #[.slice (some ⟨g, 0, none⟩) 2 2] w fun e w' => e = .returned (.int .i64 (if p = 0 then q else p)) ∧ w = w' := by
  by_cases hp : p = 0
  · subst hp
    by_cases hq : q = 0
    · subst hq
      go_enter Try.func33, Try.ntmps33
      go_wp2
      refine wp_loop_rounds 3 ?_
      rw [rounds_succ]
      go_wp2
      rw [rounds_succ]
      go_wp2
      rw [rounds_succ]
      go_wp2
      go_ret
      exact ⟨rfl, rfl⟩
    · have d : (q != 0) = true := by simpa using hq
      have d2 : (q == 0) = false := by simpa using hq
      go_enter Try.func33, Try.ntmps33
      go_wp2
      refine wp_loop_rounds 3 ?_
      rw [rounds_succ]
      go_wp2
      rw [rounds_succ]
      go_wp2
      go_ret
      exact ⟨rfl, rfl⟩
  · have d : (p != 0) = true := by simpa using hp
    have d2 : (p == 0) = false := by simpa using hp
    have HX := Lib.hid (if_neg hp : (if p = 0 then q else p) = p)
    generalize (if p = 0 then q else p) = r at HX ⊢
    go_enter Try.func33, Try.ntmps33
    go_wp2
    refine wp_loop_rounds 3 ?_
    rw [rounds_succ]
    go_wp2
    go_ret
    exact ⟨ret_int HX.out.symm, rfl⟩
set_option maxHeartbeats 3200000 in
theorem compareFaults_any (x y : Fa) (w : World) : Calls Try.prog 31 #[faV x, faV y] w (SaysI w (cmpF x y)) := by
  have HA : Hid (∀ w, Calls Try.prog 34 #[.int .i64 x.a, .int .i64 y.a] w fun e w' => e = .returned (.int .i64 (cmpI x.a y.a)) ∧ w' = w) := Lib.hid (fun w => (cmpInt_any x.a y.a w).mono fun _ _ h => ⟨h.1, h.2.symm⟩)
  have HK : Hid (∀ w, Calls Try.prog 34 #[.int .i64 x.k, .int .i64 y.k] w fun e w' => e = .returned (.int .i64 (cmpI x.k y.k)) ∧ w' = w) := Lib.hid (fun w => (cmpInt_any x.k y.k w).mono fun _ _ h => ⟨h.1, h.2.symm⟩)
  have HX : Hid (cmpF x y = if cmpI x.a y.a = 0 then cmpI x.k y.k else cmpI x.a y.a) := Lib.hid rfl
  generalize cmpF x y = R at HX ⊢
  generalize cmpI x.a y.a = p at HA HX
  generalize cmpI x.k y.k = q at HK HX
  obtain ⟨xk, xa⟩ := x
  obtain ⟨yk, ya⟩ := y
  unfold faV
  simp only at HA HK ⊢
  go_enter Try.func31, Try.ntmps31
  go_wp2_with fail
  refine wp_region_still_tail 10 (by kernel_rfl) (by kernel_rfl) ?_
  change wpStill _ _ (World.drew _) _ _ _
  simp only [List.take_succ_cons, List.take_zero, List.drop_succ_cons, List.drop_zero]
  still_step
  still_step
  still_step
  still_step
  still_call (HA.out _)
  still_step
  still_step
  still_step
  still_step
  still_call (HK.out _)
  refine wpStill_nil ?_
  change wpList _ _ _ _ _ (World.drew _)
  go_wp2_with (go_at_call 33; refine (cmpOr_any _ p q _ (by simp [go_sem]) (by simp [go_sem])).mono ?_; rintro e w' ⟨rfl, rfl⟩)
  all_goals
    go_ret
    exact ⟨ret_int (by rw [HX.out]; simp_all), below_drewN ((two_new _ _ _).alloc (by simp; omega) _) 1⟩
end Go.Proofs.Ytdfkehgkonadhaa
