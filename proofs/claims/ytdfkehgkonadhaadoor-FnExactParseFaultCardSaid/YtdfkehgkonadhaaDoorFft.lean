/- FaultText: contracts of both sides. -/
import Derived.Test.YtdfkehgkonadhaaDoorFno
import Derived.Test.YtdfkehgkonadhaaDoorFac
import Derived.Test.YtdfkehgkonadhaaDoorNta
import Derived.Deep.RegionHeld3
namespace Go.Proofs.YtdfkehgkonadhaaDoor
set_option maxRecDepth 100000
open Go.RowKit
set_option linter.unusedVariables false
set_option linter.unusedSimpArgs false

/-- the text of a fault -/
def ftT (k n : Nat) : ByteArray := kn k ++ ⟨#[32, 97, 116, 32]⟩ ++ numS n
structure FaN (x : Fa) (k n : Nat) : Prop where
  ek : x.k = k
  ea : x.a = n
  k1 : 1 ≤ k
  k8 : k < 8
  n6 : n ≤ 6000
theorem fan {x : Fa} (h : goodF x = true) : FaN x x.k.toNat x.a.toNat := by
  have g := faok h
  have := g.k1; have := g.k7; have := g.a0; have := g.a6
  exact ⟨by omega, by omega, by omega, by omega, by omega⟩
def resFt (x : Fa) : ByteArray := if goodF x = true then ftT x.k.toNat x.a.toNat else ⟨#[]⟩
theorem ft_no {x : Fa} (h : goodF x = false) : resFt x = ⟨#[]⟩ := by unfold resFt; rw [h]; rfl
theorem ft_yes {x : Fa} (h : goodF x = true) : resFt x = ftT x.k.toNat x.a.toNat := by unfold resFt; rw [h]; rfl
theorem fa_of {x : Fa} {k n : Nat} (h : FaN x k n) : faV x = .agg #[.int .i64 (k : Int), .int .i64 (n : Int)] := by unfold faV; rw [h.ek, h.ea]
set_option maxHeartbeats 6400000 in
theorem erShow_any (k n : Nat) (hk : k < 8) (hn : n ≤ 6000) (w : World) : Calls Tryd.prog 44 #[.agg #[.int .i64 (k : Int), .int .i64 (n : Int)]] w (SaysV w (.string (ftT k n))) := by
  have HN := Lib.hid (fun w => l1Num_any n (by omega) w)
  have HM := Lib.hid (fun w => (erNames_any w).mono (fun e w' h => (⟨h.1, h.2.1 k hk, h.2.2⟩ : e = .returned (.slice (some ⟨w.heap.size, 0, none⟩) 8 8) ∧ w'.cell? ⟨w.heap.size, k, none⟩ = some (.string (erA.getD k ⟨#[]⟩)) ∧ Below w.heap.size w w')))
  have z1 := kn_size k
  have z2 := numS_size n
  have HX : Hid (ftT k n = kn k ++ ⟨#[32, 97, 116, 32]⟩ ++ numS n) := Lib.hid rfl
  generalize ftT k n = R at HX ⊢
  rw [show erA.getD k ⟨#[]⟩ = kn k from rfl] at HM
  generalize kn k = a at HM HX z1
  generalize numS n = b at HN HX z2
  have s1 : (⟨#[32, 97, 116, 32]⟩ : ByteArray).size = 4 := rfl
  have k1 : ¬ (9223372036854775807 < a.size + (⟨#[32, 97, 116, 32]⟩ : ByteArray).size) := by rw [s1]; omega
  have k2 : ¬ (9223372036854775807 < (a ++ ⟨#[32, 97, 116, 32]⟩).size + b.size) := by rw [ByteArray.size_append, s1]; omega
  have k1b : ¬ (9223372036854775807 < a.size + 4) := by omega
  have k2b : ¬ (9223372036854775807 < a.size + 4 + b.size) := by omega
  have HQ : Hid (∀ w', BX (w.alloc (Obj.cells #[.int .i64 (k : Int), .int .i64 (n : Int)] 37)) w' → w'.cell? ⟨w.heap.size, 0, none⟩ = some (.int .i64 (k : Int)) ∧ w'.cell? ⟨w.heap.size, 1, none⟩ = some (.int .i64 (n : Int)) ∧ BX (w.alloc (Obj.cells #[.int .i64 (k : Int), .int .i64 (n : Int)] 37)) w') := Lib.hid (fun w' h => by
    obtain ⟨a0, a1, _⟩ := (two_is w (.int .i64 (k : Int)) (.int .i64 (n : Int)) 37).on h
    exact ⟨a0, a1, h⟩)
  have HE : Hid (∀ w', BX (w.alloc (Obj.cells #[.int .i64 (k : Int), .int .i64 (n : Int)] 37)) w' → Below w.heap.size w w') := Lib.hid (fun w' h => (one_new2 w _).trans (Below.mono h (by simp)))
  have hk' : (k : Int) < 8 := by omega
  have hk0 : (0 : Int) ≤ k := by omega
  have hk1 : (k : Int) ≤ 8 := by omega
  have HS : Hid ((w.alloc (Obj.cells #[.int .i64 (k : Int), .int .i64 (n : Int)] 37)).drew.heap.size = w.heap.size + 1) := Lib.hid (by simp)
  clear z1 z2 s1
  go_enter Tryd.func44, Tryd.ntmps44
  go_wp2_with fail
  refine wp_region_held_drew (S := fun w' => w'.cell? ⟨w.heap.size, 0, none⟩ = some (.int .i64 (k : Int)) ∧ w'.cell? ⟨w.heap.size, 1, none⟩ = some (.int .i64 (n : Int)) ∧ BX (w.alloc (Obj.cells #[.int .i64 (k : Int), .int .i64 (n : Int)] 37)) w') (by kernel_rfl) ?_ (fun hHeld => ?_)
  · (try dsimp only)
    exact HQ.out _ (BX.drew0 _)
  refine held_take (i := 1) (d := 4) (v := ?_) rfl rfl (by kernel_rfl) (by kernel_rfl) (by kernel_rfl) (fun _ _ _ h => h) (by rfl) ?_ (by assumption) ?_
  rotate_left
  · intro w hSw
    (try dsimp only at hSw)
    go_simp
    try with_reducible rfl
  try simp only [Act.put, List.setIfInBounds_toArray, List.set_cons_zero, List.set_cons_succ]
  refine held_take (i := 2) (d := 5) (v := ?_) rfl rfl (by kernel_rfl) (by kernel_rfl) (by kernel_rfl) (fun _ _ _ h => h) (by rfl) ?_ (by assumption) ?_
  rotate_left
  · intro w hSw
    (try dsimp only at hSw)
    go_simp
    try with_reducible rfl
  try simp only [Act.put, List.setIfInBounds_toArray, List.set_cons_zero, List.set_cons_succ]
  refine held_take (i := 6) (d := 9) (v := ?_) rfl rfl (by kernel_rfl) (by kernel_rfl) (by kernel_rfl) (fun _ _ _ h => h) (by rfl) ?_ (by assumption) ?_
  rotate_left
  · intro w hSw
    (try dsimp only at hSw)
    go_simp
    try with_reducible rfl
  try simp only [Act.put, List.setIfInBounds_toArray, List.set_cons_zero, List.set_cons_succ]
  refine held_take (i := 7) (d := 10) (v := ?_) rfl rfl (by kernel_rfl) (by kernel_rfl) (by kernel_rfl) (fun _ _ _ h => h) (by rfl) ?_ (by assumption) ?_
  rotate_left
  · intro w hSw
    (try dsimp only at hSw)
    go_simp
    try with_reducible rfl
  try simp only [Act.put, List.setIfInBounds_toArray, List.set_cons_zero, List.set_cons_succ]
  have B0 : Hid (BX (w.alloc (Obj.cells #[.int .i64 (k : Int), .int .i64 (n : Int)] 37)) (w.alloc (Obj.cells #[.int .i64 (k : Int), .int .i64 (n : Int)] 37)).drew) := Lib.hid (BX.drew0 _)
  have hz0 : (w.alloc (Obj.cells #[.int .i64 (k : Int), .int .i64 (n : Int)] 37)).drew.heap.size = w.heap.size + 1 := by simp
  have HZ0 := Lib.hid hz0
  clear hz0
  refine wpAnyH_ready (rs := [0]) (by kernel_rfl) (by simp) ?_
  refine ((AllReadyH.cons rfl (fun K' hK => ?_) AllReadyH.nil))
  go_simp
  go_at_call 30
  refine (HM.out _).mono ?_
  rintro e u1 ⟨rfl, hc, b1⟩
  rw [HZ0.out] at hc
  have B1 := Lib.hid (B0.out.call b1)
  have HC1 := Lib.hid hc
  have HL1 := Lib.hid (World.block_lt_of_cell? _ _ hc)
  clear b1 hc
  refine hK.out _ _ ?_ (fun hHeld => ?_)
  · (try dsimp only)
    exact HQ.out _ B1.out
  clear hK K'
  try simp only [Act.put, List.setIfInBounds_toArray, List.set_cons_zero, List.set_cons_succ]
  refine held_take (i := 3) (d := 6) (v := ?_) rfl rfl (by kernel_rfl) (by kernel_rfl) (by kernel_rfl) (fun _ _ _ h => h) (by rfl) ?_ (by assumption) ?_
  rotate_left
  · intro w hSw
    (try dsimp only at hSw)
    go_simp
    try with_reducible rfl
  try simp only [Act.put, List.setIfInBounds_toArray, List.set_cons_zero, List.set_cons_succ]
  refine wpAnyH_ready (rs := [4, 8]) (by kernel_rfl) (by simp) ?_
  refine ((AllReadyH.cons rfl (fun K' hK => ?_) (AllReadyH.cons rfl (fun K' hK => ?_) AllReadyH.nil)))
  · skip
    have hc := HC1.out
    go_simp
    refine hK.out _ _ ?_ (fun hHeld => ?_)
    · (try dsimp only)
      exact HQ.out _ B1.out
    clear hK K'
    try simp only [Act.put, List.setIfInBounds_toArray, List.set_cons_zero, List.set_cons_succ]
    refine held_take (i := 5) (d := 8) (v := ?_) rfl rfl (by kernel_rfl) (by kernel_rfl) (by kernel_rfl) (fun _ _ _ h => h) (by rfl) ?_ (by assumption) ?_
    rotate_left
    · intro w hSw
      (try dsimp only at hSw)
      go_simp
      try with_reducible rfl
    try simp only [Act.put, List.setIfInBounds_toArray, List.set_cons_zero, List.set_cons_succ]
    refine wpAnyH_ready (rs := [8]) (by kernel_rfl) (by simp) ?_
    refine ((AllReadyH.cons rfl (fun K' hK => ?_) AllReadyH.nil))
    go_simp
    go_at_call 58
    refine (HN.out _).mono ?_
    rintro e u2 ⟨rfl, b2⟩
    have B2 := Lib.hid (B1.out.call b2)
    clear b2
    refine hK.out _ _ ?_ (fun hHeld => ?_)
    · (try dsimp only)
      exact HQ.out _ B2.out
    clear hK K'
    try simp only [Act.put, List.setIfInBounds_toArray, List.set_cons_zero, List.set_cons_succ]
    refine held_take (i := 9) (d := 12) (v := ?_) rfl rfl (by kernel_rfl) (by kernel_rfl) (by kernel_rfl) (fun _ _ _ h => h) (by rfl) ?_ (by assumption) ?_
    rotate_left
    · intro w hSw
      (try dsimp only at hSw)
      go_simp
      try with_reducible rfl
    try simp only [Act.put, List.setIfInBounds_toArray, List.set_cons_zero, List.set_cons_succ]
    refine held_take (i := 10) (d := 2) (v := ?_) rfl rfl (by kernel_rfl) (by kernel_rfl) (by kernel_rfl) (fun _ _ _ h => h) (by rfl) ?_ (by assumption) ?_
    rotate_left
    · intro w hSw
      (try dsimp only at hSw)
      go_simp
      try with_reducible rfl
    try simp only [Act.put, List.setIfInBounds_toArray, List.set_cons_zero, List.set_cons_succ]
    refine wpAnyH_done (by kernel_rfl) ?_ _
    go_wp2_with fail
    go_ret
    exact ⟨congrArg (fun s => Ending.returned (.string s)) HX.out.symm, HE.out _ B2.out⟩
  · skip
    go_simp
    go_at_call 58
    refine (HN.out _).mono ?_
    rintro e u2 ⟨rfl, b2⟩
    have B2 := Lib.hid (B1.out.call b2)
    have HC2 := Lib.hid (((bcell b2).1 _ _ HL1.out).trans HC1.out)
    clear b2
    refine hK.out _ _ ?_ (fun hHeld => ?_)
    · (try dsimp only)
      exact HQ.out _ B2.out
    clear hK K'
    try simp only [Act.put, List.setIfInBounds_toArray, List.set_cons_zero, List.set_cons_succ]
    refine wpAnyH_ready (rs := [4]) (by kernel_rfl) (by simp) ?_
    refine ((AllReadyH.cons rfl (fun K' hK => ?_) AllReadyH.nil))
    have hc := HC2.out
    go_simp
    refine hK.out _ _ ?_ (fun hHeld => ?_)
    · (try dsimp only)
      exact HQ.out _ B2.out
    clear hK K'
    try simp only [Act.put, List.setIfInBounds_toArray, List.set_cons_zero, List.set_cons_succ]
    refine held_take (i := 5) (d := 8) (v := ?_) rfl rfl (by kernel_rfl) (by kernel_rfl) (by kernel_rfl) (fun _ _ _ h => h) (by rfl) ?_ (by assumption) ?_
    rotate_left
    · intro w hSw
      (try dsimp only at hSw)
      go_simp
      try with_reducible rfl
    try simp only [Act.put, List.setIfInBounds_toArray, List.set_cons_zero, List.set_cons_succ]
    refine held_take (i := 9) (d := 12) (v := ?_) rfl rfl (by kernel_rfl) (by kernel_rfl) (by kernel_rfl) (fun _ _ _ h => h) (by rfl) ?_ (by assumption) ?_
    rotate_left
    · intro w hSw
      (try dsimp only at hSw)
      go_simp
      try with_reducible rfl
    try simp only [Act.put, List.setIfInBounds_toArray, List.set_cons_zero, List.set_cons_succ]
    refine held_take (i := 10) (d := 2) (v := ?_) rfl rfl (by kernel_rfl) (by kernel_rfl) (by kernel_rfl) (fun _ _ _ h => h) (by rfl) ?_ (by assumption) ?_
    rotate_left
    · intro w hSw
      (try dsimp only at hSw)
      go_simp
      try with_reducible rfl
    try simp only [Act.put, List.setIfInBounds_toArray, List.set_cons_zero, List.set_cons_succ]
    refine wpAnyH_done (by kernel_rfl) ?_ _
    go_wp2_with fail
    go_ret
    exact ⟨congrArg (fun s => Ending.returned (.string s)) HX.out.symm, HE.out _ B2.out⟩
set_option maxHeartbeats 3200000 in
theorem specFaultText_any (x : Fa) (w : World) : Calls Tryd.prog 24 #[faV x] w (SaysT2 w (.string (resFt x)) (.bool (goodF x))) := by
  have HG := Lib.hid (fun w => erGood_any x w)
  cases hg : goodF x
  · rw [ft_no hg]
    rw [hg] at HG
    clear hg
    obtain ⟨xk, xa⟩ := x
    unfold faV at HG ⊢
    simp only at HG ⊢
    go_enter Tryd.func24, Tryd.ntmps24
    go_wp2_with (go_at_call 41; refine (HG.out _).mono ?_; rintro e w1 ⟨rfl, b1⟩; have B1 := Lib.hid (box_two b1).2; clear b1)
    go_ret2
    exact ⟨rfl, B1.out⟩
  · rw [ft_yes hg]
    rw [hg] at HG
    have N := fan hg
    have HT := Lib.hid (fun w => erShow_any x.k.toNat x.a.toNat N.k8 N.n6 w)
    rw [fa_of N] at HG ⊢
    generalize x.k.toNat = k at HT HG ⊢
    generalize x.a.toNat = n at HT HG ⊢
    generalize ftT k n = R at HT ⊢
    clear hg N
    go_enter Tryd.func24, Tryd.ntmps24
    go_wp2_with (go_at_call 41; refine (HG.out _).mono ?_; rintro e w1 ⟨rfl, b1⟩; have B1 := Lib.hid (box_two b1).2; obtain ⟨c0, c1, cl⟩ := (box_two b1).1; clear b1)
    go_wp2_with (go_at_call 44; refine (HT.out _).mono ?_; rintro e w2 ⟨rfl, b2⟩; have B2 := Lib.hid (B1.out.trans (b2.mono B1.out.size)); clear b2)
    go_ret2
    exact ⟨rfl, B2.out⟩
set_option maxHeartbeats 6400000 in
theorem implFaultText_any (x : Fa) (w : World) (hK : Hid (Knt w)) (hP : Hid (Pow w)) : Calls Tryd.prog 25 #[faV x] w (SaysT2 w (.string (resFt x)) (.bool (goodF x))) := by
  have HG := Lib.hid (fun w => implIsFault_any x w)
  cases hg : goodF x
  · rw [ft_no hg]
    rw [hg] at HG
    clear hg
    obtain ⟨xk, xa⟩ := x
    unfold faV at HG ⊢
    simp only at HG ⊢
    go_enter Tryd.func25, Tryd.ntmps25
    go_wp2_with (go_at_call 45; refine (HG.out _).mono ?_; rintro e w1 ⟨rfl, b1⟩; have B1 := Lib.hid (box_two b1).2; clear b1)
    go_ret2
    exact ⟨rfl, B1.out⟩
  · rw [ft_yes hg]
    rw [hg] at HG
    have N := fan hg
    have hk8 := N.k8
    have hn6 := N.n6
    rw [fa_of N] at HG ⊢
    generalize x.k.toNat = k at HG hk8 ⊢
    generalize x.a.toNat = n at HG hn6 ⊢
    clear hg N
    have HN := Lib.hid (fun w h => itoa_any n (by omega) w (Lib.hid (show Pow w from h)))
    have z1 := kn_size k
    have z2 := numS_size n
    have HX : Hid (ftT k n = kn k ++ ⟨#[32, 97, 116, 32]⟩ ++ numS n) := Lib.hid rfl
    generalize ftT k n = R at HX ⊢
    have HC : Hid (∀ w', Below w.heap.size w w' → w'.cell? ⟨0, k, none⟩ = some (.string (kn k))) := Lib.hid (fun w' b => (hK.out.below b).at k hk8)
    generalize kn k = a at HC HX z1
    generalize numS n = b at HN HX z2
    have s1 : (⟨#[32, 97, 116, 32]⟩ : ByteArray).size = 4 := rfl
    have k1 : ¬ (9223372036854775807 < a.size + (⟨#[32, 97, 116, 32]⟩ : ByteArray).size) := by rw [s1]; omega
    have k2 : ¬ (9223372036854775807 < (a ++ ⟨#[32, 97, 116, 32]⟩).size + b.size) := by rw [ByteArray.size_append, s1]; omega
    have k1b : ¬ (9223372036854775807 < a.size + 4) := by omega
    have k2b : ¬ (9223372036854775807 < a.size + 4 + b.size) := by omega
    have hk' : (k : Int) < 8 := by omega
    have hk0 : (0 : Int) ≤ k := by omega
    have hk1 : (k : Int) ≤ 8 := by omega
    have HE : Hid (∀ w', BX (w.alloc (Obj.cells #[.int .i64 (k : Int), .int .i64 (n : Int)] 37)) w' → Below w.heap.size w w') := Lib.hid (fun w' h => (one_new2 w _).trans (Below.mono h (by simp)))
    have HQ : Hid (∀ w', BX (w.alloc (Obj.cells #[.int .i64 (k : Int), .int .i64 (n : Int)] 37)) w' → w'.cell? ⟨w.heap.size, 0, none⟩ = some (.int .i64 (k : Int)) ∧ w'.cell? ⟨w.heap.size, 1, none⟩ = some (.int .i64 (n : Int)) ∧ w'.cell? ⟨0, k, none⟩ = some (.string a) ∧ BX (w.alloc (Obj.cells #[.int .i64 (k : Int), .int .i64 (n : Int)] 37)) w') := Lib.hid (fun w' h => by
      obtain ⟨a0, a1, _⟩ := (two_is w (.int .i64 (k : Int)) (.int .i64 (n : Int)) 37).on h
      exact ⟨a0, a1, HC.out _ (HE.out _ h), h⟩)
    have HP : Hid (∀ w', BX (w.alloc (Obj.cells #[.int .i64 (k : Int), .int .i64 (n : Int)] 37)) w' → Pow w') := Lib.hid (fun w' h => hP.out.below (HE.out _ h))
    have X0 := Lib.hid (BX.refl (w.alloc (Obj.cells #[.int .i64 (k : Int), .int .i64 (n : Int)] 37)))
    clear z1 z2 s1
    go_enter Tryd.func25, Tryd.ntmps25
    go_wp2_with (go_at_call 45; refine (HG.out _).mono ?_; rintro e w1 ⟨rfl, b1⟩; have X1 := X0.out.call b1; clear b1)
    first
    | go_region_held3 (fun w' => w'.cell? ⟨w.heap.size, 0, none⟩ = some (.int .i64 (k : Int)) ∧ w'.cell? ⟨w.heap.size, 1, none⟩ = some (.int .i64 (n : Int)) ∧ w'.cell? ⟨0, k, none⟩ = some (.string a) ∧ BX (w.alloc (Obj.cells #[.int .i64 (k : Int), .int .i64 (n : Int)] 37)) w')
        (first | (go_split_ands; refine HQ.out _ ?_; repeat' (with_reducible first | exact BX.drew0 _ | exact BX.refl _ | assumption | refine BX.call' (by assumption) ?_ | refine BX.drew ?_)))
        (first | (go_at_call 46; go_split_ands; (with_reducible refine (HN.out _ (HP.out _ (by assumption))).mono ?_); rintro e w4 ⟨rfl, b4⟩))
    | fail
    all_goals
      go_split_ands
      go_wp2_with fail
      go_ret2
      exact ⟨congrArg (fun s => Ending.returned (.tuple #[.string s, .bool true])) HX.out.symm, HE.out _ (by assumption)⟩
end Go.Proofs.YtdfkehgkonadhaaDoor
