/- The bytes of one attribute: the program's. -/
import Derived.Test.YthflehdboccloaaAth
import Derived.Deep.RegionHeld3
import Derived.Deep.CutRange
namespace Go.Proofs.Ythflehdboccloaa
open Go.RowKit
set_option linter.unusedVariables false
set_option maxRecDepth 100000

def Rw (w : World) (g : Nat) (X : List Int) : Prop := OffC w g 0 (bv X) ∧ g < w.heap.size
theorem Rw.on {w w' : World} {g : Nat} {X : List Int} (h : Rw w g X) (b : Below w.heap.size w w') : Rw w' g X := ⟨h.1.below b h.2, Nat.lt_of_lt_of_le h.2 b.size⟩
theorem rw_own {w : World} {B g n c : Nat} {X : List Int} (h : OwnB w B g n c X) : Rw w g X := by
  refine ⟨fun j hj => ?_, h.lt.2⟩
  rw [bv_length] at hj
  rw [Nat.zero_add]
  exact World.ownsRow.cellAt h j (by rw [← h.len]; omega)
theorem conv_row (s : ByteArray) (w : World) : Rw (w.alloc (.cells (bytesRow s (grownCap w s.size 0 5)) 5 ((bytesRow s (grownCap w s.size 0 5)).size, (bytesRow s (grownCap w s.size 0 5)).size + 1))).drew w.heap.size (nmL s) ∧ Below w.heap.size w (w.alloc (.cells (bytesRow s (grownCap w s.size 0 5)) 5 ((bytesRow s (grownCap w s.size 0 5)).size, (bytesRow s (grownCap w s.size 0 5)).size + 1))).drew := by
  have hb : Below w.heap.size w (w.alloc (.cells (bytesRow s (grownCap w s.size 0 5)) 5 ((bytesRow s (grownCap w s.size 0 5)).size, (bytesRow s (grownCap w s.size 0 5)).size + 1))).drew := (one_new2 w _).trans ((show Below (w.alloc (.cells (bytesRow s (grownCap w s.size 0 5)) 5 ((bytesRow s (grownCap w s.size 0 5)).size, (bytesRow s (grownCap w s.size 0 5)).size + 1))).heap.size (w.alloc (.cells (bytesRow s (grownCap w s.size 0 5)) 5 ((bytesRow s (grownCap w s.size 0 5)).size, (bytesRow s (grownCap w s.size 0 5)).size + 1))) (w.alloc (.cells (bytesRow s (grownCap w s.size 0 5)) 5 ((bytesRow s (grownCap w s.size 0 5)).size, (bytesRow s (grownCap w s.size 0 5)).size + 1))).drew from below_drewN (Below.refl _ _) 1).mono (by simp))
  refine ⟨⟨fun j hj => ?_, show w.heap.size < (w.alloc (.cells (bytesRow s (grownCap w s.size 0 5)) 5 ((bytesRow s (grownCap w s.size 0 5)).size, (bytesRow s (grownCap w s.size 0 5)).size + 1))).heap.size by simp⟩, hb⟩
  rw [bv_length, nmL_length] at hj
  rw [Nat.zero_add]
  refine (cell_of_row (w.alloc (.cells (bytesRow s (grownCap w s.size 0 5)) 5 ((bytesRow s (grownCap w s.size 0 5)).size, (bytesRow s (grownCap w s.size 0 5)).size + 1))).drew w.heap.size j _ _ _ (heap_alloc_new w _)).trans ?_
  unfold bytesRow bv nmL
  have hj2 : j < s.data.size := hj
  rw [Array.getElem?_append_left (by rw [Array.size_map]; exact hj2)]
  simp
  rfl
theorem slc_lit (w : World) (a b c : Value) : (w.alloc (.cells #[a, b, c] 62)).cell? ⟨w.heap.size, 0, none⟩ = some a ∧ (w.alloc (.cells #[a, b, c] 62)).cell? ⟨w.heap.size, 1, none⟩ = some b ∧ (w.alloc (.cells #[a, b, c] 62)).cell? ⟨w.heap.size, 2, none⟩ = some c := by
  refine ⟨?_, ?_, ?_⟩ <;> simp [go_sem]
def AbR (w : World) (X : List Int) (x6 : Value) (wx : World) : Prop := OwnZ wx w.heap.size x6 X ∧ BX w wx
def abL (x : At) (ins : Nat) : List Int := prL (4 + (x.s.size : Int) + (ins : Int)) ++ prL (kdI x) ++ nmL x.s ++ zrL (padA (4 + x.s.size) - (4 + x.s.size))
theorem byte_rng (s : ByteArray) : ∀ c ∈ nmL s, 0 ≤ c ∧ c ≤ 255 := by
  intro c hc
  obtain ⟨u, _, rfl⟩ := List.mem_map.1 hc
  have := u.toNat_lt
  omega
theorem pr_rng {n : Int} (h0 : 0 ≤ n) (h1 : n < 65536) : ∀ c ∈ prL n, 0 ≤ c ∧ c ≤ 255 := by
  intro c hc
  unfold prL at hc
  simp at hc
  omega
theorem head_rng {a b : Int} {s : ByteArray} (h0 : 0 ≤ a) (h1 : a < 65536) (h2 : 0 ≤ b) (h3 : b < 65536) : ∀ c ∈ prL a ++ prL b ++ nmL s, 0 ≤ c ∧ c ≤ 255 := by
  intro c hc
  simp only [List.mem_append] at hc
  rcases hc with (hc | hc) | hc
  · exact pr_rng h0 h1 c hc
  · exact pr_rng h2 h3 c hc
  · exact byte_rng s c hc
theorem own_row8 {w : World} {B g n c : Nat} {X : List Int} (h : w.ownsRow B 5 1 (.slice (some ⟨g, 0, none⟩) n c) n (bv X)) (hr : ∀ n ∈ X, 0 ≤ n ∧ n ≤ 255) : Row w g 0 X := OwnB.row (h : OwnB w B g n c X) hr
set_option maxHeartbeats 25600000 in
theorem attrBytes_any (x : At) (ins : Nat) (w : World) (hs : x.s.size ≤ 1000) (ht0 : 0 ≤ x.t) (ht1 : x.t ≤ 32767) (hin : ins ≤ 6000) :
    Calls Try.prog 55 #[atV x, .int .i64 (ins : Int)] w (SaysZB w (abL x ins)) := by
  have cv := fun w' => run_bytes_of_string (P := Try.prog) w' 9 62 5 x.s Try.underlying9 Try.underlying62 Try.underlying5
  have HX : Hid (abL x ins = prL (4 + (x.s.size : Int) + (ins : Int)) ++ prL (kdI x) ++ nmL x.s ++ zrL (padA (4 + x.s.size) - (4 + x.s.size))) := Lib.hid rfl
  have hk0 : 0 ≤ kdI x ∧ kdI x < 65536 := by unfold kdI; split <;> omega
  have HKd : Hid (kdI x = if x.n then x.t + 32768 else x.t) := Lib.hid rfl
  generalize hkd : kdI x = kd at HX hk0 HKd
  obtain ⟨hk1, hk2⟩ := hk0
  rw [HX.out]
  obtain ⟨xd, xt, xn, s⟩ := x
  unfold atV
  simp only at hs ht0 ht1 cv HKd ⊢
  clear HX hkd
  obtain ⟨Pd, hPd⟩ : ∃ P, padA (4 + s.size) = P := ⟨_, rfl⟩
  have hpg := pad_ge (4 + s.size)
  have hpl := pad_le hs
  rw [hPd] at hpg hpl ⊢
  have HW1 := Lib.hid (fun w => pairOf_any (4 + (s.size : Int) + (ins : Int)) w (by omega) (by omega))
  have HW2 := Lib.hid (fun w => pairOf_any kd w hk1 hk2)
  have HAl : Hid (alnB ((4 + s.size : Nat) : Int) 4 = true ∧ alR ((4 + s.size : Nat) : Int) 4 = (Pd : Int)) := Lib.hid (by
    obtain ⟨a, b⟩ := al_yes (n := ((4 + s.size : Nat) : Int)) (b := 4) (by omega)
    refine ⟨a, ?_⟩
    rw [b, ← hPd]
    unfold padA
    omega)
  obtain ⟨X, hX⟩ : ∃ X, prL (4 + (s.size : Int) + (ins : Int)) ++ prL kd ++ nmL s = X := ⟨_, rfl⟩
  have HXl : Hid (X.length = 4 + s.size) := Lib.hid (by rw [← hX]; simp [prL, nmL_length]; omega)
  have HXr : Hid (∀ c ∈ X, 0 ≤ c ∧ c ≤ 255) := Lib.hid (by rw [← hX]; exact head_rng (by omega) (by omega) hk1 hk2)
  have HXX := Lib.hid hX
  have HPf : Hid (X ++ zrL (Pd - (4 + s.size)) = padded X Pd) := Lib.hid (by unfold padded zrL; rw [HXl.out])
  rw [hX, HPf.out]
  have HPT := Lib.hid (fun b cap w (HR : Row w b 0 X) => implPad_some b 0 (4 + s.size) cap Pd 4 X w HXl (Lib.hid HR) HAl (by omega) (by omega))
  have HPl : Hid ((padded X Pd).length = Pd) := Lib.hid (padded_length X Pd (by rw [HXl.out]; exact hpg))
  have hwr : IntKind.i64.wrap (4 + (s.size : Int)) = 4 + (s.size : Int) := IntWalk.i64_in _ (by omega)
  have hwr2 : IntKind.i64.wrap (4 + (s.size : Int) + (ins : Int)) = 4 + (s.size : Int) + (ins : Int) := IntWalk.i64_in _ (by omega)
  clear hPd hX
  cases xn
  · have hkx : kd = xt := HKd.out
    subst hkx
    go_enter Try.func55, Try.ntmps55
    go_wp2_with fail
    have AI := Lib.hid (atr_is w ⟨xd, kd, false, s⟩ 56)
    have XQ := Lib.hid ((BX.refl w).alloc (Obj.cells #[.int .i64 xd, .int .i64 kd, .bool false, .string s] 56))
    simp only at AI
    generalize w.alloc (Obj.cells #[.int .i64 xd, .int .i64 kd, .bool false, .string s] 56) = wq at AI XQ ⊢
    obtain ⟨⟨c0, c1, c2, c3⟩, cl⟩ := AI.out
    simp only at c0 c1 c2 c3
    go_cut [6] from 15 to 29 (fun x6 wx => AbR w X x6 wx)
    case first =>
      refine wp_region_held_drew (S := fun w' => w'.cell? ⟨w.heap.size, 0 + 3, none⟩ = some (.string s)) (by kernel_rfl) ?_ (fun hHeld => ?_)
      · exact c3
      have Xwd : Hid (BX w wq.drew) := Lib.hid (bx_drew XQ.out 1)
      have Zwd : Hid (w.heap.size < wq.drew.heap.size) := Lib.hid cl
      generalize wq.drew = wd at Xwd Zwd hHeld ⊢
      refine held_take (i := 0) (d := 15) (v := ?_) rfl rfl (by kernel_rfl) (by kernel_rfl) (by kernel_rfl) (fun _ _ _ h => h) (by rfl) ?_ (by assumption) ?_
      rotate_left
      · intro w hSw
        (try dsimp only at hSw)
        go_simp
        try with_reducible rfl
      set_option linter.unusedSimpArgs false in try simp only [Act.put, List.setIfInBounds_toArray, List.set_cons_zero, List.set_cons_succ]
      refine held_take (i := 1) (d := 16) (v := ?_) rfl rfl (by kernel_rfl) (by kernel_rfl) (by kernel_rfl) (fun _ _ _ h => h) (by rfl) ?_ (by assumption) ?_
      rotate_left
      · intro w hSw
        (try dsimp only at hSw)
        go_simp
        try with_reducible rfl
      set_option linter.unusedSimpArgs false in try simp only [Act.put, List.setIfInBounds_toArray, List.set_cons_zero, List.set_cons_succ]
      refine held_take (i := 2) (d := 17) (v := ?_) rfl rfl (by kernel_rfl) (by kernel_rfl) (by kernel_rfl) (fun _ _ _ h => h) (by rfl) ?_ (by assumption) ?_
      rotate_left
      · intro w hSw
        (try dsimp only at hSw)
        go_simp
        try with_reducible rfl
      set_option linter.unusedSimpArgs false in try simp only [Act.put, List.setIfInBounds_toArray, List.set_cons_zero, List.set_cons_succ]
      refine held_take (i := 3) (d := 18) (v := ?_) rfl rfl (by kernel_rfl) (by kernel_rfl) (by kernel_rfl) (fun _ _ _ h => h) (by rfl) ?_ (by assumption) ?_
      rotate_left
      · intro w hSw
        (try dsimp only at hSw)
        go_simp
        try with_reducible rfl
      set_option linter.unusedSimpArgs false in try simp only [Act.put, List.setIfInBounds_toArray, List.set_cons_zero, List.set_cons_succ]
      refine held_take (i := 4) (d := 19) (v := ?_) rfl rfl (by kernel_rfl) (by kernel_rfl) (by kernel_rfl) (fun _ _ _ h => h) (by rfl) ?_ (by assumption) ?_
      rotate_left
      · intro w hSw
        (try dsimp only at hSw)
        go_simp
        try with_reducible rfl
      set_option linter.unusedSimpArgs false in try simp only [Act.put, List.setIfInBounds_toArray, List.set_cons_zero, List.set_cons_succ]
      refine held_take (i := 5) (d := 20) (v := ?_) rfl rfl (by kernel_rfl) (by kernel_rfl) (by kernel_rfl) (fun _ _ _ h => h) (by rfl) ?_ (by assumption) ?_
      rotate_left
      · intro w hSw
        (try dsimp only at hSw)
        go_simp
        try with_reducible rfl
      set_option linter.unusedSimpArgs false in try simp only [Act.put, List.setIfInBounds_toArray, List.set_cons_zero, List.set_cons_succ]
      refine held_take (i := 7) (d := 22) (v := ?_) rfl rfl (by kernel_rfl) (by kernel_rfl) (by kernel_rfl) (fun _ _ _ h => h) (by rfl) ?_ (by assumption) ?_
      rotate_left
      · intro w hSw
        (try dsimp only at hSw)
        go_simp
        try with_reducible rfl
      set_option linter.unusedSimpArgs false in try simp only [Act.put, List.setIfInBounds_toArray, List.set_cons_zero, List.set_cons_succ]
      refine held_take (i := 9) (d := 24) (v := ?_) rfl rfl (by kernel_rfl) (by kernel_rfl) (by kernel_rfl) (fun _ _ _ h => h) (by rfl) ?_ (by assumption) ?_
      rotate_left
      · intro w hSw
        (try dsimp only at hSw)
        go_simp
        try with_reducible rfl
      set_option linter.unusedSimpArgs false in try simp only [Act.put, List.setIfInBounds_toArray, List.set_cons_zero, List.set_cons_succ]
      refine held_take (i := 10) (d := 25) (v := ?_) rfl rfl (by kernel_rfl) (by kernel_rfl) (by kernel_rfl) (fun _ _ _ h => h) (by rfl) ?_ (by assumption) ?_
      rotate_left
      · intro w hSw
        (try dsimp only at hSw)
        go_simp
        try with_reducible rfl
      set_option linter.unusedSimpArgs false in try simp only [Act.put, List.setIfInBounds_toArray, List.set_cons_zero, List.set_cons_succ]
      refine wpAnyH_ready (rs := [6, 11]) (by kernel_rfl) (by simp) ?_
      refine AllReadyH.cons rfl (fun K' hK => ?_) (AllReadyH.cons rfl (fun K' hK => ?_) AllReadyH.nil)
      · go_simp
        (try rw [hwr])
        (try rw [hwr2])
        go_at_call 79
        refine (HW1.out _).mono ?_
        rintro _ wA ⟨g1, q1, rfl, o, b⟩
        have XwA := Lib.hid (Xwd.out.call b)
        have R1wA := Lib.hid (rw_own o)
        have ZwA : Hid (w.heap.size < wA.heap.size) := Lib.hid (Nat.lt_of_lt_of_le Zwd.out b.size)
        refine hK.out _ _ ?_ (fun hHeld => ?_)
        · exact (b.cell (p := ⟨w.heap.size, 0 + 3, none⟩) Zwd.out).trans hHeld
        clear o b hK K'
        set_option linter.unusedSimpArgs false in try simp only [Act.put, List.setIfInBounds_toArray, List.set_cons_zero, List.set_cons_succ]
        refine wpAnyH_ready (rs := [8, 11]) (by kernel_rfl) (by simp) ?_
        refine AllReadyH.cons rfl (fun K' hK => ?_) (AllReadyH.cons rfl (fun K' hK => ?_) AllReadyH.nil)
        · go_simp
          (try rw [hwr])
          (try rw [hwr2])
          go_at_call 79
          refine (HW2.out _).mono ?_
          rintro _ wB ⟨g2, q2, rfl, o, b⟩
          have XwB := Lib.hid (XwA.out.call b)
          have R1wB := Lib.hid (R1wA.out.on b)
          have R2wB := Lib.hid (rw_own o)
          have ZwB : Hid (w.heap.size < wB.heap.size) := Lib.hid (Nat.lt_of_lt_of_le ZwA.out b.size)
          refine hK.out _ _ ?_ (fun hHeld => ?_)
          · exact (b.cell (p := ⟨w.heap.size, 0 + 3, none⟩) ZwA.out).trans hHeld
          clear o b hK K'
          set_option linter.unusedSimpArgs false in try simp only [Act.put, List.setIfInBounds_toArray, List.set_cons_zero, List.set_cons_succ]
          refine wpAnyH_ready (rs := [11]) (by kernel_rfl) (by simp) ?_
          refine AllReadyH.cons rfl (fun K' hK => ?_) AllReadyH.nil
          go_simp
          have b := (conv_row s wB).2
          have o := (conv_row s wB).1
          generalize (wB.alloc (.cells (bytesRow s (grownCap wB s.size 0 5)) 5 ((bytesRow s (grownCap wB s.size 0 5)).size, (bytesRow s (grownCap wB s.size 0 5)).size + 1))).drew = wC at o b ⊢
          skip
          have XwC := Lib.hid (XwB.out.call b)
          have R1wC := Lib.hid (R1wB.out.on b)
          have R2wC := Lib.hid (R2wB.out.on b)
          have R3wC := Lib.hid o
          have ZwC : Hid (w.heap.size < wC.heap.size) := Lib.hid (Nat.lt_of_lt_of_le ZwB.out b.size)
          refine hK.out _ _ ?_ (fun hHeld => ?_)
          · exact (b.cell (p := ⟨w.heap.size, 0 + 3, none⟩) ZwB.out).trans hHeld
          clear o b hK K'
          set_option linter.unusedSimpArgs false in try simp only [Act.put, List.setIfInBounds_toArray, List.set_cons_zero, List.set_cons_succ]
          refine wpAnyH_ready (rs := [12]) (by kernel_rfl) (by simp) ?_
          refine AllReadyH.cons rfl (fun K' hK => ?_) AllReadyH.nil
          go_simp
          have b := one_new2 wC (.cells #[.slice (some ⟨g1, 0, none⟩) 2 q1, .slice (some ⟨g2, 0, none⟩) 2 q2, .slice (some ⟨wB.heap.size, 0, none⟩) s.size (grownCap wB s.size 0 5)] 62)
          have K0 := Lib.hid (slc_lit wC (.slice (some ⟨g1, 0, none⟩) 2 q1) (.slice (some ⟨g2, 0, none⟩) 2 q2) (.slice (some ⟨wB.heap.size, 0, none⟩) s.size (grownCap wB s.size 0 5)))
          have X9 := Lib.hid (XwC.out.call b)
          have R19 := Lib.hid (R1wC.out.on b)
          have R29 := Lib.hid (R2wC.out.on b)
          have R39 := Lib.hid (R3wC.out.on b)
          refine hK.out _ _ ?_ (fun hHeld => ?_)
          · exact (b.cell (p := ⟨w.heap.size, 0 + 3, none⟩) ZwC.out).trans hHeld
          have hs9 := Nat.lt_of_lt_of_le ZwC.out b.size
          clear hK K' b
          set_option linter.unusedSimpArgs false in try simp only [Act.put, List.setIfInBounds_toArray, List.set_cons_zero, List.set_cons_succ]
          refine wpAnyH_ready (rs := [13]) (by kernel_rfl) (by simp) ?_
          refine AllReadyH.cons rfl (fun K' hK => ?_) AllReadyH.nil
          go_simp
          go_at_call 78
          refine (concat3_any wC.heap.size g1 g2 wB.heap.size 2 2 s.size q1 q2 (grownCap wB s.size 0 5) 3 (prL (4 + (s.size : Int) + (ins : Int))) (prL kd) (nmL s) _ (Lib.hid K0.out.1) (Lib.hid K0.out.2.1) (Lib.hid K0.out.2.2) (Lib.hid R19.out.1) (Lib.hid R29.out.1) (Lib.hid R39.out.1) rfl rfl (Lib.hid (nmL_length s)) (by omega) (by omega) (by omega) (by omega)).mono ?_
          rintro _ wf ⟨vf, rfl, o, b⟩
          have XF := Lib.hid (X9.out.call b)
          have OF : Hid (OwnZ wf w.heap.size vf (prL (4 + (s.size : Int) + (ins : Int)) ++ prL kd ++ nmL s)) := Lib.hid (own_base o (BX.size X9.out))
          refine hK.out _ _ ?_ (fun hHeld => ?_)
          · exact (b.cell (p := ⟨w.heap.size, 0 + 3, none⟩) hs9).trans hHeld
          clear o b hK K'
          set_option linter.unusedSimpArgs false in try simp only [Act.put, List.setIfInBounds_toArray, List.set_cons_zero, List.set_cons_succ]
          refine held_take (i := 14) (d := 6) (v := ?_) rfl rfl (by kernel_rfl) (by kernel_rfl) (by kernel_rfl) (fun _ _ _ h => h) (by rfl) ?_ (by assumption) ?_
          rotate_left
          · intro w hSw
            (try dsimp only at hSw)
            go_simp
            try with_reducible rfl
          set_option linter.unusedSimpArgs false in try simp only [Act.put, List.setIfInBounds_toArray, List.set_cons_zero, List.set_cons_succ]
          refine wpAnyH_done (by kernel_rfl) ?_ _
          go_wp2_with fail
          go_meet
          exact ⟨by rw [← HXX.out]; exact OF.out, XF.out⟩
        · go_simp
          have b := (conv_row s wA).2
          have o := (conv_row s wA).1
          generalize (wA.alloc (.cells (bytesRow s (grownCap wA s.size 0 5)) 5 ((bytesRow s (grownCap wA s.size 0 5)).size, (bytesRow s (grownCap wA s.size 0 5)).size + 1))).drew = wB at o b ⊢
          skip
          have XwB := Lib.hid (XwA.out.call b)
          have R1wB := Lib.hid (R1wA.out.on b)
          have R3wB := Lib.hid o
          have ZwB : Hid (w.heap.size < wB.heap.size) := Lib.hid (Nat.lt_of_lt_of_le ZwA.out b.size)
          refine hK.out _ _ ?_ (fun hHeld => ?_)
          · exact (b.cell (p := ⟨w.heap.size, 0 + 3, none⟩) ZwA.out).trans hHeld
          clear o b hK K'
          set_option linter.unusedSimpArgs false in try simp only [Act.put, List.setIfInBounds_toArray, List.set_cons_zero, List.set_cons_succ]
          refine wpAnyH_ready (rs := [8]) (by kernel_rfl) (by simp) ?_
          refine AllReadyH.cons rfl (fun K' hK => ?_) AllReadyH.nil
          go_simp
          (try rw [hwr])
          (try rw [hwr2])
          go_at_call 79
          refine (HW2.out _).mono ?_
          rintro _ wC ⟨g2, q2, rfl, o, b⟩
          have XwC := Lib.hid (XwB.out.call b)
          have R1wC := Lib.hid (R1wB.out.on b)
          have R3wC := Lib.hid (R3wB.out.on b)
          have R2wC := Lib.hid (rw_own o)
          have ZwC : Hid (w.heap.size < wC.heap.size) := Lib.hid (Nat.lt_of_lt_of_le ZwB.out b.size)
          refine hK.out _ _ ?_ (fun hHeld => ?_)
          · exact (b.cell (p := ⟨w.heap.size, 0 + 3, none⟩) ZwB.out).trans hHeld
          clear o b hK K'
          set_option linter.unusedSimpArgs false in try simp only [Act.put, List.setIfInBounds_toArray, List.set_cons_zero, List.set_cons_succ]
          refine wpAnyH_ready (rs := [12]) (by kernel_rfl) (by simp) ?_
          refine AllReadyH.cons rfl (fun K' hK => ?_) AllReadyH.nil
          go_simp
          have b := one_new2 wC (.cells #[.slice (some ⟨g1, 0, none⟩) 2 q1, .slice (some ⟨g2, 0, none⟩) 2 q2, .slice (some ⟨wA.heap.size, 0, none⟩) s.size (grownCap wA s.size 0 5)] 62)
          have K0 := Lib.hid (slc_lit wC (.slice (some ⟨g1, 0, none⟩) 2 q1) (.slice (some ⟨g2, 0, none⟩) 2 q2) (.slice (some ⟨wA.heap.size, 0, none⟩) s.size (grownCap wA s.size 0 5)))
          have X9 := Lib.hid (XwC.out.call b)
          have R19 := Lib.hid (R1wC.out.on b)
          have R29 := Lib.hid (R2wC.out.on b)
          have R39 := Lib.hid (R3wC.out.on b)
          refine hK.out _ _ ?_ (fun hHeld => ?_)
          · exact (b.cell (p := ⟨w.heap.size, 0 + 3, none⟩) ZwC.out).trans hHeld
          have hs9 := Nat.lt_of_lt_of_le ZwC.out b.size
          clear hK K' b
          set_option linter.unusedSimpArgs false in try simp only [Act.put, List.setIfInBounds_toArray, List.set_cons_zero, List.set_cons_succ]
          refine wpAnyH_ready (rs := [13]) (by kernel_rfl) (by simp) ?_
          refine AllReadyH.cons rfl (fun K' hK => ?_) AllReadyH.nil
          go_simp
          go_at_call 78
          refine (concat3_any wC.heap.size g1 g2 wA.heap.size 2 2 s.size q1 q2 (grownCap wA s.size 0 5) 3 (prL (4 + (s.size : Int) + (ins : Int))) (prL kd) (nmL s) _ (Lib.hid K0.out.1) (Lib.hid K0.out.2.1) (Lib.hid K0.out.2.2) (Lib.hid R19.out.1) (Lib.hid R29.out.1) (Lib.hid R39.out.1) rfl rfl (Lib.hid (nmL_length s)) (by omega) (by omega) (by omega) (by omega)).mono ?_
          rintro _ wf ⟨vf, rfl, o, b⟩
          have XF := Lib.hid (X9.out.call b)
          have OF : Hid (OwnZ wf w.heap.size vf (prL (4 + (s.size : Int) + (ins : Int)) ++ prL kd ++ nmL s)) := Lib.hid (own_base o (BX.size X9.out))
          refine hK.out _ _ ?_ (fun hHeld => ?_)
          · exact (b.cell (p := ⟨w.heap.size, 0 + 3, none⟩) hs9).trans hHeld
          clear o b hK K'
          set_option linter.unusedSimpArgs false in try simp only [Act.put, List.setIfInBounds_toArray, List.set_cons_zero, List.set_cons_succ]
          refine held_take (i := 14) (d := 6) (v := ?_) rfl rfl (by kernel_rfl) (by kernel_rfl) (by kernel_rfl) (fun _ _ _ h => h) (by rfl) ?_ (by assumption) ?_
          rotate_left
          · intro w hSw
            (try dsimp only at hSw)
            go_simp
            try with_reducible rfl
          set_option linter.unusedSimpArgs false in try simp only [Act.put, List.setIfInBounds_toArray, List.set_cons_zero, List.set_cons_succ]
          refine wpAnyH_done (by kernel_rfl) ?_ _
          go_wp2_with fail
          go_meet
          exact ⟨by rw [← HXX.out]; exact OF.out, XF.out⟩
      · go_simp
        have b := (conv_row s wd).2
        have o := (conv_row s wd).1
        generalize (wd.alloc (.cells (bytesRow s (grownCap wd s.size 0 5)) 5 ((bytesRow s (grownCap wd s.size 0 5)).size, (bytesRow s (grownCap wd s.size 0 5)).size + 1))).drew = wA at o b ⊢
        skip
        have XwA := Lib.hid (Xwd.out.call b)
        have R3wA := Lib.hid o
        have ZwA : Hid (w.heap.size < wA.heap.size) := Lib.hid (Nat.lt_of_lt_of_le Zwd.out b.size)
        refine hK.out _ _ ?_ (fun hHeld => ?_)
        · exact (b.cell (p := ⟨w.heap.size, 0 + 3, none⟩) Zwd.out).trans hHeld
        clear o b hK K'
        set_option linter.unusedSimpArgs false in try simp only [Act.put, List.setIfInBounds_toArray, List.set_cons_zero, List.set_cons_succ]
        refine wpAnyH_ready (rs := [6]) (by kernel_rfl) (by simp) ?_
        refine AllReadyH.cons rfl (fun K' hK => ?_) AllReadyH.nil
        go_simp
        (try rw [hwr])
        (try rw [hwr2])
        go_at_call 79
        refine (HW1.out _).mono ?_
        rintro _ wB ⟨g1, q1, rfl, o, b⟩
        have XwB := Lib.hid (XwA.out.call b)
        have R3wB := Lib.hid (R3wA.out.on b)
        have R1wB := Lib.hid (rw_own o)
        have ZwB : Hid (w.heap.size < wB.heap.size) := Lib.hid (Nat.lt_of_lt_of_le ZwA.out b.size)
        refine hK.out _ _ ?_ (fun hHeld => ?_)
        · exact (b.cell (p := ⟨w.heap.size, 0 + 3, none⟩) ZwA.out).trans hHeld
        clear o b hK K'
        set_option linter.unusedSimpArgs false in try simp only [Act.put, List.setIfInBounds_toArray, List.set_cons_zero, List.set_cons_succ]
        refine wpAnyH_ready (rs := [8]) (by kernel_rfl) (by simp) ?_
        refine AllReadyH.cons rfl (fun K' hK => ?_) AllReadyH.nil
        go_simp
        (try rw [hwr])
        (try rw [hwr2])
        go_at_call 79
        refine (HW2.out _).mono ?_
        rintro _ wC ⟨g2, q2, rfl, o, b⟩
        have XwC := Lib.hid (XwB.out.call b)
        have R3wC := Lib.hid (R3wB.out.on b)
        have R1wC := Lib.hid (R1wB.out.on b)
        have R2wC := Lib.hid (rw_own o)
        have ZwC : Hid (w.heap.size < wC.heap.size) := Lib.hid (Nat.lt_of_lt_of_le ZwB.out b.size)
        refine hK.out _ _ ?_ (fun hHeld => ?_)
        · exact (b.cell (p := ⟨w.heap.size, 0 + 3, none⟩) ZwB.out).trans hHeld
        clear o b hK K'
        set_option linter.unusedSimpArgs false in try simp only [Act.put, List.setIfInBounds_toArray, List.set_cons_zero, List.set_cons_succ]
        refine wpAnyH_ready (rs := [12]) (by kernel_rfl) (by simp) ?_
        refine AllReadyH.cons rfl (fun K' hK => ?_) AllReadyH.nil
        go_simp
        have b := one_new2 wC (.cells #[.slice (some ⟨g1, 0, none⟩) 2 q1, .slice (some ⟨g2, 0, none⟩) 2 q2, .slice (some ⟨wd.heap.size, 0, none⟩) s.size (grownCap wd s.size 0 5)] 62)
        have K0 := Lib.hid (slc_lit wC (.slice (some ⟨g1, 0, none⟩) 2 q1) (.slice (some ⟨g2, 0, none⟩) 2 q2) (.slice (some ⟨wd.heap.size, 0, none⟩) s.size (grownCap wd s.size 0 5)))
        have X9 := Lib.hid (XwC.out.call b)
        have R19 := Lib.hid (R1wC.out.on b)
        have R29 := Lib.hid (R2wC.out.on b)
        have R39 := Lib.hid (R3wC.out.on b)
        refine hK.out _ _ ?_ (fun hHeld => ?_)
        · exact (b.cell (p := ⟨w.heap.size, 0 + 3, none⟩) ZwC.out).trans hHeld
        have hs9 := Nat.lt_of_lt_of_le ZwC.out b.size
        clear hK K' b
        set_option linter.unusedSimpArgs false in try simp only [Act.put, List.setIfInBounds_toArray, List.set_cons_zero, List.set_cons_succ]
        refine wpAnyH_ready (rs := [13]) (by kernel_rfl) (by simp) ?_
        refine AllReadyH.cons rfl (fun K' hK => ?_) AllReadyH.nil
        go_simp
        go_at_call 78
        refine (concat3_any wC.heap.size g1 g2 wd.heap.size 2 2 s.size q1 q2 (grownCap wd s.size 0 5) 3 (prL (4 + (s.size : Int) + (ins : Int))) (prL kd) (nmL s) _ (Lib.hid K0.out.1) (Lib.hid K0.out.2.1) (Lib.hid K0.out.2.2) (Lib.hid R19.out.1) (Lib.hid R29.out.1) (Lib.hid R39.out.1) rfl rfl (Lib.hid (nmL_length s)) (by omega) (by omega) (by omega) (by omega)).mono ?_
        rintro _ wf ⟨vf, rfl, o, b⟩
        have XF := Lib.hid (X9.out.call b)
        have OF : Hid (OwnZ wf w.heap.size vf (prL (4 + (s.size : Int) + (ins : Int)) ++ prL kd ++ nmL s)) := Lib.hid (own_base o (BX.size X9.out))
        refine hK.out _ _ ?_ (fun hHeld => ?_)
        · exact (b.cell (p := ⟨w.heap.size, 0 + 3, none⟩) hs9).trans hHeld
        clear o b hK K'
        set_option linter.unusedSimpArgs false in try simp only [Act.put, List.setIfInBounds_toArray, List.set_cons_zero, List.set_cons_succ]
        refine held_take (i := 14) (d := 6) (v := ?_) rfl rfl (by kernel_rfl) (by kernel_rfl) (by kernel_rfl) (fun _ _ _ h => h) (by rfl) ?_ (by assumption) ?_
        rotate_left
        · intro w hSw
          (try dsimp only at hSw)
          go_simp
          try with_reducible rfl
        set_option linter.unusedSimpArgs false in try simp only [Act.put, List.setIfInBounds_toArray, List.set_cons_zero, List.set_cons_succ]
        refine wpAnyH_done (by kernel_rfl) ?_ _
        go_wp2_with fail
        go_meet
        exact ⟨by rw [← HXX.out]; exact OF.out, XF.out⟩
    case rest =>
      obtain ⟨oo, xx⟩ := hcut
      have XC := Lib.hid xx
      obtain ⟨ad, cc, ev, hi⟩ := own_in oo
      subst ev
      obtain ⟨gx, ea, hta, hgx⟩ := hi (by have := HXl.out; omega)
      subst ea
      have HR := Lib.hid (own_row8 (show wc.ownsRow _ _ _ (.slice (some ⟨gx, 0, none⟩) X.length cc) X.length (bv X) from oo) HXr.out)
      have hxl := HXl.out
      clear oo xx hi hta
      rw [hxl]
      go_wp2_with (go_at_call 80; refine (HPT.out _ _ _ HR.out).mono ?_; rintro e wp ⟨gp, cp, rfl, o, b⟩; have OP : Hid (OwnZ wp w.heap.size (.slice (some ⟨gp, 0, none⟩) Pd cp) (padded X Pd)) := Lib.hid (by unfold OwnZ; rw [HPl.out]; exact own_base o (BX.size XC.out)); have XP := Lib.hid (XC.out.call b); clear o b)
      go_ret
      exact ⟨_, rfl, OP.out, XP.out⟩
  · have hkx : kd = xt + 32768 := HKd.out
    subst hkx
    go_enter Try.func55, Try.ntmps55
    go_wp2_with fail
    have AI := Lib.hid (atr_is w ⟨xd, xt, true, s⟩ 56)
    have XQ := Lib.hid ((BX.refl w).alloc (Obj.cells #[.int .i64 xd, .int .i64 xt, .bool true, .string s] 56))
    simp only at AI
    generalize w.alloc (Obj.cells #[.int .i64 xd, .int .i64 xt, .bool true, .string s] 56) = wq at AI XQ ⊢
    obtain ⟨⟨c0, c1, c2, c3⟩, cl⟩ := AI.out
    simp only at c0 c1 c2 c3
    go_cut [6] from 15 to 29 (fun x6 wx => AbR w X x6 wx)
    case first =>
      refine wp_region_held_drew (S := fun w' => w'.cell? ⟨w.heap.size, 0 + 3, none⟩ = some (.string s)) (by kernel_rfl) ?_ (fun hHeld => ?_)
      · exact c3
      have Xwd : Hid (BX w wq.drew) := Lib.hid (bx_drew XQ.out 1)
      have Zwd : Hid (w.heap.size < wq.drew.heap.size) := Lib.hid cl
      generalize wq.drew = wd at Xwd Zwd hHeld ⊢
      refine held_take (i := 0) (d := 15) (v := ?_) rfl rfl (by kernel_rfl) (by kernel_rfl) (by kernel_rfl) (fun _ _ _ h => h) (by rfl) ?_ (by assumption) ?_
      rotate_left
      · intro w hSw
        (try dsimp only at hSw)
        go_simp
        try with_reducible rfl
      set_option linter.unusedSimpArgs false in try simp only [Act.put, List.setIfInBounds_toArray, List.set_cons_zero, List.set_cons_succ]
      refine held_take (i := 1) (d := 16) (v := ?_) rfl rfl (by kernel_rfl) (by kernel_rfl) (by kernel_rfl) (fun _ _ _ h => h) (by rfl) ?_ (by assumption) ?_
      rotate_left
      · intro w hSw
        (try dsimp only at hSw)
        go_simp
        try with_reducible rfl
      set_option linter.unusedSimpArgs false in try simp only [Act.put, List.setIfInBounds_toArray, List.set_cons_zero, List.set_cons_succ]
      refine held_take (i := 2) (d := 17) (v := ?_) rfl rfl (by kernel_rfl) (by kernel_rfl) (by kernel_rfl) (fun _ _ _ h => h) (by rfl) ?_ (by assumption) ?_
      rotate_left
      · intro w hSw
        (try dsimp only at hSw)
        go_simp
        try with_reducible rfl
      set_option linter.unusedSimpArgs false in try simp only [Act.put, List.setIfInBounds_toArray, List.set_cons_zero, List.set_cons_succ]
      refine held_take (i := 3) (d := 18) (v := ?_) rfl rfl (by kernel_rfl) (by kernel_rfl) (by kernel_rfl) (fun _ _ _ h => h) (by rfl) ?_ (by assumption) ?_
      rotate_left
      · intro w hSw
        (try dsimp only at hSw)
        go_simp
        try with_reducible rfl
      set_option linter.unusedSimpArgs false in try simp only [Act.put, List.setIfInBounds_toArray, List.set_cons_zero, List.set_cons_succ]
      refine held_take (i := 4) (d := 19) (v := ?_) rfl rfl (by kernel_rfl) (by kernel_rfl) (by kernel_rfl) (fun _ _ _ h => h) (by rfl) ?_ (by assumption) ?_
      rotate_left
      · intro w hSw
        (try dsimp only at hSw)
        go_simp
        try with_reducible rfl
      set_option linter.unusedSimpArgs false in try simp only [Act.put, List.setIfInBounds_toArray, List.set_cons_zero, List.set_cons_succ]
      refine held_take (i := 5) (d := 20) (v := ?_) rfl rfl (by kernel_rfl) (by kernel_rfl) (by kernel_rfl) (fun _ _ _ h => h) (by rfl) ?_ (by assumption) ?_
      rotate_left
      · intro w hSw
        (try dsimp only at hSw)
        go_simp
        try with_reducible rfl
      set_option linter.unusedSimpArgs false in try simp only [Act.put, List.setIfInBounds_toArray, List.set_cons_zero, List.set_cons_succ]
      refine held_take (i := 7) (d := 22) (v := ?_) rfl rfl (by kernel_rfl) (by kernel_rfl) (by kernel_rfl) (fun _ _ _ h => h) (by rfl) ?_ (by assumption) ?_
      rotate_left
      · intro w hSw
        (try dsimp only at hSw)
        go_simp
        try with_reducible rfl
      set_option linter.unusedSimpArgs false in try simp only [Act.put, List.setIfInBounds_toArray, List.set_cons_zero, List.set_cons_succ]
      refine held_take (i := 9) (d := 24) (v := ?_) rfl rfl (by kernel_rfl) (by kernel_rfl) (by kernel_rfl) (fun _ _ _ h => h) (by rfl) ?_ (by assumption) ?_
      rotate_left
      · intro w hSw
        (try dsimp only at hSw)
        go_simp
        try with_reducible rfl
      set_option linter.unusedSimpArgs false in try simp only [Act.put, List.setIfInBounds_toArray, List.set_cons_zero, List.set_cons_succ]
      refine held_take (i := 10) (d := 25) (v := ?_) rfl rfl (by kernel_rfl) (by kernel_rfl) (by kernel_rfl) (fun _ _ _ h => h) (by rfl) ?_ (by assumption) ?_
      rotate_left
      · intro w hSw
        (try dsimp only at hSw)
        go_simp
        try with_reducible rfl
      set_option linter.unusedSimpArgs false in try simp only [Act.put, List.setIfInBounds_toArray, List.set_cons_zero, List.set_cons_succ]
      refine wpAnyH_ready (rs := [6, 11]) (by kernel_rfl) (by simp) ?_
      refine AllReadyH.cons rfl (fun K' hK => ?_) (AllReadyH.cons rfl (fun K' hK => ?_) AllReadyH.nil)
      · go_simp
        (try rw [hwr])
        (try rw [hwr2])
        go_at_call 79
        refine (HW1.out _).mono ?_
        rintro _ wA ⟨g1, q1, rfl, o, b⟩
        have XwA := Lib.hid (Xwd.out.call b)
        have R1wA := Lib.hid (rw_own o)
        have ZwA : Hid (w.heap.size < wA.heap.size) := Lib.hid (Nat.lt_of_lt_of_le Zwd.out b.size)
        refine hK.out _ _ ?_ (fun hHeld => ?_)
        · exact (b.cell (p := ⟨w.heap.size, 0 + 3, none⟩) Zwd.out).trans hHeld
        clear o b hK K'
        set_option linter.unusedSimpArgs false in try simp only [Act.put, List.setIfInBounds_toArray, List.set_cons_zero, List.set_cons_succ]
        refine wpAnyH_ready (rs := [8, 11]) (by kernel_rfl) (by simp) ?_
        refine AllReadyH.cons rfl (fun K' hK => ?_) (AllReadyH.cons rfl (fun K' hK => ?_) AllReadyH.nil)
        · go_simp
          (try rw [hwr])
          (try rw [hwr2])
          go_at_call 79
          refine (HW2.out _).mono ?_
          rintro _ wB ⟨g2, q2, rfl, o, b⟩
          have XwB := Lib.hid (XwA.out.call b)
          have R1wB := Lib.hid (R1wA.out.on b)
          have R2wB := Lib.hid (rw_own o)
          have ZwB : Hid (w.heap.size < wB.heap.size) := Lib.hid (Nat.lt_of_lt_of_le ZwA.out b.size)
          refine hK.out _ _ ?_ (fun hHeld => ?_)
          · exact (b.cell (p := ⟨w.heap.size, 0 + 3, none⟩) ZwA.out).trans hHeld
          clear o b hK K'
          set_option linter.unusedSimpArgs false in try simp only [Act.put, List.setIfInBounds_toArray, List.set_cons_zero, List.set_cons_succ]
          refine wpAnyH_ready (rs := [11]) (by kernel_rfl) (by simp) ?_
          refine AllReadyH.cons rfl (fun K' hK => ?_) AllReadyH.nil
          go_simp
          have b := (conv_row s wB).2
          have o := (conv_row s wB).1
          generalize (wB.alloc (.cells (bytesRow s (grownCap wB s.size 0 5)) 5 ((bytesRow s (grownCap wB s.size 0 5)).size, (bytesRow s (grownCap wB s.size 0 5)).size + 1))).drew = wC at o b ⊢
          skip
          have XwC := Lib.hid (XwB.out.call b)
          have R1wC := Lib.hid (R1wB.out.on b)
          have R2wC := Lib.hid (R2wB.out.on b)
          have R3wC := Lib.hid o
          have ZwC : Hid (w.heap.size < wC.heap.size) := Lib.hid (Nat.lt_of_lt_of_le ZwB.out b.size)
          refine hK.out _ _ ?_ (fun hHeld => ?_)
          · exact (b.cell (p := ⟨w.heap.size, 0 + 3, none⟩) ZwB.out).trans hHeld
          clear o b hK K'
          set_option linter.unusedSimpArgs false in try simp only [Act.put, List.setIfInBounds_toArray, List.set_cons_zero, List.set_cons_succ]
          refine wpAnyH_ready (rs := [12]) (by kernel_rfl) (by simp) ?_
          refine AllReadyH.cons rfl (fun K' hK => ?_) AllReadyH.nil
          go_simp
          have b := one_new2 wC (.cells #[.slice (some ⟨g1, 0, none⟩) 2 q1, .slice (some ⟨g2, 0, none⟩) 2 q2, .slice (some ⟨wB.heap.size, 0, none⟩) s.size (grownCap wB s.size 0 5)] 62)
          have K0 := Lib.hid (slc_lit wC (.slice (some ⟨g1, 0, none⟩) 2 q1) (.slice (some ⟨g2, 0, none⟩) 2 q2) (.slice (some ⟨wB.heap.size, 0, none⟩) s.size (grownCap wB s.size 0 5)))
          have X9 := Lib.hid (XwC.out.call b)
          have R19 := Lib.hid (R1wC.out.on b)
          have R29 := Lib.hid (R2wC.out.on b)
          have R39 := Lib.hid (R3wC.out.on b)
          refine hK.out _ _ ?_ (fun hHeld => ?_)
          · exact (b.cell (p := ⟨w.heap.size, 0 + 3, none⟩) ZwC.out).trans hHeld
          have hs9 := Nat.lt_of_lt_of_le ZwC.out b.size
          clear hK K' b
          set_option linter.unusedSimpArgs false in try simp only [Act.put, List.setIfInBounds_toArray, List.set_cons_zero, List.set_cons_succ]
          refine wpAnyH_ready (rs := [13]) (by kernel_rfl) (by simp) ?_
          refine AllReadyH.cons rfl (fun K' hK => ?_) AllReadyH.nil
          go_simp
          go_at_call 78
          refine (concat3_any wC.heap.size g1 g2 wB.heap.size 2 2 s.size q1 q2 (grownCap wB s.size 0 5) 3 (prL (4 + (s.size : Int) + (ins : Int))) (prL (xt + 32768)) (nmL s) _ (Lib.hid K0.out.1) (Lib.hid K0.out.2.1) (Lib.hid K0.out.2.2) (Lib.hid R19.out.1) (Lib.hid R29.out.1) (Lib.hid R39.out.1) rfl rfl (Lib.hid (nmL_length s)) (by omega) (by omega) (by omega) (by omega)).mono ?_
          rintro _ wf ⟨vf, rfl, o, b⟩
          have XF := Lib.hid (X9.out.call b)
          have OF : Hid (OwnZ wf w.heap.size vf (prL (4 + (s.size : Int) + (ins : Int)) ++ prL (xt + 32768) ++ nmL s)) := Lib.hid (own_base o (BX.size X9.out))
          refine hK.out _ _ ?_ (fun hHeld => ?_)
          · exact (b.cell (p := ⟨w.heap.size, 0 + 3, none⟩) hs9).trans hHeld
          clear o b hK K'
          set_option linter.unusedSimpArgs false in try simp only [Act.put, List.setIfInBounds_toArray, List.set_cons_zero, List.set_cons_succ]
          refine held_take (i := 14) (d := 6) (v := ?_) rfl rfl (by kernel_rfl) (by kernel_rfl) (by kernel_rfl) (fun _ _ _ h => h) (by rfl) ?_ (by assumption) ?_
          rotate_left
          · intro w hSw
            (try dsimp only at hSw)
            go_simp
            try with_reducible rfl
          set_option linter.unusedSimpArgs false in try simp only [Act.put, List.setIfInBounds_toArray, List.set_cons_zero, List.set_cons_succ]
          refine wpAnyH_done (by kernel_rfl) ?_ _
          go_wp2_with fail
          go_meet
          exact ⟨by rw [← HXX.out]; exact OF.out, XF.out⟩
        · go_simp
          have b := (conv_row s wA).2
          have o := (conv_row s wA).1
          generalize (wA.alloc (.cells (bytesRow s (grownCap wA s.size 0 5)) 5 ((bytesRow s (grownCap wA s.size 0 5)).size, (bytesRow s (grownCap wA s.size 0 5)).size + 1))).drew = wB at o b ⊢
          skip
          have XwB := Lib.hid (XwA.out.call b)
          have R1wB := Lib.hid (R1wA.out.on b)
          have R3wB := Lib.hid o
          have ZwB : Hid (w.heap.size < wB.heap.size) := Lib.hid (Nat.lt_of_lt_of_le ZwA.out b.size)
          refine hK.out _ _ ?_ (fun hHeld => ?_)
          · exact (b.cell (p := ⟨w.heap.size, 0 + 3, none⟩) ZwA.out).trans hHeld
          clear o b hK K'
          set_option linter.unusedSimpArgs false in try simp only [Act.put, List.setIfInBounds_toArray, List.set_cons_zero, List.set_cons_succ]
          refine wpAnyH_ready (rs := [8]) (by kernel_rfl) (by simp) ?_
          refine AllReadyH.cons rfl (fun K' hK => ?_) AllReadyH.nil
          go_simp
          (try rw [hwr])
          (try rw [hwr2])
          go_at_call 79
          refine (HW2.out _).mono ?_
          rintro _ wC ⟨g2, q2, rfl, o, b⟩
          have XwC := Lib.hid (XwB.out.call b)
          have R1wC := Lib.hid (R1wB.out.on b)
          have R3wC := Lib.hid (R3wB.out.on b)
          have R2wC := Lib.hid (rw_own o)
          have ZwC : Hid (w.heap.size < wC.heap.size) := Lib.hid (Nat.lt_of_lt_of_le ZwB.out b.size)
          refine hK.out _ _ ?_ (fun hHeld => ?_)
          · exact (b.cell (p := ⟨w.heap.size, 0 + 3, none⟩) ZwB.out).trans hHeld
          clear o b hK K'
          set_option linter.unusedSimpArgs false in try simp only [Act.put, List.setIfInBounds_toArray, List.set_cons_zero, List.set_cons_succ]
          refine wpAnyH_ready (rs := [12]) (by kernel_rfl) (by simp) ?_
          refine AllReadyH.cons rfl (fun K' hK => ?_) AllReadyH.nil
          go_simp
          have b := one_new2 wC (.cells #[.slice (some ⟨g1, 0, none⟩) 2 q1, .slice (some ⟨g2, 0, none⟩) 2 q2, .slice (some ⟨wA.heap.size, 0, none⟩) s.size (grownCap wA s.size 0 5)] 62)
          have K0 := Lib.hid (slc_lit wC (.slice (some ⟨g1, 0, none⟩) 2 q1) (.slice (some ⟨g2, 0, none⟩) 2 q2) (.slice (some ⟨wA.heap.size, 0, none⟩) s.size (grownCap wA s.size 0 5)))
          have X9 := Lib.hid (XwC.out.call b)
          have R19 := Lib.hid (R1wC.out.on b)
          have R29 := Lib.hid (R2wC.out.on b)
          have R39 := Lib.hid (R3wC.out.on b)
          refine hK.out _ _ ?_ (fun hHeld => ?_)
          · exact (b.cell (p := ⟨w.heap.size, 0 + 3, none⟩) ZwC.out).trans hHeld
          have hs9 := Nat.lt_of_lt_of_le ZwC.out b.size
          clear hK K' b
          set_option linter.unusedSimpArgs false in try simp only [Act.put, List.setIfInBounds_toArray, List.set_cons_zero, List.set_cons_succ]
          refine wpAnyH_ready (rs := [13]) (by kernel_rfl) (by simp) ?_
          refine AllReadyH.cons rfl (fun K' hK => ?_) AllReadyH.nil
          go_simp
          go_at_call 78
          refine (concat3_any wC.heap.size g1 g2 wA.heap.size 2 2 s.size q1 q2 (grownCap wA s.size 0 5) 3 (prL (4 + (s.size : Int) + (ins : Int))) (prL (xt + 32768)) (nmL s) _ (Lib.hid K0.out.1) (Lib.hid K0.out.2.1) (Lib.hid K0.out.2.2) (Lib.hid R19.out.1) (Lib.hid R29.out.1) (Lib.hid R39.out.1) rfl rfl (Lib.hid (nmL_length s)) (by omega) (by omega) (by omega) (by omega)).mono ?_
          rintro _ wf ⟨vf, rfl, o, b⟩
          have XF := Lib.hid (X9.out.call b)
          have OF : Hid (OwnZ wf w.heap.size vf (prL (4 + (s.size : Int) + (ins : Int)) ++ prL (xt + 32768) ++ nmL s)) := Lib.hid (own_base o (BX.size X9.out))
          refine hK.out _ _ ?_ (fun hHeld => ?_)
          · exact (b.cell (p := ⟨w.heap.size, 0 + 3, none⟩) hs9).trans hHeld
          clear o b hK K'
          set_option linter.unusedSimpArgs false in try simp only [Act.put, List.setIfInBounds_toArray, List.set_cons_zero, List.set_cons_succ]
          refine held_take (i := 14) (d := 6) (v := ?_) rfl rfl (by kernel_rfl) (by kernel_rfl) (by kernel_rfl) (fun _ _ _ h => h) (by rfl) ?_ (by assumption) ?_
          rotate_left
          · intro w hSw
            (try dsimp only at hSw)
            go_simp
            try with_reducible rfl
          set_option linter.unusedSimpArgs false in try simp only [Act.put, List.setIfInBounds_toArray, List.set_cons_zero, List.set_cons_succ]
          refine wpAnyH_done (by kernel_rfl) ?_ _
          go_wp2_with fail
          go_meet
          exact ⟨by rw [← HXX.out]; exact OF.out, XF.out⟩
      · go_simp
        have b := (conv_row s wd).2
        have o := (conv_row s wd).1
        generalize (wd.alloc (.cells (bytesRow s (grownCap wd s.size 0 5)) 5 ((bytesRow s (grownCap wd s.size 0 5)).size, (bytesRow s (grownCap wd s.size 0 5)).size + 1))).drew = wA at o b ⊢
        skip
        have XwA := Lib.hid (Xwd.out.call b)
        have R3wA := Lib.hid o
        have ZwA : Hid (w.heap.size < wA.heap.size) := Lib.hid (Nat.lt_of_lt_of_le Zwd.out b.size)
        refine hK.out _ _ ?_ (fun hHeld => ?_)
        · exact (b.cell (p := ⟨w.heap.size, 0 + 3, none⟩) Zwd.out).trans hHeld
        clear o b hK K'
        set_option linter.unusedSimpArgs false in try simp only [Act.put, List.setIfInBounds_toArray, List.set_cons_zero, List.set_cons_succ]
        refine wpAnyH_ready (rs := [6]) (by kernel_rfl) (by simp) ?_
        refine AllReadyH.cons rfl (fun K' hK => ?_) AllReadyH.nil
        go_simp
        (try rw [hwr])
        (try rw [hwr2])
        go_at_call 79
        refine (HW1.out _).mono ?_
        rintro _ wB ⟨g1, q1, rfl, o, b⟩
        have XwB := Lib.hid (XwA.out.call b)
        have R3wB := Lib.hid (R3wA.out.on b)
        have R1wB := Lib.hid (rw_own o)
        have ZwB : Hid (w.heap.size < wB.heap.size) := Lib.hid (Nat.lt_of_lt_of_le ZwA.out b.size)
        refine hK.out _ _ ?_ (fun hHeld => ?_)
        · exact (b.cell (p := ⟨w.heap.size, 0 + 3, none⟩) ZwA.out).trans hHeld
        clear o b hK K'
        set_option linter.unusedSimpArgs false in try simp only [Act.put, List.setIfInBounds_toArray, List.set_cons_zero, List.set_cons_succ]
        refine wpAnyH_ready (rs := [8]) (by kernel_rfl) (by simp) ?_
        refine AllReadyH.cons rfl (fun K' hK => ?_) AllReadyH.nil
        go_simp
        (try rw [hwr])
        (try rw [hwr2])
        go_at_call 79
        refine (HW2.out _).mono ?_
        rintro _ wC ⟨g2, q2, rfl, o, b⟩
        have XwC := Lib.hid (XwB.out.call b)
        have R3wC := Lib.hid (R3wB.out.on b)
        have R1wC := Lib.hid (R1wB.out.on b)
        have R2wC := Lib.hid (rw_own o)
        have ZwC : Hid (w.heap.size < wC.heap.size) := Lib.hid (Nat.lt_of_lt_of_le ZwB.out b.size)
        refine hK.out _ _ ?_ (fun hHeld => ?_)
        · exact (b.cell (p := ⟨w.heap.size, 0 + 3, none⟩) ZwB.out).trans hHeld
        clear o b hK K'
        set_option linter.unusedSimpArgs false in try simp only [Act.put, List.setIfInBounds_toArray, List.set_cons_zero, List.set_cons_succ]
        refine wpAnyH_ready (rs := [12]) (by kernel_rfl) (by simp) ?_
        refine AllReadyH.cons rfl (fun K' hK => ?_) AllReadyH.nil
        go_simp
        have b := one_new2 wC (.cells #[.slice (some ⟨g1, 0, none⟩) 2 q1, .slice (some ⟨g2, 0, none⟩) 2 q2, .slice (some ⟨wd.heap.size, 0, none⟩) s.size (grownCap wd s.size 0 5)] 62)
        have K0 := Lib.hid (slc_lit wC (.slice (some ⟨g1, 0, none⟩) 2 q1) (.slice (some ⟨g2, 0, none⟩) 2 q2) (.slice (some ⟨wd.heap.size, 0, none⟩) s.size (grownCap wd s.size 0 5)))
        have X9 := Lib.hid (XwC.out.call b)
        have R19 := Lib.hid (R1wC.out.on b)
        have R29 := Lib.hid (R2wC.out.on b)
        have R39 := Lib.hid (R3wC.out.on b)
        refine hK.out _ _ ?_ (fun hHeld => ?_)
        · exact (b.cell (p := ⟨w.heap.size, 0 + 3, none⟩) ZwC.out).trans hHeld
        have hs9 := Nat.lt_of_lt_of_le ZwC.out b.size
        clear hK K' b
        set_option linter.unusedSimpArgs false in try simp only [Act.put, List.setIfInBounds_toArray, List.set_cons_zero, List.set_cons_succ]
        refine wpAnyH_ready (rs := [13]) (by kernel_rfl) (by simp) ?_
        refine AllReadyH.cons rfl (fun K' hK => ?_) AllReadyH.nil
        go_simp
        go_at_call 78
        refine (concat3_any wC.heap.size g1 g2 wd.heap.size 2 2 s.size q1 q2 (grownCap wd s.size 0 5) 3 (prL (4 + (s.size : Int) + (ins : Int))) (prL (xt + 32768)) (nmL s) _ (Lib.hid K0.out.1) (Lib.hid K0.out.2.1) (Lib.hid K0.out.2.2) (Lib.hid R19.out.1) (Lib.hid R29.out.1) (Lib.hid R39.out.1) rfl rfl (Lib.hid (nmL_length s)) (by omega) (by omega) (by omega) (by omega)).mono ?_
        rintro _ wf ⟨vf, rfl, o, b⟩
        have XF := Lib.hid (X9.out.call b)
        have OF : Hid (OwnZ wf w.heap.size vf (prL (4 + (s.size : Int) + (ins : Int)) ++ prL (xt + 32768) ++ nmL s)) := Lib.hid (own_base o (BX.size X9.out))
        refine hK.out _ _ ?_ (fun hHeld => ?_)
        · exact (b.cell (p := ⟨w.heap.size, 0 + 3, none⟩) hs9).trans hHeld
        clear o b hK K'
        set_option linter.unusedSimpArgs false in try simp only [Act.put, List.setIfInBounds_toArray, List.set_cons_zero, List.set_cons_succ]
        refine held_take (i := 14) (d := 6) (v := ?_) rfl rfl (by kernel_rfl) (by kernel_rfl) (by kernel_rfl) (fun _ _ _ h => h) (by rfl) ?_ (by assumption) ?_
        rotate_left
        · intro w hSw
          (try dsimp only at hSw)
          go_simp
          try with_reducible rfl
        set_option linter.unusedSimpArgs false in try simp only [Act.put, List.setIfInBounds_toArray, List.set_cons_zero, List.set_cons_succ]
        refine wpAnyH_done (by kernel_rfl) ?_ _
        go_wp2_with fail
        go_meet
        exact ⟨by rw [← HXX.out]; exact OF.out, XF.out⟩
    case rest =>
      obtain ⟨oo, xx⟩ := hcut
      have XC := Lib.hid xx
      obtain ⟨ad, cc, ev, hi⟩ := own_in oo
      subst ev
      obtain ⟨gx, ea, hta, hgx⟩ := hi (by have := HXl.out; omega)
      subst ea
      have HR := Lib.hid (own_row8 (show wc.ownsRow _ _ _ (.slice (some ⟨gx, 0, none⟩) X.length cc) X.length (bv X) from oo) HXr.out)
      have hxl := HXl.out
      clear oo xx hi hta
      rw [hxl]
      go_wp2_with (go_at_call 80; refine (HPT.out _ _ _ HR.out).mono ?_; rintro e wp ⟨gp, cp, rfl, o, b⟩; have OP : Hid (OwnZ wp w.heap.size (.slice (some ⟨gp, 0, none⟩) Pd cp) (padded X Pd)) := Lib.hid (by unfold OwnZ; rw [HPl.out]; exact own_base o (BX.size XC.out)); have XP := Lib.hid (XC.out.call b); clear o b)
      go_ret
      exact ⟨_, rfl, OP.out, XP.out⟩
end Go.Proofs.Ythflehdboccloaa
