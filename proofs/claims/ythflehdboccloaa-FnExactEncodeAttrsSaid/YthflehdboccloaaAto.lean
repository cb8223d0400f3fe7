/- Offsets of attributes: contracts of the program. -/
import Derived.Test.YthflehdboccloaaAtz
import Derived.Test.YthflehdboccloaaApk
namespace Go.Proofs.Ythflehdboccloaa
open Go.RowKit
set_option linter.unusedVariables false
set_option maxRecDepth 100000

theorem paddedSize_any (s : Nat) (w : World) (h : s ≤ 1000000) : Calls Try.prog 77 #[.int .i64 (s : Int)] w fun e w' => e = .returned (.int .i64 ((padA s : Nat) : Int)) ∧ w' = w := by
  have HX : Hid (((padA s : Nat) : Int) = alR (s : Int) 4) := Lib.hid (by unfold padA alR; rw [if_pos (by omega)]; omega)
  have HA := Lib.hid (fun w => implAlignUp_any (s : Int) 4 w)
  generalize ((padA s : Nat) : Int) = R at HX ⊢
  generalize alR (s : Int) 4 = Z at HX HA
  generalize alnB (s : Int) 4 = b at HA
  go_enter Try.func77, Try.ntmps77
  go_wp2_with (go_at_call 89; refine (HA.out _).mono ?_; rintro e w1 ⟨rfl, rfl⟩)
  go_ret
  exact ⟨ret_int2 HX.out.symm, rfl⟩
/-- the offsets up to an index -/
def ofs (l : List At) (k : Nat) : List Nat := (List.range (k + 1)).map (ofA l)
theorem ofs_length (l : List At) (k : Nat) : (ofs l k).length = k + 1 := by simp [ofs]
theorem ofs_succ (l : List At) (k : Nat) : ofs l (k + 1) = ofs l k ++ [ofA l (k + 1)] := by unfold ofs; rw [List.range_succ, List.map_append]; rfl
theorem ofs_get (l : List At) (k j : Nat) (h : j ≤ k) : (ofs l k).getD j 0 = ofA l j := by simp [ofs, List.getD_eq_getElem?_getD, show j < k + 1 by omega]
def AoRel (w : World) (l : List At) (n : Nat) (out i : Value) (wr : World) : Prop :=
  ∃ k : Nat, k ≤ n ∧ i = .int .i64 k ∧ BX w wr ∧ wr.ownsRow w.heap.size 3 1 out (ofs l k).length (nv (ofs l k))
/-- the offsets, if the attributes are valid; and whether all of them fit -/
def SaysOF (w : World) (l : List At) (e : Ending) (w' : World) : Prop :=
  ∃ v, e = .returned (.tuple #[v, .bool (lsA l && decide (ofA l l.length ≤ 6000))]) ∧ Below w.heap.size w w' ∧ (lsA l = true → w'.ownsRow w.heap.size 3 1 v (ofs l l.length).length (nv (ofs l l.length)))
theorem of_start (w1 : World) (l : List At) {B : Nat} (hB : B ≤ w1.heap.size) : (w1.alloc (.cells #[.int .i64 0] 3)).ownsRow B 3 1 (.slice (some ⟨w1.heap.size, 0, none⟩) 1 1) (ofs l 0).length (nv (ofs l 0)) := by
  have h := World.ownsRow_lit (base := B) (e := 3) (size := 1) w1 #[.int .i64 0] 1 hB (by unfold maxLen; omega) rfl
  exact h
set_option maxHeartbeats 12800000 in
theorem attrOffsets_any (ad : Option Addr) (n cap : Nat) (l : List At) (w : World) (HI : Hid (InX w ad n (atCs l))) (hn : Hid (l.length = n)) (HM : Hid (SzM l)) (hm : n ≤ 1048576) :
    Calls Try.prog 53 #[.slice ad n cap] w (SaysOF w l) := by
  have HG := Lib.hid (areAttrs_any ad n cap l w HI hn HM hm)
  cases hA : lsA l
  · rw [hA] at HG
    have HAA := Lib.hid hA
    clear hA
    go_enter Try.func53, Try.ntmps53
    go_wp2_with (go_at_call 17; refine (HG.out).mono ?_; rintro e w1 ⟨rfl, b⟩; have B1 := Lib.hid b; clear b)
    go_ret2
    exact ⟨_, by rw [HAA.out]; rfl, B1.out, fun h => by rw [HAA.out] at h; cases h⟩
  obtain ⟨i0, hi, hz0, hz1, hz2⟩ := info_parts infoI
  rw [hA] at HG
  have HV := Lib.hid (va hA)
  have HAA := Lib.hid hA
  have hlen := HV.out.len
  rw [hn.out] at hlen
  clear hA
  go_enter Try.func53, Try.ntmps53
  go_wp2_with (go_at_call 17; refine (HG.out).mono ?_; rintro e w1 ⟨rfl, b⟩; have B1 := Lib.hid b; have X1 : Hid (BX w w1) := Lib.hid b; clear b)
  have H0 := Lib.hid (of_start w1 l (BX.size X1.out))
  go_loopw [4, 13] (fun out i wr => AoRel w l n out i wr) (fun _ i _ => n - (intOf i).toNat)
  case atStart => exact ⟨0, Nat.zero_le _, rfl, X1.out.alloc _, H0.out⟩
  case round =>
    obtain ⟨k, hk, rfl, hb, ho⟩ := hrel
    have X2 := Lib.hid hb
    have O2 := Lib.hid ho
    clear hb ho H0
    by_cases hlt : k < n
    · obtain ⟨g, rfl, ht, hg⟩ := HI.out (by omega)
      obtain ⟨x, hx⟩ : ∃ x, gA l k = x := ⟨_, rfl⟩
      have hl1 : k < l.length := by rw [hn.out]; exact hlt
      obtain ⟨a0, a1, a2, a3⟩ := (ht.below X2.out hg).atr k hl1 x hx
      have hsz := HV.out.sz k hl1
      have HS := Lib.hid (ofA_succ hl1)
      have hob := ofA_le HV.out k (by omega)
      rw [hx] at hsz HS
      have hpb := pad_le hsz
      have HP := Lib.hid (fun w => paddedSize_any (4 + x.s.size) w (by omega))
      rw [show ((4 + x.s.size : Nat) : Int) = 4 + (x.s.size : Int) by omega] at HP
      generalize padA (4 + x.s.size) = Z at HP HS hpb
      obtain ⟨Y, hY⟩ : ∃ Y, ofA l k = Y := ⟨_, rfl⟩
      obtain ⟨av, cv, e, hi'⟩ := own_in O2.out
      obtain ⟨gz, ea, htz, hgz⟩ := hi' (by rw [ofs_length]; omega)
      subst ea
      subst e
      have HYo := Lib.hid (show (ofs l k).getD k 0 = Y by rw [ofs_get l k k (Nat.le_refl _)]; exact hY)
      have z0 := htz.nat k (by rw [ofs_length]; omega) Y HYo.out
      have HO3 := Lib.hid (fun wq (b : Below wr.heap.size wr wq) => own_low O2.out b (Nat.le_refl _))
      rw [hY] at HS hob
      have hol := ofs_length l k
      rw [hol] at HO3
      obtain ⟨xd, xt, xn, s⟩ := x
      simp only at a0 a1 a2 a3 hsz HP
      clear hx hl1 ht htz hi' hY O2
      go_wp2_with fail
      have AI := Lib.hid (atr_is wr ⟨xd, xt, xn, s⟩ 56)
      have X3 := Lib.hid (X2.out.alloc (Obj.cells #[.int .i64 xd, .int .i64 xt, .bool xn, .string s] 56))
      have O3 := Lib.hid (HO3.out _ (one_new2 wr (Obj.cells #[.int .i64 xd, .int .i64 xt, .bool xn, .string s] 56)))
      have z1 := ((bcell (one_new2 wr (Obj.cells #[.int .i64 xd, .int .i64 xt, .bool xn, .string s] 56))).1 _ k hgz).trans z0
      simp only at AI
      generalize wr.alloc (Obj.cells #[.int .i64 xd, .int .i64 xt, .bool xn, .string s] 56) = wq at AI X3 O3 z1 ⊢
      obtain ⟨⟨c0, c1, c2, c3⟩, cl⟩ := AI.out
      simp only at c0 c1 c2 c3
      clear AI a0 a1 a2 a3 z0 HO3
      have hkk : (k : Int) < (k : Int) + 1 := by omega
      have hwr : IntKind.i64.wrap (4 + (s.size : Int)) = 4 + (s.size : Int) := IntWalk.i64_in _ (by omega)
      have hwr2 : IntKind.i64.wrap ((Y : Int) + (Z : Int)) = (Y : Int) + (Z : Int) := IntWalk.i64_in _ (by omega)
      refine wp_region_held_drew (S := fun w' => w'.cell? ⟨gz, k, none⟩ = some (.int .i64 (Y : Int)) ∧ w'.cell? ⟨wr.heap.size, 0 + 3, none⟩ = some (.string s)) (by kernel_rfl) ?_ (fun hHeld => ?_)
      · exact ⟨z1, c3⟩
      have XD : Hid (BX w wq.drew) := Lib.hid (bx_drew X3.out 1)
      have OD : Hid (wq.drew.ownsRow w.heap.size 3 1 (.slice (some ⟨gz, 0, none⟩) (k + 1) cv) (k + 1) (nv (ofs l k))) := Lib.hid (own_low O3.out (show Below wq.heap.size wq wq.drew from below_drewN (Below.refl _ _) 1) (Nat.le_refl _))
      have hbz : wr.heap.size < wq.drew.heap.size := cl
      generalize wq.drew = wd at XD OD hbz hHeld ⊢
      refine held_take (i := 0) (d := 18) (v := ?_) rfl rfl (by kernel_rfl) (by kernel_rfl) (by kernel_rfl) (fun _ _ _ h => h) (by rfl) ?_ (by assumption) ?_
      rotate_left
      · intro w hSw
        (try dsimp only at hSw)
        go_simp
        try with_reducible rfl
      set_option linter.unusedSimpArgs false in try simp only [Act.put, List.setIfInBounds_toArray, List.set_cons_zero, List.set_cons_succ]
      refine held_take (i := 1) (d := 19) (v := ?_) rfl rfl (by kernel_rfl) (by kernel_rfl) (by kernel_rfl) (fun _ _ _ h => h) (by rfl) ?_ (by assumption) ?_
      rotate_left
      · intro w hSw
        (try dsimp only at hSw)
        go_simp
        try with_reducible rfl
      set_option linter.unusedSimpArgs false in try simp only [Act.put, List.setIfInBounds_toArray, List.set_cons_zero, List.set_cons_succ]
      refine held_take (i := 2) (d := 20) (v := ?_) rfl rfl (by kernel_rfl) (by kernel_rfl) (by kernel_rfl) (fun _ _ _ h => h) (by rfl) ?_ (by assumption) ?_
      rotate_left
      · intro w hSw
        (try dsimp only at hSw)
        go_simp
        try with_reducible rfl
      set_option linter.unusedSimpArgs false in try simp only [Act.put, List.setIfInBounds_toArray, List.set_cons_zero, List.set_cons_succ]
      refine held_take (i := 3) (d := 21) (v := ?_) rfl rfl (by kernel_rfl) (by kernel_rfl) (by kernel_rfl) (fun _ _ _ h => h) (by rfl) ?_ (by assumption) ?_
      rotate_left
      · intro w hSw
        (try dsimp only at hSw)
        go_simp
        try with_reducible rfl
      set_option linter.unusedSimpArgs false in try simp only [Act.put, List.setIfInBounds_toArray, List.set_cons_zero, List.set_cons_succ]
      refine held_take (i := 4) (d := 22) (v := ?_) rfl rfl (by kernel_rfl) (by kernel_rfl) (by kernel_rfl) (fun _ _ _ h => h) (by rfl) ?_ (by assumption) ?_
      rotate_left
      · intro w hSw
        (try dsimp only at hSw)
        go_simp
        try with_reducible rfl
      set_option linter.unusedSimpArgs false in try simp only [Act.put, List.setIfInBounds_toArray, List.set_cons_zero, List.set_cons_succ]
      refine held_take (i := 5) (d := 23) (v := ?_) rfl rfl (by kernel_rfl) (by kernel_rfl) (by kernel_rfl) (fun _ _ _ h => h) (by rfl) ?_ (by assumption) ?_
      rotate_left
      · intro w hSw
        (try dsimp only at hSw)
        go_simp
        try with_reducible rfl
      set_option linter.unusedSimpArgs false in try simp only [Act.put, List.setIfInBounds_toArray, List.set_cons_zero, List.set_cons_succ]
      refine held_take (i := 6) (d := 24) (v := ?_) rfl rfl (by kernel_rfl) (by kernel_rfl) (by kernel_rfl) (fun _ _ _ h => h) (by rfl) ?_ (by assumption) ?_
      rotate_left
      · intro w hSw
        (try dsimp only at hSw)
        go_simp
        try with_reducible rfl
      set_option linter.unusedSimpArgs false in try simp only [Act.put, List.setIfInBounds_toArray, List.set_cons_zero, List.set_cons_succ]
      refine held_take (i := 7) (d := 25) (v := ?_) rfl rfl (by kernel_rfl) (by kernel_rfl) (by kernel_rfl) (fun _ _ _ h => h) (by rfl) ?_ (by assumption) ?_
      rotate_left
      · intro w hSw
        (try dsimp only at hSw)
        go_simp
        try with_reducible rfl
      set_option linter.unusedSimpArgs false in try simp only [Act.put, List.setIfInBounds_toArray, List.set_cons_zero, List.set_cons_succ]
      refine held_take (i := 8) (d := 26) (v := ?_) rfl rfl (by kernel_rfl) (by kernel_rfl) (by kernel_rfl) (fun _ _ _ h => h) (by rfl) ?_ (by assumption) ?_
      rotate_left
      · intro w hSw
        (try dsimp only at hSw)
        go_simp
        try with_reducible rfl
      set_option linter.unusedSimpArgs false in try simp only [Act.put, List.setIfInBounds_toArray, List.set_cons_zero, List.set_cons_succ]
      refine wpAnyH_ready (rs := [9]) (by kernel_rfl) (by simp) ?_
      refine AllReadyH.cons rfl (fun K' hK => ?_) AllReadyH.nil
      go_simp
      (try rw [hwr])
      go_at_call 77
      refine (HP.out _).mono ?_
      rintro e w' ⟨rfl, hw⟩
      rw [hw]
      clear hw
      refine hK.out _ _ ?_ (fun hHeld => ?_)
      · exact hHeld
      clear hK K'
      set_option linter.unusedSimpArgs false in try simp only [Act.put, List.setIfInBounds_toArray, List.set_cons_zero, List.set_cons_succ]
      refine held_take (i := 10) (d := 28) (v := ?_) rfl rfl (by kernel_rfl) (by kernel_rfl) (by kernel_rfl) (fun _ _ _ h => h) (by rfl) ?_ (by assumption) ?_
      rotate_left
      · intro w hSw
        (try dsimp only at hSw)
        go_simp
        try with_reducible rfl
      set_option linter.unusedSimpArgs false in try simp only [Act.put, List.setIfInBounds_toArray, List.set_cons_zero, List.set_cons_succ]
      (try rw [hwr2])
      refine wpAnyH_ready (rs := [11]) (by kernel_rfl) (by simp) ?_
      refine AllReadyH.cons rfl (fun K' hK => ?_) AllReadyH.nil
      go_simp
      have XE := Lib.hid (XD.out.alloc (.cells #[.int .i64 ((Y : Int) + (Z : Int))] 3))
      refine hK.out _ _ ?_ (fun hHeld => ?_)
      · exact ⟨((bcell (one_new2 wd (.cells #[.int .i64 ((Y : Int) + (Z : Int))] 3))).1 _ k (World.ownsRow.lt OD.out gz rfl).2).trans hHeld.1, ((bcell (one_new2 wd (.cells #[.int .i64 ((Y : Int) + (Z : Int))] 3))).1 _ 3 hbz).trans hHeld.2⟩
      clear hK K'
      set_option linter.unusedSimpArgs false in try simp only [Act.put, List.setIfInBounds_toArray, List.set_cons_zero, List.set_cons_succ]
      refine wpAnyH_ready (rs := [12]) (by kernel_rfl) (by simp) ?_
      refine AllReadyH.cons rfl (fun K' hK => ?_) AllReadyH.nil
      refine step_append_keep _ rfl (.tmp 18) (.tmp 29) 41 rfl w.heap.size 3 i0 (.int .i64 0) 1 8 Try.underlying41 hi hz0 hz1 hz2 rfl (by decide) (.slice (some ⟨gz, 0, none⟩) (k + 1) cv) (k + 1) (nv (ofs l k)) (by rfl) (World.ownsRow.alloc (w := wd) OD.out _) ⟨wd.heap.size, 0, none⟩ 1 1 [.int .i64 ((Y : Int) + (Z : Int))] (by rfl) rfl (by have := one_int wd (.int .i64 ((Y : Int) + (Z : Int))) 3; simpa using this) (by intro u hu; simp at hu; subst hu; rfl) (by unfold maxLen; omega) (by omega) (BX.size XE.out) ?_
      intro v' w3 hown1 hgrow1 hkeep
      have F := Lib.hid (own_snoc (ks := ofs l k) (k := ofA l (k + 1)) (by rw [HS.out]) (Below.alloc XD.out (BX.size XD.out) _) (by rw [ofs_length]; exact hown1) (BX.size XE.out) hgrow1 (fun g h => (World.ownsRow.lt OD.out g h).1))
      rw [← ofs_succ] at F
      refine hK.out _ _ ?_ (fun hHeld => ?_)
      · exact ⟨hkeep gz rfl k _ (by rw [nv_get (ofs l k) k (by rw [ofs_length]; omega), HYo.out]), (cell_heap (hgrow1.block wr.heap.size (by simp; omega) (fun q => by have q2 : wr.heap.size = gz := Option.some.inj q; omega)) 3).trans hHeld.2⟩
      clear hown1 hgrow1 hkeep hK K'
      set_option linter.unusedSimpArgs false in try simp only [Act.put, List.setIfInBounds_toArray, List.set_cons_zero, List.set_cons_succ]
      refine held_take (i := 13) (d := 4) (v := ?_) rfl rfl (by kernel_rfl) (by kernel_rfl) (by kernel_rfl) (fun _ _ _ h => h) (by rfl) ?_ (by assumption) ?_
      rotate_left
      · intro w hSw
        (try dsimp only at hSw)
        go_simp
        try with_reducible rfl
      set_option linter.unusedSimpArgs false in try simp only [Act.put, List.setIfInBounds_toArray, List.set_cons_zero, List.set_cons_succ]
      refine wpAnyH_done (by kernel_rfl) ?_ _
      go_wp2_with fail
      go_roundw
      case rel => exact ⟨k + 1, by omega, by go_num, F.out.2, F.out.1⟩
      case measure => simp [intOf]; omega
    · have hkn : k = n := by omega
      subst hkn
      obtain ⟨av, cv, e, hi'⟩ := own_in O2.out
      obtain ⟨gz, ea, htz, hgz⟩ := hi' (by rw [ofs_length]; omega)
      subst ea
      subst e
      obtain ⟨Y, hY⟩ : ∃ Y, ofA l k = Y := ⟨_, rfl⟩
      have z0 := htz.nat k (by rw [ofs_length]; omega) Y (by rw [ofs_get l k k (Nat.le_refl _)]; exact hY)
      have hol := ofs_length l k
      rw [hol] at O2
      have hkk : (k : Int) < (k : Int) + 1 := by omega
      have HXX : Hid ((lsA l && decide (ofA l l.length ≤ 6000)) = decide ((Y : Int) ≤ 6000)) := Lib.hid (by rw [HAA.out, hn.out, hY, Bool.true_and, Bool.eq_iff_iff]; simp; omega)
      have HOO := Lib.hid (fun wz (b : Below wr.heap.size wr wz) => own_low O2.out b (Nat.le_refl _))
      clear htz hi' hY
      rw [hol]
      go_wp2_with fail
      go_quiet (fail)
      go_wp2_with fail
      go_ret2
      exact ⟨_, by rw [HXX.out]; rfl, bx_drew X2.out _, fun _ => by rw [hn.out, hol]; exact HOO.out _ (below_drewN (Below.refl _ _) _)⟩
def okP (l : List At) (i : Int) : Bool := okS l i
def SaysT3 (w : World) (r1 r2 r3 : Value) (e : Ending) (w' : World) : Prop := e = .returned (.tuple #[r1, r2, r3]) ∧ Below w.heap.size w w'
def resTo (l : List At) (i : Int) : Int := if okS l i then ((ofA l (enA l i.toNat) : Nat) : Int) else 0
theorem ret_iib {a b a' b' : Int} {p q : Bool} (h : a = b) (h1 : a' = b') (h' : p = q) : Ending.returned (.tuple #[.int .i64 a, .int .i64 a', .bool p]) = .returned (.tuple #[.int .i64 b, .int .i64 b', .bool q]) := by rw [h, h1, h']
theorem okS_ways (l : List At) (i : Int) : okS l i = ((lsA l && decide (ofA l l.length ≤ 6000)) && inB i 0 ((l.length : Int) - 1)) := by
  unfold okS hasA
  cases lsA l <;> cases inB i 0 ((l.length : Int) - 1) <;> simp
theorem res_no {l : List At} {i : Int} (h : okS l i = false) : resOf l i = 0 ∧ resTo l i = 0 ∧ resSz l i = 0 := by unfold resOf resTo resSz; rw [h]; exact ⟨rfl, rfl, rfl⟩
theorem res_yes {l : List At} {k : Nat} (h : okS l k = true) : resOf l k = (ofA l k : Nat) ∧ resTo l k = (ofA l (enA l k) : Nat) ∧ resSz l k = (szA l k : Nat) := by
  unfold resOf resTo resSz; rw [h, Int.toNat_natCast]; exact ⟨rfl, rfl, rfl⟩
set_option maxHeartbeats 12800000 in
theorem attrSpan_any (ad : Option Addr) (n cap : Nat) (l : List At) (i : Int) (w : World) (HI : Hid (InX w ad n (atCs l))) (hn : Hid (l.length = n)) (HM : Hid (SzM l)) (hm : n ≤ 1048576) :
    Calls Try.prog 62 #[.slice ad n cap, .int .i64 i] w (SaysT3 w (.int .i64 (resOf l i)) (.int .i64 (resTo l i)) (.bool (okS l i))) := by
  have HG := Lib.hid (attrOffsets_any ad n cap l w HI hn HM hm)
  have HN := Lib.hid (fun w => isIn_any i 0 ((n : Int) - 1) w)
  have HW := okS_ways l i
  rw [hn.out] at HW
  unfold SaysOF at HG
  rw [hn.out] at HG
  cases hA : (lsA l && decide (ofA l n ≤ 6000))
  · rw [hA] at HG HW
    have hk : okS l i = false := HW
    have HX := Lib.hid (res_no hk)
    rw [hk]
    generalize resOf l i = R1 at HX ⊢
    generalize resTo l i = R2 at HX ⊢
    clear hA hk HW
    go_enter Try.func62, Try.ntmps62
    go_wp2_with (go_at_call 53; refine (HG.out).mono ?_; rintro e w1 ⟨v, rfl, b, _⟩; have B1 := Lib.hid b; clear b)
    go_ret3
    exact ⟨ret_iib HX.out.1.symm HX.out.2.1.symm rfl, B1.out⟩
  rw [hA] at HG HW
  cases hB : inB i 0 ((n : Int) - 1)
  · rw [hB] at HW HN
    have hk : okS l i = false := HW
    have HX := Lib.hid (res_no hk)
    rw [hk]
    generalize resOf l i = R1 at HX ⊢
    generalize resTo l i = R2 at HX ⊢
    clear hA hk HW hB
    go_enter Try.func62, Try.ntmps62
    go_wp2_with (first | (go_at_call 53; refine (HG.out).mono ?_; rintro e w1 ⟨v, rfl, b, _⟩; have B1 := Lib.hid b; clear b) | (go_at_call 49; refine (HN.out _).mono ?_; rintro e w2 ⟨rfl, rfl⟩))
    go_ret3
    exact ⟨ret_iib HX.out.1.symm HX.out.2.1.symm rfl, B1.out⟩
  · rw [hB] at HW HN
    have hk : okS l i = true := HW
    have hl : lsA l = true := (Bool.and_eq_true_iff.1 hA).1
    obtain ⟨k, rfl, hkn⟩ : ∃ k : Nat, i = (k : Int) ∧ k < n := ⟨i.toNat, by have := inB_of hB; omega, by have := inB_of hB; omega⟩
    have HX := Lib.hid (res_yes hk)
    have hil : k < l.length := by rw [hn.out]; exact hkn
    have HE := Lib.hid (fun w h => attrEnd_any ad n cap l k w (Lib.hid h) hn hm hkn)
    obtain ⟨e', he'⟩ : ∃ e', enA l k = e' := ⟨_, rfl⟩
    have hen : e' ≤ n := by rw [← he', ← hn.out]; exact (enA_is hil).2.1
    have hlen := (va hl).len
    rw [hn.out] at hlen
    obtain ⟨Y, hY⟩ : ∃ Y, ofA l k = Y := ⟨_, rfl⟩
    obtain ⟨Z, hZ⟩ : ∃ Z, ofA l e' = Z := ⟨_, rfl⟩
    have HGet := Lib.hid (show (ofs l n).getD k 0 = Y by rw [ofs_get l n k (by omega)]; exact hY)
    have HGet2 := Lib.hid (show (ofs l n).getD e' 0 = Z by rw [ofs_get l n e' hen]; exact hZ)
    have hol := ofs_length l n
    rw [he'] at HX HE
    rw [hY, hZ] at HX
    rw [hk]
    rw [hol] at HG
    generalize resOf l k = R1 at HX ⊢
    generalize resTo l k = R2 at HX ⊢
    have HLL := Lib.hid hl
    clear hA hk HW hB hY hZ he' hl
    go_enter Try.func62, Try.ntmps62
    go_wp2_with (go_at_call 53; refine (HG.out).mono ?_; rintro e w1 ⟨v, rfl, b, o⟩; have B1 := Lib.hid b; have I1 := Lib.hid (HI.out.below b); have X1 : Hid (BX w w1) := Lib.hid b; obtain ⟨av, cv, ev, hi'⟩ := own_in (o HLL.out); obtain ⟨gz, ea, htz, hgz⟩ := hi' (by omega); subst ea; subst ev; have z0 := htz.nat k (by omega) Y HGet.out; have z1 := htz.nat e' (by omega) Z HGet2.out; clear b o hi' htz; refine Hid.out ?_)
    refine Lib.hid ?_
    go_wp2_with (go_at_call 49; refine (HN.out _).mono ?_; rintro e w2 ⟨rfl, rfl⟩)
    have hkk : (k : Int) < (n : Int) + 1 := by omega
    have hee : (e' : Int) < (n : Int) + 1 := by omega
    go_quiet ((go_at_call 54; exact Calls.quiet_of (HE.out _ (HI.out.below (bx_drew X1.out _)))))
    go_wp2_with fail
    go_ret3
    exact ⟨ret_iib HX.out.1.symm HX.out.2.1.symm rfl, bx_drew X1.out _⟩
theorem res_all (l : List At) (i : Int) : (resSz l i = resTo l i - resOf l i ∧ 0 ≤ resOf l i ∧ resOf l i ≤ 401600 ∧ 0 ≤ resTo l i ∧ resTo l i ≤ 401600) ∧ (0 ≤ resOf l i ∧ resOf l i ≤ 401600) := by
  cases h : okS l i
  · obtain ⟨a, b, c⟩ := res_no h
    rw [a, b, c]
    omega
  · have hA : hasA l i = true := by unfold okS at h; exact (Bool.and_eq_true_iff.1 h).1
    obtain ⟨hl, k, rfl, hk⟩ := hasA_of hA
    obtain ⟨a, b, c⟩ := res_yes h
    have V := va hl
    have := ofA_le V k (by omega)
    have := ofA_le V (enA l k) (enA_is hk).2.1
    have := V.len
    have := (enA_is hk).2.1
    have := of_end hk
    rw [a, b, c]
    omega
set_option maxHeartbeats 3200000 in
theorem implSizeOf_any (ad : Option Addr) (n cap : Nat) (l : List At) (i : Int) (w : World) (HI : Hid (InX w ad n (atCs l))) (hn : Hid (l.length = n)) (HM : Hid (SzM l)) (hm : n ≤ 1048576) :
    Calls Try.prog 27 #[.slice ad n cap, .int .i64 i] w (SaysT2 w (.int .i64 (resSz l i)) (.bool (okS l i))) := by
  have HG := Lib.hid (attrSpan_any ad n cap l i w HI hn HM hm)
  have HX : Hid (resSz l i = resTo l i - resOf l i ∧ 0 ≤ resOf l i ∧ resOf l i ≤ 401600 ∧ 0 ≤ resTo l i ∧ resTo l i ≤ 401600) := Lib.hid (res_all l i).1
  generalize resSz l i = R at HX ⊢
  generalize resOf l i = R1 at HX HG
  generalize resTo l i = R2 at HX HG
  generalize okS l i = b at HG ⊢
  obtain ⟨_, hb1, hb2, hb3, hb4⟩ := HX.out
  go_enter Try.func27, Try.ntmps27
  go_wp2_with (go_at_call 62; refine (HG.out).mono ?_; rintro e w1 ⟨rfl, b⟩; have B1 := Lib.hid b; clear b)
  go_ret2
  exact ⟨ret_ib HX.out.1.symm rfl, B1.out⟩
set_option maxHeartbeats 3200000 in
theorem implOffsetOf_any (ad : Option Addr) (n cap : Nat) (l : List At) (i : Int) (w : World) (HI : Hid (InX w ad n (atCs l))) (hn : Hid (l.length = n)) (HM : Hid (SzM l)) (hm : n ≤ 1048576) :
    Calls Try.prog 41 #[.slice ad n cap, .int .i64 i] w (SaysT2 w (.int .i64 (resOf l i)) (.bool (okS l i))) := by
  have HG := Lib.hid (attrSpan_any ad n cap l i w HI hn HM hm)
  generalize resOf l i = R at HG ⊢
  generalize resTo l i = R2 at HG
  generalize okS l i = b at HG ⊢
  go_enter Try.func41, Try.ntmps41
  go_wp2_with (go_at_call 62; refine (HG.out).mono ?_; rintro e w1 ⟨rfl, b⟩; have B1 := Lib.hid b; clear b)
  go_ret2
  exact ⟨rfl, B1.out⟩
end Go.Proofs.Ythflehdboccloaa
